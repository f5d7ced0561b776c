import PyProof.Rows.All
import Wide.All
import OpenK.AllK
import Wide.FinOn
import HandS.ForMost
import HandS.Wide
import HandS.IsInst
import HandS.Codes
import HandS.Walk
import HandS.Strs
import HandS.MakeKwOnly
import KE.KDictZip
import KE.GoesEnum
import HandS.DictComp
import HandS.More
import HandS.Zip
import HandS.Star
import HandS.Defaults
import HandS.AnyAll
import HandS.Text
import HandS.Deep
import KE.DataFind
import HandS.SlotsOwn
import PyProof.InstNe
import HandS.ClsMeth
import HandS.Words
import HandS.Exc
import HandS.ExcInit
import HandS.WordsExc
import HandS.ExcOwn
import HandS.TryMany
import HandS.TupAny
import PyProof.NeData
import HandS.RaiseMore
import HandS.Steps
import PyProof.StrLaws
import HandS.NoneIn
import HandS.DictTup
import HandS.Lambda
import HandS.Conv
import PyProof.DictUpdate
import KE.KDictPairs
import HandS.Style
import HandS.EndTab
import HandS.Ends
import PySem.Challenge.RW_planfirst_k23_what_reading_tells
set_option Elab.async false
set_option linter.all false
set_option maxRecDepth 100000
set_option maxHeartbeats 4000000
namespace Pf
open PySem L2
/-- the text's statements by k05's numbers (the program's) -/
def tops : List Nat := [0, 2, 3, 4, 5, 6, 7, 14, 16, 17, 20, 21, 22, 23, 26, 27, 28, 29, 30, 31, 32, 33, 38, 39, 40, 41, 42]
/-- by this text's own numbers -/
def tp (i : Nat) : Stmt := PySem.Challenge.pw_planfirst_k23_what_reading_tells.main.body.getD i (.Pass ⟨0, 0, 0, 0⟩)
def top (i : Nat) : Stmt := tp (tops.getD i 0)
abbrev sWell : Stmt := tp 40
abbrev sDraw : Stmt := tp 41
abbrev sOne : Stmt := tp 42
/-- a well stands at a: three whole numbers, drawn z times -/
def WellAt (H : Hp) (a : Addr) (z : Int) : Prop := ∃ x y : Int, H a = some (.lst [.int x, .int y, .int z])
/-- all that was tracked, but at a, is as it was -/
def But (a : Addr) (H H' : Hp) : Prop := ∀ b o, H b = some o → b ≠ a → H' b = some o
theorem But.upd {H : Hp} {a : Addr} {o : HO} : But a H (upd H a o) := fun b u e hb => (upd_ne hb).trans e
structure TxtN (mg : Str → Option Value) : Prop where
  int : mg "int" = none
  len : mg "len" = none
def spWell : Sp := fun vs H Q _ => ∃ (c : Int), vs = [.int c] ∧ ∀ (p : Addr) (o : HO), H p = none → WellAt (upd H p o) p 0 → Q (.ref p) (upd H p o)
def spDraw : Sp := fun vs H Q _ => ∃ (a : Addr) (n z : Int), vs = [.ref a, .int n] ∧ WellAt H a z ∧ 0 < n ∧ n < 1000000 ∧ 0 ≤ z ∧ z < 1000000 ∧
  ∀ (d z' : Int) (H' : Hp), 0 ≤ d → d < n → z ≤ z' → z' ≤ z + 1 → WellAt H' a z' → But a H H' → Q (.int d) H'
def spOne (K : PySem.W.Frag) : Sp := fun vs H Q _ => ∃ (a l : Addr) (z : Int) (xs : List V), vs = [.ref a, .ref l] ∧ WellAt H a z ∧ H l = some (.lst xs) ∧ l ≠ a ∧ 0 < xs.length ∧ xs.length < 1000000 ∧ 0 ≤ z ∧ z < 1000000 ∧
  ∀ (v : V) (z' : Int) (H' : Hp), v ∈ xs → z ≤ z' → z' ≤ z + 1 → WellAt H' a z' → But a H H' → Q v H'
theorem iteC {c : Bool} {A B : Prop} (e : c = true) (h : A) : if c = true then A else B := by rw [if_pos e]; exact h
theorem iteN {c : Bool} {A B : Prop} (e : c = false) (h : B) : if c = true then A else B := by rw [if_neg (by rw [e]; exact Bool.false_ne_true)]; exact h
section
variable {P : Program} {w : World} {K : PySem.W.Frag} {mg : Str → Option Value} {base : Heap}
theorem scWell : FnScope ["_law_cell"] ["_law_cell"] (defScope sWell) := ⟨rfl, rfl, rfl, by decide +kernel, rfl, by decide +kernel, by decide +kernel⟩
theorem scDraw : FnScope ["_law_well_here", "_law_often", "_law_found", "_law_mixed"] ["_law_well_here", "_law_often"] (defScope sDraw) := ⟨rfl, rfl, rfl, by decide +kernel, rfl, by decide +kernel, by decide +kernel⟩
theorem scOne : FnScope ["_law_well_here", "_law_some"] ["_law_well_here", "_law_some"] (defScope sOne) := ⟨rfl, rfl, rfl, by decide +kernel, rfl, by decide +kernel, by decide +kernel⟩
theorem ok_well {f : Addr} {fd : FuncData} (F : Fun K "_law_well" "_law_well" sWell f fd) (T : TxtN mg) : FnOk P w K mg base CX0 1 f fd ["_law_cell"] spWell := by
  refine F.ok scWell (fun vs H Q E h => ?_) (fun cdv A outer s H vs Q E hr h => ?_)
  · obtain ⟨c, rfl, _⟩ := h
    rfl
  · obtain ⟨c, rfl, k⟩ := h
    refine ⟨_, pss_one (ps_ret (pe_lst (pa_cons (pe_ifExp (pt_cmpR op_ge (pv 0) (pe_op op_pow pe_int pe_int) (nomark _)) (pv 0) pe_int) (pa_cons (pv 0) (pa_cons pe_int pa_nil))))), ?_⟩
    refine ⟨_, rfl, _, _, rfl, rfl, ⟨by decide, by decide, by decide⟩, _, _, rfl, rfl, _, rfl, ite2 (fun _ => ?_) fun _ => ?_⟩
    · refine ⟨_, rfl, _, rfl, by show 3 ≤ sizeLine; decide, fun p hp => ?_⟩
      exact k p _ hp ⟨_, _, upd_same⟩
    · refine ⟨_, rfl, by show 3 ≤ sizeLine; decide, fun p hp => ?_⟩
      exact k p _ hp ⟨_, _, upd_same⟩
theorem ok_draw {f : Addr} {fd : FuncData} (F : Fun K "_law_draw" "_law_draw" sDraw f fd) (T : TxtN mg) : FnOk P w K mg base CX0 1 f fd ["_law_well_here", "_law_often"] spDraw := by
  refine F.ok scDraw (fun vs H Q E h => ?_) (fun cdv A outer s H vs Q E hr h => ?_)
  · obtain ⟨a, n, z, rfl, _⟩ := h
    rfl
  · obtain ⟨a, n, z, rfl, ⟨x, y, ha⟩, hn0, hn1, hz0, hz1, k⟩ := h
    refine ⟨_, pss_cons (ps_if (pt_cmpR op_gt (pe_ix ix_list (pv 0) pe_int (fun _ _ => rfl)) pe_int (nomark _))
        (pss_cons (ps_set (i := 2) scDraw.nd rfl (Or.inl rfl) (pe_op op_mod (pe_callTy call_int1 (by rfl) T.int (by decide +kernel) (pa_cons (pe_ix ix_list (pv 0) pe_int (fun _ _ => rfl)) pa_nil)) (pv 1)))
        (pss_cons (ps_asg (pe_op op_fdivW (pe_ix ix_list (pv 0) pe_int (fun _ _ => rfl)) (pv 1)) (pg_sub (pv 0) pe_int set_list))
        (pss_one (ps_ret (pv 2)))))
        pss_nil)
      (pss_cons (ps_asg (pe_op op_add (pe_ix ix_list (pv 0) pe_int (fun _ _ => rfl)) pe_int) (pg_sub (pv 0) pe_int set_list))
      (pss_cons (ps_set (i := 3) scDraw.nd rfl (Or.inl rfl) (pe_op op_mod (pe_callTy call_int1 (by rfl) T.int (by decide +kernel) (pa_cons
          (pe_op op_add (pe_op op_add (pe_op op_mul (pe_ix ix_list (pv 0) pe_int (fun _ _ => rfl)) pe_int) (pe_op op_mul (pe_ix ix_list (pv 0) pe_int (fun _ _ => rfl)) pe_int)) pe_int) pa_nil)) pe_int))
      (pss_cons (ps_set (i := 3) scDraw.nd rfl (Or.inl rfl) (pe_op op_mod (pe_callTy call_int1 (by rfl) T.int (by decide +kernel) (pa_cons (pe_op op_mul (pv 3) (pe_op op_add (pe_op op_fdiv (pv 3) pe_int) pe_int)) pa_nil)) pe_int))
      (pss_cons (ps_set (i := 3) scDraw.nd rfl (Or.inl rfl) (pe_op op_mod (pe_callTy call_int1 (by rfl) T.int (by decide +kernel) (pa_cons (pe_op op_mul (pv 3) (pe_op op_add (pe_op op_fdiv (pv 3) pe_int) pe_int)) pa_nil)) pe_int))
      (pss_one (ps_ret (pe_op op_mod (pe_callTy call_int1 (by rfl) T.int (by decide +kernel) (pa_cons (pe_op op_fdiv (pv 3) pe_int) pa_nil)) (pv 1)))))))), ?_⟩
    refine ⟨_, rfl, a, _, _, _, rfl, rfl, SqL.of ha, atI_nat (j := 0) rfl, _, _, rfl, rfl, _, rfl, ?_⟩
    refine ite2 (fun hx => ?_) fun hx => ?_
    · refine ⟨_, rfl, a, _, _, _, rfl, rfl, SqL.of ha, atI_nat (j := 0) rfl, .inl ⟨_, rfl, _, rfl, _, _, rfl, rfl, hn0, ?_⟩⟩
      refine ⟨_, rfl, a, _, _, _, rfl, rfl, SqL.of ha, atI_nat (j := 0) rfl, _, rfl, _, _, rfl, rfl, wide_div hn0 (b := 20) (by omega) (by decide) (by decide), ?_⟩
      refine ⟨_, rfl, a, _, _, _, rfl, rfl, ha, rfl, ?_⟩
      refine ⟨_, rfl, ?_⟩
      exact k _ z _ (Int.emod_nonneg _ (by omega)) (Int.emod_lt_of_pos _ hn0) (by omega) (by omega) ⟨x / n, y, upd_same⟩ But.upd
    · refine ⟨_, rfl, a, _, _, _, rfl, rfl, SqL.of ha, atI_nat (j := 2) rfl, _, _, rfl, rfl, ?_⟩
      refine ⟨_, rfl, a, _, _, _, rfl, rfl, ha, rfl, ?_⟩
      have hb : upd H a (.lst [.int x, .int y, .int (z + 1)]) a = some (.lst [.int x, .int y, .int (z + 1)]) := upd_same
      refine ⟨_, rfl, a, _, _, _, rfl, rfl, SqL.of hb, atI_nat (j := 1) rfl, _, _, rfl, rfl, .inr ⟨by decide, by decide⟩, _, rfl, a, _, _, _, rfl, rfl, SqL.of hb, atI_nat (j := 2) rfl, _, _, rfl, rfl, .inr ⟨by decide, by decide⟩, _, _, rfl, rfl, _, _, rfl, rfl, .inl ⟨_, rfl, _, _, rfl, rfl, (by show (0 : Int) < 2147483647; decide), ?_⟩⟩
      generalize hq : (y * 69073 + (z + 1) * 1000033 + 24691) % 2147483647 = q
      have q0 : 0 ≤ q := by rw [← hq]; exact Int.emod_nonneg _ (by decide)
      have q1 : q < 2147483647 := by rw [← hq]; exact Int.emod_lt_of_pos _ (by decide)
      refine ⟨_, rfl, _, rfl, _, _, rfl, rfl, ⟨by decide, by decide⟩, _, _, rfl, rfl, ?_⟩
      refine ⟨_, _, rfl, rfl, .inl ⟨by omega, by omega⟩, .inl ⟨_, rfl, _, _, rfl, rfl, (by show (0 : Int) < 2147483629; decide), ?_⟩⟩
      generalize hq2 : (q * (q / 1019 + 40529)) % 2147483629 = r
      have r0 : 0 ≤ r := by rw [← hq2]; exact Int.emod_nonneg _ (by decide)
      have r1 : r < 2147483629 := by rw [← hq2]; exact Int.emod_lt_of_pos _ (by decide)
      refine ⟨_, rfl, _, rfl, _, _, rfl, rfl, ⟨by decide, by decide⟩, _, _, rfl, rfl, ?_⟩
      refine ⟨_, _, rfl, rfl, .inl ⟨by omega, by omega⟩, .inl ⟨_, rfl, _, _, rfl, rfl, (by show (0 : Int) < 2147483587; decide), ?_⟩⟩
      refine ⟨_, rfl, _, _, rfl, rfl, ⟨by decide, by decide⟩, .inl ⟨_, rfl, _, rfl, _, _, rfl, rfl, hn0, ?_⟩⟩
      exact k _ (z + 1) _ (Int.emod_nonneg _ (by omega)) (Int.emod_lt_of_pos _ hn0) (by omega) (by omega) ⟨x, y, hb⟩ But.upd
theorem ok_one {f fD : Addr} {fd fdD : FuncData} (F : Fun K "_law_one" "_law_one" sOne f fd) (T : TxtN mg) (FD : Fun K "_law_draw" "_law_draw" sDraw fD fdD) (bD : Binds K fdD ["_law_well_here", "_law_often"] []) (gD : mg "_law_draw" = some (.ref fD)) :
    FnOk P w K mg base CX0 2 f fd ["_law_well_here", "_law_some"] (spOne K) := by
  have GD : FnOk P w K mg base CX0 1 fD fdD ["_law_well_here", "_law_often"] spDraw := ok_draw FD T
  refine F.ok scOne (fun vs H Q E h => ?_) (fun cdv A outer s H vs Q E hr h => ?_)
  · obtain ⟨a, l, z, xs, rfl, _⟩ := h
    rfl
  · obtain ⟨a, l, z, xs, rfl, ha, hl, hal, hx0, hx1, hz0, hz1, k⟩ := h
    refine ⟨_, pss_one (ps_ret (pe_ix ix_list (pv 1) (pe_call GD hr rfl gD FD.kp bD .nil pass0 (pa_cons (pv 0) (pa_cons (pe_callB call_len_seq (by rfl) T.len PySem.boot_len (pa_cons (pv 1) pa_nil)) pa_nil))) (fun _ _ => rfl))), ?_⟩
    refine ⟨_, rfl, _, rfl, _, rfl, l, _, rfl, .inl (SqL.of hl), a, _, z, rfl, ha, by omega, by omega, hz0, hz1, fun d z' H' hd0 hd1 hz2 hz3 hw hk => ?_⟩
    obtain ⟨j, ej⟩ : ∃ j : Nat, d = (j : Int) := ⟨d.toNat, by omega⟩
    have hj : j < xs.length := by omega
    exact ⟨l, xs, _, xs[j], rfl, rfl, SqL.of (hk _ _ hl hal), at_of ej (List.getElem?_eq_getElem hj), k _ z' _ (List.getElem_mem hj) hz2 hz3 hw hk⟩
end
end Pf

set_option Elab.async false
set_option linter.all false
set_option maxRecDepth 100000
set_option maxHeartbeats 4000000
/-! a set of a list of texts, as many as there are: how many different ones it has -/
namespace TxS
open PySem PySem.Spec PyProof PyProof.Rows
/-- how many different texts, the last one first -/
def ct : List Str → Nat
  | [] => 0
  | x :: l => if x ∈ l then ct l else ct l + 1
theorem ct_cons (x : Str) (l : List Str) : ct (x :: l) = if x ∈ l then ct l else ct l + 1 := rfl
theorem ct_le : ∀ l, ct l ≤ l.length
  | [] => Nat.le_refl _
  | x :: l => by
    have := ct_le l
    unfold ct
    split <;> simp <;> omega
theorem ct_nd : ∀ l, ct l = l.length ↔ l.Nodup
  | [] => by simp [ct]
  | x :: l => by
    have h := ct_le l
    have e := ct_nd l
    unfold ct
    by_cases q : x ∈ l
    · rw [if_pos q, List.nodup_cons]
      constructor
      · intro k
        simp at k
        omega
      · intro k
        exact absurd q k.1
    · rw [if_neg q, List.nodup_cons]
      simp only [List.length_cons, Nat.add_right_cancel_iff, e]
      exact ⟨fun k => ⟨q, k⟩, fun k => k.2⟩
theorem ct_rev (l : List Str) : decide (ct l.reverse = l.length) = decide l.Nodup := by
  have e := ct_nd l.reverse
  rw [List.length_reverse, (List.reverse_perm l).nodup_iff] at e
  exact decide_eq_decide.mpr e
abbrev fsO (led : Bool) : Obj := { cls := .type "set", dict := none, data := .set #[] 0 (.fresh 0 0 led) }
section
variable {PG : Program} {ww : World} {AR : Around} {RR : Result → Shared → Prop} {It : Addr} {ft wt : List Addr} {GG : Array GenState → Array GenState → Prop} {N : Nat} {PV : Nat → Value → Prop} {SV : Nat → Shared → Prop}
theorem next_take (xs : List Str) {i : Nat} (h : i < xs.length) : xs.take (i + 1) = xs.take i ++ [xs.getD i Str.empty] := by
  rw [List.take_succ_eq_append_getElem h]
  simp [List.getD_eq_getElem?_getD, h]
theorem walk_tx (WK : WalksS PG ww AR.in1 It ft wt GG N PV SV) (B : Addr) (hB : B ∉ ft) (xs : List Str) (hz : xs.length = N) (hN : N ≤ 4000) (hv : ∀ i v, PV i v → ∃ t, v = .str (xs.getD i Str.empty) t) :
    ∀ (m i : Nat) (st : Shared), N - i = m → i ≤ N → SV i st → st.heap.SetOf (PySem.strKind PG ww) B (fun z => (xs.take i).any (· == z)) (ct (xs.take i).reverse) →
      (∀ st', Moved (B :: wt) GG st st' → st'.heap.SetOf (PySem.strKind PG ww) B (fun z => (xs.take N).any (· == z)) (ct (xs.take N).reverse) → RR (.ok (.ret .none)) st') →
      codeAny (model PG ww) AR (.builtin "set.update.loop" ⟨[.ref B, .ref It], []⟩) RR st := by
  have nB : B ∉ wt := fun q => hB (WK.sub _ q)
  have up : ∀ b ∈ wt, b ∈ B :: wt := fun b q => List.mem_cons_of_mem _ q
  intro m
  induction m with
  | zero =>
    intro i st hm hi hs SO fin
    obtain rfl : i = N := by omega
    refine codeAny_builtin (F.entry_set_update_loop) ?_
    rw [Around.under_plainId (F.plain_set_update_loop) _]
    show wpAny _ AR.in1 (pyNext (.ref It) >>= _) _ _ st
    refine wpAny_bind (WK.done st _ _ hs fun st' mv => ?_)
    refine wpAny_pure (fin st' (mv.mono up) ?_)
    obtain ⟨o, es, ep, t, ho, more⟩ := SO
    exact ⟨o, es, ep, t, mv.heap B _ nB ho, more⟩
  | succ m ih =>
    intro i st hm hi hs SO fin
    have lt : i < N := by omega
    refine codeAny_builtin (F.entry_set_update_loop) ?_
    rw [Around.under_plainId (F.plain_set_update_loop) _]
    show wpAny _ AR.in1 (pyNext (.ref It) >>= _) _ _ st
    refine wpAny_bind (WK.item i st _ _ lt hs fun v st' pv hs' mv => ?_)
    obtain ⟨t, rfl⟩ := hv i v pv
    have SO' : st'.heap.SetOf (PySem.strKind PG ww) B (fun z => (xs.take i).any (· == z)) (ct (xs.take i).reverse) := by
      obtain ⟨o, es, ep, u, ho, more⟩ := SO
      exact ⟨o, es, ep, u, mv.heap B _ nB ho, more⟩
    have few : ct (xs.take i).reverse ≤ i := Nat.le_trans (ct_le _) (by rw [List.length_reverse, List.length_take]; omega)
    refine wpAny_bind (wpAny_holding (?_))
    unfold setAdd
    refine wpAny_holding (wpAny_bind ((PySem.strKind PG ww).pyHash (k := xs.getD i Str.empty) (strKind_is _ _ _ _) ?_))
    refine wpAny_setAddHashed_of (knd := PySem.strKind PG ww) (s := { st' with toks := st'.toks + 1 }) (strKind_is _ _ _ _) rfl SO' (by unfold scanBound; omega) fun h2 same SO2 => ?_
    have SO3 : h2.SetOf (PySem.strKind PG ww) B (fun z => (xs.take (i + 1)).any (· == z)) (ct (xs.take (i + 1)).reverse) := by
      have e := next_take xs (i := i) (by omega)
      refine SetOf_congr SO2 (fun z => ?_) ?_
      · rw [e, List.any_append]
        congr 1
        rw [List.any_cons, List.any_nil, Bool.or_false]
        by_cases q : z = xs.getD i Str.empty
        · rw [q]; simp
        · rw [decide_eq_false q]
          exact (beq_eq_false_iff_ne.mpr fun w => q w.symm).symm
      · rw [e, show (xs.take i ++ [xs.getD i Str.empty]).reverse = xs.getD i Str.empty :: (xs.take i).reverse by simp, ct_cons]
        by_cases q : xs.getD i Str.empty ∈ xs.take i
        · rw [if_pos (List.mem_reverse.mpr q), if_pos (List.any_eq_true.mpr ⟨_, q, by simp⟩)]
        · rw [if_neg fun w => q (List.mem_reverse.mp w), if_neg fun w => ?_]
          obtain ⟨y, hy, e2⟩ := List.any_eq_true.mp w
          exact q ((beq_iff_eq.mp e2) ▸ hy)
    refine wpAny_pure ⟨plainId_quiet F.plain_set_update_loop _, ih (i + 1) _ (by omega) lt (WK.frame _ st' _ _ hs' (Nat.le_succ _) fun b hb o e => ?_) SO3 fun st2 mv2 SO4 => ?_⟩
    · rw [same.2 b (fun q : b = B => hB (q ▸ hb))]; exact e
    · refine fin st2 (Moved.trans WK.gtrans ((mv.mono up).then_heap (Nat.le_succ _) fun b o hb e => ?_) mv2) SO4
      rw [same.2 b (fun q : b = B => hb (q ▸ List.mem_cons_self))]; exact e
end
section
variable {PG : Program} {ww : World} {AR : Around} {EE : Value → Shared → Prop} {st : Shared}
theorem set_of_texts {p : Addr} {us : Array Value} {xs : List Str} {QQ : Value → Shared → Prop}
    (calm : AR.handled = none) (at_p : st.heap.IsList p us) (tx : StrsAre us.toList xs) (hN : xs.length ≤ 4000)
    (h : ∀ (h2 : Heap) (tk : Nat), h2.SetOf (PySem.strKind PG ww) st.heap.objs.size (fun z => (xs.take us.size).any (· == z)) (ct (xs.take us.size).reverse) →
      (∀ b o, b < st.heap.objs.size → st.heap.get? b = some o → h2.get? b = some o) → QQ (.ref st.heap.objs.size) { st with heap := h2, toks := tk }) :
    wpAny (model PG ww) AR (call (.type "set") [.ref p]) QQ EE st := by
  obtain ⟨_, _, mro⟩ := PySem.F.called_set.mro
  have g1 := PySem.F.called_set.made
  have g2 := PySem.F.called_set.sub
  have g3 := PySem.F.called_set.notType
  have g4 := PySem.F.called_set.canCreate
  have g5 := PySem.F.typeCall_set_1 (.ref p)
  refine wpAny_call (codeAny_of_tree (?_))
  show wpAny (model PG ww) _ (callAny (.type "set") _) _ _ st
  refine wpAny_pure ⟨Code.quiet_builtin _ (by decide +kernel), codeAny_builtin (PySem.F.entry_type_call) ?_⟩
  rw [Around.under_plain (weight_type_call_type "set" [.ref p] []) rfl]
  all_goals repeat' first | assumption | wp_step
  refine codeAny_mono (PySem.code_set_new_1 (.ref p) (E := EE) (Q₁ := fun v s1 => ∃ led : Bool, v = .ref st.heap.objs.size ∧ s1 = { st with heap := st.heap.push (fsO led) }) fun led => ⟨led, rfl, rfl⟩) fun r s1 hr => ?_
  rcases r with e | fl
  · exact hr
  rcases fl with _ | _ | _ | v
  all_goals first | exact hr.elim | skip
  obtain ⟨led, rfl, rfl⟩ := hr
  have nw : (st.heap.push (fsO led)).get? st.heap.objs.size = some (fsO led) := Heap.get?_push_size _ rfl
  have ty : Shared.TypeIs { st with heap := st.heap.push (fsO led) } (.ref st.heap.objs.size) "set" := ⟨_, nw, rfl⟩
  have g6 := PySem.F.called_set.init.lookup
  have g7 := PySem.F.called_set.init.bind (.ref st.heap.objs.size)
  all_goals repeat' first | assumption | wp_step
  refine codeAny_mono (codeAny_call_builtin (R := wants (fun v s2 => v = .none ∧ ∃ h2 tk, s2 = { st with heap := h2, toks := tk } ∧
      h2.SetOf (PySem.strKind PG ww) st.heap.objs.size (fun z => (xs.take us.size).any (· == z)) (ct (xs.take us.size).reverse) ∧
      (∀ b o, b < st.heap.objs.size → st.heap.get? b = some o → h2.get? b = some o)) EE) PySem.F.called_set.init.plain PySem.F.entry_set_init (check_set_init_1 ty ?_)) fun r2 s2 hr2 => ?_
  · obtain ⟨⟨kl, kd, kx, ks⟩, ho, hc, nn, hd⟩ := at_p
    simp only at hc hd
    subst hc
    subst hd
    have old : (st.heap.push (fsO led)).get? p = some { cls := .type "list", dict := kd, data := .seq us nn, slots := ks } := Heap.get?_push_of_some _ ho
    have lp : (st.heap.push (fsO led)).IsList p us := ⟨_, old, rfl, nn, rfl⟩
    have s1 := PySem.F.sub_list_set
    have s2 := PySem.F.sub_list_frozenset
    have s3 : (Value.type "list" == Value.type "dict") = false := by decide
    unfold Builtin.«set.__init__»
    unfold noKeywords
    unfold Builtin.Frozenset.updateFrom
    generalize hPI : pyIter = PI
    wp_walk
    subst hPI
    refine wpAny_pyIter_list lp (wpAny_bind (wpAny_runValue ?_))
    have plt : p < st.heap.objs.size := Heap.lt_size ho
    have sz : (st.heap.push (fsO led)).objs.size = st.heap.objs.size + 1 := Heap.size_push ..
    have hid : AR.in1.in1.in1.handled = none := by simp [calm]
    have pne : p ≠ (st.heap.push (fsO led)).objs.size := sz ▸ Nat.ne_of_lt (Nat.lt_succ_of_lt plt)
    have out : st.heap.objs.size ∉ [(st.heap.push (fsO led)).objs.size, p] := by
      rw [sz, List.mem_cons, List.mem_singleton]
      exact fun q => q.elim (fun q => Nat.ne_of_lt (Nat.lt_succ_self _) q) fun q => Nat.ne_of_gt plt q
    have len : xs.length = us.size := by rw [← StrsAre.len_eq tx, Array.length_toList]
    have val : ∀ (i : Nat) (v : Value), us[i]? = some v → ∃ t, v = .str (xs.getD i Str.empty) t := fun i v q => SS.strs_at tx i v (by rw [Array.getElem?_toList]; exact q)
    refine walk_tx ((Walks.list hid _ p pne us).toS) st.heap.objs.size out xs len (len ▸ hN) val (us.size - 0) 0 _ (by omega) (Nat.zero_le _) ⟨⟨_, Heap.get?_push_size _ rfl, rfl, rfl⟩, lp.push _⟩ ?_ fun s3 mv SO => ?_
    · refine SetOf_congr ((setObjOf_fresh (knd := PySem.strKind PG ww) led).setOf (Heap.get?_push_of_some _ nw) (by unfold scanBound; omega)) (fun _ => rfl) rfl
    · obtain ⟨h2, gn, dr, tk, os⟩ := s3
      obtain rfl : gn = st.gens := mv.gens
      obtain rfl : dr = st.drawn := mv.drawn
      obtain rfl : os = st.os := mv.os
      refine wpAny_pure (wpAny_pure ⟨rfl, h2, tk, rfl, SO, fun b o hb e => ?_⟩)
      refine mv.heap b o ?_ (Heap.get?_push_of_some _ (Heap.get?_push_of_some _ e))
      rw [List.mem_cons, List.mem_singleton, sz]
      exact fun q => q.elim (fun q => Nat.ne_of_lt hb q) fun q => Nat.ne_of_lt (Nat.lt_succ_of_lt hb) q
  · rcases r2 with e | fl
    · exact hr2
    rcases fl with _ | _ | _ | v
    all_goals first | exact hr2.elim | skip
    obtain ⟨rfl, h2, tk, rfl, SO, keep⟩ := hr2
    all_goals repeat' first | assumption | wp_step
    exact h _ _ SO keep
end
end TxS
namespace L2
open PySem PyProof.Rows
open PySem.Spec
section
variable {X : Cx}
/-- len(set(xs)) of a list of texts: how many different ones -/
def tLenTx (K : PySem.W.Frag) (ta : TE) : TE := fun σ H Q => ta σ H fun v H1 => ∃ (p : Addr) (xs : List Str), v = V.ref p ∧ SqL K H1 p (xs.map V.str) ∧ xs.length ≤ 4000 ∧ Q (.int (TxS.ct xs.reverse : Nat)) H1
theorem pe_lenTx {a : Expr} {ta : TE} {p p2 q pos : Pos} (g1 : Gl X "len") (m1 : X.mg "len" = none) (g2 : Gl X "set") (m2 : X.mg "set" = none) (ha : PE X a ta) (calm : X.calm = true := by rfl)
    (na : starEach [a] X.env = (false, eval a X.env) :: starEach [] X.env := by rfl) : PE X (.Call (.Name "len" p) [.Call (.Name "set" p2) [a] [] q] [] pos) (tLenTx X.K ta) := by
  refine ⟨fun pins s σ H Q I h => Call_ (ld_blt I g1 m1 boot_len (callWith_builtin1 (args_cons ?_ rfl) rfl rfl))⟩
  refine Call_ (ld_blt I g2 m2 boot_set (callWith_type1 (args_cons (thn (ha.run pins s σ H _ I h) fun v s1 w => args_nil ?_) na) na rfl))
  obtain ⟨x, H1, I1, r1, l, xs, rfl, at_l, few, k⟩ := w
  cases r1
  obtain ⟨us, r, pl, _⟩ := I1.list at_l
  have sz : us.toArray.size = xs.length := by rw [List.size_toArray, ← r.length, List.length_map]
  refine TxS.set_of_texts (I1.ok.hd calm) pl.isList (by simpa using strsAre_of r) few fun h2 tk SO keep => args_nil ?_
  rw [sz, List.take_length] at SO
  obtain ⟨o, es, ep, t, ho, hx, hd, _, _, _, hf, hn⟩ := SO
  have I2 : Inv X pins σ H1 { s1 with heap := h2, toks := tk } := I1.kept fun b o e => keep b o (Heap.lt_size e) e
  have le := TxS.ct_le xs.reverse
  rw [List.length_reverse] at le
  exact call_len_set ho hx hd hf (by rw [hn] <;> omega) ⟨.int (TxS.ct xs.reverse : Nat), H1, I2.tok _, ⟨_, by rw [hn]⟩, k⟩
end
end L2

set_option Elab.async false
set_option linter.all false
set_option maxRecDepth 100000
set_option maxHeartbeats 4000000
namespace Vl
open PySem PySem.Spec PyProof.Rows L2
theorem Same.upd {H H1 : Hp} {p : Addr} {o : HO} (k : Same H H1) (hp : H1 p = none) : Same H (L2.upd H1 p o) := fun b u e => (upd_ne (ne_of_none (k b u e) hp)).trans (k b u e)
theorem sm_upd {H : Hp} {p : Addr} {o : HO} (hp : H p = none) : Same H (upd H p o) := Same.upd (Same.refl H) hp
theorem iteC {c : Bool} {A B : Prop} (e : c = true) (h : A) : if c = true then A else B := by rw [if_pos e]; exact h
theorem iteN {c : Bool} {A B : Prop} (e : c = false) (h : B) : if c = true then A else B := by rw [if_neg (by rw [e]; exact Bool.false_ne_true)]; exact h
/-- a def of the top with its promise -/
structure Def (P : Program) (w : World) (K : PySem.W.Frag) (mg : Str → Option Value) (base : Heap) (k : Nat) (x : Str) (f : Addr) (fd : FuncData) (ps : List Str) (sp : Sp) : Prop where
  ok : FnOk P w K mg base CX0 k f fd ps sp
  g : mg x = some (.ref f)
  kp : PySem.W.keepIn K (.ref f) = true
  b : Binds K fd ps []
end Vl

set_option Elab.async false
set_option linter.all false
set_option maxRecDepth 100000
set_option maxHeartbeats 4000000
/-! list(zip(a, b)), a and b two tuples or two lists: a new list of new pairs -/
namespace Lz
open PySem PySem.Spec PyProof.Rows L2 PySem.W
section
variable {prog : Program} {w : World} {A : Around} {E : Value → Shared → Prop} {s : Shared} {z TI TO i1 i2 : Addr} {fp1 fp2 : List Addr} {n1 n2 i : Nat} {P1 P2 : Nat → Value → Prop} {St1 St2 : Nat → Heap → Prop}
theorem held_item {T : Addr} {f : Bool} {oT : Obj} {Q : Value → Shared → Prop} (S : ZipSep2 z TI TO i1 i2 fp1 fp2) (D1 : Draws prog w A i1 fp1 n1 P1 St1) (D2 : Draws prog w A i2 fp2 n2 P2 St2)
    (hz : IsZipHeld s.heap z TI TO T f) (hT : s.heap.get? T = some oT) (hTI : IsTupOf2 s.heap TI (.ref i1) (.ref i2)) (st1 : St1 i s.heap) (st2 : St2 i s.heap) (l1 : i < n1) (l2 : i < n2)
    (hQ : ∀ x1 x2 h' tk, P1 i x1 → P2 i x2 → IsZipHeld h' z TI TO T true → St1 (i + 1) h' → St2 (i + 1) h' → IsTupOf2 h' s.heap.objs.size x1 x2 → h'.objs.size = s.heap.objs.size + 1 →
      (∀ c o, c ≠ z ∧ c ≠ i1 ∧ c ≠ i2 → s.heap.get? c = some o → h'.get? c = some o) → Q (.ref s.heap.objs.size) { s with heap := h', toks := tk }) :
    wpAny (model prog w) A (Builtin.«zip.__next__» ⟨[.ref z], []⟩) (fun fin s' => ∃ v, fin = .done (.ret v) ∧ Q v s') E s := by
  obtain ⟨hp, g, d, tk0, os⟩ := s
  (show wpAny _ _ (field (.ref z) 2 >>= _) _ _ _); refine wpAny_bind (wpAny_field hz rfl (x := .bool false) rfl ?_)
  (show wpAny _ _ (field (.ref z) 3 >>= _) _ _ _); refine wpAny_bind (wpAny_field hz rfl (x := .ref TI) rfl (wpAny_bind (wpAny_seqItems hTI rfl ?_)))
  (show wpAny _ _ (Builtin.SmallTypes.ownedTupleIsFree (.ref z) >>= _) _ _ _); refine wpAny_bind (wpAny_tupleHeld_zip hz hT fun g1 hz1 hs1 => ?_)
  replace hs1 : Heap.SameBut z hp g1 := hs1
  simp only [Bool.false_eq_true, if_false]; refine wpAny_bind ?_
  rw [← Array.forIn_toList]; simp only [List.forIn_cons, List.forIn_nil]
  refine wpAny_bind (wpAny_bind (wpAny_holding ?_)); (show wpAny _ _ (Builtin.SmallTypes.nextOf (.ref i1) >>= _) _ _ ⟨g1, g, d, tk0, os⟩)
  refine wpAny_bind (D1.item i _ _ _ l1 (D1.over st1 hs1 S.zf1) fun x1 p1 tk1 hx1 sn1 hp1 => wpAny_pure (wpAny_pure ?_))
  replace hp1 : Heap.SameBut i1 g1 p1 := hp1
  refine wpAny_bind (wpAny_bind (wpAny_holding ?_)); (show wpAny _ _ (Builtin.SmallTypes.nextOf (.ref i2) >>= _) _ _ ⟨p1, g, d, tk1, os⟩)
  refine wpAny_bind (D2.item i _ _ _ l2 (D2.over (D2.over st2 hs1 S.zf2) hp1 S.sep1_2) fun x2 p2 tk2 hx2 sn2 hp2 => wpAny_pure (wpAny_pure (wpAny_pure ?_)))
  replace hp2 : Heap.SameBut i2 p1 p2 := hp2
  (show wpAny _ _ (newTuple [x1, x2] >>= _) _ _ ⟨p2, g, d, tk2, os⟩); refine wpAny_bind (wpAny_newTuple ?_)
  have hsz : p2.objs.size = hp.objs.size := by rw [hp2.1, hp1.1, hs1.1]
  have hz2 : IsZipHeld p2 z TI TO T true := hp2.extBut _ _ S.zi2 (hp1.extBut _ _ S.zi1 hz1)
  have kk : ∀ c o, c ≠ z ∧ c ≠ i1 ∧ c ≠ i2 → hp.get? c = some o → p2.get? c = some o := fun c o ⟨c1, c2, c3⟩ e => hp2.extBut _ _ c3 (hp1.extBut _ _ c2 (hs1.extBut _ _ c1 e))
  have s1' : St1 (i + 1) p2 := D1.over sn1 hp2 S.sep2_1
  refine wpAny_pure ⟨_, rfl, ?_⟩
  show Q (.ref p2.objs.size) ⟨p2.push { cls := .type "tuple", data := .seq #[x1, x2] }, g, d, tk2, os⟩
  have hpp : IsTupOf2 (p2.push { cls := .type "tuple", data := .seq #[x1, x2] }) p2.objs.size x1 x2 := Heap.get?_push_size _ rfl
  have hz4 : (p2.push { cls := .type "tuple", data := .seq #[x1, x2] }).objs.size = p2.objs.size + 1 := Heap.size_push ..
  rw [hsz] at hpp hz4 ⊢
  exact hQ x1 x2 _ tk2 hx1 hx2 (Heap.get?_push_of_some _ hz2) (D1.frame _ _ _ s1' fun b _ o e => Heap.get?_push_of_some _ e) (D2.frame _ _ _ sn2 fun b _ o e => Heap.get?_push_of_some _ e) hpp hz4 fun c o q e => Heap.get?_push_of_some _ (kk c o q e)
theorem held_end {T : Addr} {f : Bool} {oT : Obj} {Q : Fin → Shared → Prop} (S : ZipSep2 z TI TO i1 i2 fp1 fp2) (D1 : Draws prog w A i1 fp1 n1 P1 St1) (D2 : Draws prog w A i2 fp2 n2 P2 St2)
    (hz : IsZipHeld s.heap z TI TO T f) (hT : s.heap.get? T = some oT) (hTI : IsTupOf2 s.heap TI (.ref i1) (.ref i2)) (st1 : St1 i s.heap) (st2 : St2 i s.heap) (hle1 : i ≤ n1) (hle2 : i ≤ n2) (hend : i = n1 ∨ i = n2)
    (hE : ∀ h' tk e, (∀ c o, c ≠ z ∧ c ≠ i1 ∧ c ≠ i2 → s.heap.get? c = some o → h'.get? c = some o) → (∃ o, h'.get? e = some o ∧ o.cls = .type "StopIteration") → E (.ref e) { s with heap := h', toks := tk }) :
    wpAny (model prog w) A (Builtin.«zip.__next__» ⟨[.ref z], []⟩) Q E s := by
  obtain ⟨hp, g, d, tk0, os⟩ := s
  (show wpAny _ _ (field (.ref z) 2 >>= _) _ _ _); refine wpAny_bind (wpAny_field hz rfl (x := .bool false) rfl ?_)
  (show wpAny _ _ (field (.ref z) 3 >>= _) _ _ _); refine wpAny_bind (wpAny_field hz rfl (x := .ref TI) rfl (wpAny_bind (wpAny_seqItems hTI rfl ?_)))
  (show wpAny _ _ (Builtin.SmallTypes.ownedTupleIsFree (.ref z) >>= _) _ _ _); refine wpAny_bind (wpAny_tupleHeld_zip hz hT fun g1 hz1 hs1 => ?_)
  replace hs1 : Heap.SameBut z hp g1 := hs1
  simp only [Bool.false_eq_true, if_false]; refine wpAny_bind ?_
  rw [← Array.forIn_toList]; simp only [List.forIn_cons, List.forIn_nil]
  refine wpAny_bind (wpAny_bind (wpAny_holding ?_)); (show wpAny _ _ (Builtin.SmallTypes.nextOf (.ref i1) >>= _) _ _ ⟨g1, g, d, tk0, os⟩)
  by_cases h1 : i < n1
  · refine wpAny_bind (D1.item i _ _ _ h1 (D1.over st1 hs1 S.zf1) fun x1 p1 tk1 hx1 sn1 hp1 => wpAny_pure (wpAny_pure ?_))
    replace hp1 : Heap.SameBut i1 g1 p1 := hp1
    have e2 : i = n2 := by omega
    refine wpAny_bind (wpAny_bind (wpAny_holding ?_)); (show wpAny _ _ (Builtin.SmallTypes.nextOf (.ref i2) >>= _) _ _ ⟨p1, g, d, tk1, os⟩)
    refine wpAny_bind (D2.done ⟨p1, g, d, tk1, os⟩ _ _ (by rw [← e2]; exact D2.over (D2.over st2 hs1 S.zf2) hp1 S.sep1_2) fun q e hq he => ?_)
    exact hE q tk1 e (fun c o ⟨c1, c2, c3⟩ x => hq _ _ c3 (hp1.extBut _ _ c2 (hs1.extBut _ _ c1 x))) he
  · have e1 : i = n1 := by omega
    refine wpAny_bind (D1.done ⟨g1, g, d, tk0, os⟩ _ _ (by rw [← e1]; exact D1.over st1 hs1 S.zf1) fun q e hq he => ?_)
    exact hE q tk0 e (fun c o ⟨c1, c2, c3⟩ x => hq _ _ c2 (hs1.extBut _ _ c1 x)) he
theorem pyNext_held_item {T : Addr} {f : Bool} {oT : Obj} {Q : Option Value → Shared → Prop} (S : ZipSep2 z TI TO i1 i2 fp1 fp2) (D1 : Draws prog w A.in1 i1 fp1 n1 P1 St1) (D2 : Draws prog w A.in1 i2 fp2 n2 P2 St2)
    (hz : IsZipHeld s.heap z TI TO T f) (hT : s.heap.get? T = some oT) (hTI : IsTupOf2 s.heap TI (.ref i1) (.ref i2)) (st1 : St1 i s.heap) (st2 : St2 i s.heap) (l1 : i < n1) (l2 : i < n2)
    (hQ : ∀ x1 x2 h' tk, P1 i x1 → P2 i x2 → IsZipHeld h' z TI TO T true → St1 (i + 1) h' → St2 (i + 1) h' → IsTupOf2 h' s.heap.objs.size x1 x2 → h'.objs.size = s.heap.objs.size + 1 →
      (∀ c o, c ≠ z ∧ c ≠ i1 ∧ c ≠ i2 → s.heap.get? c = some o → h'.get? c = some o) → Q (some (.ref s.heap.objs.size)) { s with heap := h', toks := tk }) :
    wpAny (model prog w) A (pyNext (.ref z)) Q E s := by
  have ty : s.TypeIs (.ref z) "zip" := ⟨_, hz, rfl⟩
  unfold pyNext
  exact wpAny_bind (wpAny_attempt (wpAny_callSpecial?_slot (name := Str.ofString "__next__") ty F.slot_zip_next (wpAny_call_entry F.slot_zip_next ty F.entry_zip_next
    (held_item S D1 D2 hz hT hTI st1 st2 l1 l2 fun x1 x2 h' tk a b c d e f g k => wpAny_pure (hQ x1 x2 h' tk a b c d e f g k)) (F.args_zip_next_1 _))))
theorem pyNext_held_end {T : Addr} {f : Bool} {oT : Obj} {Q : Option Value → Shared → Prop} (S : ZipSep2 z TI TO i1 i2 fp1 fp2) (D1 : Draws prog w A.in1 i1 fp1 n1 P1 St1) (D2 : Draws prog w A.in1 i2 fp2 n2 P2 St2)
    (hz : IsZipHeld s.heap z TI TO T f) (hT : s.heap.get? T = some oT) (hTI : IsTupOf2 s.heap TI (.ref i1) (.ref i2)) (st1 : St1 i s.heap) (st2 : St2 i s.heap) (hle1 : i ≤ n1) (hle2 : i ≤ n2) (hend : i = n1 ∨ i = n2)
    (hQ : ∀ h' tk, (∀ c o, c ≠ z ∧ c ≠ i1 ∧ c ≠ i2 → s.heap.get? c = some o → h'.get? c = some o) → Q none { s with heap := h', toks := tk }) : wpAny (model prog w) A (pyNext (.ref z)) Q E s := by
  have ty : s.TypeIs (.ref z) "zip" := ⟨_, hz, rfl⟩
  unfold pyNext
  refine wpAny_bind (wpAny_attempt (wpAny_callSpecial?_slot (name := Str.ofString "__next__") ty F.slot_zip_next (wpAny_call_entry F.slot_zip_next ty F.entry_zip_next
    (held_end S D1 D2 hz hT hTI st1 st2 hle1 hle2 hend fun h' tk e hk he => ?_) (F.args_zip_next_1 _))))
  obtain ⟨o, ho, hc⟩ := he
  exact wpAny_bind (wpAny_isInstance (T := "StopIteration") (b := true) ⟨o, ho, hc⟩ isSubtype_stop (wpAny_pure (hQ _ _ hk)))

/-- the zip at z behind i turns whose pairs are all held; S the list that is filled -/
def ZSt (z TI TO i1 i2 S : Addr) (St1 St2 : Nat → Heap → Prop) (i : Nat) (h : Heap) : Prop := IsTupOf2 h TI (.ref i1) (.ref i2) ∧ St1 i h ∧ St2 i h ∧
  ((IsZip h z TI TO .none ∧ ∃ a b, IsTupOf2 h TO a b) ∨ ∃ T f oT, IsZipHeld h z TI TO T f ∧ h.get? T = some oT ∧ T ≠ z ∧ T ≠ i1 ∧ T ≠ i2 ∧ T ≠ S)
structure Sep (z TI TO i1 i2 S : Addr) (fp1 fp2 : List Addr) : Prop where
  z : z ≠ S
  TI : TI ≠ S
  TO : TO ≠ S
  f1 : S ∉ fp1
  f2 : S ∉ fp2
theorem ZSt.keep {S : Addr} {h h' : Heap} (D1 : Draws prog w A i1 fp1 n1 P1 St1) (D2 : Draws prog w A i2 fp2 n2 P2 St2) (sp : Sep z TI TO i1 i2 S fp1 fp2) (x : ZSt z TI TO i1 i2 S St1 St2 i h) (hk : ∀ b o, b ≠ S → h.get? b = some o → h'.get? b = some o) : ZSt z TI TO i1 i2 S St1 St2 i h' := by
  obtain ⟨a1, a2, a3, a4⟩ := x
  refine ⟨hk _ _ sp.TI a1, D1.frame _ _ _ a2 fun b hb o e => hk b o (fun q => sp.f1 (q ▸ hb)) e, D2.frame _ _ _ a3 fun b hb o e => hk b o (fun q => sp.f2 (q ▸ hb)) e, ?_⟩
  rcases a4 with ⟨hz, a, b, hO⟩ | ⟨T, f, oT, hz, hT, r1, r2, r3, r4⟩
  · exact .inl ⟨hk _ _ sp.z hz, a, b, hk _ _ sp.TO hO⟩
  · exact .inr ⟨T, f, oT, hk _ _ sp.z hz, hk _ _ r4 hT, r1, r2, r3, r4⟩
theorem ZSt.item {S : Addr} {Q : Option Value → Shared → Prop} (sz : ZipSep2 z TI TO i1 i2 fp1 fp2) (D1 : Draws prog w A.in1 i1 fp1 n1 P1 St1) (D2 : Draws prog w A.in1 i2 fp2 n2 P2 St2) (x : ZSt z TI TO i1 i2 S St1 St2 i s.heap) (hS : S < s.heap.objs.size) (l1 : i < n1) (l2 : i < n2)
    (hQ : ∀ x1 x2 h' tk, P1 i x1 → P2 i x2 → ZSt z TI TO i1 i2 S St1 St2 (i + 1) h' → IsTupOf2 h' s.heap.objs.size x1 x2 → h'.objs.size = s.heap.objs.size + 1 →
      (∀ c o, c ≠ z ∧ c ≠ i1 ∧ c ≠ i2 ∧ c ≠ TO → s.heap.get? c = some o → h'.get? c = some o) → Q (some (.ref s.heap.objs.size)) { s with heap := h', toks := tk }) :
    wpAny (model prog w) A (pyNext (.ref z)) Q E s := by
  obtain ⟨a1, a2, a3, a4⟩ := x
  have lt : ∀ {c o}, s.heap.get? c = some o → s.heap.objs.size ≠ c := fun e => Nat.ne_of_gt (Heap.lt_size e)
  have m1 : s.heap.objs.size ≠ i1 := let ⟨_, e⟩ := D1.live _ _ a2; lt e
  have m2 : s.heap.objs.size ≠ i2 := let ⟨_, e⟩ := D2.live _ _ a3; lt e
  rcases a4 with ⟨hz, a, b, hO⟩ | ⟨T, f, oT, hz, hT, r1, r2, r3, r4⟩
  · refine wpAny_pyNext_zipD2_item sz D1 D2 hz a1 hO a2 a3 l1 l2 fun x1 x2 h' tk p1 p2 hz' hO' t1 t2 hN sN hk => hQ x1 x2 h' tk p1 p2 ⟨hk _ _ sz.TIz sz.TITO sz.TIi1 sz.TIi2 a1, t1, t2, .inr ⟨_, false, _, hz', hN, lt hz, m1, m2, Nat.ne_of_gt hS⟩⟩ hN sN fun c o ⟨c1, c2, c3, c4⟩ e => hk c o c1 c4 c2 c3 e
  · refine pyNext_held_item sz D1 D2 hz hT a1 a2 a3 l1 l2 fun x1 x2 h' tk p1 p2 hz' t1 t2 hN sN hk => hQ x1 x2 h' tk p1 p2 ⟨hk _ _ ⟨sz.TIz, sz.TIi1, sz.TIi2⟩ a1, t1, t2, .inr ⟨T, true, oT, hz', hk _ _ ⟨r1, r2, r3⟩ hT, r1, r2, r3, r4⟩⟩ hN sN fun c o ⟨c1, c2, c3, _⟩ e => hk c o ⟨c1, c2, c3⟩ e
theorem ZSt.done {S : Addr} {Q : Option Value → Shared → Prop} (sz : ZipSep2 z TI TO i1 i2 fp1 fp2) (D1 : Draws prog w A.in1 i1 fp1 n1 P1 St1) (D2 : Draws prog w A.in1 i2 fp2 n2 P2 St2) (x : ZSt z TI TO i1 i2 S St1 St2 i s.heap) (hle1 : i ≤ n1) (hle2 : i ≤ n2) (hend : i = n1 ∨ i = n2)
    (hQ : ∀ h' tk, (∀ c o, c ≠ z ∧ c ≠ i1 ∧ c ≠ i2 ∧ c ≠ TO → s.heap.get? c = some o → h'.get? c = some o) → Q none { s with heap := h', toks := tk }) : wpAny (model prog w) A (pyNext (.ref z)) Q E s := by
  obtain ⟨a1, a2, a3, a4⟩ := x
  rcases a4 with ⟨hz, a, b, hO⟩ | ⟨T, f, oT, hz, hT, r1, r2, r3, r4⟩
  · exact wpAny_pyNext_zipD2_end sz D1 D2 hz a1 hO a2 a3 hle1 hle2 hend fun h' tk hk => hQ h' tk fun c o ⟨c1, c2, c3, c4⟩ e => hk c o c1 c4 c2 c3 e
  · exact pyNext_held_end sz D1 D2 hz hT a1 a2 a3 hle1 hle2 hend fun h' tk hk => hQ h' tk fun c o ⟨c1, c2, c3, _⟩ e => hk c o ⟨c1, c2, c3⟩ e
end
/-- the pairs that were made, at as, all above lo -/
structure Made (P1 P2 : Nat → Value → Prop) (lo : Addr) (h : Heap) (as : List Addr) : Prop where
  rise : as.Pairwise (· < ·)
  above : ∀ a ∈ as, lo < a
  pairs : ∀ (j : Nat) (a : Addr), as[j]? = some a → ∃ x y, P1 j x ∧ P2 j y ∧ IsTupOf2 h a x y
theorem Made.there {P1 P2 : Nat → Value → Prop} {lo : Addr} {h : Heap} {as : List Addr} (g : Made P1 P2 lo h as) {a : Addr} (ha : a ∈ as) : a < h.objs.size := by
  obtain ⟨j, hj⟩ := List.mem_iff_getElem?.mp ha
  obtain ⟨_, _, _, _, e⟩ := g.pairs j a hj
  exact Heap.lt_size e
section
variable {prog : Program} {w : World} {A : Around} {s : Shared} {R : Result → Shared → Prop} {z TI TO i1 i2 S : Addr} {fp1 fp2 : List Addr} {n1 n2 : Nat} {P1 P2 : Nat → Value → Prop} {St1 St2 : Nat → Heap → Prop}
theorem zl_loop {n : Nat} (en : n = min n1 n2) (sz : ZipSep2 z TI TO i1 i2 fp1 fp2) (sp : Sep z TI TO i1 i2 S fp1 fp2) (D1 : Draws prog w A.in1.in1 i1 fp1 n1 P1 St1) (D2 : Draws prog w A.in1.in1 i2 fp2 n2 P2 St2) (lz : z < S) (lT : TO < S) (li1 : i1 < S) (li2 : i2 < S) (hn : n ≤ sizeLine) (res : Value) {h₁ : Heap}
    (hR : ∀ h' tk acc c as, (∀ b o, b ≠ S ∧ b ≠ z ∧ b ≠ i1 ∧ b ≠ i2 ∧ b ≠ TO → h₁.get? b = some o → h'.get? b = some o) → h'.get? S = some { cls := .type "list", dict := none, data := .seq acc c, slots := #[] } → as.length = n → Made P1 P2 S h' as →
      acc.toList = as.map Value.ref → R (.ok (.ret res)) { s with heap := h', toks := tk }) :
    ∀ (k i : Nat) (h : Heap) (tk c : Nat) (acc : Array Value) (as : List Addr), n - i = k → i ≤ n → ZSt z TI TO i1 i2 S St1 St2 i h → (∀ b o, b ≠ S ∧ b ≠ z ∧ b ≠ i1 ∧ b ≠ i2 ∧ b ≠ TO → h₁.get? b = some o → h.get? b = some o) →
      h.get? S = some { cls := .type "list", dict := none, data := .seq acc c, slots := #[] } → acc.toList = as.map Value.ref → as.length = i → Made P1 P2 S h as →
      codeAny (model prog w) A (.builtin "list.extend.loop" ⟨[.ref S, .ref z, res], []⟩) R { s with heap := h, toks := tk } := by
  have n1' : S ≠ z ∧ S ≠ i1 ∧ S ≠ i2 ∧ S ≠ TO := ⟨Nat.ne_of_gt lz, Nat.ne_of_gt li1, Nat.ne_of_gt li2, Nat.ne_of_gt lT⟩
  have hi : ∀ a, S < a → a ≠ z ∧ a ≠ i1 ∧ a ≠ i2 ∧ a ≠ TO := fun a ha => ⟨Nat.ne_of_gt (Nat.lt_trans lz ha), Nat.ne_of_gt (Nat.lt_trans li1 ha), Nat.ne_of_gt (Nat.lt_trans li2 ha), Nat.ne_of_gt (Nat.lt_trans lT ha)⟩
  intro k
  induction k with
  | zero =>
    intro i h tk c acc as hk hin hst hkeep hS hacc hal hG
    have e : i = n := by omega
    refine codeAny_builtin PySem.F.entry_extend_loop ?_
    rw [Around.under_plainId PySem.F.plain_extend_loop _]; (show wpAny _ A.in1 (pyNext (.ref z) >>= _) _ _ _)
    refine wpAny_bind (ZSt.done (s := { s with heap := h, toks := tk }) (A := A.in1) sz D1 D2 hst (by omega) (by omega) (by omega) fun h' tk' hk' => wpAny_pure (hR h' tk' acc c as (fun b o ⟨q1, q2⟩ e => hk' b o q2 (hkeep b o ⟨q1, q2⟩ e)) (hk' S _ n1' hS) (by omega) ⟨hG.rise, hG.above, fun j a hj => ?_⟩ hacc))
    obtain ⟨x, y, e1, e2, e3⟩ := hG.pairs j a hj
    exact ⟨x, y, e1, e2, hk' a _ (hi a (hG.above a (List.mem_of_getElem? hj))) e3⟩
  | succ k ih =>
    intro i h tk c acc as hk hin hst hkeep hS hacc hal hG
    have lt : i < n := by omega
    have hsz : acc.size = i := by rw [← Array.length_toList, hacc, List.length_map, hal]
    refine codeAny_builtin PySem.F.entry_extend_loop ?_
    rw [Around.under_plainId PySem.F.plain_extend_loop _]; (show wpAny _ A.in1 (pyNext (.ref z) >>= _) _ _ _)
    refine wpAny_bind (ZSt.item (s := { s with heap := h, toks := tk }) (A := A.in1) sz D1 D2 hst (Heap.lt_size hS) (by omega) (by omega) fun x1 x2 h' tk' p1 p2 hst' hN sN hkp => ?_)
    dsimp only at hN sN hkp ⊢
    have hS' := hkp S _ n1' hS
    have up : ∀ b o, b ≠ S → h'.get? b = some o → (h'.update S (Obj.mapSeq (·.push (Value.ref h.objs.size)))).get? b = some o := fun b o hb e => (Heap.get?_update_other _ _ (Ne.symm hb)).trans e
    have hSl : S < h.objs.size := Heap.lt_size hS
    (show wpAny _ A.in1 (updateSeq S (·.push (Value.ref h.objs.size)) >>= _) _ _ _); refine wpAny_bind ?_
    refine wpAny_updateSeq hS' rfl (wpAny_pure ⟨plainId_quiet PySem.F.plain_extend_loop _, ih (i + 1) _ tk' _ (acc.push (Value.ref h.objs.size)) (as ++ [h.objs.size]) (by omega) lt (hst'.keep D1 D2 sp up)
      (fun b o q e => up b o q.1 (hkp b o q.2 (hkeep b o q e))) (Heap.get?_update_self _ hS' rfl) (by rw [Array.toList_push, hacc, List.map_append]; rfl) (by rw [List.length_append, hal]; rfl) ⟨?_, ?_, ?_⟩⟩) (by rw [hsz]; omega) (by show (acc.push (Value.ref h.objs.size)).size ≤ sizeLine + 1; rw [Array.size_push, hsz]; omega)
    · refine List.pairwise_append.mpr ⟨hG.rise, List.pairwise_singleton _ _, fun a ha b hb => ?_⟩
      rw [List.mem_singleton.mp hb]; exact hG.there ha
    · intro a ha
      rcases List.mem_append.mp ha with ha | ha
      · exact hG.above a ha
      · rw [List.mem_singleton.mp ha]; exact hSl
    · intro j b hj
      rcases Nat.lt_trichotomy j as.length with q | q | q
      · rw [List.getElem?_append_left q] at hj
        obtain ⟨x, y, e1, e2, e3⟩ := hG.pairs j b hj
        have hb := hG.above b (List.mem_of_getElem? hj)
        exact ⟨x, y, e1, e2, up b _ (Nat.ne_of_gt hb) (hkp b _ (hi b hb) e3)⟩
      · subst q
        have hb : h.objs.size = b := by simpa using hj
        subst hb
        exact ⟨x1, x2, by rw [hal]; exact p1, by rw [hal]; exact p2, up _ _ (Nat.ne_of_gt hSl) hN⟩
      · have no : (as ++ [h.objs.size])[j]? = none := List.getElem?_eq_none (by rw [List.length_append, List.length_singleton]; omega)
        rw [no] at hj; cases hj
end
end Lz

set_option Elab.async false
set_option linter.all false
set_option maxRecDepth 100000
set_option maxHeartbeats 4000000
namespace Lz
open PySem PySem.Spec PyProof.Rows L2 PySem.W
theorem zip_no_len : typeLookup (.type "zip") "__len__" = pure none := am_miss_of_fast (by decide +kernel)
theorem zip_no_hint : typeLookup (.type "zip") "__length_hint__" = pure none := am_miss_of_fast (by decide +kernel)
section
variable {prog : Program} {w : World} {A : Around} {E : Value → Shared → Prop} {s : Shared} {R : Result → Shared → Prop} {z TI TO i1 i2 S : Addr} {fp1 fp2 : List Addr} {n n1 n2 : Nat} {P1 P2 : Nat → Value → Prop} {St1 St2 : Nat → Heap → Prop}
theorem zl_hint (hT : s.TypeIs (.ref z) "zip") {Q : Bool → Shared → Prop} (h : Q true s) : wpAny (model prog w) A (Builtin.List.listLengthHint (.ref z)) Q E s := by
  unfold Builtin.List.listLengthHint
  refine wpAny_bind (wpAny_specialOf hT zip_no_len ?_)
  exact wpAny_bind (wpAny_specialOf hT zip_no_hint (wpAny_pure h))
/-- what a list that is filled by the zip asks and gives -/
theorem zl_extend (en : n = min n1 n2) (sz : ZipSep2 z TI TO i1 i2 fp1 fp2) (sp : Sep z TI TO i1 i2 S fp1 fp2) (D1 : Draws prog w A.in1.in1 i1 fp1 n1 P1 St1) (D2 : Draws prog w A.in1.in1 i2 fp2 n2 P2 St2) (lz : z < S) (lT : TO < S) (li1 : i1 < S) (li2 : i2 < S) (hn : n ≤ sizeLine) (res : Value) (c₀ : Nat)
    (hz : IsZip s.heap z TI TO .none) (hst : ZSt z TI TO i1 i2 S St1 St2 0 s.heap) (hS : s.heap.get? S = some { cls := .type "list", data := .seq #[] c₀ })
    (hR : ∀ h' tk acc c as, (∀ b o, b ≠ S ∧ b ≠ z ∧ b ≠ i1 ∧ b ≠ i2 ∧ b ≠ TO → s.heap.get? b = some o → h'.get? b = some o) → h'.get? S = some { cls := .type "list", dict := none, data := .seq acc c, slots := #[] } → as.length = n → Made P1 P2 S h' as →
      acc.toList = as.map Value.ref → R (.ok (.ret res)) { s with heap := h', toks := tk }) :
    wpAny (model prog w) A.in1 (Builtin.List.listExtendWith (.ref S) (.ref z) res)
      (fun fin s' => match fin with | .done f => R (.ok f) s' | .again c' => c'.quiet = true ∧ codeAny (model prog w) A c' R s') (fun e s' => R (.error e) s') s := by
  have nSz : S ≠ z := Nat.ne_of_gt lz
  have key : ∀ (h : Heap) (c₁ tk : Nat), (∀ b o, b ≠ S → s.heap.get? b = some o → h.get? b = some o) → h.get? S = some { cls := .type "list", data := .seq #[] c₁ } →
      codeAny (model prog w) A (.builtin "list.extend.loop" ⟨[.ref S, .ref z, res], []⟩) R { s with heap := h, toks := tk } := fun h c₁ tk hk hS₁ =>
    zl_loop (s := s) (h₁ := s.heap) en sz sp D1 D2 lz lT li1 li2 hn res hR n 0 h tk c₁ #[] [] (Nat.sub_zero _) (Nat.zero_le _) (hst.keep D1 D2 sp hk) (fun b o q e => hk b o q.1 e) hS₁ rfl rfl ⟨List.Pairwise.nil, (fun _ ha => nomatch ha), (fun j a hj => by simp at hj)⟩
  unfold Builtin.List.listExtendWith
  have hT : s.TypeIs (.ref z) "zip" := ⟨_, hz, rfl⟩
  refine wpAny_bind (wpAny_typeOf (T := "zip") hT ?_)
  have q1 : Builtin.List.listSameRef (.ref S) (.ref z) = false := by simp [Builtin.List.listSameRef, nSz]
  have q2 : (Value.type "zip" == Value.type "list") = false := by decide
  have q3 : (Value.type "zip" == Value.type "tuple") = false := by decide
  simp only [q1, q2, q3, Bool.or_false, Bool.false_eq_true, if_false]
  refine wpAny_bind (wpAny_pyIter_zip hz ?_)
  refine wpAny_bind (wpAny_holding (zl_hint hT ?_))
  refine wpAny_ite_split (fun _ => ?_) (fun _ => wpAny_pure ⟨plainId_quiet PySem.F.plain_extend_loop _, key _ c₀ _ (fun b o _ e => e) hS⟩)
  refine wpAny_bind (wpAny_rule (wpAny_bind ?_)); (show wpAny _ _ (updateSeq S (·.push .none) >>= fun _ => updateSeq S (·.pop)) _ _ _)
  refine wpAny_bind (wpAny_updateSeq hS rfl ?_)
  have hS₂ := Heap.get?_update_self (Obj.mapSeq (·.push Value.none)) hS rfl
  refine wpAny_updateSeq (hz := by seq_fits) hS₂ rfl ?_
  have hS₃ := Heap.get?_update_self (Obj.mapSeq (·.pop)) hS₂ rfl
  exact wpAny_pure ⟨plainId_quiet PySem.F.plain_extend_loop _, key _ _ _ (fun b o hb e => (Heap.get?_update_other _ _ (Ne.symm hb)).trans ((Heap.get?_update_other _ _ (Ne.symm hb)).trans e)) hS₃⟩
theorem zl_init (en : n = min n1 n2) (sz : ZipSep2 z TI TO i1 i2 fp1 fp2) (sp : Sep z TI TO i1 i2 S fp1 fp2) (D1 : Draws prog w A.in1.in1 i1 fp1 n1 P1 St1) (D2 : Draws prog w A.in1.in1 i2 fp2 n2 P2 St2) (lz : z < S) (lT : TO < S) (li1 : i1 < S) (li2 : i2 < S) (hn : n ≤ sizeLine)
    (hz : IsZip s.heap z TI TO .none) (hst : ZSt z TI TO i1 i2 S St1 St2 0 s.heap) (hS : s.heap.get? S = some { cls := .type "list", data := .seq #[] })
    (hR : ∀ h' tk acc c as, (∀ b o, b ≠ S ∧ b ≠ z ∧ b ≠ i1 ∧ b ≠ i2 ∧ b ≠ TO → s.heap.get? b = some o → h'.get? b = some o) → h'.get? S = some { cls := .type "list", dict := none, data := .seq acc c, slots := #[] } → as.length = n → Made P1 P2 S h' as →
      acc.toList = as.map Value.ref → R (.ok (.ret .none)) { s with heap := h', toks := tk }) :
    wpAny (model prog w) A.in1 (Builtin.«list.__init__» ⟨[.ref S, .ref z], []⟩)
      (fun fin s' => match fin with | .done f => R (.ok f) s' | .again c' => c'.quiet = true ∧ codeAny (model prog w) A c' R s') (fun e s' => R (.error e) s') s := by
  show wpAny _ _ (do let old ← Builtin.List.listItems (.ref S); Builtin.List.listUpdate (.ref S) (fun _ => #[]); letGo old.toList.reverse; Builtin.List.listExtendWith (.ref S) (.ref z) .none) _ _ s
  refine wpAny_bind ?_
  unfold Builtin.List.listItems
  refine wpAny_bind (wpAny_seqItems hS rfl (wpAny_pure ?_)); (show wpAny _ _ (updateSeq S (fun _ => #[]) >>= fun _ => letGo (#[] : Array Value).toList.reverse >>= fun _ => Builtin.List.listExtendWith (.ref S) (.ref z) .none) _ _ s)
  refine wpAny_bind (wpAny_updateSeq hS rfl ?_)
  have hS₂ := Heap.get?_update_self (Obj.mapSeq (fun _ => (#[] : Array Value))) hS rfl
  have oth : ∀ b o, b ≠ S → s.heap.get? b = some o → (s.heap.update S (Obj.mapSeq (fun _ => (#[] : Array Value)))).get? b = some o := fun b o hb e => (Heap.get?_update_other _ _ (Ne.symm hb)).trans e
  refine wpAny_bind (wpAny_letGo ?_)
  exact zl_extend en sz sp D1 D2 lz lT li1 li2 hn .none _ (oth _ _ sp.z hz) (hst.keep D1 D2 sp oth) hS₂ fun h' tk acc c as hk hS' hl hG hacc => hR h' tk acc c as (fun b o q e => hk b o q (oth b o q.1 e)) hS' hl hG hacc
theorem zl_call {Q : Value → Shared → Prop} (en : n = min n1 n2) (sz : ZipSep2 z TI TO i1 i2 fp1 fp2) (D1 : Draws prog w A.in1.in1.in1 i1 fp1 n1 P1 St1) (D2 : Draws prog w A.in1.in1.in1 i2 fp2 n2 P2 St2) (hn : n ≤ sizeLine) (f1 : ∀ b ∈ fp1, b < s.heap.objs.size) (f2 : ∀ b ∈ fp2, b < s.heap.objs.size)
    (hz : IsZip s.heap z TI TO .none) (hTI : IsTupOf2 s.heap TI (.ref i1) (.ref i2)) (hTO : ∃ a b, IsTupOf2 s.heap TO a b) (st1 : St1 0 s.heap) (st2 : St2 0 s.heap)
    (hQ : ∀ h' tk acc c as, (∀ b o, b ≠ z ∧ b ≠ i1 ∧ b ≠ i2 ∧ b ≠ TO → s.heap.get? b = some o → h'.get? b = some o) → h'.get? s.heap.objs.size = some { cls := .type "list", dict := none, data := .seq acc c, slots := #[] } → as.length = n → Made P1 P2 s.heap.objs.size h' as →
      acc.toList = as.map Value.ref → Q (.ref s.heap.objs.size) { s with heap := h', toks := tk }) :
    wpAny (model prog w) A (call (.type "list") [.ref z]) Q E s := by
  refine callType_codes (Q₁ := fun obj s₁ => obj = .ref s.heap.objs.size ∧ s₁ = { s with heap := s.heap.push { cls := .type "list", data := .seq #[] } }) PySem.F.called_list (PySem.F.typeCall_list_1 _) PySem.F.entry_list_init (code_list_new _ ⟨rfl, rfl⟩) fun obj s₁ h₁ => ?_
  obtain ⟨rfl, rfl⟩ := h₁
  have hS : (s.heap.push { cls := .type "list", data := .seq #[] }).get? s.heap.objs.size = some { cls := .type "list", data := .seq #[] } := Heap.get?_push_size _ rfl
  have up : ∀ b o, s.heap.get? b = some o → (s.heap.push { cls := .type "list", data := .seq #[] }).get? b = some o := fun b o e => Heap.get?_push_of_some _ e
  obtain ⟨a, b, hO⟩ := hTO
  have l1 : i1 < s.heap.objs.size := f1 _ sz.mem1
  have l2 : i2 < s.heap.objs.size := f2 _ sz.mem2
  refine ⟨⟨_, hS, rfl⟩, PySem.F.args_list_init_2 _ _, zl_init (A := A.in1) en sz ⟨Nat.ne_of_lt (Heap.lt_size hz), Nat.ne_of_lt (Heap.lt_size hTI), Nat.ne_of_lt (Heap.lt_size hO), fun h => Nat.lt_irrefl _ (f1 _ h), fun h => Nat.lt_irrefl _ (f2 _ h)⟩ D1 D2 (Heap.lt_size hz) (Heap.lt_size hO) l1 l2 hn (up _ _ hz)
    ⟨up _ _ hTI, D1.frame _ _ _ st1 fun b _ o e => up b o e, D2.frame _ _ _ st2 fun b _ o e => up b o e, .inl ⟨up _ _ hz, a, b, up _ _ hO⟩⟩ hS fun h' tk acc c as hk hS' hl hG hacc => ?_⟩
  exact ⟨rfl, hQ h' tk acc c as (fun b o q e => hk b o ⟨Nat.ne_of_lt (Heap.lt_size e), q⟩ (up b o e)) hS' hl hG hacc⟩
end
end Lz

set_option Elab.async false
set_option linter.all false
set_option maxRecDepth 100000
set_option maxHeartbeats 4000000
namespace Lz
open PySem PySem.Spec PyProof.Rows L2 PySem.W
/-- pairs tracked at their addresses -/
def putP : Hp → List Addr → List (V × V) → Hp
  | H, a :: as, p :: ps => putP (upd H a (.tup [p.1, p.2])) as ps
  | H, _, _ => H
theorem putP_off {b : Addr} : ∀ (as : List Addr) (ps : List (V × V)) (H : Hp), b ∉ as → putP H as ps b = H b
  | [], _, _, _ => rfl
  | _ :: _, [], _, _ => rfl
  | a :: as, p :: ps, H, h => by
    show putP (upd H a (.tup [p.1, p.2])) as ps b = H b
    rw [putP_off as ps _ (fun q => h (List.mem_cons_of_mem _ q)), upd_ne (fun q => h (by rw [q]; exact List.mem_cons_self))]
theorem putP_at : ∀ (as : List Addr) (ps : List (V × V)) (H : Hp), as.Nodup → ∀ (j : Nat) (t : Addr) (p : V × V), as[j]? = some t → ps[j]? = some p → putP H as ps t = some (.tup [p.1, p.2])
  | [], _, _, _, j, t, p, h, _ => by cases h
  | _ :: _, [], _, _, j, t, p, _, h => by cases h
  | a :: as, q :: ps, H, nd, 0, t, p, h, g => by
    have nd' := List.nodup_cons.mp nd
    cases h
    cases g
    show putP (upd H a (.tup [q.1, q.2])) as ps a = _
    rw [putP_off as ps _ nd'.1, upd_same]
  | a :: as, q :: ps, H, nd, j + 1, t, p, h, g => putP_at as ps _ (List.nodup_cons.mp nd).2 j t p h g
theorem vals_as : ∀ as : List Addr, Vals (as.map V.ref) (as.map Value.ref)
  | [] => .nil
  | _ :: as => .cons rfl (vals_as as)
/-- what list(zip(a, b)) leaves -/
def Zipped (H : Hp) (xs ys : List V) (p : Addr) (ts : List Addr) (H' : Hp) : Prop :=
  Same H H' ∧ H p = none ∧ (∀ t ∈ ts, H t = none) ∧ p ∉ ts ∧ H' p = some (.lst (ts.map V.ref)) ∧ ts.length = xs.length ∧ ∀ (j : Nat) (t : Addr), ts[j]? = some t → ∃ x y, xs[j]? = some x ∧ ys[j]? = some y ∧ H' t = some (.tup [x, y])
def tListZip (K : PySem.W.Frag) (ta : TA) : TE := fun σ H Q => ta σ H fun vs H1 => ∃ a b xs ys, vs = [.ref a, .ref b] ∧ ((SqT K H1 a xs ∧ SqT K H1 b ys) ∨ (SqL K H1 a xs ∧ SqL K H1 b ys)) ∧ xs.length = ys.length ∧
  ∀ H' p ts, Zipped H1 xs ys p ts H' → Q (.ref p) H'
section
variable {X : Cx} {pins : List (Addr × Obj)} {σ : L2.St} {H : Hp} {s : Shared}
theorem zips_laid {S : Addr} {h' : Heap} {tk : Nat} {xs ys : List V} {us ws : List Value} {acc : Array Value} {c : Nat} {as : List Addr} (I : Inv X pins σ H s) (hS0 : s.heap.objs.size ≤ S) (hz : xs.length ≤ sizeLine) (hxy : xs.length = ys.length) (r1 : Vals xs us) (r2 : Vals ys ws)
    (hk : ∀ b o, s.heap.get? b = some o → h'.get? b = some o) (hS : h'.get? S = some { cls := .type "list", dict := none, data := .seq acc c, slots := #[] }) (hl : as.length = xs.length) (hG : Made (fun i v => us.toArray[i]? = some v) (fun i v => ws.toArray[i]? = some v) S h' as) (hacc : acc.toList = as.map Value.ref) :
    ∃ H', Zipped H xs ys S as H' ∧ Inv X pins σ H' { s with heap := h', toks := tk } := by
  have nS : S ∉ as := fun q => Nat.lt_irrefl _ (hG.above _ q)
  have nd : as.Nodup := List.Pairwise.imp (fun {a b} (h : a < b) => Nat.ne_of_lt h) hG.rise
  have new : ∀ t ∈ as, H t = none := fun t ht => I.hok.fresh (Nat.le_trans hS0 (Nat.le_of_lt (hG.above t ht)))
  have newS : H S = none := I.hok.fresh hS0
  have lp : (xs.zip ys).length = xs.length := by rw [List.length_zip]; omega
  have off : ∀ b, b ∉ as → b ≠ S → putP (upd H S (.lst (as.map V.ref))) as (xs.zip ys) b = H b := fun b h1 h2 => by rw [putP_off as _ _ h1, upd_ne h2]
  have low : ∀ b o, s.heap.get? b = some o → b ∉ as ∧ b ≠ S := fun b o e => ⟨fun q => absurd (Heap.lt_size e) (Nat.not_lt.mpr (Nat.le_trans hS0 (Nat.le_of_lt (hG.above b q)))), Nat.ne_of_lt (Nat.lt_of_lt_of_le (Heap.lt_size e) hS0)⟩
  have kp : ∀ b u, H b = some u → (putP (upd H S (.lst (as.map V.ref))) as (xs.zip ys)) b = some u := fun b u e => by
    rw [off b (fun q => by rw [new b q] at e; cases e) (fun q => by rw [q, newS] at e; cases e)]
    exact e
  have eS : putP (upd H S (.lst (as.map V.ref))) as (xs.zip ys) S = some (.lst (as.map V.ref)) := by rw [putP_off as _ _ nS, upd_same]
  have atj : ∀ (j : Nat) (t : Addr), as[j]? = some t → ∃ x y, xs[j]? = some x ∧ ys[j]? = some y ∧ putP (upd H S (.lst (as.map V.ref))) as (xs.zip ys) t = some (.tup [x, y]) := fun j t e => by
    have hj : j < as.length := (List.getElem?_eq_some_iff.mp e).1
    have h1 : xs[j]? = some (xs[j]'(by omega)) := List.getElem?_eq_getElem _
    have h2 : ys[j]? = some (ys[j]'(by omega)) := List.getElem?_eq_getElem _
    exact ⟨_, _, h1, h2, putP_at as _ _ nd j t (_, _) e (List.getElem?_zip_eq_some.mpr ⟨h1, h2⟩)⟩
  refine ⟨putP (upd H S (.lst (as.map V.ref))) as (xs.zip ys), ⟨kp, newS, new, nS, eS, hl, atj⟩, ?_⟩
  refine I.call' (ch := []) rfl ⟨fun b o q _ _ _ => hk b o q, fun b o q _ _ _ => ⟨o.slots, hk b o q⟩, fun b o q n _ => ?_, fun b o q _ => ⟨o, hk b o q⟩, fun b xs q => kp b _ q, fun b o u q => kp b _ q, fun b ps q => ⟨#[], by rw [kp b _ q]; simp⟩⟩ (fun b u q => ?_) I.bare fun b q => by simp at q
  · obtain ⟨z1, z2⟩ := low b o q
    rw [off b z1 z2]
    exact n
  · by_cases hb : b ∈ as
    · obtain ⟨j, hj⟩ := List.mem_iff_getElem?.mp hb
      obtain ⟨x, y, e1, e2, e3⟩ := atj j b hj
      rw [e3] at q
      cases q
      obtain ⟨u, v, f1, f2, f3⟩ := hG.pairs j b hj
      obtain ⟨u', g1, g2⟩ := r1.get e1
      obtain ⟨v', k1, k2⟩ := r2.get e2
      have : u = u' := by
        have : us[j]? = some u := by simpa using f1
        rw [g1] at this
        exact (Option.some.inj this).symm
      subst this
      have : v = v' := by
        have : ws[j]? = some v := by simpa using f2
        rw [k1] at this
        exact (Option.some.inj this).symm
      subst this
      exact ⟨by show 2 ≤ sizeLine; decide, [u, v], .cons g2 (.cons k2 .nil), ⟨_, f3, rfl, _, rfl⟩⟩
    · by_cases hb2 : b = S
      · rw [hb2] at q ⊢
        rw [eS] at q
        cases q
        refine ⟨by rw [List.length_map]; omega, acc.toList, c, by rw [hacc]; exact vals_as as, ?_⟩
        rw [Array.toArray_toList]
        exact hS
      · rw [off b hb hb2] at q
        exact (I.hok b u q).stay (fun d v _ y => hk d v y) (fun d y => kp d _ y) fun d xs y => kp d _ y
variable {e e2 : Expr} {ta : TA} {p zp cpos pos : Pos}
theorem pe_listZip (hc : X.calm = true) (ha : PA X [e, e2] ta) (hg : Gl X "list") (hm : X.mg "list" = none) (hgz : Gl X "zip") (hmz : X.mg "zip" = none)
    (hs : starEach [.Call (.Name "zip" zp) [e, e2] [] cpos] X.env = (false, eval (.Call (.Name "zip" zp) [e, e2] [] cpos) X.env) :: starEach [] X.env := by rfl)
    (hs2 : starEach [e, e2] X.env = (false, eval e X.env) :: starEach [e2] X.env := by rfl) (hpl : (backTo cpos (starEach [e2] X.env)).any (·.1) = false := by rfl) :
    PE X (.Call (.Name "list" p) [.Call (.Name "zip" zp) [e, e2] [] cpos] [] pos) (tListZip X.K ta) := by
  refine ⟨fun pins s σ H Q I hq => wpAny_Call_Name_kw (ld_blt I hg hm PyProof.Rows.boot_list (PyProof.Rows.callWith_type1 ?_ hs rfl))⟩
  rw [hs]
  show wpAny _ _ (spliced ((false, eval (.Call (.Name "zip" zp) [e, e2] [] cpos) X.env) :: backTo pos (starEach [] X.env))) _ _ s
  refine Calls.spliced_cons (Call_ (ld_blt I hgz hmz PyProof.Rows.boot_zip (PyProof.Rows.callWith_type1 (thn (ha.run cpos pins s σ H _ I hq) fun us s1 ⟨vs, H1, I1, r1, q1⟩ => ?_) hs2 hpl)))
  obtain ⟨a, b, xs, ys, ex, hab, hl, q⟩ := q1
  subst ex
  obtain ⟨u1, u2, rfl, rx, ry⟩ := vals2 r1
  cases rx
  cases ry
  have hh := I1.ok.hd hc
  have ap : ∀ {v : Addr} {o : Obj}, s1.heap.get? v = some o → ∀ x ∈ [v], x < s1.heap.objs.size := fun e x hx => by rw [List.mem_singleton.mp hx]; exact Heap.lt_size e
  have fin : ∀ (h1 : Heap) (fp1 fp2 : List Addr) (us ws : List Value) (St1 St2 : Nat → Heap → Prop), xs.length ≤ sizeLine → Vals xs us → Vals ys ws → (∀ c ∈ fp1, c < s1.heap.objs.size) → (∀ c ∈ fp2, c < s1.heap.objs.size) →
      (∀ A : Around, A.handled = none → Draws X.prog X.w A s1.heap.objs.size (s1.heap.objs.size :: fp1) us.toArray.size (fun i v => us.toArray[i]? = some v) St1) → (∀ A : Around, A.handled = none → Draws X.prog X.w A (s1.heap.objs.size + 1) ((s1.heap.objs.size + 1) :: fp2) ws.toArray.size (fun i v => ws.toArray[i]? = some v) St2) →
      IsZip h1 (s1.heap.objs.size + 4) (s1.heap.objs.size + 2) (s1.heap.objs.size + 3) .none → IsTupOf2 h1 (s1.heap.objs.size + 2) (.ref s1.heap.objs.size) (.ref (s1.heap.objs.size + 1)) → IsTupOf2 h1 (s1.heap.objs.size + 3) .none .none → h1.objs.size = s1.heap.objs.size + 5 →
      (∀ c o, s1.heap.get? c = some o → h1.get? c = some o) → St1 0 h1 → St2 0 h1 → wpAny (model X.prog X.w) X.A (call (.type "list") [.ref (s1.heap.objs.size + 4)]) (EP X pins σ Q) X.xe { s1 with heap := h1 } := by
    intro h1 fp1 fp2 us ws St1 St2 hz rv1 rv2 f1 f2 D1 D2 hZ hTI hTO hsz hk st1 st2
    have b1 := rv1.length
    have b2 := rv2.length
    refine zl_call (n := xs.length) (by simp; omega) (zip_sep2 f1 f2) (D1 X.A.in1.in1.in1 hh) (D2 X.A.in1.in1.in1 hh) hz (fun c hc => ?_) (fun c hc => ?_) hZ hTI ⟨_, _, hTO⟩ st1 st2 fun h' tk acc c as hk' hS hl' hG hacc => ?_
    · rw [hsz]
      rcases List.mem_cons.mp hc with e | e
      · rw [e]; exact Nat.lt_add_of_pos_right (by decide)
      · exact Nat.lt_of_lt_of_le (f1 c e) (Nat.le_add_right _ _)
    · rw [hsz]
      rcases List.mem_cons.mp hc with e | e
      · rw [e]; exact Nat.add_lt_add_left (by decide) _
      · exact Nat.lt_of_lt_of_le (f2 c e) (Nat.le_add_right _ _)
    · have nw : ∀ b o, s1.heap.get? b = some o → h'.get? b = some o := fun b o e => hk' b o ⟨Nat.ne_of_lt (Nat.lt_of_lt_of_le (Heap.lt_size e) (Nat.le_add_right _ _)), Nat.ne_of_lt (Heap.lt_size e), Nat.ne_of_lt (Nat.lt_of_lt_of_le (Heap.lt_size e) (Nat.le_add_right _ _)), Nat.ne_of_lt (Nat.lt_of_lt_of_le (Heap.lt_size e) (Nat.le_add_right _ _))⟩ (hk b o e)
      obtain ⟨H', z, J⟩ := zips_laid (tk := tk) I1 (S := h1.objs.size) (by rw [hsz]; exact Nat.le_add_right _ _) hz hl rv1 rv2 nw hS hl' hG hacc
      exact ⟨.ref h1.objs.size, H', J, rfl, q H' _ as z⟩
  have N0 : ∀ c, c < s1.heap.objs.size → c ≠ s1.heap.objs.size ∧ c ≠ s1.heap.objs.size + 1 := fun c hc => ⟨Nat.ne_of_lt hc, by omega⟩
  rcases hab with ⟨h1, h2⟩ | ⟨h1, h2⟩
  · obtain ⟨us, rv1, p1, z1⟩ := I1.tuple h1
    obtain ⟨ws, rv2, p2, _⟩ := I1.tuple h2
    have la : a < s1.heap.objs.size := let ⟨_, e, _⟩ := p1; Heap.lt_size e
    have lb : b < s1.heap.objs.size := let ⟨_, e, _⟩ := p2; Heap.lt_size e
    refine zip_begins2 (begins_tuple a us.toArray) (begins_tuple b ws.toArray) p1 p2 fun h' hZ hTI hTO o1 o2 hsz hk => ?_
    refine Calls.spliced_nil ?_
    exact fin h' [a] [b] us ws _ _ z1 rv1 rv2 (by simpa using la) (by simpa using lb) (fun A hA => Draws.tuple hA _ a (N0 a la).1 us.toArray) (fun A hA => Draws.tuple hA _ b (N0 b lb).2 ws.toArray) hZ hTI hTO hsz hk ⟨⟨_, o1, rfl, rfl⟩, (let ⟨o, e, r⟩ := p1; ⟨o, hk _ o e, r⟩)⟩ ⟨⟨_, o2, rfl, rfl⟩, (let ⟨o, e, r⟩ := p2; ⟨o, hk _ o e, r⟩)⟩
  · obtain ⟨us, rv1, p1, z1⟩ := I1.list h1
    obtain ⟨ws, rv2, p2, _⟩ := I1.list h2
    refine zip_begins2 (begins_list a us.toArray) (begins_list b ws.toArray) p1.isList p2.isList fun h' hZ hTI hTO o1 o2 hsz hk => ?_
    refine Calls.spliced_nil ?_
    exact fin h' [a] [b] us ws _ _ z1 rv1 rv2 (by simpa using p1.lt) (by simpa using p2.lt) (fun A hA => Draws.list hA _ a (N0 a p1.lt).1 us.toArray) (fun A hA => Draws.list hA _ b (N0 b p2.lt).2 ws.toArray) hZ hTI hTO hsz hk ⟨⟨_, o1, rfl, rfl⟩, p1.isList.at fun o e => hk _ o e⟩ ⟨⟨_, o2, rfl, rfl⟩, p2.isList.at fun o e => hk _ o e⟩
end
end Lz

set_option Elab.async false
set_option linter.all false
set_option maxRecDepth 100000
set_option maxHeartbeats 4000000
/-! name = {k: v for ..} as a statement; its reading over a walk -/
namespace Sd
open PySem PySem.Spec PyProof.Rows L2
section
variable {X : Cx}
theorem ps_setDc {i : Nat} {y : Str} {py : Pos} {kx vx tg iter : Expr} {ifs : List Expr} {scope : Scope} {own : List (Str × Nat)} {pos spos : Pos} {wi : TI} {g : TG} {tt : TT} {tk tv : TE} (hc : X.calm = true) (hN : X.N.Nodup) (hy : X.N[i]? = some y) (hyl : X.env.scope.names.lookup y = some .local)
    (hsw : swapsWith (.DictComp kx vx [⟨tg, iter, ifs, 0⟩] scope pos) (some (.Name y py)) spos.line X.env = pure true) (hi : PI X tg iter wi) (ok : BlkOk X.N X.env.scope scope own)
    (hg : ∀ (s : Shared) (H : Hp) (C : Addr) (cl : List (Str × Addr)) (fp : List Addr), PG (X.blk s H scope (compEnvC scope cl C X.env) fp) tg g) (ht : ∀ (s : Shared) (H : Hp) (C : Addr) (cl : List (Str × Addr)) (fp : List Addr), PTs (X.blk s H scope (compEnvC scope cl C X.env) fp) ifs tt)
    (hk : ∀ (s : Shared) (H : Hp) (C : Addr) (cl : List (Str × Addr)) (fp : List Addr), PE (X.blk s H scope (compEnvC scope cl C X.env) fp) kx tk) (he : ∀ (s : Shared) (H : Hp) (C : Addr) (cl : List (Str × Addr)) (fp : List Addr), PE (X.blk s H scope (compEnvC scope cl C X.env) fp) vx tv)
    (hs : ∀ x, foldedSetIterable iter X.env x = pure x := by intro _; rfl) : PS X (.Assign [.Name y py] (.DictComp kx vx [⟨tg, iter, ifs, 0⟩] scope pos) spos) (tAsg (tDc wi g tt tk tv (own.map (·.2))) (gName i)) := by
  refine ⟨fun pins s σ H D I h => ?_⟩
  rw [exec_Assign_Name_used _ _ _ _ hsw]; refine wpAny_bind (wpAny_standAt (wpAny_bind ?_))
  show wpAny _ X.A (do let _ ← comprehension (.DictComp kx vx [⟨tg, iter, ifs, 0⟩] scope pos) scope X.env (firstIterPos [⟨tg, iter, ifs, 0⟩] pos) newDict false (eval iter X.env) (some (assign (.Name y py) X.env))) _ _ s
  have h : tDc wi g tt tk tv (own.map (·.2)) σ H (fun x H1 => gName i x σ H1 D.nx) := h
  refine wpAny_bind (thn (dc_core (Qf := fun _ s' => SP X pins D .next s') hc hN I hi ok hg ht hk he hs h fun L C s' m H' I' q hn f => ?_) fun _ s' hq => wpAny_pure (wpAny_pure hq))
  (show wpAny _ _ (assign (.Name y py) X.env (.ref L)) _ _ _); refine wpAny_assign_Name (store_ok2 (v := V.ref L) I' hN hy (.inl hyl) rfl (fun s2 I2 ⟨a, sb, ha⟩ => ?_) (.inr hyl))
  obtain ⟨f0, f1, f2, f3, f4, f5⟩ := f
  have hne : C ≠ a := ha.elim (fun z => by rw [z]; exact f1) fun z e => f4 y a z e.symm
  exact ⟨m, hn.sameBut sb hne, fun h3 sb3 => ⟨_, H', I2.turned (t' := s2.toks) (fun b o hb e => (sb3.2 b hb).trans e) f0 f1 f3 f4 f5, q⟩⟩
theorem sw_trueD {kx vx : Expr} {gs : List Comprehension} {scope : Scope} {pos py : Pos} {y : Str} {l : Nat} {env : Env} (hk : env.scope.kind = .function) (hy : env.scope.names.lookup y = some .local) (hl : (py.line == pos.line) = true)
    (ha : (scope.names.any fun (n, k) => n == y && (k == .local || k == .cell)) = false) : swapsWith (.DictComp kx vx gs scope pos) (some (.Name y py)) l env = pure true := by
  have ky : env.kindOf y = some .local := hy
  have hb : env.blockKind = .function := by unfold Env.blockKind; rw [hk]; rfl
  unfold swapsWith
  simp only [hb, ky, ha, Expr.pos, hl]; rfl
end
/-- over anything that is walked -/
theorem dc_it {J : It} {n : Nat} {G : Hp → Prop} {Y : Nat → Hp → V → Hp → Prop} (w : Walk J n G Y) {g : TG} {tt : TT} {tk tv : TE} {vs : List Nat} {σ : L2.St} {H1 : Hp} {D : Addr} {Qd : Hp → Prop} (Pv : Nat → Hp → Prop) (h0 : Pv 0 (upd H1 D (.dK []))) (hG : ∀ i H, i ≤ n → Pv i H → G H)
    (hs : ∀ i x H H', i < n → Pv i H → Y i H x H' → g x (wipe σ vs) H' fun σ2 H2 => wipe σ2 vs = wipe σ vs ∧ tt σ2 H2 fun b H3 =>
      if b = true then tk σ2 H3 fun y H4 => tv σ2 H4 fun z H5 => ∃ kvs k, y = kV k ∧ H5 D = some (.dK kvs) ∧ kvs.length < sizeLine ∧ Pv (i + 1) (upd H5 D (.dK (putK kvs k z))) else Pv (i + 1) H3) (hd : ∀ H, Pv n H → Qd H) :
    ∃ W : Nat → Nat → Hp → Prop, (∃ m, W 0 m (upd H1 D (.dK []))) ∧ ∀ i m H, W i m H →
      (J.stop i H ∧ Qd H) ∨ (J.go i H ∧ ∃ Nx : Hp → Prop, (∀ H', Nx H' → ∃ m', m' < m ∧ W (i + 1) m' H') ∧ ∀ x H', J.yld i H x H' → g x (wipe σ vs) H' fun σ2 H2 => wipe σ2 vs = wipe σ vs ∧ tt σ2 H2 fun b H3 =>
        if b = true then tk σ2 H3 fun y H4 => tv σ2 H4 fun z H5 => ∃ kvs k, y = kV k ∧ H5 D = some (.dK kvs) ∧ kvs.length < sizeLine ∧ Nx (upd H5 D (.dK (putK kvs k z))) else Nx H3) := by
  refine ⟨fun i m H => m = n - i ∧ i ≤ n ∧ Pv i H, ⟨n, (Nat.sub_zero n).symm, Nat.zero_le _, h0⟩, ?_⟩
  rintro i m H ⟨rfl, hi, p⟩
  rcases Nat.lt_or_ge i n with lt | ge
  · exact .inr ⟨w.goes i H lt (hG i H hi p), Pv (i + 1), fun H' p' => ⟨n - (i + 1), by omega, rfl, lt, p'⟩, fun x H' y => hs i x H H' lt p (w.yields i H x H' lt (hG i H hi p) y)⟩
  · have e : i = n := by omega
    subst e
    exact .inl ⟨w.stops H (hG i H hi p), hd H p⟩
end Sd

set_option Elab.async false
set_option linter.all false
set_option maxRecDepth 100000
set_option maxHeartbeats 4000000
/-! data as the program's equal goes through it -/
namespace Dq
open PySem PySem.Spec PyProof.Rows L2
inductive DV (OB : Type) where
  | non
  | bl (b : Bool)
  | int (i : Int)
  | str (s : Str)
  | ob (o : OB)
  | tup (l : List (DV OB))
  | lst (l : List (DV OB))
  | map (ks : List Str) (l : List (DV OB))
/-- objects with an own ==: where one stands, its class, what == answers of two of one class -/
structure Obs (OB : Type) where
  At : Hp → OB → V → Prop
  cls : OB → Addr
  eq : OB → OB → Bool
  K : PySem.W.Frag
variable {OB : Type}
mutual
def Dv (O : Obs OB) (H : Hp) : DV OB → V → Prop
  | .non, v => v = .non
  | .bl b, v => v = .bl b
  | .int i, v => v = .int i
  | .str s, v => v = .str s
  | .ob o, v => O.At H o v
  | .tup l, v => ∃ a us, v = .ref a ∧ SqT O.K H a us ∧ DvL O H l us
  | .lst l, v => ∃ a us, v = .ref a ∧ H a = some (.lst us) ∧ DvL O H l us
  | .map ks l, v => ∃ a kvs, v = .ref a ∧ H a = some (.dK kvs) ∧ ks.Nodup ∧ kvs.map (·.1) = ks.map Sum.inr ∧ DvL O H l (kvs.map (·.2))
def DvL (O : Obs OB) (H : Hp) : List (DV OB) → List V → Prop
  | [], us => us = []
  | x :: l, us => ∃ u us', us = u :: us' ∧ Dv O H x u ∧ DvL O H l us'
end
/-- what is kept at the key -/
def look : List Str → List (DV OB) → Str → Option (DV OB)
  | k :: ks, x :: l, z => if z = k then some x else look ks l z
  | _, _, _ => none
mutual
def eqD (O : Obs OB) : DV OB → DV OB → Bool
  | .non, .non => true
  | .bl a, .bl b => decide (a = b)
  | .int a, .int b => decide (a = b)
  | .str a, .str b => decide (a = b)
  | .ob a, .ob b => decide (O.cls a = O.cls b) && O.eq a b
  | .tup l, .tup m => eqL O l m
  | .lst l, .lst m => eqL O l m
  | .map ks l, .map js m => decide (ks.length = js.length) && eqM O ks l js m
  | _, _ => false
def eqL (O : Obs OB) : List (DV OB) → List (DV OB) → Bool
  | [], [] => true
  | x :: l, y :: m => eqD O x y && eqL O l m
  | _, _ => false
def eqM (O : Obs OB) (ks : List Str) : List (DV OB) → List Str → List (DV OB) → Bool
  | [], _, _ => true
  | x :: l, js, m => (match ks with | k :: _ => (match look js m k with | some y => eqD O x y | none => false) | [] => true) && eqM O (ks.drop 1) l js m
end
mutual
/-- how many pairs the way through a value can have at most -/
def wt : DV OB → Nat
  | .tup l => 1 + wtL l
  | .lst l => 1 + wtL l
  | .map ks l => 1 + ks.length + wtL l
  | _ => 1
def wtL : List (DV OB) → Nat
  | [] => 0
  | x :: l => wt x + wtL l
end
end Dq

set_option Elab.async false
set_option linter.all false
set_option maxRecDepth 100000
set_option maxHeartbeats 4000000
namespace Dq
open PySem PySem.Spec PyProof.Rows L2
structure ObsOk {OB : Type} (K : PySem.W.Frag) (O : Obs OB) : Prop where
  keep : ∀ {H H' : Hp} {o : OB} {v : V}, Same H H' → O.At H o v → O.At H' o v
  ins : ∀ {H : Hp} {o : OB} {v : V}, O.At H o v → ∃ a dx fs, v = .ref a ∧ H a = some (.ins (O.cls o) dx fs)
  insC : ∀ o, C8.InsC K (O.cls o)
  kT : ∀ o T, T ∈ ["list", "dict", "tuple"] → PySem.W.kitOne K (.ref (O.cls o)) (.type T) = some false
  makes : ∀ o, PySem.W.makesIn K (O.cls o) = true
  kk : O.K = K
/-- a tuple that is read stays -/
theorem SqT.same {K : PySem.W.Frag} {H H' : Hp} {a : Addr} {xs : List V} (h : SqT K H a xs) (e : Same H H') : SqT K H' a xs :=
  h.elim (fun h => .inl (h.elim (fun h => .inl (e _ _ h)) fun ⟨o, h⟩ => .inr ⟨o, e _ _ h⟩)) fun h => .inr h
theorem SqT.tyx {K : PySem.W.Frag} {H : Hp} {a : Addr} {xs : List V} (h : SqT K H a xs) : TyX K H (.ref a) (.type "tuple") := by
  rcases h with (h | ⟨o, h⟩) | ⟨o, its, n, hk, hc, _⟩
  · exact .base (.tup h)
  · exact .fTuple h
  · exact .kTuple hk hc
variable {OB : Type} {O : Obs OB} {K : PySem.W.Frag}
mutual
theorem Dv.keep (ok : ObsOk K O) {H H' : Hp} (k : Same H H') : ∀ (x : DV OB) (v : V), Dv O H x v → Dv O H' x v
  | .non, _, h => h
  | .bl _, _, h => h
  | .int _, _, h => h
  | .str _, _, h => h
  | .ob _, _, h => ok.keep k h
  | .tup l, _, ⟨a, us, e, h, p⟩ => ⟨a, us, e, SqT.same h k, DvL.keep ok k l us p⟩
  | .lst l, _, ⟨a, us, e, h, p⟩ => ⟨a, us, e, k _ _ h, DvL.keep ok k l us p⟩
  | .map _ l, _, ⟨a, kvs, e, h, nd, hk, p⟩ => ⟨a, kvs, e, k _ _ h, nd, hk, DvL.keep ok k l _ p⟩
theorem DvL.keep (ok : ObsOk K O) {H H' : Hp} (k : Same H H') : ∀ (l : List (DV OB)) (us : List V), DvL O H l us → DvL O H' l us
  | [], _, h => h
  | x :: l, _, ⟨u, us, e, h, p⟩ => ⟨u, us, e, Dv.keep ok k x u h, DvL.keep ok k l us p⟩
end
theorem DvL.len {H : Hp} : ∀ {l : List (DV OB)} {us : List V}, DvL O H l us → us.length = l.length
  | [], _, h => by cases h; rfl
  | x :: l, _, ⟨u, us, e, _, p⟩ => by subst e; exact congrArg (· + 1) (DvL.len p)
theorem DvL.at {H : Hp} : ∀ {l : List (DV OB)} {us : List V}, DvL O H l us → ∀ {i : Nat} {x : DV OB} {u : V}, l[i]? = some x → us[i]? = some u → Dv O H x u
  | [], _, h, i, x, u, e, _ => by cases e
  | y :: l, _, ⟨w, us, rfl, h, p⟩, 0, x, u, e, f => by cases e; cases f; exact h
  | y :: l, _, ⟨w, us, rfl, h, p⟩, i + 1, x, u, e, f => DvL.at (l := l) p (i := i) (by simpa using e) (by simpa using f)
/-- a value's class -/
def tyD (O : Obs OB) : DV OB → V
  | .non => .ty "NoneType"
  | .bl _ => .ty "bool"
  | .int _ => .ty "int"
  | .str _ => .ty "str"
  | .ob o => .ref (O.cls o)
  | .tup _ => .ty "tuple"
  | .lst _ => .ty "list"
  | .map _ _ => .ty "dict"
def tyU (O : Obs OB) : DV OB → Value
  | .non => .type "NoneType"
  | .bl _ => .type "bool"
  | .int _ => .type "int"
  | .str _ => .type "str"
  | .ob o => .ref (O.cls o)
  | .tup _ => .type "tuple"
  | .lst _ => .type "list"
  | .map _ _ => .type "dict"
def isSeq : DV OB → Bool
  | .tup _ => true
  | .lst _ => true
  | _ => false
def isMap : DV OB → Bool
  | .map _ _ => true
  | _ => false
theorem Dv.ty (ok : ObsOk K O) {H : Hp} {x : DV OB} {v : V} (h : Dv O H x v) : TyX K H v (tyU O x) := by
  cases x with
  | non => cases h; exact .base .non
  | bl b => cases h; exact .base (.bl b)
  | int i => cases h; exact .base (.int i)
  | str s => cases h; exact .base (.str s)
  | ob o =>
    obtain ⟨a, dx, fs, rfl, e⟩ := ok.ins h
    have U := ok.insC o
    exact .base (.ins e U.cl U.ha U.hn U.htk U.hm)
  | tup l => obtain ⟨a, us, rfl, e, _⟩ := h; exact SqT.tyx (ok.kk ▸ e)
  | lst l => obtain ⟨a, us, rfl, e, _⟩ := h; exact .base (.lst e)
  | map ks l => obtain ⟨a, us, rfl, e, _⟩ := h; exact .base (.dK e)
theorem kit_tab2 : ∀ a ∈ ["NoneType", "bool", "int", "str", "tuple", "list", "dict"], ∀ T ∈ ["list", "dict", "tuple"], kitB a T = some (a == T) := by decide +kernel
theorem kit_one (ok : ObsOk K O) (x : DV OB) {T : String} (hT : T ∈ ["list", "dict", "tuple"]) : PySem.W.kitOne K (tyU O x) (.type T) = some (decide (tyD O x = .ty T)) := by
  have go : ∀ a, a ∈ ["NoneType", "bool", "int", "str", "tuple", "list", "dict"] → PySem.W.kitOne K (.type a) (.type T) = some (decide (V.ty a = V.ty T)) := fun a ha => by
    have e : (a == T) = decide (V.ty a = V.ty T) := by rw [Bool.eq_iff_iff]; simp
    rw [← e]
    exact kit_ty (kit_tab2 a ha T hT)
  cases x with
  | ob o => simpa [tyU, tyD] using ok.kT o T hT
  | _ => exact go _ (by simp)
theorem kit_seq (ok : ObsOk K O) (x : DV OB) : PySem.W.kitAny K (tyU O x) [.type "tuple", .type "list"] = some (isSeq x) := by
  unfold PySem.W.kitAny
  rw [kit_one ok x (by simp)]
  unfold PySem.W.kitAny
  rw [kit_one ok x (by simp)]
  cases x <;> simp [tyD, isSeq, PySem.W.kitAny]
section
variable {X : Cx}
theorem call_isTL (ok : ObsOk X.K O) : CallR X (.builtin "isinstance") (fun xs H Q => ∃ v tp x, xs = [v, .ref tp] ∧ H tp = some (.tup [.ty "tuple", .ty "list"]) ∧ Dv O H x v ∧ Q (.bl (isSeq x)) H) := fun pins s σ H xs us Q I r ⟨v, tp, x, e, ht, h, q⟩ =>
  call_isiT pins s σ H xs us Q I r ⟨v, tp, _, tyU O x, [.type "tuple", .type "list"], isSeq x, e, ht, .cons (.ty _) (.cons (.ty _) .nil), h.ty ok, kit_seq ok x, q⟩
theorem call_isD (ok : ObsOk X.K O) : CallR X (.builtin "isinstance") (fun xs H Q => ∃ v x, xs = [v, .ty "dict"] ∧ Dv O H x v ∧ Q (.bl (isMap x)) H) := fun pins s σ H xs us Q I r ⟨v, x, e, h, q⟩ => by
  have : decide (tyD O x = .ty "dict") = isMap x := by cases x <;> simp [tyD, isMap]
  exact call_isi pins s σ H xs us Q I r ⟨v, .ty "dict", tyU O x, .type "dict", isMap x, e, .ty "dict", h.ty ok, by rw [← this]; exact kit_one ok x (by simp), q⟩
/-- type(x) -/
theorem call_tyD (ok : ObsOk X.K O) : CallR X (.type "type") (fun xs H Q => ∃ v x, xs = [v] ∧ Dv O H x v ∧ Q (tyD O x) H) := fun pins s σ H xs us Q I r ⟨v, x, e, h, q⟩ => by
  have go : ∀ T, TyB X.K H v T → tyD O x = .ty T → wpAny (model X.prog X.w) X.A (call (.type "type") us) (EP X pins σ Q) X.xe s := fun T t e2 => by
    rw [e2] at q
    exact call_type1 pins s σ H xs us Q I r ⟨v, T, e, t, q⟩
  cases x with
  | non => cases h; exact go _ .non rfl
  | bl b => cases h; exact go _ (.bl b) rfl
  | int i => cases h; exact go _ (.int i) rfl
  | str s => cases h; exact go _ (.str s) rfl
  | ob o =>
    obtain ⟨a, dx, fs, e3, ea⟩ := ok.ins h
    subst e3
    exact cr_type pins s σ H xs us Q I r ⟨a, _, dx, fs, e, ea, q⟩
  | tup l => obtain ⟨a, us, rfl, ea, _⟩ := h; exact go _ (.tup (ok.kk ▸ ea)) rfl
  | lst l => obtain ⟨a, us, rfl, ea, _⟩ := h; exact go _ (.lst (SqL.of ea)) rfl
  | map ks l => obtain ⟨a, us, rfl, ea, _⟩ := h; exact go _ (.dK ea) rfl
/-- of two classes: is -/
theorem op_isD (ok : ObsOk X.K O) : OpR X (compareOp .Is) (fun a b H Q => ∃ x y : DV OB, a = tyD O x ∧ b = tyD O y ∧ Q (.bl (decide (tyD O x = tyD O y))) H) := by
  intro pins s σ H a b v u Q I rx ry h
  obtain ⟨x, y, ea, eb, q⟩ := h
  have cl : ∀ z : DV OB, (∃ T, tyD O z = .ty T) ∨ ∃ o, tyD O z = .ref (O.cls o) := fun z => by
    cases z with
    | ob o => exact .inr ⟨o, rfl⟩
    | _ => exact .inl ⟨_, rfl⟩
  rcases cl x with ⟨T, e1⟩ | ⟨o, e1⟩ <;> rcases cl y with ⟨T', e2⟩ | ⟨o', e2⟩
  · rw [e1, e2] at q
    refine op_isTyB pins s σ H a b v u Q I rx ry ⟨T, T', ea.trans e1, eb.trans e2, ?_⟩
    have : decide (V.ty T = V.ty T') = decide (T = T') := by rw [Bool.eq_iff_iff]; simp
    rwa [this] at q
  · rw [e1, e2] at q
    have e3 := ea.trans e1
    have e4 := eb.trans e2
    subst e3 e4
    cases (show v = Value.type T from rx)
    cases (show u = Value.ref _ from ry)
    exact wpAny_is_other rfl (fun z => by cases z) ⟨.bl false, H, I, rfl, by simpa using q⟩
  · rw [e1, e2] at q
    have e3 := ea.trans e1
    have e4 := eb.trans e2
    subst e3 e4
    cases (show v = Value.ref _ from rx)
    cases (show u = Value.type T' from ry)
    exact wpAny_is_other rfl (fun z => by cases z) ⟨.bl false, H, I, rfl, by simpa using q⟩
  · rw [e1, e2] at q
    refine op_is_cls pins s σ H a b v u Q I rx ry ⟨_, _, ea.trans e1, eb.trans e2, .inr ⟨ok.makes o, ok.makes o'⟩, ?_⟩
    have : decide (V.ref (O.cls o) = V.ref (O.cls o')) = decide (O.cls o = O.cls o') := by rw [Bool.eq_iff_iff]; simp
    rwa [this] at q
/-- x == y of two objects of one class -/
def rOb (O : Obs OB) : R2 := fun x y H Q => ∃ a b, O.At H a x ∧ O.At H b y ∧ O.cls a = O.cls b ∧ ∀ H', Same H H' → Q (.bl (O.eq a b)) H'
/-- == of what is neither a tuple, a list nor a dict -/
theorem op_leaf (hu : X.A.units + 64 < cLine) (oe : OpR X (compareOp .Eq) (rOb O)) : OpR X (compareOp .Eq) (fun a b H Q => ∃ x y : DV OB, Dv O H x a ∧ Dv O H y b ∧ tyD O x = tyD O y ∧ isSeq x = false ∧ isMap x = false ∧ ∀ H', Same H H' → Q (.bl (eqD O x y)) H') := by
  intro pins s σ H a b v u Q I rx ry h
  obtain ⟨x, y, hx, hy, et, q1, q2, q⟩ := h
  have sca : ∀ a0 b0 : V, a = a0 → b = b0 → scal a0 b0 = true → decide (a0 = b0) = eqD O x y → wpAny (model X.prog X.w) X.A (compareOp .Eq v u) (EP X pins σ Q) X.xe s := fun a0 b0 e1 e2 sd e3 => by
    subst e1 e2
    refine op_eq pins s σ H a b v u Q I rx ry ⟨sd, ?_⟩
    rw [e3]
    exact q H (Same.refl H)
  cases x with
  | non =>
    cases y <;> simp [tyD] at et
    have q0 := q H (Same.refl H)
    rw [eqD] at q0
    exact op_eqD hu pins s σ H a b v u Q I rx ry ⟨.none, .none, by rw [show a = .non from hx]; exact .non, by rw [show b = .non from hy]; exact .non, rfl, rfl, q0⟩
  | bl c =>
    cases y <;> simp [tyD] at et
    rename_i d
    exact sca (.bl c) (.bl d) hx hy rfl (by simp [eqD])
  | int c =>
    cases y <;> simp [tyD] at et
    rename_i d
    exact sca (.int c) (.int d) hx hy rfl (by simp [eqD])
  | str c =>
    cases y <;> simp [tyD] at et
    rename_i d
    exact sca (.str c) (.str d) hx hy rfl (by simp [eqD])
  | ob o =>
    cases y <;> simp [tyD] at et
    rename_i o'
    have e : eqD O (.ob o) (.ob o') = O.eq o o' := by rw [eqD, decide_eq_true et]; rfl
    rw [e] at q
    exact oe pins s σ H a b v u Q I rx ry ⟨o, o', hx, hy, et, q⟩
  | tup l => cases q1
  | lst l => cases q1
  | map ks l => cases q2
end
end Dq

set_option Elab.async false
set_option linter.all false
set_option maxRecDepth 100000
set_option maxHeartbeats 4000000
namespace Dq
open PySem PySem.Spec PyProof.Rows L2
abbrev sPod : Stmt := Pf.top 2
/-- what two dicts are held against each other by -/
def podP : List (Key × V) → List (Key × V) → List (V × V)
  | [], _ => []
  | p :: ks, ls => (kV p.1, kV p.1) :: (p.2, (valV ls p.1).getD .non) :: podP ks ls
theorem podP_len : ∀ ks ls, (podP ks ls).length = 2 * ks.length
  | [], _ => rfl
  | _ :: ks, ls => by
    show (podP ks ls).length + 1 + 1 = 2 * (ks.length + 1)
    rw [podP_len ks ls]
    omega
theorem podP_snoc (p : Key × V) : ∀ ks ls, podP (ks ++ [p]) ls = podP ks ls ++ [(kV p.1, kV p.1), (p.2, (valV ls p.1).getD .non)]
  | [], _ => rfl
  | q :: ks, ls => by
    show _ :: _ :: podP (ks ++ [p]) ls = _
    rw [podP_snoc p ks ls]
    rfl
/-- the pairs stand in the list at D -/
def PrsAt (H : Hp) (D : Addr) (ps : List (V × V)) : Prop := ∃ ts : List Addr, H D = some (.lst (ts.map V.ref)) ∧ ts.length = ps.length ∧ ∀ (j : Nat) (t : Addr) (p : V × V), ts[j]? = some t → ps[j]? = some p → H t = some (.tup [p.1, p.2])
def spPod : Sp := fun vs H Q _ => ∃ (a b : Addr) (ks ls : List (Key × V)), vs = [.ref a, .ref b] ∧ H a = some (.dK ks) ∧ H b = some (.dK ls) ∧ (ks.map (·.1)).Nodup ∧ ks.length ≤ 100000 ∧ ls.length ≤ 100000 ∧
  ((ks.length ≠ ls.length ∨ ∃ p ∈ ks, valV ls p.1 = none) → ∀ H', Same H H' → Q .non H') ∧
  (ks.length = ls.length → (∀ p ∈ ks, valV ls p.1 ≠ none) → ∀ D H', Same H H' → H D = none → PrsAt H' D (podP ks ls) → Q (.ref D) H')
abbrev NPod : List Str := ["one", "other", "theirs", "pairs", "key"]
theorem scPod : FnScope NPod ["one", "other"] (defScope sPod) := ⟨rfl, rfl, rfl, by decide +kernel, rfl, by decide +kernel, by decide +kernel⟩
theorem find_at : ∀ {ks : List (Key × V)} {i : Nat} {k : Key} {v : V}, (ks.map (·.1)).Nodup → ks[i]? = some (k, v) → valV ks k = some v
  | [], _, _, _, _, h => by simp at h
  | p :: ks, 0, k, v, _, h => by
    simp only [List.getElem?_cons_zero, Option.some.injEq] at h
    subst h
    exact valV_pos rfl
  | p :: ks, i + 1, k, v, nd, h => by
    have h' : ks[i]? = some (k, v) := by simpa using h
    have nd' := List.nodup_cons.mp nd
    rw [valV_neg fun e => nd'.1 (by show p.1 ∈ _; rw [e]; exact List.mem_map.mpr ⟨(k, v), List.mem_of_getElem? h', rfl⟩)]
    exact find_at nd'.2 h'
theorem take_succ' {α : Type} {l : List α} {i : Nat} {x : α} (h : l[i]? = some x) : l.take (i + 1) = l.take i ++ [x] := by
  rw [List.take_add_one, h]
  rfl
structure TxtE (mg : Str → Option Value) : Prop where
  len : mg "len" = none
  list : mg "list" = none
  zip : mg "zip" = none
  type : mg "type" = none
  tuple : mg "tuple" = none
  dict : mg "dict" = none
  isi : mg "isinstance" = none
section
variable {P : Program} {w : World} {K : PySem.W.Frag} {mg : Str → Option Value} {base : Heap}
theorem ok_pod {f : Addr} {fd : FuncData} (F : Fun K "_pairs_of_dicts" "_pairs_of_dicts" sPod f fd) (T : TxtE mg) : FnOk P w K mg base CX0 1 f fd ["one", "other"] spPod := by
  refine F.ok scPod (fun vs H Q E h => ?_) (fun cdv A outer s H vs Q E hr h => ?_)
  · obtain ⟨a, b, ks, ls, rfl, _⟩ := h
    rfl
  · obtain ⟨a, b, ks, ls, rfl, ha, hb, nd, zk, zl, qn, qy⟩ := h
    have hu := hu_of hr
    refine ⟨_, (pss_cons (ps_if (pt_cmpR op_ne (pe_callB call_lenD (by rfl) T.len PySem.boot_len (pa_cons (pv 0) pa_nil)) (pe_callB call_lenD (by rfl) T.len PySem.boot_len (pa_cons (pv 1) pa_nil)) (nomark _)) (pss_one (ps_ret pe_non)) pss_nil)
      (pss_cons (ps_lock (Sd.ps_setDc (i := 2) (own := [("key", 4)]) (g := gName 4) (tt := tYes) rfl scPod.nd rfl rfl (Sd.sw_trueD rfl rfl rfl (by decide +kernel)) (pi_keys (pv 1)) (blkOk_by (N := NPod) (sc := defScope sPod) (by decide +kernel)) (fun _ _ _ _ _ => pg_name (i := 4) scPod.nd rfl (Or.inl rfl)) (fun _ _ _ _ _ => pts_nil) (fun _ _ _ _ _ => pv 4) (fun _ _ _ _ _ => pv 4)))
      (pss_cons (ps_set (i := 3) scPod.nd rfl (Or.inl rfl) (pe_lst pa_nil))
      (pss_cons (ps_lock (ps_for PassesOwn.never rfl (pi_keys (pv 0)) (pg_name (i := 4) scPod.nd rfl (Or.inl rfl))
        (pss_cons (ps_if (pt_cmp (pc_dnotin hu (pv 4) (pv 2))) (pss_one (ps_ret pe_non)) pss_nil)
        (pss_cons (ps_expr (pe_bm PySem.F.plainAttrs_list PySem.F.slot_list_append PySem.F.type_list_append mt_append (pv 3) (pa_cons (pe_tup (pa_cons (pv 4) (pa_cons (pe_dget hu (pv 2) (pv 4) (fun _ _ => rfl)) pa_nil))) pa_nil)))
        (pss_one (ps_expr (pe_bm PySem.F.plainAttrs_list PySem.F.slot_list_append PySem.F.type_list_append mt_append (pv 3) (pa_cons (pe_tup (pa_cons (pe_dget hu (pv 0) (pv 4) (fun _ _ => rfl)) (pa_cons (pe_dget hu (pv 1) (pv 4) (fun _ _ => rfl)) pa_nil))) pa_nil))))))))
      (pss_one (ps_ret (pv 3))))))), ?_⟩
    refine ⟨_, rfl, a, ks, rfl, ha, _, rfl, b, ls, rfl, hb, rfl, _, rfl, ?_⟩
    by_cases el : ks.length = ls.length
    case neg =>
      refine Vl.iteC (by simp; omega) ?_
      exact qn (.inl el) H (Same.refl H)
    refine Vl.iteN (by simp [el]) ?_
    refine ⟨b, .dK ls, hb, True.intro, fun ob => ⟨_, rfl, b, ob, rfl, .inl ⟨ls, upd_same, fun TH hTH => ?_⟩⟩⟩
    have nTb : TH ≠ b := fun e => by rw [e, upd_same] at hTH; cases hTH
    have hTH0 : H TH = none := by rwa [upd_ne nTb] at hTH
    refine Sd.dc_it (walk_keys (d := b) (o := ob) (kvs := ls)) (fun i H' => (H' b = some (.frz ob (.dK ls)) ∧ ∀ c o, c ≠ b → H c = some o → H' c = some o) ∧ ∃ ts, H' TH = some (.dK ts) ∧ ts.length ≤ i ∧ ∀ k, valV ts k = if valV (ls.take i) k = none then none else some (kV k))
      ⟨⟨(upd_ne (Ne.symm nTb)).trans upd_same, fun c o n e => (upd_ne (ne_of_none e hTH0)).trans ((upd_ne n).trans e)⟩, [], upd_same, Nat.le_refl _, fun k => by simp [valV]⟩ (fun i H' _ h => h.1.1) (fun i x H2 H3 hi h y => ?_) (fun H2 h => ?_)
    · obtain ⟨⟨e1, e2⟩, ts, e3, e4, e5⟩ := h
      obtain ⟨rfl, k, v, e6, rfl⟩ := y
      refine ⟨rfl, _, rfl, _, rfl, ts, k, rfl, e3, Nat.lt_of_le_of_lt (Nat.le_trans e4 (Nat.le_trans (Nat.le_of_lt hi) zl)) (by decide), ⟨(upd_ne (Ne.symm nTb)).trans e1, fun c o n e => (upd_ne (ne_of_none e hTH0)).trans (e2 c o n e)⟩, _, upd_same, Nat.le_trans (length_putK _ _ _) (by omega), fun k2 => ?_⟩
      rw [valV_put, e5, take_succ' e6]
      by_cases q : k2 = k
      · subst q
        have : valV (ls.take i ++ [(k2, v)]) k2 ≠ none := by
          unfold valV
          simp
        rw [if_pos rfl, if_neg this]
      · rw [if_neg q]
        have : valV (ls.take i ++ [(k, v)]) k2 = valV (ls.take i) k2 := by
          unfold valV
          rw [List.find?_append]
          have : List.find? (fun kv => decide (kv.1 = k2)) [(k, v)] = none := by simpa using fun e => q e.symm
          rw [this]
          simp
        rw [this]
    obtain ⟨⟨e1, e2⟩, ts, e3, e4, e5⟩ := h
    rw [List.take_length] at e5
    refine ⟨e1, Nat.zero_le _, fun D hD => ?_⟩
    have s1 : Same H (upd H2 b (.dK ls)) := fun c o e => by
      by_cases n : c = b
      · subst n
        rw [hb] at e
        cases e
        exact upd_same
      · exact (upd_ne n).trans (e2 c o n e)
    have t1 : (upd H2 b (.dK ls)) TH = some (.dK ts) := (upd_ne nTb).trans e3
    generalize (upd H2 b (.dK ls)) = H4 at s1 t1 hD
    have hD0 : H D = none := by
      cases e : H D with
      | none => rfl
      | some o => rw [s1 D o e] at hD; cases hD
    have nDa : D ≠ a := fun e => by rw [e, ha] at hD0; cases hD0
    have nDT : D ≠ TH := fun e => by rw [e, t1] at hD; cases hD
    have nTa : TH ≠ a := fun e => by rw [e, ha] at hTH0; cases hTH0
    have a5 : upd H4 D (.lst []) a = some (.dK ks) := (upd_ne (Ne.symm nDa)).trans (s1 _ _ ha)
    refine ⟨a, .dK ks, a5, True.intro, fun oa => ⟨_, rfl, a, oa, rfl, .inl ⟨ks, upd_same, ?_⟩⟩⟩
    refine for_it (walk_keys (d := a) (o := oa) (kvs := ks)) (fun i σ H' => (∃ w, σ = [some (.ref a), some (.ref b), some (.ref TH), some (.ref D), w]) ∧ (H' a = some (.frz oa (.dK ks)) ∧ ∀ c o, c ≠ a → H c = some o → H' c = some o) ∧ H' TH = some (.dK ts) ∧
        PrsAt H' D (podP (ks.take i) ls) ∧ ∀ p ∈ ks.take i, valV ls p.1 ≠ none)
      ⟨⟨_, rfl⟩, ⟨upd_same, fun c o n e => (upd_ne n).trans ((upd_ne (ne_of_none e hD0)).trans (s1 _ _ e))⟩, (upd_ne nTa).trans ((upd_ne (Ne.symm nDT)).trans t1), ⟨[], (upd_ne nDa).trans upd_same, rfl, fun j t p h => by simp at h⟩, fun p h => by simp at h⟩ (fun i σ H' _ h => h.2.1.1) (fun i x σ H0 H' hi h y => ?_) (fun σ H' h => ?_)
    · obtain ⟨⟨w4, rfl⟩, ⟨f1, f2⟩, f3, ⟨tl, g1, g2, g3⟩, f4⟩ := h
      obtain ⟨rfl, k, v, e6, rfl⟩ := y
      have hTh : DGet H' TH (kV k) (valV ts k) := DGet.k f3
      refine ⟨_, rfl, _, rfl, TH, _, rfl, hTh, _, rfl, ?_⟩
      have es : valV ts k = if valV ls k = none then none else some (kV k) := e5 k
      by_cases no : valV ls k = none
      · rw [if_pos no] at es
        rw [es]
        refine Vl.iteC rfl ⟨f1, ?_⟩
        refine qn (.inr ⟨(k, v), List.mem_of_getElem? e6, no⟩) _ fun c o e => ?_
        by_cases n : c = a
        · subst n
          rw [ha] at e
          cases e
          exact upd_same
        · exact (upd_ne n).trans (f2 c o n e)
      · rw [if_neg no] at es
        rw [es]
        refine Vl.iteN rfl ?_
        obtain ⟨v2, ev2⟩ : ∃ v2, valV ls k = some v2 := by
          cases e : valV ls k with
          | none => exact absurd e no
          | some v2 => exact ⟨v2, rfl⟩
        have nDt : ∀ t o, H' t = some o → (∀ xs, o ≠ .lst xs) → t ≠ D := fun t o e n q => by
          rw [q, g1] at e
          cases e
          exact n _ rfl
        have l2 : tl.length ≤ 200000 := by
          rw [g2, podP_len]
          have := List.length_take_le i ks
          omega
        refine ⟨_, rfl, .inl ⟨rfl, _, SqL.of g1⟩, _, rfl, _, rfl, _, rfl, TH, kV k, rfl, es ▸ hTh, by show 2 ≤ sizeLine; decide, fun t1 ht1 => ?_⟩
        have n1D : t1 ≠ D := fun e => by rw [e, g1] at ht1; cases ht1
        have n1a : t1 ≠ a := fun e => by rw [e, f1] at ht1; cases ht1
        have n1T : t1 ≠ TH := fun e => by rw [e, f3] at ht1; cases ht1
        have g1' : upd H' t1 (.tup [kV k, kV k]) D = some (.lst (tl.map V.ref)) := (upd_ne (Ne.symm n1D)).trans g1
        refine ⟨D, _, _, rfl, rfl, g1', by rw [List.length_map]; exact Nat.lt_of_le_of_lt l2 (by decide), ?_⟩
        generalize hH5 : upd (upd H' t1 (.tup [kV k, kV k])) D (.lst (tl.map V.ref ++ [.ref t1])) = H5
        have k5 : ∀ c o, c ≠ D → H' c = some o → H5 c = some o := fun c o n e => by rw [← hH5, upd_ne n, upd_ne (ne_of_none e ht1)]; exact e
        have d5 : H5 D = some (.lst (tl.map V.ref ++ [.ref t1])) := by rw [← hH5]; exact upd_same
        have t5 : H5 t1 = some (.tup [kV k, kV k]) := by rw [← hH5, upd_ne n1D]; exact upd_same
        clear hH5
        refine ⟨_, rfl, .inl ⟨rfl, _, SqL.of d5⟩, _, rfl, _, rfl, a, v, rfl, .inl ⟨ks, k, .inr ⟨oa, k5 _ _ (Ne.symm nDa) f1⟩, rfl, (find_at nd e6).symm⟩, _, rfl, _, rfl, b, v2, rfl, .inl ⟨ls, k, ?_, rfl, ev2.symm⟩, by show 2 ≤ sizeLine; decide, fun t2 ht2 => ?_⟩
        · by_cases n : b = a
          · subst n
            rw [ha] at hb
            cases hb
            exact .inr ⟨oa, k5 _ _ (Ne.symm nDa) f1⟩
          · have hbD : b ≠ D := fun e => by rw [← e, hb] at hD0; cases hD0
            exact .inl (k5 _ _ hbD (f2 b _ n hb))
        have n2D : t2 ≠ D := fun e => by rw [e, d5] at ht2; cases ht2
        refine ⟨D, _, _, rfl, rfl, (upd_ne (Ne.symm n2D)).trans d5, by rw [List.length_append, List.length_map]; exact Nat.lt_of_le_of_lt (show tl.length + 1 ≤ 200001 by omega) (by decide), ?_⟩
        have k6 : ∀ c o, c ≠ D → H5 c = some o → upd (upd H5 t2 (.tup [v, v2])) D (.lst (tl.map V.ref ++ [.ref t1] ++ [.ref t2])) c = some o := fun c o n e => by rw [upd_ne n, upd_ne (ne_of_none e ht2)]; exact e
        have ea : a ≠ D := Ne.symm nDa
        refine ⟨⟨_, rfl⟩, ⟨k6 _ _ ea (k5 _ _ ea f1), fun c o n e => ?_⟩, k6 _ _ (Ne.symm nDT) (k5 _ _ (Ne.symm nDT) f3), ?_, ?_⟩
        · have nD : c ≠ D := fun q => by rw [q, hD0] at e; cases e
          exact k6 c o nD (k5 c o nD (f2 c o n e))
        · refine ⟨tl ++ [t1, t2], by rw [upd_same]; simp, ?_, fun j t p ej ep => ?_⟩
          · rw [take_succ' e6, podP_snoc, List.length_append, List.length_append, g2]
            rfl
          · rw [take_succ' e6, podP_snoc] at ep
            by_cases lt : j < tl.length
            · rw [List.getElem?_append_left lt] at ej
              rw [List.getElem?_append_left (by omega)] at ep
              have := g3 j t p ej ep
              have nD := nDt t _ this fun xs z => by cases z
              exact k6 t _ nD (k5 t _ nD this)
            · rw [List.getElem?_append_right (by omega)] at ej
              rw [List.getElem?_append_right (by omega), ← g2] at ep
              generalize j - tl.length = m at ej ep
              match m with
              | 0 =>
                simp at ej ep
                subst ej ep
                exact k6 _ _ n1D t5
              | 1 =>
                simp at ej ep
                subst ej ep
                rw [upd_ne n2D, upd_same, ev2]
                rfl
              | n + 2 => simp at ej
        · intro p hp
          rw [take_succ' e6] at hp
          rcases List.mem_append.mp hp with hp | hp
          · exact f4 p hp
          · rw [List.mem_singleton.mp hp]
            exact no
    · obtain ⟨⟨w4, rfl⟩, ⟨f1, f2⟩, f3, pr, f4⟩ := h
      rw [List.take_length] at pr f4
      refine ⟨f1, _, rfl, ?_⟩
      refine qy el f4 D _ (fun c o e => ?_) hD0 ?_
      · by_cases n : c = a
        · subst n
          rw [ha] at e
          cases e
          exact upd_same
        · exact (upd_ne n).trans (f2 c o n e)
      · obtain ⟨tl, g1, g2, g3⟩ := pr
        refine ⟨tl, (upd_ne nDa).trans g1, g2, fun j t p ej ep => ?_⟩
        have := g3 j t p ej ep
        rw [upd_ne fun q => by rw [q, f1] at this; cases this]
        exact this
end
end Dq

set_option Elab.async false
set_option linter.all false
set_option maxRecDepth 100000
set_option maxHeartbeats 4000000
/-! the mathematics of equal -/
namespace Dq
open PySem PySem.Spec PyProof.Rows L2
variable {OB : Type} {O : Obs OB} {K : PySem.W.Frag}
def wts (ps : List (DV OB × DV OB)) : Nat := (ps.map fun p => wt p.1).sum
theorem wts_app (a b : List (DV OB × DV OB)) : wts (a ++ b) = wts a + wts b := by simp [wts]
theorem wt_pos (x : DV OB) : 1 ≤ wt x := by
  cases x <;> simp [wt] <;> omega
theorem wts_len : ∀ ps : List (DV OB × DV OB), ps.length ≤ wts ps
  | [] => Nat.le_refl _
  | p :: ps => by
    have := wts_len ps
    have := wt_pos p.1
    simp only [wts, List.map_cons, List.sum_cons, List.length_cons] at *
    omega
theorem wts_zip : ∀ (l m : List (DV OB)), l.length = m.length → wts (l.zip m) = wtL l
  | [], [], _ => rfl
  | x :: l, y :: m, h => by
    have := wts_zip l m (Nat.succ.inj h)
    simp only [wts, List.zip_cons_cons, List.map_cons, List.sum_cons, wtL] at *
    omega
  | [], _ :: _, h => by cases h
  | _ :: _, [], h => by cases h
theorem wtL_mem : ∀ {l : List (DV OB)} {x : DV OB}, x ∈ l → wt x ≤ wtL l
  | y :: l, x, h => by
    rw [wtL]
    rcases List.mem_cons.mp h with rfl | h
    · omega
    · have := wtL_mem h
      omega
theorem eqD_ty : ∀ (x y : DV OB), tyD O x ≠ tyD O y → eqD O x y = false := fun x y h => by
  cases x <;> cases y <;> simp [tyD, eqD] at h ⊢
  exact fun e => absurd e h
theorem eqL_len : ∀ (l m : List (DV OB)), l.length ≠ m.length → eqL O l m = false
  | [], [], h => absurd rfl h
  | [], _ :: _, _ => by simp [eqL]
  | _ :: _, [], _ => by simp [eqL]
  | x :: l, y :: m, h => by
    rw [eqL, eqL_len l m fun e => h (by simp [e]), Bool.and_false]
theorem eqL_zip : ∀ (l m : List (DV OB)), l.length = m.length → eqL O l m = (l.zip m).all fun p => eqD O p.1 p.2
  | [], [], _ => by simp [eqL]
  | x :: l, y :: m, h => by
    rw [eqL, eqL_zip l m (Nat.succ.inj h)]
    rfl
  | [], _ :: _, h => by cases h
  | _ :: _, [], h => by cases h
/-- the pairs of two maps -/
def pm (js : List Str) (m : List (DV OB)) : List Str → List (DV OB) → List (DV OB × DV OB)
  | k :: ks, x :: l => (.str k, .str k) :: (x, (look js m k).getD .non) :: pm js m ks l
  | _, _ => []
theorem pm_len (js : List Str) (m : List (DV OB)) : ∀ (ks : List Str) (l : List (DV OB)), ks.length = l.length → (pm js m ks l).length = 2 * ks.length
  | [], [], _ => rfl
  | k :: ks, x :: l, h => by
    have := pm_len js m ks l (Nat.succ.inj h)
    show (pm js m ks l).length + 1 + 1 = 2 * (ks.length + 1)
    omega
  | [], _ :: _, h => by cases h
  | _ :: _, [], h => by cases h
theorem pm_wts (js : List Str) (m : List (DV OB)) : ∀ (ks : List Str) (l : List (DV OB)), ks.length = l.length → wts (pm js m ks l) = ks.length + wtL l
  | [], [], _ => rfl
  | k :: ks, x :: l, h => by
    have := pm_wts js m ks l (Nat.succ.inj h)
    have e : wts (pm js m (k :: ks) (x :: l)) = 1 + (wt x + wts (pm js m ks l)) := by simp [pm, wts, wt]
    rw [e, wtL, List.length_cons]
    omega
  | [], _ :: _, h => by cases h
  | _ :: _, [], h => by cases h
theorem look_mem : ∀ {js : List Str} {m : List (DV OB)} {k : Str} {y : DV OB}, look js m k = some y → y ∈ m
  | j :: js, x :: m, k, y, h => by
    rw [look] at h
    split at h
    · cases h
      exact List.mem_cons_self
    · exact List.mem_cons_of_mem _ (look_mem h)
  | [], _, _, _, h => by simp [look] at h
  | _ :: _, [], _, _, h => by simp [look] at h
theorem pm_snd {N : Nat} (hN : 1 ≤ N) (js : List Str) (m : List (DV OB)) (hm : wtL m ≤ N) : ∀ (ks : List Str) (l : List (DV OB)), ∀ p ∈ pm js m ks l, wt p.2 ≤ N
  | [], _, p, h => by simp [pm] at h
  | _ :: _, [], p, h => by simp [pm] at h
  | k :: ks, x :: l, p, h => by
    rw [pm] at h
    rcases List.mem_cons.mp h with rfl | h
    · exact hN
    · rcases List.mem_cons.mp h with rfl | h
      · cases e : look js m k with
        | none => exact hN
        | some y => exact Nat.le_trans (wtL_mem (look_mem e)) hm
      · exact pm_snd hN js m hm ks l p h
theorem eqM_pm (js : List Str) (m : List (DV OB)) : ∀ (ks : List Str) (l : List (DV OB)), ks.length = l.length → (∀ k ∈ ks, look js m k ≠ none) → eqM O ks l js m = (pm js m ks l).all fun p => eqD O p.1 p.2
  | [], [], _, _ => by simp [eqM, pm]
  | k :: ks, x :: l, h, hk => by
    have ih := eqM_pm js m ks l (Nat.succ.inj h) fun k' h' => hk k' (List.mem_cons_of_mem _ h')
    cases e : look js m k with
    | none => exact absurd e (hk k List.mem_cons_self)
    | some y => simp [eqM, pm, e, ih, eqD]
  | [], _ :: _, h, _ => by cases h
  | _ :: _, [], h, _ => by cases h
theorem eqM_no (js : List Str) (m : List (DV OB)) : ∀ (ks : List Str) (l : List (DV OB)), ks.length = l.length → (∃ k ∈ ks, look js m k = none) → eqM O ks l js m = false
  | [], [], _, ⟨k, h, _⟩ => by cases h
  | k :: ks, x :: l, h, ⟨z, hz, e⟩ => by
    rcases List.mem_cons.mp hz with rfl | hz
    · simp [eqM, e]
    · have ih := eqM_no js m ks l (Nat.succ.inj h) ⟨z, hz, e⟩
      simp [eqM, ih]
  | [], _ :: _, h, _ => by cases h
  | _ :: _, [], h, _ => by cases h
theorem look_val {H : Hp} {k : Str} : ∀ {js : List Str} {m : List (DV OB)} {ls : List (Key × V)}, ls.map (·.1) = js.map Sum.inr → DvL O H m (ls.map (·.2)) → (look js m k = none ∧ valV ls (.inr k) = none) ∨ ∃ y v, look js m k = some y ∧ valV ls (.inr k) = some v ∧ Dv O H y v
  | [], m, [], _, _ => .inl ⟨by simp [look], rfl⟩
  | [], _, _ :: _, h, _ => by cases h
  | _ :: _, _, [], h, _ => by cases h
  | j :: js, [], q :: ls, _, h => by cases h
  | j :: js, x :: m, q :: ls, h, ⟨u, us, e, hu, hp⟩ => by
    simp only [List.map_cons, List.cons.injEq] at h e
    obtain ⟨h1, h2⟩ := h
    obtain ⟨e1, e2⟩ := e
    subst e1
    by_cases z : k = j
    · subst z
      exact .inr ⟨x, q.2, by simp [look], valV_pos h1, hu⟩
    · have nq : ¬ q.1 = Sum.inr k := fun e => z (by rw [h1] at e; exact (Sum.inr.inj e).symm)
      rw [look, if_neg z, valV_neg nq]
      exact look_val h2 (e2 ▸ hp)
theorem pm_at {H : Hp} {js : List Str} {m : List (DV OB)} {ls : List (Key × V)} (hj : ls.map (·.1) = js.map Sum.inr) (hm : DvL O H m (ls.map (·.2))) : ∀ {ks : List Str} {l : List (DV OB)} {kvs : List (Key × V)}, kvs.map (·.1) = ks.map Sum.inr → DvL O H l (kvs.map (·.2)) →
    ∀ (j : Nat) (p : DV OB × DV OB) (q : V × V), (pm js m ks l)[j]? = some p → (podP kvs ls)[j]? = some q → (∀ k ∈ ks, look js m k ≠ none) → Dv O H p.1 q.1 ∧ Dv O H p.2 q.2
  | [], _, _, _, _, j, p, q, h, _, _ => by simp [pm] at h
  | _ :: _, [], _, _, _, j, p, q, h, _, _ => by simp [pm] at h
  | _ :: _, _ :: _, [], h, _, _, _, _, _, _, _ => by cases h
  | k :: ks, x :: l, r :: kvs, h, ⟨u, us, e, hu, hp⟩, j, p, q, g1, g2, hk => by
    simp only [List.map_cons, List.cons.injEq] at h e
    obtain ⟨h1, h2⟩ := h
    obtain ⟨e1, e2⟩ := e
    subst e1
    rw [pm] at g1
    rw [podP] at g2
    match j with
    | 0 =>
      simp only [List.getElem?_cons_zero, Option.some.injEq] at g1 g2
      subst g1 g2
      have e : kV r.1 = V.str k := by
        show kV (r.1) = _
        rw [h1]
        rfl
      rw [e]
      exact ⟨rfl, rfl⟩
    | 1 =>
      simp only [List.getElem?_cons_succ, List.getElem?_cons_zero, Option.some.injEq] at g1 g2
      subst g1 g2
      refine ⟨hu, ?_⟩
      rcases look_val (k := k) hj hm with ⟨a, _⟩ | ⟨y, v, a, b, c⟩
      · exact absurd a (hk k List.mem_cons_self)
      · rw [show (r.1 : Key) = Sum.inr k from h1, a, b]
        exact c
    | j + 2 =>
      simp only [List.getElem?_cons_succ] at g1 g2
      exact pm_at hj hm h2 (e2 ▸ hp) j p q g1 g2 fun k' h' => hk k' (List.mem_cons_of_mem _ h')
/-- two rows of one sort -/
theorem seqs (ok : ObsOk K O) {H : Hp} {x y : DV OB} {v u : V} (hx : Dv O H x v) (hy : Dv O H y u) (et : tyD O x = tyD O y) (hs : isSeq x = true) : ∃ a b us ws l m, v = .ref a ∧ u = .ref b ∧ ((SqT K H a us ∧ SqT K H b ws) ∨ (H a = some (.lst us) ∧ H b = some (.lst ws))) ∧ DvL O H l us ∧ DvL O H m ws ∧ eqD O x y = eqL O l m ∧ wt x = 1 + wtL l ∧ wt y = 1 + wtL m := by
  cases x <;> cases y <;> simp [tyD, isSeq] at et hs
  · obtain ⟨a, us, rfl, ha, p⟩ := hx
    obtain ⟨b, ws, rfl, hb, q⟩ := hy
    exact ⟨a, b, us, ws, _, _, rfl, rfl, .inl ⟨ok.kk ▸ ha, ok.kk ▸ hb⟩, p, q, by rw [eqD], by rw [wt], by rw [wt]⟩
  · obtain ⟨a, us, rfl, ha, p⟩ := hx
    obtain ⟨b, ws, rfl, hb, q⟩ := hy
    exact ⟨a, b, us, ws, _, _, rfl, rfl, .inr ⟨ha, hb⟩, p, q, by rw [eqD], by rw [wt], by rw [wt]⟩
end Dq

set_option Elab.async false
set_option linter.all false
set_option maxRecDepth 100000
set_option maxHeartbeats 4000000
/-! the program's equal -/
namespace Dq
open PySem PySem.Spec PyProof.Rows L2
abbrev sEqual : Stmt := Pf.top 1
def spEqual {OB : Type} (O : Obs OB) : Sp := fun vs H Q _ => ∃ (v u : V) (x y : DV OB), vs = [v, u] ∧ Dv O H x v ∧ Dv O H y u ∧ wt x ≤ 90000 ∧ wt y ≤ 90000 ∧ ∀ H', Same H H' → Q (.bl (eqD O x y)) H'
abbrev NEqual : List Str := ["one", "other", "waiting", "left", "right", "pairs"]
theorem scEqual : FnScope NEqual ["one", "other"] (defScope sEqual) := ⟨rfl, rfl, rfl, by decide +kernel, rfl, by decide +kernel, by decide +kernel⟩
/-- the own == of the objects, called by equal -/
structure ObEq {OB : Type} (P : Program) (w : World) (K : PySem.W.Frag) (mg : Str → Option Value) (base : Heap) (k : Nat) (O : Obs OB) : Prop where
  op : ∀ {X : Cx}, X.prog = P → X.w = w → X.K = K → X.mg = mg → X.base = base → Room k X.A → OpR X (compareOp .Eq) (rOb O)
/-- the pairs that wait in the list at W -/
structure Wait {OB : Type} (O : Obs OB) (H H' : Hp) (W : Addr) (N : Nat) (ts : List Addr) (ps : List (DV OB × DV OB)) : Prop where
  same : Same H H'
  new : H W = none
  lst : H' W = some (.lst (ts.map V.ref))
  len : ts.length = ps.length
  at_ : ∀ (j : Nat) (t : Addr) (p : DV OB × DV OB), ts[j]? = some t → ps[j]? = some p → ∃ a b, H' t = some (.tup [a, b]) ∧ Dv O H p.1 a ∧ Dv O H p.2 b
  wt1 : wts ps ≤ N
  wt2 : ∀ p ∈ ps, wt p.2 ≤ N
theorem Wait.put {OB : Type} {O : Obs OB} {H H2 H5 : Hp} {W : Addr} {N : Nat} {ts t5 : List Addr} {ps p5 : List (DV OB × DV OB)} (x : Wait O H H2 W N ts ps) (k : Same H2 H5) (hl : t5.length = p5.length) (ha : ∀ (j : Nat) (t : Addr) (p : DV OB × DV OB), t5[j]? = some t → p5[j]? = some p → ∃ a b, H5 t = some (.tup [a, b]) ∧ Dv O H p.1 a ∧ Dv O H p.2 b)
    (h1 : wts ps + wts p5 ≤ N) (h2 : ∀ p ∈ p5, wt p.2 ≤ N) : Wait O H (upd H5 W (.lst (ts.map V.ref ++ t5.map V.ref))) W N (ts ++ t5) (ps ++ p5) := by
  have nW : ∀ t o, H5 t = some o → (∀ xs, o ≠ .lst xs) → upd H5 W (.lst (ts.map V.ref ++ t5.map V.ref)) t = some o := fun t o e n => by
    rw [upd_ne fun q => by
      rw [q, k _ _ x.lst] at e
      cases e
      exact n _ rfl]
    exact e
  refine ⟨fun c o e => ?_, x.new, by rw [upd_same, List.map_append], by rw [List.length_append, List.length_append, x.len, hl], fun j t p ej ep => ?_, by rw [wts_app]; exact h1, fun p hp => ?_⟩
  · rw [upd_ne fun q => by rw [q, x.new] at e; cases e]
    exact k _ _ (x.same _ _ e)
  · by_cases lt : j < ts.length
    · rw [List.getElem?_append_left lt] at ej
      rw [List.getElem?_append_left (by rw [← x.len]; exact lt)] at ep
      obtain ⟨a, b, e1, e2⟩ := x.at_ j t p ej ep
      exact ⟨a, b, nW _ _ (k _ _ e1) (fun _ z => by cases z), e2⟩
    · have ge : ts.length ≤ j := Nat.le_of_not_lt lt
      rw [List.getElem?_append_right ge] at ej
      rw [List.getElem?_append_right (by rw [← x.len]; exact ge), ← x.len] at ep
      obtain ⟨a, b, e1, e2⟩ := ha _ t p ej ep
      exact ⟨a, b, nW _ _ e1 (fun _ z => by cases z), e2⟩
  · rcases List.mem_append.mp hp with hp | hp
    · exact x.wt2 p hp
    · exact h2 p hp
section
variable {OB : Type} {O : Obs OB} {P : Program} {w : World} {K : PySem.W.Frag} {mg : Str → Option Value} {base : Heap}
theorem ok_equal {n : Nat} (hn : 1 ≤ n) {f fP : Addr} {fd fdP : FuncData} (F : Fun K "equal" "equal" sEqual f fd) (T : TxtE mg) (ok : ObsOk K O) (oe : ObEq P w K mg base n O) (DP : Vl.Def P w K mg base 1 "_pairs_of_dicts" fP fdP ["one", "other"] spPod) : FnOk P w K mg base CX0 (n + 1) f fd ["one", "other"] (spEqual O) := by
  refine F.ok scEqual (fun vs H Q E h => ?_) (fun cdv A outer s H vs Q E hr h => ?_)
  · obtain ⟨v, u, x, y, rfl, _⟩ := h
    rfl
  · obtain ⟨v, u, x, y, rfl, hx, hy, wx, wy, k⟩ := h
    refine ⟨_, (pss_cons (ps_set (i := 2) scEqual.nd rfl (Or.inl rfl) (pe_lst (pa_cons (pe_tup (pa_cons (pv 0) (pa_cons (pv 1) pa_nil))) pa_nil)))
      (pss_cons (ps_while PassesOwn.never (pt_truth (pv 2) (by intro _; rfl))
        (pss_cons (ps_asg (pe_bm0 PySem.F.plainAttrs_list PySem.F.slot_list_pop PySem.F.type_list_pop mt_pop (pv 2)) (pg_tup rfl (pgs_cons (pg_name (i := 3) scEqual.nd rfl (Or.inl rfl)) (pgs_cons (pg_name (i := 4) scEqual.nd rfl (Or.inl rfl)) pgs_nil))))
        (pss_cons (ps_if (pt_not (pt_cmpR (op_isD ok) (pe_callTy (call_tyD ok) (by rfl) T.type (by decide +kernel) (pa_cons (pv 3) pa_nil)) (pe_callTy (call_tyD ok) (by rfl) T.type (by decide +kernel) (pa_cons (pv 4) pa_nil)) (nomark _))) (pss_one (ps_ret pe_bl)) pss_nil)
        (pss_one (ps_if (pt_val (pe_callB (call_isTL ok) (by rfl) T.isi (by decide +kernel) (pa_cons (pv 3) (pa_cons (pe_tup (pa_cons (pe_bltn (v := .ty "tuple") (by rfl) T.tuple (by decide +kernel) rfl) (pa_cons (pe_bltn (v := .ty "list") (by rfl) T.list (by decide +kernel) rfl) pa_nil))) pa_nil))))
          (pss_cons (ps_if (pt_cmpR op_ne (pe_callB call_len_seq (by rfl) T.len PySem.boot_len (pa_cons (pv 3) pa_nil)) (pe_callB call_len_seq (by rfl) T.len PySem.boot_len (pa_cons (pv 4) pa_nil)) (nomark _)) (pss_one (ps_ret pe_bl)) pss_nil)
          (pss_one (ps_expr (pe_bm PySem.F.plainAttrs_list PySem.F.slot_list_extend PySem.F.type_list_extend mt_extend (pv 2) (pa_cons (Lz.pe_listZip rfl (pa_cons (pv 3) (pa_cons (pv 4) pa_nil)) (by rfl) T.list (by rfl) T.zip) pa_nil)))))
          (pss_one (ps_if (pt_val (pe_callB (call_isD ok) (by rfl) T.isi (by decide +kernel) (pa_cons (pv 3) (pa_cons (pe_bltn (v := .ty "dict") (by rfl) T.dict (by decide +kernel) rfl) pa_nil))))
            (pss_cons (ps_set (i := 5) scEqual.nd rfl (Or.inl rfl) (pe_call DP.ok (hr.mono hn) rfl DP.g DP.kp DP.b .nil pass0 (pa_cons (pv 3) (pa_cons (pv 4) pa_nil))))
            (pss_cons (ps_if (pt_cmpR op_isN (pv 5) pe_non (nomark _)) (pss_one (ps_ret pe_bl)) pss_nil)
            (pss_one (ps_expr (pe_bm PySem.F.plainAttrs_list PySem.F.slot_list_extend PySem.F.type_list_extend mt_extend (pv 2) (pa_cons (pv 5) pa_nil))))))
            (pss_one (ps_if (pt_not (pt_cmpR (op_leaf hr.units (oe.op rfl rfl rfl rfl rfl hr)) (pv 3) (pv 4) (nomark _))) (pss_one (ps_ret pe_bl)) pss_nil)))))))))
      (pss_one (ps_ret pe_bl)))), ?_⟩
    have fin : ∀ H', Same H H' → ∀ b, eqD O x y = b → Q (.bl b) H' := fun H' k' b e => e ▸ k H' k'
    refine ⟨_, rfl, _, rfl, by show 2 ≤ sizeLine; decide, fun t ht => ⟨by show 1 ≤ sizeLine; decide, fun W hW => ?_⟩⟩
    have ntW : t ≠ W := fun e => by rw [← e, upd_same] at hW; cases hW
    have hW0 : H W = none := by rwa [upd_ne (Ne.symm ntW)] at hW
    have w0 : Wait O H (upd (upd H t (.tup [v, u])) W (.lst [.ref t])) W 90000 [t] [(x, y)] := by
      refine ⟨fun c o e => by rw [upd_ne (ne_of_none e hW0), upd_ne (ne_of_none e ht)]; exact e, hW0, upd_same, rfl, fun j t' p ej ep => ?_, by simpa [wts] using wx, fun p hp => by rw [List.mem_singleton.mp hp]; exact wy⟩
      match j with
      | 0 =>
        simp at ej ep
        subst ej ep
        exact ⟨v, u, (upd_ne ntW).trans upd_same, hx, hy⟩
      | j + 1 => simp at ej
    refine ⟨fun m σ H' => ∃ ts ps w3 w4 w5, m = wts ps ∧ σ = [some v, some u, some (.ref W), w3, w4, w5] ∧ Wait O H H' W 90000 ts ps ∧ eqD O x y = ps.all fun p => eqD O p.1 p.2, ⟨_, [t], [(x, y)], _, _, _, rfl, rfl, w0, by simp⟩, ?_⟩
    rintro m σ H' ⟨ts, ps, w3, w4, w5, rfl, rfl, wa, er⟩
    rcases List.eq_nil_or_concat ps with rfl | ⟨ps', p, rfl⟩
    · have e0 : ts = [] := List.eq_nil_of_length_eq_zero wa.len
      subst e0
      refine ⟨_, rfl, false, .inl ⟨_, SqL.of wa.lst, rfl⟩, ?_⟩
      exact fin H' wa.same _ er
    obtain ⟨ts', tl, rfl⟩ : ∃ ts' tl, ts = ts' ++ [tl] := by
      rcases List.eq_nil_or_concat ts with rfl | ⟨a, b, e⟩
      · have := wa.len
        simp at this
      · exact ⟨a, b, e.trans (List.concat_eq_append ..)⟩
    rw [List.concat_eq_append] at *
    have hl' : ts'.length = ps'.length := by
      have := wa.len
      simpa using this
    obtain ⟨a, b, ht2, d1, d2⟩ := wa.at_ ts'.length tl p (by simp) (by rw [hl']; simp)
    have hWl : H' W = some (.lst (ts'.map V.ref ++ [.ref tl])) := by rw [wa.lst]; simp
    refine ⟨_, rfl, true, .inl ⟨_, SqL.of hWl, by simp⟩, fun σ' H2 => ∃ m', m' < wts (ps' ++ [p]) ∧ ∃ ts ps w3 w4 w5, m' = wts ps ∧ σ' = [some v, some u, some (.ref W), w3, w4, w5] ∧ Wait O H H2 W 90000 ts ps ∧ eqD O x y = ps.all fun p => eqD O p.1 p.2, fun σ' H2 h => h, ?_⟩
    refine ⟨_, rfl, .inl ⟨rfl, _, SqL.of hWl⟩, W, _, .ref tl, rfl, rfl, hWl, by simp, ?_⟩
    rw [List.dropLast_concat]
    have ntl : tl ≠ W := fun e => by rw [e, hWl] at ht2; cases ht2
    have er' : eqD O x y = ((ps'.all fun p => eqD O p.1 p.2) && eqD O p.1 p.2) := by rw [er]; simp
    have wp : wts (ps' ++ [p]) = wts ps' + wt p.1 := by rw [wts_app]; simp [wts]
    have wp1 : wts ps' + wt p.1 ≤ 90000 := wp ▸ wa.wt1
    have wp2 : wt p.2 ≤ 90000 := wa.wt2 p (by simp)
    have wb : Wait O H (upd H' W (.lst (ts'.map V.ref))) W 90000 ts' ps' := by
      refine ⟨fun c o e => ?_, wa.new, upd_same, hl', fun j t p ej ep => ?_, by omega, fun p hp => wa.wt2 p (List.mem_append_left _ hp)⟩
      · rw [upd_ne (ne_of_none e wa.new)]
        exact wa.same _ _ e
      · obtain ⟨a, b, e1, e2⟩ := wa.at_ j t p (by rw [List.getElem?_append_left (List.getElem?_eq_some_iff.mp ej).1]; exact ej) (by rw [List.getElem?_append_left (List.getElem?_eq_some_iff.mp ep).1]; exact ep)
        refine ⟨a, b, ?_, e2⟩
        rw [upd_ne fun q => by rw [q, hWl] at e1; cases e1]
        exact e1
    have ht3 : upd H' W (.lst (ts'.map V.ref)) tl = some (.tup [a, b]) := (upd_ne ntl).trans ht2
    clear wa hWl ht2 w0 hW
    generalize upd H' W (.lst (ts'.map V.ref)) = H2 at wb ht3
    refine ⟨tl, _, rfl, SqT.of ht3, rfl, _, _, rfl, _, _, rfl, rfl, ?_⟩
    have D1 := d1.keep ok wb.same
    have D2 := d2.keep ok wb.same
    refine ⟨_, rfl, _, p.1, rfl, D1, _, rfl, _, p.2, rfl, D2, p.1, p.2, rfl, rfl, _, rfl, ?_⟩
    by_cases et : tyD O p.1 = tyD O p.2
    case neg =>
      refine Vl.iteC (by simp [et]) ?_
      exact fin H2 wb.same _ (by rw [er', eqD_ty _ _ et, Bool.and_false])
    refine Vl.iteN (by simp [et]) ?_
    refine ⟨_, rfl, by show 2 ≤ sizeLine; decide, fun tp htp => ⟨_, tp, p.1, rfl, upd_same, D1.keep ok (Vl.sm_upd htp), _, rfl, ?_⟩⟩
    have k3 : Same H2 (upd H2 tp (.tup [.ty "tuple", .ty "list"])) := Vl.sm_upd htp
    have sm3 := Same.trans wb.same k3
    have E1 := d1.keep ok sm3
    have E2 := d2.keep ok sm3
    generalize upd H2 tp (.tup [.ty "tuple", .ty "list"]) = H3 at k3 sm3 E1 E2
    by_cases hs : isSeq p.1 = true
    · refine Vl.iteC hs ?_
      obtain ⟨a', b', us, ws, l, m, rfl, rfl, hab, dl, dm, ee, e1, e2⟩ := seqs ok E1 E2 et hs
      obtain ⟨a2, b2, us2, ws2, l2, m2, ea, eb, hT2, dl2, dm2, ee2, e12, e22⟩ := seqs ok d1 d2 et hs
      cases ea
      cases eb
      have luo := dl2.len
      have lwo := dm2.len
      have hq : ∀ H', Same H H' → ((SqT K H' a' us2 ∧ SqT K H' b' ws2) ∨ (SqL K H' a' us2 ∧ SqL K H' b' ws2)) := fun H' k' => by
        rcases hT2 with ⟨h1, h2⟩ | ⟨h1, h2⟩
        · exact .inl ⟨SqT.same h1 k', SqT.same h2 k'⟩
        · exact .inr ⟨SqL.of (k' _ _ h1), SqL.of (k' _ _ h2)⟩
      have hq3 := hq H3 sm3
      refine ⟨_, rfl, a', us2, rfl, hq3.elim (fun z => .inr z.1) (fun z => .inl z.1), _, rfl, b', ws2, rfl, hq3.elim (fun z => .inr z.2) (fun z => .inl z.2), rfl, _, rfl, ?_⟩
      by_cases le : us2.length = ws2.length
      case neg =>
        refine Vl.iteC (by simp; omega) ?_
        exact fin H3 sm3 _ (by rw [er', ee2, eqL_len l2 m2 (by omega), Bool.and_false])
      refine Vl.iteN (by simp [le]) ?_
      refine ⟨_, rfl, .inl ⟨rfl, _, SqL.of (k3 _ _ wb.lst)⟩, _, rfl, _, rfl, a', b', us2, ws2, rfl, hq3, le, fun H5 D ds z => ?_⟩
      obtain ⟨z1, z2, z3, z4, z5, z6, z7⟩ := z
      have wL : wts (l2.zip m2) = wtL l2 := wts_zip l2 m2 (by omega)
      have lenb := wts_len ps'
      have lenl := wts_len (l2.zip m2)
      have lz : (l2.zip m2).length = l2.length := by rw [List.length_zip]; omega
      refine ⟨W, D, _, _, rfl, rfl, z1 _ _ (k3 _ _ wb.lst), z5, by rw [List.length_map, List.length_map]; exact Nat.le_trans (show ts'.length + ds.length ≤ 90000 by omega) (by decide), ?_⟩
      refine ⟨_, ?_, ts' ++ ds, ps' ++ l2.zip m2, _, _, _, rfl, rfl, wb.put (Same.trans k3 z1) (by omega) (fun j t q ej ep => ?_) (by omega) (fun q hq => ?_), ?_⟩
      · rw [wp, wts_app, wL]
        omega
      · obtain ⟨x0, y0, f1, f2, f3⟩ := z7 j t ej
        obtain ⟨g1, g2⟩ := List.getElem?_zip_eq_some.mp ep
        exact ⟨x0, y0, f3, dl2.at g1 f1, dm2.at g2 f2⟩
      · have := wtL_mem (List.of_mem_zip hq).2
        omega
      · rw [er', ee2, eqL_zip l2 m2 (by omega), List.all_append]
    refine Vl.iteN ((Bool.not_eq_true _).mp hs) ?_
    refine ⟨_, rfl, _, p.1, rfl, E1, _, rfl, ?_⟩
    by_cases hm : isMap p.1 = true
    · refine Vl.iteC hm ?_
      obtain ⟨ks, l, e1⟩ : ∃ ks l, p.1 = .map ks l := by
        cases e : p.1 <;> rw [e] at hm <;> simp [isMap] at hm
        exact ⟨_, _, rfl⟩
      obtain ⟨js, m, e2⟩ : ∃ js m, p.2 = .map js m := by
        rw [e1] at et
        cases e : p.2 <;> rw [e] at et <;> simp [tyD] at et
        exact ⟨_, _, rfl⟩
      rw [e1] at d1
      rw [e2] at d2
      obtain ⟨a1, kvs, rfl, ha, nd, hk, dl⟩ := d1
      obtain ⟨b1, lvs, rfl, hb, nd2, hj, dm⟩ := d2
      have q1 : wt p.1 = 1 + ks.length + wtL l := by rw [e1, wt]
      have q2 : wt p.2 = 1 + js.length + wtL m := by rw [e2, wt]
      have lk : kvs.length = ks.length := by have := congrArg List.length hk; simpa using this
      have lj : lvs.length = js.length := by have := congrArg List.length hj; simpa using this
      have ll : ks.length = l.length := by have := dl.len; rw [List.length_map] at this; omega
      have ee : eqD O p.1 p.2 = (decide (ks.length = js.length) && eqM O ks l js m) := by rw [e1, e2, eqD]
      have ndk : (kvs.map (·.1)).Nodup := by
        rw [hk]
        exact List.Pairwise.map _ (fun a b h z => h (Sum.inr.inj z)) nd
      have mk : ∀ (k : Key), k ∈ kvs.map (·.1) ↔ ∃ z ∈ ks, k = Sum.inr z := fun k => by
        rw [hk]
        simp [eq_comm]
      refine ⟨_, rfl, _, rfl, a1, b1, kvs, lvs, rfl, sm3 _ _ ha, sm3 _ _ hb, ndk, by omega, by omega, fun no H5 k5 => ?_, fun yl yk D H5 k5 hD pr => ?_⟩
      · refine ⟨_, rfl, rfl, _, rfl, Vl.iteC (by simp) ?_⟩
        refine fin H5 (Same.trans sm3 k5) _ ?_
        rw [er', ee]
        rcases no with no | ⟨q, hq, hv⟩
        · rw [decide_eq_false (by omega)]
          simp
        · obtain ⟨z, hz, eq⟩ := (mk q.1).mp (List.mem_map_of_mem (f := (·.1)) hq)
          rcases look_val (O := O) (k := z) hj dm with ⟨c1, _⟩ | ⟨_, _, _, c2, _⟩
          · rw [eqM_no js m ks l ll ⟨z, hz, c1⟩]
            simp
          · rw [eq, c2] at hv
            cases hv
      · refine ⟨_, rfl, rfl, _, rfl, Vl.iteN (by simp) ?_⟩
        have hall : ∀ k ∈ ks, look js m k ≠ none := fun k hk' e => by
          obtain ⟨q, hq, eq⟩ := List.mem_map.mp ((mk (Sum.inr k)).mpr ⟨k, hk', rfl⟩)
          rcases look_val (O := O) (k := k) hj dm with ⟨_, c1⟩ | ⟨_, _, c2, _, _⟩
          · exact yk q hq (by rw [eq]; exact c1)
          · rw [c2] at e
            cases e
        obtain ⟨ds, r1, r2, r3⟩ := pr
        have hW5 := k5 _ _ (k3 _ _ wb.lst)
        have lp := podP_len kvs lvs
        have pl := pm_len js m ks l ll
        have pw := pm_wts js m ks l ll
        have lenb := wts_len ps'
        refine ⟨_, rfl, .inl ⟨rfl, _, SqL.of hW5⟩, _, rfl, W, D, _, _, rfl, rfl, hW5, r1, by rw [List.length_map, List.length_map]; exact Nat.le_trans (show ts'.length + ds.length ≤ 300000 by omega) (by decide), ?_⟩
        refine ⟨_, ?_, ts' ++ ds, ps' ++ pm js m ks l, _, _, _, rfl, rfl, wb.put (Same.trans k3 k5) (by omega) (fun j t q ej ep => ?_) (by omega) (fun q hq => ?_), ?_⟩
        · rw [wp, wts_app, pw]
          omega
        · have hj2 : j < (podP kvs lvs).length := by
            have := (List.getElem?_eq_some_iff.mp ej).1
            omega
          have eq := List.getElem?_eq_getElem hj2
          obtain ⟨c1, c2⟩ := pm_at hj dm hk dl j q _ ep eq hall
          exact ⟨_, _, r3 j t _ ej eq, c1, c2⟩
        · exact pm_snd (by decide) js m (by omega) ks l q hq
        · rw [er', ee, decide_eq_true (by omega), Bool.true_and, eqM_pm js m ks l ll hall, List.all_append]
    refine Vl.iteN ((Bool.not_eq_true _).mp hm) ?_
    refine ⟨_, rfl, _, rfl, p.1, p.2, E1, E2, et, (Bool.not_eq_true _).mp hs, (Bool.not_eq_true _).mp hm, fun H5 k5 => ⟨_, rfl, ?_⟩⟩
    have sm5 := Same.trans sm3 k5
    cases ev : eqD O p.1 p.2 with
    | false => exact fin H5 sm5 _ (by rw [er', ev, Bool.and_false])
    | true =>
      have wpo := wt_pos p.1
      refine ⟨_, ?_, ts', ps', _, _, _, rfl, rfl, ?_, by rw [er', ev, Bool.and_true]⟩
      · rw [wp]
        omega
      · have := wb.put (t5 := []) (p5 := []) (Same.trans k3 k5) rfl (fun j t q ej _ => by simp at ej) (by simpa [wts] using wb.wt1) (fun q hq => by cases hq)
        simp only [List.map_nil, List.append_nil] at this
        have e5 : upd H5 W (.lst (ts'.map V.ref)) = H5 := by
          funext c
          by_cases n : c = W
          · rw [n, upd_same]
            exact (Same.trans k3 k5 _ _ wb.lst).symm
          · exact upd_ne n
        rwa [e5] at this
end
end Dq

set_option Elab.async false
set_option linter.all false
set_option maxRecDepth 100000
set_option maxHeartbeats 4000000
/-! rules with two readings; comprehensions whose turns give what is known -/
namespace Vl
open PySem PySem.Spec PyProof.Rows L2 Dq
theorem SqL.same {K : PySem.W.Frag} {H H' : Hp} {a : Addr} {xs : List V} (h : SqL K H a xs) (e : Same H H') : SqL K H' a xs :=
  h.elim (fun h => .inl (h.elim (fun h => .inl (e _ _ h)) fun ⟨o, h⟩ => .inr ⟨o, e _ _ h⟩)) fun h => .inr h
end Vl
namespace Kd
open PySem PySem.Spec PyProof.Rows L2 Dq Vl
theorem pi_or {X : Cx} {tg l : Expr} {w1 w2 : TI} (h1 : PI X tg l w1) (h2 : PI X tg l w2) : PI X tg l (fun σ H R => w1 σ H R ∨ w2 σ H R) :=
  ⟨fun pins s σ H R I h => h.elim (fun h => h1.run pins s σ H R I h) fun h => h2.run pins s σ H R I h⟩
theorem call_or {X : Cx} {f : Value} {r r' : List V → Hp → VK → Prop} (h : CallR X f r) (h' : CallR X f r') : CallR X f (fun x H Q => r x H Q ∨ r' x H Q) := fun pins s σ H xs us Q I r hh => hh.elim (fun z => h pins s σ H xs us Q I r z) fun z => h' pins s σ H xs us Q I r z
theorem op_or {X : Cx} {op : Value → Value → Sem Value} {r r' : R2} (h : OpR X op r) (h' : OpR X op r') : OpR X op (fun x y H Q => r x y H Q ∨ r' x y H Q) := fun pins s σ H x y v u Q I rx ry hh => hh.elim (fun z => h pins s σ H x y v u Q I rx ry z) fun z => h' pins s σ H x y v u Q I rx ry z
/-- the reading of a comprehension without tests whose turns give out 0, out 1, .. -/
theorem lc_out {J : It} {n : Nat} {G : Hp → Prop} {Y : Nat → Hp → V → Hp → Prop} (w : Walk J n G Y) {g : TG} {te : TE} {vs : List Nat} {σ : L2.St} {H1 : Hp} {D : Addr} {Qd : Hp → Prop} (hD : H1 D = none) (out : Nat → V) (hn : n < sizeLine) (hG : ∀ H, Same H1 H → G H)
    (hs : ∀ i x H H' (N : V → Hp → Prop), i < n → Same H1 H → Y i H x H' → (∀ H4, Same H H4 → N (out i) H4) → g x (wipe σ vs) H' fun σ2 H2 => wipe σ2 vs = wipe σ vs ∧ te σ2 H2 N)
    (hd : ∀ H, Same H1 H → H D = some (.lst ((List.range n).map out)) → Qd H) :
    ∃ W : Nat → Nat → Hp → Prop, (∃ m, W 0 m (upd H1 D (.lst []))) ∧ ∀ i m H, W i m H →
      (J.stop i H ∧ Qd H) ∨ (J.go i H ∧ ∃ Nx : Hp → Prop, (∀ H', Nx H' → ∃ m', m' < m ∧ W (i + 1) m' H') ∧ ∀ x H', J.yld i H x H' → g x (wipe σ vs) H' fun σ2 H2 => wipe σ2 vs = wipe σ vs ∧ tYes σ2 H2 fun b H3 =>
        if b = true then te σ2 H3 fun y H4 => ∃ acc, H4 D = some (.lst acc) ∧ acc.length < sizeLine ∧ Nx (upd H4 D (.lst (acc ++ [y]))) else Nx H3) := by
  refine lc_it w (fun i H => Same H1 H ∧ H D = some (.lst ((List.range i).map out))) ⟨sm_upd hD, upd_same⟩ (fun i H _ h => hG H h.1) (fun i x H H' hi h y => ?_) (fun H h => hd H h.1 h.2)
  have e : ∀ (N : V → Hp → Prop) (M : Hp → Prop), (fun (σ2 : L2.St) (H2 : Hp) => wipe σ2 vs = wipe σ vs ∧ tYes σ2 H2 fun b H3 => if b = true then te σ2 H3 N else M H3) = (fun σ2 H2 => wipe σ2 vs = wipe σ vs ∧ te σ2 H2 N) := fun N M => funext fun σ2 => funext fun H2 => by
    show (_ ∧ (if true = true then te σ2 H2 N else M H2)) = _
    rw [if_pos rfl]
  rw [e]
  refine hs i x H H' _ hi h.1 y fun H4 k => ?_
  refine ⟨_, k _ _ h.2, ?_, ?_, ?_⟩
  · rw [List.length_map, List.length_range]
    omega
  · intro b o eb
    have nb : b ≠ D := fun z => by rw [z, hD] at eb; cases eb
    rw [upd_ne nb]
    exact k b o (h.1 b o eb)
  · rw [upd_same, List.range_succ, List.map_append]
    rfl
theorem range_map {α : Type} {β : Type} (f : α → β) (g : Nat → β) : ∀ (l : List α), (∀ i a, l[i]? = some a → g i = f a) → (List.range l.length).map g = l.map f := fun l h => by
  refine List.ext_getElem? fun i => ?_
  rw [List.getElem?_map, List.getElem?_map]
  by_cases hi : i < l.length
  · rw [List.getElem?_range hi, List.getElem?_eq_getElem hi]
    exact congrArg some (h i _ (List.getElem?_eq_getElem hi))
  · rw [List.getElem?_eq_none (by simpa using hi), List.getElem?_eq_none (by simpa using hi)]
    rfl
end Kd

set_option Elab.async false
set_option linter.all false
set_option maxRecDepth 100000
set_option maxHeartbeats 4000000
/-! what kinds ask of values: names, texts that are different -/
namespace Kd
open PySem PySem.Spec PyProof.Rows L2 Dq Vl
/-- objects that are no text, tuple, bool; od: a dict -/
structure Tw {OB : Type} (K : PySem.W.Frag) (O : Obs OB) (od : OB → Bool) : Prop where
  keep : ∀ {H H' : Hp} {o : OB} {v : V}, Same H H' → O.At H o v → O.At H' o v
  isi : ∀ {H : Hp} {o : OB} {v : V}, O.At H o v → ∃ t, TyX K H v t ∧ ∀ T ∈ ["str", "tuple", "dict", "bool"], PySem.W.kitOne K t (.type T) = some (od o && decide (T = "dict"))
  nn : ∀ {H : Hp} {o : OB} {v : V}, O.At H o v → v ≠ .non
  kk : O.K = K
  dic : ∀ {H : Hp} {o : OB} {v : V}, O.At H o v → od o = true → ∃ (a : Addr) (i : Int) (u : V), v = .ref a ∧ H a = some (.dK [(Sum.inl i, u)])
variable {OB : Type} {O : Obs OB} {od : OB → Bool}
mutual
theorem Tw.dv {K : PySem.W.Frag} (W : Tw K O od) {H H' : Hp} (k : Same H H') : ∀ (x : DV OB) (v : V), Dv O H x v → Dv O H' x v
  | .non, _, h => h
  | .bl _, _, h => h
  | .int _, _, h => h
  | .str _, _, h => h
  | .ob _, _, h => W.keep k h
  | .tup l, _, ⟨a, us, e, h, p⟩ => ⟨a, us, e, SqT.same h k, Tw.dvl W k l us p⟩
  | .lst l, _, ⟨a, us, e, h, p⟩ => ⟨a, us, e, k _ _ h, Tw.dvl W k l us p⟩
  | .map _ l, _, ⟨a, kvs, e, h, nd, hk, p⟩ => ⟨a, kvs, e, k _ _ h, nd, hk, Tw.dvl W k l _ p⟩
theorem Tw.dvl {K : PySem.W.Frag} (W : Tw K O od) {H H' : Hp} (k : Same H H') : ∀ (l : List (DV OB)) (us : List V), DvL O H l us → DvL O H' l us
  | [], _, h => h
  | x :: l, _, ⟨u, us, e, h, p⟩ => ⟨u, us, e, Tw.dv W k x u h, Tw.dvl W k l us p⟩
end
def isT (od : OB → Bool) (T : String) : DV OB → Bool
  | .non => false
  | .bl _ => decide (T = "bool")
  | .int _ => false
  | .str _ => decide (T = "str")
  | .ob o => od o && decide (T = "dict")
  | .tup _ => decide (T = "tuple")
  | .lst _ => false
  | .map _ _ => decide (T = "dict")
theorem kit_tab4 : ∀ a ∈ ["NoneType", "bool", "int", "str", "tuple", "list", "dict"], ∀ T ∈ ["str", "tuple", "dict", "bool"], kitB a T = some (a == T) := by decide +kernel
theorem Tw.tyK {K : PySem.W.Frag} (W : Tw K O od) {H : Hp} {x : DV OB} {v : V} (h : Dv O H x v) : ∃ t, TyX K H v t ∧ ∀ T ∈ ["str", "tuple", "dict", "bool"], PySem.W.kitOne K t (.type T) = some (isT od T x) := by
  have go : ∀ a, a ∈ ["NoneType", "bool", "int", "str", "tuple", "list", "dict"] → ∀ T ∈ ["str", "tuple", "dict", "bool"], PySem.W.kitOne K (.type a) (.type T) = some (a == T) := fun a ha T hT => kit_ty (kit_tab4 a ha T hT)
  have T4 : ∀ {P : String → Prop}, P "str" → P "tuple" → P "dict" → P "bool" → ∀ T ∈ ["str", "tuple", "dict", "bool"], P T := fun a b c d T h => by
    simp only [List.mem_cons, List.not_mem_nil, or_false] at h
    rcases h with rfl | rfl | rfl | rfl <;> assumption
  cases x with
  | non => cases h; exact ⟨_, .base .non, T4 (go "NoneType" (by simp) _ (by simp)) (go "NoneType" (by simp) _ (by simp)) (go "NoneType" (by simp) _ (by simp)) (go "NoneType" (by simp) _ (by simp))⟩
  | bl b => cases h; exact ⟨_, .base (.bl b), T4 (go "bool" (by simp) _ (by simp)) (go "bool" (by simp) _ (by simp)) (go "bool" (by simp) _ (by simp)) (go "bool" (by simp) _ (by simp))⟩
  | int i => cases h; exact ⟨_, .base (.int i), T4 (go "int" (by simp) _ (by simp)) (go "int" (by simp) _ (by simp)) (go "int" (by simp) _ (by simp)) (go "int" (by simp) _ (by simp))⟩
  | str s => cases h; exact ⟨_, .base (.str s), T4 (go "str" (by simp) _ (by simp)) (go "str" (by simp) _ (by simp)) (go "str" (by simp) _ (by simp)) (go "str" (by simp) _ (by simp))⟩
  | ob o => exact W.isi h
  | tup l => obtain ⟨a, us, rfl, e, _⟩ := h; exact ⟨_, SqT.tyx (W.kk ▸ e), T4 (go "tuple" (by simp) _ (by simp)) (go "tuple" (by simp) _ (by simp)) (go "tuple" (by simp) _ (by simp)) (go "tuple" (by simp) _ (by simp))⟩
  | lst l => obtain ⟨a, us, rfl, e, _⟩ := h; exact ⟨_, .base (.lst e), T4 (go "list" (by simp) _ (by simp)) (go "list" (by simp) _ (by simp)) (go "list" (by simp) _ (by simp)) (go "list" (by simp) _ (by simp))⟩
  | map ks l => obtain ⟨a, us, rfl, e, _⟩ := h; exact ⟨_, .base (.dK e), T4 (go "dict" (by simp) _ (by simp)) (go "dict" (by simp) _ (by simp)) (go "dict" (by simp) _ (by simp)) (go "dict" (by simp) _ (by simp))⟩
theorem call_isK {X : Cx} (W : Tw X.K O od) {T : String} (hT : T ∈ ["str", "tuple", "dict", "bool"]) : CallR X (.builtin "isinstance") (fun xs H Q => ∃ v x, xs = [v, .ty T] ∧ Dv O H x v ∧ Q (.bl (isT od T x)) H) := fun pins s σ H xs us Q I r ⟨v, x, e, h, q⟩ => by
  obtain ⟨t, h1, h2⟩ := W.tyK h
  exact call_isi pins s σ H xs us Q I r ⟨v, .ty T, t, .type T, _, e, .ty T, h1, h2 T hT, q⟩
/-! ### is_name, are_unlike, _is_among -/
structure TxtK (mg : Str → Option Value) : Prop where
  isi : mg "isinstance" = none
  str : mg "str" = none
  tuple : mg "tuple" = none
  dict : mg "dict" = none
  bool : mg "bool" = none
  len : mg "len" = none
  all : mg "all" = none
  set : mg "set" = none
  list : mg "list" = none
theorem lt1 (a b : Nat) : decide (([a] : List Nat) < [b]) = decide (a < b) := decide_eq_decide.mpr (by simp [List.cons_lt_cons_iff])
/-- one of a to z -/
def ltr (c : Nat) : Bool := decide (97 ≤ c) && decide (c ≤ 122)
/-- a name -/
def nmS (s : Str) : Bool := decide (1 ≤ s.length) && decide (s.length ≤ 12) && s.cps.toList.all ltr
def nmD : DV OB → Bool
  | .str s => nmS s
  | _ => false
/-- its texts are short -/
def shD : DV OB → Bool
  | .str s => decide (s.length ≤ 1000)
  | _ => true
abbrev sName : Stmt := Pf.top 8
abbrev NName : List Str := ["thing", "letter"]
theorem scName : FnScope NName ["thing"] (defScope sName) := ⟨rfl, rfl, rfl, by decide +kernel, rfl, by decide +kernel, by decide +kernel⟩
/-- of a value a bool is told, nothing that stands is changed -/
def spB (O : Obs OB) (ok f : DV OB → Bool) : Sp := fun vs H Q _ => ∃ v d, vs = [v] ∧ Dv O H d v ∧ ok d = true ∧ ∀ H', Same H H' → Q (.bl (f d)) H'
section
variable {P : Program} {w : World} {K : PySem.W.Frag} {mg : Str → Option Value} {base : Heap}
theorem ok_name {f : Addr} {fd : FuncData} (F : Fun K "is_name" "is_name" sName f fd) (T : TxtK mg) (W : Tw K O od) : FnOk P w K mg base CX0 1 f fd ["thing"] (spB O shD nmD) := by
  refine F.ok scName (fun vs H Q E h => ?_) (fun cdv A outer s H vs Q E hr h => ?_)
  · obtain ⟨v, d, rfl, _⟩ := h
    rfl
  · obtain ⟨v, d, rfl, hd, hs, k⟩ := h
    refine ⟨_, (pss_cons (ps_if (PW.pt (pw_or (pt_not (pt_val (pe_callB (call_isK W (T := "str") (by simp)) (by rfl) T.isi (by decide +kernel) (pa_cons (pv 0) (pa_cons (pe_bltn (v := .ty "str") (by rfl) T.str (by decide +kernel) rfl) pa_nil))))) (pw_or1 (pt_not (pt_chain op_le op_le pe_int (pe_callB call_len_str (by rfl) T.len (by decide +kernel) (pa_cons (pv 0) pa_nil)) pe_int))))) (pss_one (ps_ret pe_bl)) pss_nil)
      (pss_one (ps_ret (pe_callB (cr_all rfl) (by rfl) T.all (by decide +kernel) (pa_cons (pe_lc (own := [("letter", 1)]) (g := gName 1) (tt := tYes) rfl scName.nd (pi_str (pv 0)) (blkOk_by (N := NName) (sc := defScope sName) (by decide +kernel)) (fun _ _ _ _ _ => pg_name (i := 1) scName.nd rfl (Or.inl rfl)) (fun _ _ _ _ _ => pts_nil) (fun _ _ _ _ _ => pe_chain op_le_str op_le_str pe_str (pv 1) pe_str)) pa_nil))))), ?_⟩
    refine ⟨_, rfl, v, d, rfl, hd, _, rfl, ?_⟩
    cases d with
    | str x =>
      cases hd
      refine iteN rfl ?_
      have h1 : x.length ≤ 1000 := of_decide_eq_true hs
      refine ⟨_, rfl, x, rfl, Nat.le_trans h1 (by decide), ?_⟩
      refine ⟨1, _, rfl, rfl, _, rfl, ?_⟩
      have no : 1 ≤ x.length ∧ x.length ≤ 12 ∨ nmS x = false := by
        by_cases e1 : 1 ≤ x.length
        · by_cases e2 : x.length ≤ 12
          · exact .inl ⟨e1, e2⟩
          · exact .inr (by simp [nmS, e2])
        · exact .inr (by simp [nmS, e1])
      have goF : nmS x = false → ∀ H', Same H H' → Q (.bl false) H' := fun e H' k' => e ▸ k H' k'
      by_cases e1 : 1 ≤ x.length
      · refine iteC (decide_eq_true (by omega)) ⟨_, _, rfl, rfl, _, rfl, ?_⟩
        by_cases e2 : x.length ≤ 12
        · have e3 : decide ((x.length : Int) ≤ 12) = true := decide_eq_true (by omega)
          rw [e3]
          refine iteN rfl ⟨_, rfl, x, rfl, fun D hD => ?_⟩
          refine lc_out (n := x.cps.size) walk_str hD (fun i => .bl (ltr (x.cps.toList.getD i 0))) (Nat.lt_of_le_of_lt h1 (by decide)) (fun _ _ => trivial) (fun i y H2 H2' N hi k2 hy q => ?_) (fun H2 k2 h2 => ?_)
          · obtain ⟨rfl, c, hc, rfl⟩ := hy
            have ec : x.cps.toList.getD i 0 = c := by
              rw [List.getD_eq_getElem?_getD, Array.getElem?_toList, hc]
              rfl
            rw [ec] at q
            refine ⟨rfl, _, rfl, _, _, rfl, rfl, _, rfl, ?_⟩
            by_cases g1 : 97 ≤ c
            · refine iteC (show (!decide ([c] < ([97] : List Nat))) = true by rw [lt1, decide_eq_false (by omega)]; rfl) ⟨_, _, rfl, rfl, ?_⟩
              have e4 : ltr c = !decide (([122] : List Nat) < [c]) := by rw [lt1, ltr, decide_eq_true g1, Bool.true_and, ← decide_not]; exact decide_eq_decide.mpr (by omega)
              exact e4 ▸ q _ (Same.refl _)
            · refine iteN (show (!decide ([c] < ([97] : List Nat))) = false by rw [lt1, decide_eq_true (by omega)]; rfl) ?_
              have e4 : ltr c = false := by simp [ltr, g1]
              exact e4 ▸ q _ (Same.refl _)
          · refine ⟨D, x.cps.toList.map ltr, rfl, SqL.of ?_, ?_⟩
            · rw [h2, List.map_map]
              exact congrArg (fun z => some (HO.lst z)) (range_map (fun c => V.bl (ltr c)) _ x.cps.toList fun i a h => by rw [List.getD_eq_getElem?_getD, h]; rfl)
            · have e4 : nmS x = (x.cps.toList.map ltr).all id := by
                simp [nmS, e1, e2, List.all_map]
              exact e4 ▸ k H2 k2
        · have e3 : decide ((x.length : Int) ≤ 12) = false := decide_eq_false (by omega)
          rw [e3]
          exact iteC rfl (goF (no.resolve_left fun z => e2 z.2) H (Same.refl H))
      · exact iteN (decide_eq_false (by omega)) ⟨_, rfl, iteC rfl (goF (no.resolve_left fun z => e1 z.1) H (Same.refl H))⟩
    | ob o => exact iteC (by simp [isT]) (k H (Same.refl H))
    | _ => exact iteC rfl (k H (Same.refl H))
end
end Kd

set_option Elab.async false
set_option linter.all false
set_option maxRecDepth 100000
set_option maxHeartbeats 4000000
namespace Kd
open PySem PySem.Spec PyProof.Rows L2 Dq Vl
variable {OB : Type} {O : Obs OB} {od : OB → Bool}
abbrev sUnl : Stmt := Pf.top 9
abbrev NUnl : List Str := ["names"]
theorem scUnl : FnScope NUnl ["names"] (defScope sUnl) := ⟨rfl, rfl, rfl, by decide +kernel, rfl, by decide +kernel, by decide +kernel⟩
def spUnl (K : PySem.W.Frag) : Sp := fun vs H Q _ => ∃ (a : Addr) (xs : List Str), vs = [.ref a] ∧ SqL K H a (xs.map V.str) ∧ xs.length ≤ 4000 ∧ Q (.bl (decide xs.Nodup)) H
/-- one of the texts -/
def amD (xs : List Str) : DV OB → Bool
  | .str s => decide (s ∈ xs)
  | _ => false
abbrev sAmo : Stmt := Pf.top 15
abbrev NAmo : List Str := ["thing", "names"]
theorem scAmo : FnScope NAmo ["thing", "names"] (defScope sAmo) := ⟨rfl, rfl, rfl, by decide +kernel, rfl, by decide +kernel, by decide +kernel⟩
def spAmo (K : PySem.W.Frag) (O : Obs OB) : Sp := fun vs H Q _ => ∃ (v : V) (d : DV OB) (a : Addr) (xs : List Str), vs = [v, .ref a] ∧ Dv O H d v ∧ (SqL K H a (xs.map V.str) ∨ SqT K H a (xs.map V.str)) ∧ Q (.bl (amD xs d)) H
theorem flat_tx (xs : List Str) : (xs.map V.str).all flatV = true := by
  induction xs with
  | nil => rfl
  | cons x xs ih => exact ih
theorem in_tx (s : Str) (xs : List Str) : inV (V.str s) (xs.map V.str) = decide (s ∈ xs) := by
  unfold inV
  induction xs with
  | nil => rfl
  | cons x xs ih =>
    rw [List.map_cons, List.any_cons, ih, show eqV (V.str x) (V.str s) = decide (x = s) from rfl, Bool.eq_iff_iff, Bool.or_eq_true, decide_eq_true_eq, decide_eq_true_eq, decide_eq_true_eq, List.mem_cons]
    exact or_congr ⟨Eq.symm, Eq.symm⟩ Iff.rfl
section
variable {P : Program} {w : World} {K : PySem.W.Frag} {mg : Str → Option Value} {base : Heap}
theorem ok_unl {f : Addr} {fd : FuncData} (F : Fun K "are_unlike" "are_unlike" sUnl f fd) (T : TxtK mg) : FnOk P w K mg base CX0 1 f fd ["names"] (spUnl K) := by
  refine F.ok scUnl (fun vs H Q E h => ?_) (fun cdv A outer s H vs Q E hr h => ?_)
  · obtain ⟨a, xs, rfl, _⟩ := h
    rfl
  · obtain ⟨a, xs, rfl, ha, hl, k⟩ := h
    refine ⟨_, pss_one (ps_ret (pe_cmpR op_eq (pe_lenTx (by rfl) T.len (by rfl) T.set (pv 0)) (pe_callB call_len_seq (by rfl) T.len PySem.boot_len (pa_cons (pv 0) pa_nil)) (nomark _))), ?_⟩
    refine ⟨_, rfl, a, xs, rfl, ha, hl, _, rfl, a, _, rfl, .inl ha, rfl, ?_⟩
    have e : decide (V.int (TxS.ct xs.reverse : Nat) = V.int ((xs.map V.str).length : Nat)) = decide xs.Nodup := by
      rw [← TxS.ct_rev, List.length_map]
      exact decide_eq_decide.mpr (by rw [V.int.injEq]; omega)
    rw [e]
    exact k
theorem ok_amo {f : Addr} {fd : FuncData} (F : Fun K "_is_among" "_is_among" sAmo f fd) (T : TxtK mg) (W : Tw K O od) : FnOk P w K mg base CX0 1 f fd ["thing", "names"] (spAmo K O) := by
  refine F.ok scAmo (fun vs H Q E h => ?_) (fun cdv A outer s H vs Q E hr h => ?_)
  · obtain ⟨v, d, a, xs, rfl, _⟩ := h
    rfl
  · obtain ⟨v, d, a, xs, rfl, hd, ha, k⟩ := h
    refine ⟨_, pss_one (ps_ret (pe_and (pe_callB (call_isK W (T := "str") (by simp)) (by rfl) T.isi (by decide +kernel) (pa_cons (pv 0) (pa_cons (pe_bltn (v := .ty "str") (by rfl) T.str (by decide +kernel) rfl) pa_nil))) (pe_one (pe_cmpR op_in_seq (pv 0) (pv 1) (by rfl))))), ?_⟩
    refine ⟨_, rfl, v, d, rfl, hd, _, rfl, ?_⟩
    cases d with
    | str s =>
      cases hd
      refine iteC rfl ⟨_, rfl, _, rfl, a, _, rfl, ha, rfl, flat_tx xs, ?_⟩
      show Q (.bl (inV (V.str s) (xs.map V.str))) H
      rw [in_tx]
      exact k
    | ob o => exact iteN (by simp [isT]) k
    | _ => exact iteN rfl k
end
end Kd

set_option Elab.async false
set_option linter.all false
set_option maxRecDepth 100000
set_option maxHeartbeats 4000000
namespace Kd
open PySem PySem.Spec PyProof.Rows L2 Dq Vl
variable {OB : Type} {O : Obs OB} {od : OB → Bool}
abbrev sRdg : Stmt := Pf.top 18
abbrev NRdg : List Str := ["thing", "key"]
theorem scRdg : FnScope NRdg ["thing"] (defScope sRdg) := ⟨rfl, rfl, rfl, by decide +kernel, rfl, by decide +kernel, by decide +kernel⟩
def leaf : DV OB → Bool
  | .non | .bl _ | .int _ | .str _ => true
  | _ => false
def isS : DV OB → Bool
  | .str _ => true
  | _ => false
/-- what the world tells: texts by texts -/
def rdD : DV OB → Bool
  | .map _ l => l.all isS
  | _ => false
def okR : DV OB → Bool
  | .map ks l => l.all leaf && decide (ks.length ≤ 1000)
  | _ => true
theorem leaf_at {H H' : Hp} {d : DV OB} {v : V} (h : leaf d = true) (k : Dv O H d v) : Dv O H' d v := by
  cases d with
  | non => exact k
  | bl _ => exact k
  | int _ => exact k
  | str _ => exact k
  | _ => cases h
def isV : V → Bool
  | .str _ => true
  | _ => false
def isK : Key → Bool
  | .inr _ => true
  | .inl _ => false
def pb (p : Key × V) : Bool := isK p.1 && isV p.2
theorem isS_pb {H : Hp} {d : DV OB} {v : V} (h : leaf d = true) (k : Dv O H d v) : isT od "str" d = isV v ∧ isS d = isV v := by
  cases d with
  | non => cases k; exact ⟨rfl, rfl⟩
  | bl _ => cases k; exact ⟨rfl, rfl⟩
  | int _ => cases k; exact ⟨rfl, rfl⟩
  | str _ => cases k; exact ⟨rfl, rfl⟩
  | _ => cases h
theorem map_rd {H : Hp} : ∀ {ks : List Str} {l : List (DV OB)} {kvs : List (Key × V)}, kvs.map (·.1) = ks.map Sum.inr → DvL O H l (kvs.map (·.2)) → l.all leaf = true →
    (∀ p ∈ kvs, ∃ d : DV OB, leaf d = true ∧ Dv O H d p.2) ∧ l.all isS = kvs.all pb
  | ks, [], [], e, p, _ => ⟨fun p h => (nomatch h), rfl⟩
  | ks, [], kv :: kvs, e, p, _ => by cases p
  | ks, x :: l, [], e, p, _ => by obtain ⟨u, us, e1, _⟩ := p; cases e1
  | [], x :: l, kv :: kvs, e, p, _ => by cases e
  | j :: ks, x :: l, kv :: kvs, e, p, g => by
    obtain ⟨u, us, e1, h1, p1⟩ := p
    simp only [List.map_cons, List.cons.injEq] at e e1
    obtain ⟨rfl, rfl⟩ := e1
    simp only [List.all_cons, Bool.and_eq_true] at g
    obtain ⟨a, b⟩ := map_rd (ks := ks) e.2 p1 g.2
    refine ⟨fun p h => ?_, ?_⟩
    · rcases List.mem_cons.mp h with rfl | h
      · exact ⟨x, g.1, h1⟩
      · exact a p h
    · rw [List.all_cons, List.all_cons, b, (isS_pb (od := fun _ => false) g.1 h1).2]
      congr 1
      unfold pb
      rw [e.1]
      rfl
theorem nd_inr {ks : List Str} (h : ks.Nodup) : (ks.map (Sum.inr : Str → Key)).Nodup := List.Pairwise.map _ (fun a b n e => n (Sum.inr.inj e)) h
section
variable {P : Program} {w : World} {K : PySem.W.Frag} {mg : Str → Option Value} {base : Heap}
theorem ok_rdg {f : Addr} {fd : FuncData} (F : Fun K "_is_reading" "_is_reading" sRdg f fd) (T : TxtK mg) (W : Tw K O od) : FnOk P w K mg base CX0 1 f fd ["thing"] (spB O okR rdD) := by
  refine F.ok scRdg (fun vs H Q E h => ?_) (fun cdv A outer s H vs Q E hr h => ?_)
  · obtain ⟨v, d, rfl, _⟩ := h
    rfl
  · obtain ⟨v, d, rfl, hd, hs, k⟩ := h
    have hu := hu_of hr
    refine ⟨_, (pss_cons (ps_if (pt_not (pt_val (pe_callB (call_isK W (T := "dict") (by simp)) (by rfl) T.isi (by decide +kernel) (pa_cons (pv 0) (pa_cons (pe_bltn (v := .ty "dict") (by rfl) T.dict (by decide +kernel) rfl) pa_nil))))) (pss_one (ps_ret pe_bl)) pss_nil)
      (pss_one (ps_ret (pe_lock (pe_callB (cr_all rfl) (by rfl) T.all (by decide +kernel) (pa_cons (pe_lc (own := [("key", 1)]) (g := gName 1) (tt := tYes) rfl scRdg.nd (pi_keys (pv 0)) (blkOk_by (N := NRdg) (sc := defScope sRdg) (by decide +kernel)) (fun _ _ _ _ _ => pg_name (i := 1) scRdg.nd rfl (Or.inl rfl)) (fun _ _ _ _ _ => pts_nil)
        (fun _ _ _ _ _ => pe_and (pe_callB (call_isK W (T := "str") (by simp)) (by rfl) T.isi (by decide +kernel) (pa_cons (pv 1) (pa_cons (pe_bltn (v := .ty "str") (by rfl) T.str (by decide +kernel) rfl) pa_nil)))
          (pe_one (pe_callB (call_isK W (T := "str") (by simp)) (by rfl) T.isi (by decide +kernel) (pa_cons (pe_dget hu (pv 0) (pv 1) (fun _ _ => rfl)) (pa_cons (pe_bltn (v := .ty "str") (by rfl) T.str (by decide +kernel) rfl) pa_nil)))))) pa_nil)))))), ?_⟩
    refine ⟨_, rfl, v, d, rfl, hd, _, rfl, ?_⟩
    have cs : (isT od "dict" d = false ∧ rdD d = false) ∨ ∃ (a : Addr) (kvs : List (Key × V)), v = .ref a ∧ H a = some (.dK kvs) ∧ (kvs.map (·.1)).Nodup ∧ kvs.length ≤ 1000 ∧ (∀ p ∈ kvs, isK p.1 = true → ∃ d : DV OB, leaf d = true ∧ Dv O H d p.2) ∧ rdD d = kvs.all pb ∧ isT od "dict" d = true := by
      cases d with
      | map ks l =>
        obtain ⟨a, kvs, e1, e2, e3, e4, e5⟩ := hd
        simp only [okR, Bool.and_eq_true, decide_eq_true_eq] at hs
        obtain ⟨m1, m2⟩ := map_rd e4 e5 hs.1
        refine .inr ⟨a, kvs, e1, e2, e4 ▸ nd_inr e3, ?_, fun p h _ => m1 p h, m2, rfl⟩
        have := congrArg List.length e4
        rw [List.length_map, List.length_map] at this
        omega
      | ob o =>
        cases eo : od o with
        | false => exact .inl ⟨by simp [isT, eo], rfl⟩
        | true =>
          obtain ⟨a, i, u, e1, e2⟩ := W.dic hd eo
          exact .inr ⟨a, _, e1, e2, by simp, by simp, fun p h q => (by rcases List.mem_singleton.mp h with rfl; cases q), rfl, by simp [isT, eo]⟩
      | _ => exact .inl ⟨rfl, rfl⟩
    rcases cs with ⟨e1, e2⟩ | ⟨a, kvs, rfl, ha, nd, hl, hk, er, ed⟩
    · rw [e1]
      exact iteC rfl (e2 ▸ k H (Same.refl H))
    · rw [ed]
      refine iteN rfl ⟨a, .dK kvs, ha, True.intro, fun oa => ⟨_, rfl, a, oa, rfl, .inl ⟨kvs, upd_same, fun D hD => ?_⟩⟩⟩
      refine lc_out (walk_keys (d := a) (o := oa) (kvs := kvs)) hD (fun i => .bl (pb (kvs.getD i (Sum.inl 0, .non)))) (Nat.lt_of_le_of_lt hl (by decide)) (fun H2 k2 => k2 _ _ upd_same) (fun i y H2 H2' N hi k2 hy q => ?_) (fun H2 k2 h2 => ?_)
      · obtain ⟨rfl, k0, u, e6, rfl⟩ := hy
        have eg : kvs.getD i (Sum.inl 0, .non) = (k0, u) := by rw [List.getD_eq_getElem?_getD, e6]; rfl
        rw [eg] at q
        cases k0 with
        | inl n => 
          exact ⟨rfl, _, rfl, _, .int n, rfl, rfl, _, rfl, iteN rfl (q _ (Same.refl _))⟩
        | inr z =>
          obtain ⟨d2, l2, v2⟩ := hk _ (List.mem_of_getElem? e6) rfl
          refine ⟨rfl, _, rfl, _, .str z, rfl, rfl, _, rfl, iteC rfl ?_⟩
          have hv : valV kvs (Sum.inr z) = some u := find_at nd e6
          refine ⟨_, rfl, _, rfl, a, u, rfl, .inl ⟨kvs, Sum.inr z, .inr ⟨oa, k2 _ _ upd_same⟩, rfl, hv.symm⟩, u, d2, rfl, leaf_at l2 v2, ?_⟩
          rw [(isS_pb l2 v2).1]
          exact q _ (Same.refl _)
      · refine ⟨D, kvs.map pb, rfl, SqL.of ?_, ?_⟩
        · rw [h2, List.map_map]
          exact congrArg (fun z => some (HO.lst z)) (range_map (fun c => V.bl (pb c)) _ kvs fun i a h => by rw [List.getD_eq_getElem?_getD, h]; rfl)
        · have e4 : (kvs.map pb).all id = rdD d := by rw [er, List.all_map]; rfl
          rw [e4]
          have nD : D ≠ a := fun z => by rw [z, upd_same] at hD; cases hD
          refine ⟨k2 _ _ upd_same, k _ fun b o e => ?_⟩
          by_cases n : b = a
          · subst n
            rw [ha] at e
            cases e
            exact upd_same
          · exact (upd_ne n).trans (k2 b o ((upd_ne n).trans e))
end
end Kd

set_option Elab.async false
set_option linter.all false
set_option maxRecDepth 100000
set_option maxHeartbeats 4000000
namespace Kd
open PySem PySem.Spec PyProof.Rows L2 Dq Vl
variable {OB : Type} {O : Obs OB} {od : OB → Bool}
abbrev sGiv : Stmt := Pf.top 17
abbrev NGiv : List Str := ["row", "name", "sort", "forces", "reading"]
theorem scGiv : FnScope NGiv ["row"] (defScope sGiv) := ⟨rfl, rfl, rfl, by decide +kernel, rfl, by decide +kernel, by decide +kernel⟩
abbrev srts : List Str := ["wanted", "open", "filled"]
def isBl : DV OB → Bool
  | .bl _ => true
  | _ => false
def isNo : DV OB → Bool
  | .non => true
  | _ => false
def gv4 (n s f r : DV OB) : Bool := nmD n && (amD srts s && (isBl f && (isNo r || rdD r)))
/-- a given attribute -/
def gvD : DV OB → Bool
  | .tup [n, s, f, r] => gv4 n s f r
  | _ => false
def okX (d : DV OB) : Bool := shD d && okR d
def okG : DV OB → Bool
  | .tup l => l.all okX
  | _ => true
theorem len4 {H : Hp} {n s f r : DV OB} {us : List V} (h : DvL O H [n, s, f, r] us) : ∃ a b c d, us = [a, b, c, d] ∧ Dv O H n a ∧ Dv O H s b ∧ Dv O H f c ∧ Dv O H r d := by
  obtain ⟨a, _, rfl, h1, b, _, rfl, h2, c, _, rfl, h3, d, _, rfl, h4, rfl⟩ := h
  exact ⟨a, b, c, d, rfl, h1, h2, h3, h4⟩
theorem isN_no {K : PySem.W.Frag} (W : Tw K O od) {H : Hp} {d : DV OB} {v : V} (h : Dv O H d v) : decide (v = .non) = isNo d := by
  cases d with
  | non => cases h; rfl
  | bl _ => cases h; rfl
  | int _ => cases h; rfl
  | str _ => cases h; rfl
  | ob o => exact decide_eq_false (W.nn h)
  | tup l => obtain ⟨a, us, rfl, _⟩ := h; rfl
  | lst l => obtain ⟨a, us, rfl, _⟩ := h; rfl
  | map ks l => obtain ⟨a, us, rfl, _⟩ := h; rfl
theorem isT_bl (d : DV OB) : isT od "bool" d = isBl d := by
  cases d <;> simp [isT, isBl]
structure TxtS (K : PySem.W.Frag) (mg : Str → Option Value) (aS : Addr) : Prop where
  m : mg "SORTS" = some (.ref aS)
  at_ : ∀ H, SqT K H aS (srts.map V.str)
section
variable {P : Program} {w : World} {K : PySem.W.Frag} {mg : Str → Option Value} {base : Heap}
theorem ok_giv {f fN fA fR aS : Addr} {fd fdN fdA fdR : FuncData} (F : Fun K "_is_given" "_is_given" sGiv f fd) (T : TxtK mg) (S : TxtS K mg aS) (W : Tw K O od)
    (DN : Def P w K mg base 1 "is_name" fN fdN ["thing"] (spB O shD nmD)) (DA : Def P w K mg base 1 "_is_among" fA fdA ["thing", "names"] (spAmo K O)) (DR : Def P w K mg base 1 "_is_reading" fR fdR ["thing"] (spB O okR rdD)) :
    FnOk P w K mg base CX0 2 f fd ["row"] (spB O okG gvD) := by
  refine F.ok scGiv (fun vs H Q E h => ?_) (fun cdv A outer s H vs Q E hr h => ?_)
  · obtain ⟨v, d, rfl, _⟩ := h
    rfl
  · obtain ⟨v, d, rfl, hd, hs, k⟩ := h
    have hu := hu_of hr
    refine ⟨_, (pss_cons (ps_if (PW.pt (pw_or (pt_not (pt_val (pe_callB (call_isK W (T := "tuple") (by simp)) (by rfl) T.isi (by decide +kernel) (pa_cons (pv 0) (pa_cons (pe_bltn (v := .ty "tuple") (by rfl) T.tuple (by decide +kernel) rfl) pa_nil))))) (pw_or1 (pt_cmpR op_ne (pe_callB call_len_seq (by rfl) T.len PySem.boot_len (pa_cons (pv 0) pa_nil)) pe_int (nomark _))))) (pss_one (ps_ret pe_bl)) pss_nil)
      (pss_cons (ps_asg (pv 0) (pg_tup rfl (pgs_cons (pg_name (i := 1) scGiv.nd rfl (Or.inl rfl)) (pgs_cons (pg_name (i := 2) scGiv.nd rfl (Or.inl rfl)) (pgs_cons (pg_name (i := 3) scGiv.nd rfl (Or.inl rfl)) (pgs_cons (pg_name (i := 4) scGiv.nd rfl (Or.inl rfl)) pgs_nil))))))
      (pss_cons (ps_if (PW.pt (pw_or (pt_not (pt_val (pe_call DN.ok (hr.mono (by omega)) rfl DN.g DN.kp DN.b .nil pass0 (pa_cons (pv 1) pa_nil)))) (pw_or (pt_not (pt_val (pe_call DA.ok (hr.mono (by omega)) rfl DA.g DA.kp DA.b .nil pass0 (pa_cons (pv 2) (pa_cons (pe_glob (v := .ref aS) rfl S.m rfl) pa_nil))))) (pw_or1 (pt_not (pt_val (pe_callB (call_isK W (T := "bool") (by simp)) (by rfl) T.isi (by decide +kernel) (pa_cons (pv 3) (pa_cons (pe_bltn (v := .ty "bool") (by rfl) T.bool (by decide +kernel) rfl) pa_nil))))))))) (pss_one (ps_ret pe_bl)) pss_nil)
      (pss_one (ps_ret (pe_or (pe_cmp (pc_isN (pv 4)) rfl) (pe_one (pe_call DR.ok (hr.mono (by omega)) rfl DR.g DR.kp DR.b .nil pass0 (pa_cons (pv 4) pa_nil))))))))), ?_⟩
    refine ⟨_, rfl, v, d, rfl, hd, _, rfl, ?_⟩
    have goF : gvD d = false → ∀ H', Same H H' → Q (.bl false) H' := fun e H' k' => e ▸ k H' k'
    by_cases et : isT od "tuple" d = true
    case neg =>
      have et := (Bool.not_eq_true _).mp et
      rw [et]
      refine iteC rfl (goF ?_ H (Same.refl H))
      cases d with
      | tup l => cases et
      | _ => rfl
    rw [et]
    refine iteN rfl ?_
    obtain ⟨l, rfl⟩ : ∃ l, d = .tup l := by
      cases d with
      | tup l => exact ⟨l, rfl⟩
      | ob o => simp [isT] at et
      | _ => cases et
    obtain ⟨a, us, rfl, ha, hl⟩ := hd
    have ha : SqT K H a us := W.kk ▸ ha
    have el := hl.len
    refine ⟨_, rfl, a, us, rfl, .inr ha, rfl, _, rfl, ?_⟩
    by_cases e4 : l.length = 4
    case neg =>
      refine iteC (by simp; omega) (goF ?_ H (Same.refl H))
      match l, e4 with
      | [], _ => rfl
      | [_], _ => rfl
      | [_, _], _ => rfl
      | [_, _, _], _ => rfl
      | [_, _, _, _], e => exact absurd rfl e
      | _ :: _ :: _ :: _ :: _ :: _, _ => rfl
    refine iteN (by simp; omega) ?_
    obtain ⟨n, s0, fo, r, rfl⟩ : ∃ n s f r, l = [n, s, f, r] := by
      match l, e4 with
      | [n, s, f, r], _ => exact ⟨n, s, f, r, rfl⟩
    obtain ⟨v1, v2, v3, v4, rfl, h1, h2, h3, h4⟩ := len4 hl
    simp only [okG, List.all_cons, List.all_nil, Bool.and_true, Bool.and_eq_true, okX] at hs
    obtain ⟨⟨s1, _⟩, _, _, _, s4⟩ := hs
    refine ⟨_, rfl, a, _, rfl, ha, rfl, v1, _, rfl, v2, _, rfl, v3, _, rfl, v4, _, rfl, rfl, ?_⟩
    refine ⟨_, rfl, v1, n, rfl, h1, s1, fun H1 k1 => ⟨_, rfl, ?_⟩⟩
    have eg : gvD (.tup [n, s0, fo, r]) = (nmD n && (amD srts s0 && (isBl fo && (isNo r || rdD r)))) := rfl
    cases e1 : nmD n with
    | false => exact iteC rfl (goF (by rw [eg, e1]; rfl) H1 k1)
    | true =>
      refine iteN rfl ⟨_, rfl, v2, s0, aS, srts, rfl, W.dv k1 _ _ h2, .inr (S.at_ H1), _, rfl, ?_⟩
      cases e2 : amD srts s0 with
      | false => exact iteC rfl (goF (by rw [eg, e1, e2]; rfl) H1 k1)
      | true =>
        refine iteN rfl ⟨_, rfl, v3, fo, rfl, W.dv k1 _ _ h3, _, rfl, ?_⟩
        rw [isT_bl]
        cases e3 : isBl fo with
        | false => exact iteC rfl (goF (by rw [eg, e1, e2, e3]; rfl) H1 k1)
        | true =>
          refine iteN rfl ⟨_, rfl, _, rfl, ?_⟩
          rw [isN_no W h4]
          rw [e1, e2, e3] at eg
          cases e5 : isNo r with
          | true => exact iteC rfl ((show gvD (.tup [n, s0, fo, r]) = true by rw [eg, e5]; rfl) ▸ k H1 k1)
          | false =>
            refine iteN rfl ⟨_, rfl, v4, r, rfl, W.dv k1 _ _ h4, s4, fun H2 k2 => ?_⟩
            exact (show gvD (.tup [n, s0, fo, r]) = rdD r by rw [eg, e5]; rfl) ▸ k H2 (Same.trans k1 k2)
end
end Kd

set_option Elab.async false
set_option linter.all false
set_option maxRecDepth 100000
set_option maxHeartbeats 4000000
namespace Kd
open PySem PySem.Spec PyProof.Rows L2 Dq Vl
variable {OB : Type} {O : Obs OB} {od : OB → Bool}
abbrev sGvs : Stmt := Pf.top 16
abbrev NGvs : List Str := ["rows", "row"]
theorem scGvs : FnScope NGvs ["rows"] (defScope sGvs) := ⟨rfl, rfl, rfl, by decide +kernel, rfl, by decide +kernel, by decide +kernel⟩
/-- a row's name -/
def nm0 : DV OB → Str
  | .tup (.str s :: _) => s
  | _ => Str.empty
/-- given attributes -/
def gvsD : DV OB → Bool
  | .tup l => l.all gvD && decide (l.map nm0).Nodup
  | _ => false
def okA : DV OB → Bool
  | .tup l => l.all okG && decide (l.length ≤ 1000)
  | _ => true
/-- a row with a name -/
def named (d : DV OB) : Prop := ∃ r, d = .tup (.str (nm0 d) :: r)
theorem gv_named {d : DV OB} (h : gvD d = true) : named d := by
  match d, h with
  | .tup [n, s, f, r], h =>
    cases n with
    | str z => exact ⟨_, rfl⟩
    | _ => cases h
theorem rowAt {H : Hp} : ∀ {l : List (DV OB)} {us : List V} {i : Nat} {u : V}, DvL O H l us → us[i]? = some u → ∃ x, l[i]? = some x ∧ Dv O H x u := fun {l us i u} h e => by
  have hi : i < us.length := (List.getElem?_eq_some_iff.mp e).1
  rw [h.len] at hi
  exact ⟨l[i], List.getElem?_eq_getElem hi, DvL.at h (List.getElem?_eq_getElem hi) e⟩
theorem first_at {K : PySem.W.Frag} (kk : O.K = K) {H : Hp} {d : DV OB} {v : V} (h : Dv O H d v) (n : named d) : ∃ (a : Addr) (us : List V), v = .ref a ∧ SqT K H a (.str (nm0 d) :: us) := by
  obtain ⟨r, e⟩ := n
  rw [e] at h
  obtain ⟨a, us, rfl, ha, u, us', rfl, h1, _⟩ := h
  cases h1
  exact ⟨a, us', rfl, kk ▸ ha⟩
theorem all_map {α : Type} (f : α → Bool) (l : List α) : (l.map f).all id = l.all f := by rw [List.all_map]; rfl
section
variable {P : Program} {w : World} {K : PySem.W.Frag} {mg : Str → Option Value} {base : Heap}
theorem ok_gvs {f fG fU : Addr} {fd fdG fdU : FuncData} (F : Fun K "_are_given" "_are_given" sGvs f fd) (T : TxtK mg) (W : Tw K O od)
    (DG : Def P w K mg base 2 "_is_given" fG fdG ["row"] (spB O okG gvD)) (DU : Def P w K mg base 1 "are_unlike" fU fdU ["names"] (spUnl K)) :
    FnOk P w K mg base CX0 3 f fd ["rows"] (spB O okA gvsD) := by
  refine F.ok scGvs (fun vs H Q E h => ?_) (fun cdv A outer s H vs Q E hr h => ?_)
  · obtain ⟨v, d, rfl, _⟩ := h
    rfl
  · obtain ⟨v, d, rfl, hd, hs, k⟩ := h
    refine ⟨_, (pss_cons (ps_if (PW.pt (pw_or (pt_not (pt_val (pe_callB (call_isK W (T := "tuple") (by simp)) (by rfl) T.isi (by decide +kernel) (pa_cons (pv 0) (pa_cons (pe_bltn (v := .ty "tuple") (by rfl) T.tuple (by decide +kernel) rfl) pa_nil))))) (pw_or1 (pt_not (pt_val (pe_callB (cr_all rfl) (by rfl) T.all (by decide +kernel) (pa_cons (pe_lc (own := [("row", 1)]) (g := gName 1) (tt := tYes) rfl scGvs.nd (pi_tup (pv 0)) (blkOk_by (N := NGvs) (sc := defScope sGvs) (by decide +kernel)) (fun _ _ _ _ _ => pg_name (i := 1) scGvs.nd rfl (Or.inl rfl)) (fun _ _ _ _ _ => pts_nil)
        (fun _ _ _ _ _ => pe_call DG.ok (hr.mono (by omega)) rfl DG.g DG.kp DG.b .nil pass0 (pa_cons (pv 1) pa_nil))) pa_nil))))))) (pss_one (ps_ret pe_bl)) pss_nil)
      (pss_one (ps_ret (pe_call DU.ok (hr.mono (by omega)) rfl DU.g DU.kp DU.b .nil pass0 (pa_cons (pe_lc (own := [("row", 1)]) (g := gName 1) (tt := tYes) rfl scGvs.nd (pi_tup (pv 0)) (blkOk_by (N := NGvs) (sc := defScope sGvs) (by decide +kernel)) (fun _ _ _ _ _ => pg_name (i := 1) scGvs.nd rfl (Or.inl rfl)) (fun _ _ _ _ _ => pts_nil)
        (fun _ _ _ _ _ => pe_ix (show IxR _ (rIxT K) from ix_tup) (pv 1) pe_int (fun _ _ => rfl))) pa_nil))))), ?_⟩
    refine ⟨_, rfl, v, d, rfl, hd, _, rfl, ?_⟩
    have goF : gvsD d = false → ∀ H', Same H H' → Q (.bl false) H' := fun e H' k' => e ▸ k H' k'
    by_cases et : isT od "tuple" d = true
    case neg =>
      have et := (Bool.not_eq_true _).mp et
      rw [et]
      refine iteC rfl (goF ?_ H (Same.refl H))
      cases d with
      | tup l => cases et
      | _ => rfl
    rw [et]
    obtain ⟨l, rfl⟩ : ∃ l, d = .tup l := by
      cases d with
      | tup l => exact ⟨l, rfl⟩
      | ob o => simp [isT] at et
      | _ => cases et
    obtain ⟨a, us, rfl, ha, hl⟩ := hd
    have ha : SqT K H a us := W.kk ▸ ha
    have el := hl.len
    simp only [okA, Bool.and_eq_true, decide_eq_true_eq] at hs
    have small : us.length < sizeLine := by rw [el]; exact Nat.lt_of_le_of_lt hs.2 (by decide)
    refine iteN rfl ⟨_, rfl, a, rfl, ⟨_, ha⟩, fun D hD => ?_⟩
    refine lc_out (walk_tup (xs := us)) hD (fun i => .bl (gvD (l.getD i .non))) small (fun H2 k2 => SqT.same ha k2) (fun i y H2 H2' N hi k2 hy q => ?_) (fun H2 k2 h2 => ?_)
    · obtain ⟨rfl, ex⟩ := hy
      obtain ⟨x, e1, hx⟩ := rowAt hl ex
      have eg : l.getD i .non = x := by rw [List.getD_eq_getElem?_getD, e1]; rfl
      rw [eg] at q
      exact ⟨rfl, y, rfl, y, x, rfl, W.dv k2 _ _ hx, List.all_eq_true.mp hs.1 x (List.mem_of_getElem? e1), fun H3 k3 => q H3 k3⟩
    · refine ⟨D, l.map gvD, rfl, SqL.of ?_, _, rfl, ?_⟩
      · rw [h2, List.map_map, el]
        exact congrArg (fun z => some (HO.lst z)) (range_map (fun c => V.bl (gvD c)) _ l fun i a h => by rw [List.getD_eq_getElem?_getD, h]; rfl)
      · rw [all_map]
        cases eg : l.all gvD with
        | false => exact iteC rfl (goF (by simp [gvsD, eg]) H2 k2)
        | true =>
          refine iteN rfl ⟨_, rfl, a, rfl, ⟨_, SqT.same ha k2⟩, fun D2 hD2 => ?_⟩
          refine lc_out (walk_tup (xs := us)) hD2 (fun i => .str (nm0 (l.getD i .non))) small (fun H3 k3 => SqT.same (SqT.same ha k2) k3) (fun i y H3 H3' N hi k3 hy q => ?_) (fun H3 k3 h3 => ?_)
          · obtain ⟨rfl, ex⟩ := hy
            obtain ⟨x, e1, hx⟩ := rowAt hl ex
            have eg2 : l.getD i .non = x := by rw [List.getD_eq_getElem?_getD, e1]; rfl
            rw [eg2] at q
            obtain ⟨b, us2, rfl, hb⟩ := first_at W.kk hx (gv_named (List.all_eq_true.mp eg x (List.mem_of_getElem? e1)))
            exact ⟨rfl, _, rfl, b, _, _, _, rfl, rfl, SqT.same (SqT.same hb k2) k3, atI_nat (j := 0) (xs := .str (nm0 x) :: us2) rfl, q _ (Same.refl _)⟩
          · refine ⟨D2, l.map nm0, rfl, SqL.of ?_, ?_, ?_⟩
            · rw [h3, List.map_map, el]
              exact congrArg (fun z => some (HO.lst z)) (range_map (fun c => V.str (nm0 c)) _ l fun i a h => by rw [List.getD_eq_getElem?_getD, h]; rfl)
            · rw [List.length_map]
              omega
            · have e6 : gvsD (.tup l) = decide (l.map nm0).Nodup := by simp [gvsD, eg]
              exact e6 ▸ k H3 (Same.trans k2 k3)
end
end Kd

set_option Elab.async false
set_option linter.all false
set_option maxRecDepth 100000
set_option maxHeartbeats 4000000
/-! x in (t, u), l.count(x) of data -/
namespace Kd
open PySem PySem.Spec PyProof.Rows L2 Dq Vl
variable {OB : Type} {O : Obs OB} {od : OB → Bool}
def rInTD (K : PySem.W.Frag) : R2 := fun x y H Q => ∃ d ds, Dp K H x d ∧ Dp K H y (.tuple ds) ∧ SeqAt.shaped d = true ∧ SeqAt.shaped (.tuple ds) = true ∧ Q (.bl (ds.any fun z => PyData.eqv z d)) H
theorem op_inTD {X : Cx} (hu : X.A.units + 65 < cLine) : OpR X (compareOp .In) (rInTD X.K) := fun pins s σ H x y v u Q I rx ry ⟨d, ds, hd, he, sd, se, q⟩ => by
  obtain ⟨_, r1⟩ := Dp.reads I d x v hd rx
  obtain ⟨_, r2⟩ := Dp.reads I (.tuple ds) y u he ry
  exact SeqAt.in_tuple_reads r2 r1 (SeqAt.canLay_of_shaped se) (SeqAt.canLay_of_shaped sd) (room_in_shaped sd hu) ⟨.bl _, H, I, rfl, q⟩
/-- l.count(x) -/
def rCntD (K : PySem.W.Frag) : V → List V → Hp → VK → Prop := fun x xs H Q => ∃ (a : Addr) (us : List V) (y : V) (d : PyData) (ds : List PyData), x = .ref a ∧ xs = [y] ∧ SqL K H a us ∧ DpAll K H us ds ∧ Dp K H y d ∧ SeqAt.shaped d = true ∧ PyData.plainAll ds = true ∧
  Q (.int (ds.countP fun z => PyData.eqv z d : Nat)) H
theorem mt_countD {X : Cx} (hu : X.A.units + 65 < cLine) : MtR X "list.count" (rCntD X.K) := by
  intro pins s σ H x xs v vs Q I rx rxs h
  obtain ⟨a, us, y, d, ds, rfl, rfl, ha, hds, hd, sd, pl, q⟩ := h
  cases rx
  obtain ⟨uy, rfl, ry⟩ := rxs.one
  obtain ⟨_, r1⟩ := Dp.reads I d y uy hd ry
  obtain ⟨its, rv, lst, _⟩ := I.list ha
  obtain ⟨_, r2⟩ := Dp.readsAll I ds _ its hds rv
  exact SeqAt.count_list_data lst.isList (by simpa using r2) r1 pl (PyData.plain_of_canLay0 d (SeqAt.canLay_of_shaped sd)) (room_in_shaped sd hu) ⟨.int (ds.countP fun z => PyData.eqv z d : Nat), H, I.tok _, ⟨_, rfl⟩, q⟩
/-! ### a tuple of leaves -/
def lfo : DV OB → Bool
  | .non | .bl _ | .int _ => true
  | .str s => PyData.strOk s
  | _ => false
theorem lfo_leaf {d : DV OB} (h : lfo d = true) : leaf d = true := by
  cases d <;> first | rfl | cases h
def py : DV OB → PyData
  | .non => .none
  | .bl b => .bool b
  | .int i => .int i
  | .str s => .str s
  | _ => .none
theorem dp_leaf {K : PySem.W.Frag} {H : Hp} {d : DV OB} {v : V} (l : leaf d = true) (h : Dv O H d v) : Dp K H v (py d) := by
  cases d with
  | non => cases h; exact .non
  | bl b => cases h; exact .bl b
  | int i => cases h; exact .int i
  | str s => cases h; exact .str s
  | _ => cases l
theorem dp_leaves {K : PySem.W.Frag} {H : Hp} : ∀ {l : List (DV OB)} {us : List V}, l.all lfo = true → DvL O H l us → DpAll K H us (l.map py)
  | [], _, _, h => by cases h; exact .nil
  | x :: l, _, e, ⟨u, us, e1, h, p⟩ => by
    subst e1
    simp only [List.all_cons, Bool.and_eq_true] at e
    exact .cons (dp_leaf (lfo_leaf e.1) h) (dp_leaves e.2 p)
theorem lay_leaves : ∀ (l : List (DV OB)), l.all lfo = true → PyData.canLayAll0 (l.map py) = true ∧ PyData.depthAll (l.map py) = 0 ∧ PyData.plainAll (l.map py) = true
  | [], _ => ⟨rfl, rfl, rfl⟩
  | x :: l, e => by
    simp only [List.all_cons, Bool.and_eq_true] at e
    obtain ⟨a, b, c⟩ := lay_leaves l e.2
    have e1 := e.1
    rw [List.map_cons, PyData.canLayAll0, PyData.depthAll, PyData.plainAll, a, b, c]
    cases x <;> first | (cases e1; done) | simp [py, PyData.canLay0, PyData.depth, PyData.plain]
    exact e1
theorem shaped_row {l : List (DV OB)} (e : l.all lfo = true) : SeqAt.shaped (.tuple (l.map py)) = true := by
  obtain ⟨a, b, _⟩ := lay_leaves l e
  unfold SeqAt.shaped
  rw [PyData.canLay0, a, PyData.depth, b]
  rfl
theorem dp_row {K : PySem.W.Frag} (kk : O.K = K) {H : Hp} {l : List (DV OB)} {v : V} (e : l.all lfo = true) (h : Dv O H (.tup l) v) : Dp K H v (.tuple (l.map py)) := by
  obtain ⟨a, us, rfl, ha, p⟩ := h
  exact .tup (kk ▸ ha) (dp_leaves e p)
end Kd

set_option Elab.async false
set_option linter.all false
set_option maxRecDepth 100000
set_option maxHeartbeats 4000000
namespace Kd
open PySem PySem.Spec PyProof.Rows L2 Dq Vl
variable {OB : Type} {O : Obs OB} {od : OB → Bool}
abbrev sMad : Stmt := Pf.top 20
abbrev NMad : List Str := ["row", "plain", "name", "rule"]
theorem scMad : FnScope NMad ["row", "plain"] (defScope sMad) := ⟨rfl, rfl, rfl, by decide +kernel, rfl, by decide +kernel, by decide +kernel⟩
def isTu : DV OB → Bool
  | .tup _ => true
  | _ => false
/-- ("id",) or ("mark",) -/
def idr : DV OB → Bool
  | .tup [.str s] => decide (s = "id") || decide (s = "mark")
  | _ => false
/-- ("around", a given one, a text, a text) -/
def arr (plain : List Str) : DV OB → Bool
  | .tup [.str s, x, y, z] => decide (s = "around") && (amD plain x && (isS y && isS z))
  | _ => false
theorem arr_len {plain : List Str} : ∀ {m : List (DV OB)}, m.length ≠ 4 → arr plain (.tup m) = false
  | [], _ => rfl
  | [x], _ => by cases x <;> rfl
  | [x, _], _ => by cases x <;> rfl
  | [x, _, _], _ => by cases x <;> rfl
  | [_, _, _, _], e => absurd rfl e
  | x :: _ :: _ :: _ :: _ :: _, _ => by cases x <;> rfl
def mr2 (plain : List Str) (n r : DV OB) : Bool := nmD n && (isTu r && (idr r || arr plain r))
def mrD (plain : List Str) : DV OB → Bool
  | .tup [n, r] => mr2 plain n r
  | _ => false
def okRule : DV OB → Bool
  | .tup l => l.all lfo && (decide (l.length ≠ 4) || isS (l.headD .non))
  | _ => true
def okM : DV OB → Bool
  | .tup [n, r] => shD n && okRule r
  | _ => true
def spMad (K : PySem.W.Frag) (O : Obs OB) : Sp := fun vs H Q _ => ∃ (v : V) (d : DV OB) (a : Addr) (plain : List Str), vs = [v, .ref a] ∧ Dv O H d v ∧ okM d = true ∧ SqL K H a (plain.map V.str) ∧ ∀ H', Same H H' → Q (.bl (mrD plain d)) H'
theorem len2 {H : Hp} {n r : DV OB} {us : List V} (h : DvL O H [n, r] us) : ∃ a b, us = [a, b] ∧ Dv O H n a ∧ Dv O H r b := by
  obtain ⟨a, _, rfl, h1, b, _, rfl, h2, rfl⟩ := h
  exact ⟨a, b, rfl, h1, h2⟩
theorem isT_tu (d : DV OB) : isT od "tuple" d = isTu d := by
  cases d <;> simp [isT, isTu]
theorem isT_st (d : DV OB) : isT od "str" d = isS d := by
  cases d <;> simp [isT, isS]
theorem eqv_t (a b : List PyData) : PyData.eqv (.tuple a) (.tuple b) = PyData.eqvAll a b := by rw [PyData.eqv]
theorem eqv_12 (x y z : PyData) (r : List PyData) : PyData.eqvAll [x] (y :: z :: r) = false := by rw [PyData.eqvAll, PyData.eqvAll, Bool.and_false]
theorem hu65 {A : Around} {k : Nat} (hr : Room k A) : A.units + 65 < cLine := by
  have := hr.un
  omega
theorem any_id {l : List (DV OB)} (e : l.all lfo = true) : ([PyData.tuple [.str "id"], .tuple [.str "mark"]].any fun z => PyData.eqv z (.tuple (l.map py))) = idr (.tup l) := by
  match l, e with
  | [], _ => rfl
  | [x], e =>
    cases x with
    | str s => 
      simp only [List.any_cons, List.any_nil, List.map_cons, List.map_nil, py, PyData.eqv, PyData.eqvAll, Bool.and_true, Bool.or_false, idr]
      rw [Bool.eq_iff_iff]
      simp only [Bool.or_eq_true, beq_iff_eq, decide_eq_true_eq]
      exact or_congr ⟨Eq.symm, Eq.symm⟩ ⟨Eq.symm, Eq.symm⟩
    | non => rfl
    | bl b => rfl
    | int i => rfl
    | _ => cases e
  | x :: y :: r, _ =>
    rw [List.any_cons, List.any_cons, List.any_nil, List.map_cons, List.map_cons, eqv_t, eqv_t, eqv_12, eqv_12]
    cases x <;> rfl
section
variable {P : Program} {w : World} {K : PySem.W.Frag} {mg : Str → Option Value} {base : Heap}
theorem ok_mad {f fN fA : Addr} {fd fdN fdA : FuncData} (F : Fun K "_is_made" "_is_made" sMad f fd) (T : TxtK mg) (W : Tw K O od)
    (DN : Def P w K mg base 1 "is_name" fN fdN ["thing"] (spB O shD nmD)) (DA : Def P w K mg base 1 "_is_among" fA fdA ["thing", "names"] (spAmo K O)) :
    FnOk P w K mg base CX0 2 f fd ["row", "plain"] (spMad K O) := by
  refine F.ok scMad (fun vs H Q E h => ?_) (fun cdv A outer s H vs Q E hr h => ?_)
  · obtain ⟨v, d, a, plain, rfl, _⟩ := h
    rfl
  · obtain ⟨v, d, ap, plain, rfl, hd, hs, hap, k⟩ := h
    refine ⟨_, (pss_cons (ps_if (PW.pt (pw_or (pt_not (pt_val (pe_callB (call_isK W (T := "tuple") (by simp)) (by rfl) T.isi (by decide +kernel) (pa_cons (pv 0) (pa_cons (pe_bltn (v := .ty "tuple") (by rfl) T.tuple (by decide +kernel) rfl) pa_nil))))) (pw_or1 (pt_cmpR op_ne (pe_callB call_len_seq (by rfl) T.len PySem.boot_len (pa_cons (pv 0) pa_nil)) pe_int (nomark _))))) (pss_one (ps_ret pe_bl)) pss_nil)
      (pss_cons (ps_asg (pv 0) (pg_tup rfl (pgs_cons (pg_name (i := 2) scMad.nd rfl (Or.inl rfl)) (pgs_cons (pg_name (i := 3) scMad.nd rfl (Or.inl rfl)) pgs_nil))))
      (pss_cons (ps_if (PW.pt (pw_or (pt_not (pt_val (pe_call DN.ok (hr.mono (by omega)) rfl DN.g DN.kp DN.b .nil pass0 (pa_cons (pv 2) pa_nil)))) (pw_or1 (pt_not (pt_val (pe_callB (call_isK W (T := "tuple") (by simp)) (by rfl) T.isi (by decide +kernel) (pa_cons (pv 3) (pa_cons (pe_bltn (v := .ty "tuple") (by rfl) T.tuple (by decide +kernel) rfl) pa_nil)))))))) (pss_one (ps_ret pe_bl)) pss_nil)
      (pss_cons (ps_if (pt_cmpR (op_inTD (hu65 hr)) (pv 3) (pe_tup (pa_cons (pe_tup (pa_cons pe_str pa_nil)) (pa_cons (pe_tup (pa_cons pe_str pa_nil)) pa_nil))) (by rfl)) (pss_one (ps_ret pe_bl)) pss_nil)
      (pss_cons (ps_if (PW.pt (pw_or (pt_cmpR op_ne (pe_callB call_len_seq (by rfl) T.len PySem.boot_len (pa_cons (pv 3) pa_nil)) pe_int (nomark _)) (pw_or (pt_cmpR op_ne (pe_ix (show IxR _ (rIxT K) from ix_tup) (pv 3) pe_int (fun _ _ => rfl)) pe_str (nomark _)) (pw_or1 (pt_not (pt_val (pe_call DA.ok (hr.mono (by omega)) rfl DA.g DA.kp DA.b .nil pass0 (pa_cons (pe_ix (show IxR _ (rIxT K) from ix_tup) (pv 3) pe_int (fun _ _ => rfl)) (pa_cons (pv 1) pa_nil))))))))) (pss_one (ps_ret pe_bl)) pss_nil)
      (pss_one (ps_ret (pe_and (pe_callB (call_isK W (T := "str") (by simp)) (by rfl) T.isi (by decide +kernel) (pa_cons (pe_ix (show IxR _ (rIxT K) from ix_tup) (pv 3) pe_int (fun _ _ => rfl)) (pa_cons (pe_bltn (v := .ty "str") (by rfl) T.str (by decide +kernel) rfl) pa_nil))) (pe_one (pe_callB (call_isK W (T := "str") (by simp)) (by rfl) T.isi (by decide +kernel) (pa_cons (pe_ix (show IxR _ (rIxT K) from ix_tup) (pv 3) pe_int (fun _ _ => rfl)) (pa_cons (pe_bltn (v := .ty "str") (by rfl) T.str (by decide +kernel) rfl) pa_nil)))))))))))), ?_⟩
    refine ⟨_, rfl, v, d, rfl, hd, _, rfl, ?_⟩
    have goF : mrD plain d = false → ∀ H', Same H H' → Q (.bl false) H' := fun e H' k' => e ▸ k H' k'
    rw [isT_tu]
    by_cases et : isTu d = true
    case neg =>
      have et := (Bool.not_eq_true _).mp et
      rw [et]
      refine iteC rfl (goF ?_ H (Same.refl H))
      cases d with
      | tup l => cases et
      | _ => rfl
    rw [et]
    refine iteN rfl ?_
    obtain ⟨l, rfl⟩ : ∃ l, d = .tup l := by
      cases d with
      | tup l => exact ⟨l, rfl⟩
      | _ => cases et
    obtain ⟨a, us, rfl, ha, hl⟩ := hd
    have ha : SqT K H a us := W.kk ▸ ha
    have el := hl.len
    refine ⟨_, rfl, a, us, rfl, .inr ha, rfl, _, rfl, ?_⟩
    by_cases e2 : l.length = 2
    case neg =>
      refine iteC (by simp; omega) (goF ?_ H (Same.refl H))
      match l, e2 with
      | [], _ => rfl
      | [_], _ => rfl
      | [_, _], e => exact absurd rfl e
      | _ :: _ :: _ :: _, _ => rfl
    refine iteN (by simp; omega) ?_
    obtain ⟨n, r, rfl⟩ : ∃ n r, l = [n, r] := by
      match l, e2 with
      | [n, r], _ => exact ⟨n, r, rfl⟩
    obtain ⟨v1, v2, rfl, h1, h2⟩ := len2 hl
    simp only [okM, Bool.and_eq_true] at hs
    refine ⟨_, rfl, a, _, rfl, ha, rfl, v1, _, rfl, v2, _, rfl, rfl, ?_⟩
    refine ⟨_, rfl, v1, n, rfl, h1, hs.1, fun H1 k1 => ⟨_, rfl, ?_⟩⟩
    have eg : mrD plain (.tup [n, r]) = (nmD n && (isTu r && (idr r || arr plain r))) := rfl
    cases e1 : nmD n with
    | false => exact iteC rfl (goF (by rw [eg, e1]; rfl) H1 k1)
    | true =>
      have h2' := W.dv k1 _ _ h2
      refine iteN rfl ⟨_, rfl, v2, r, rfl, h2', _, rfl, ?_⟩
      rw [isT_tu]
      cases e3 : isTu r with
      | false => exact iteC rfl (goF (by rw [eg, e1, e3]; rfl) H1 k1)
      | true =>
        rw [e1, e3] at eg
        refine iteN rfl ?_
        obtain ⟨m, rfl⟩ : ∃ m, r = .tup m := by
          cases r with
          | tup m => exact ⟨m, rfl⟩
          | _ => cases e3
        have hm := hs.2
        simp only [okRule, Bool.and_eq_true] at hm
        refine ⟨_, rfl, by show 1 ≤ sizeLine; decide, fun t1 n1 => ⟨by show 1 ≤ sizeLine; decide, fun t2 n2 => ⟨by show 2 ≤ sizeLine; decide, fun t3 n3 => ?_⟩⟩⟩
        have k4 : Same H1 (upd (upd (upd H1 t1 (.tup [.str "id"])) t2 (.tup [.str "mark"])) t3 (.tup [.ref t1, .ref t2])) := Same.upd (Same.upd (sm_upd n1) n2) n3
        have d1 : (upd (upd (upd H1 t1 (.tup [.str "id"])) t2 (.tup [.str "mark"])) t3 (.tup [.ref t1, .ref t2])) t1 = some (.tup [.str "id"]) := (Same.upd (sm_upd n2) n3) _ _ upd_same
        have d2 : (upd (upd (upd H1 t1 (.tup [.str "id"])) t2 (.tup [.str "mark"])) t3 (.tup [.ref t1, .ref t2])) t2 = some (.tup [.str "mark"]) := (sm_upd n3) _ _ upd_same
        have d3 : (upd (upd (upd H1 t1 (.tup [.str "id"])) t2 (.tup [.str "mark"])) t3 (.tup [.ref t1, .ref t2])) t3 = some (.tup [.ref t1, .ref t2]) := upd_same
        generalize (upd (upd (upd H1 t1 (.tup [.str "id"])) t2 (.tup [.str "mark"])) t3 (.tup [.ref t1, .ref t2])) = H4 at k4 d1 d2 d3
        have k14 := Same.trans k1 k4
        have h4 := W.dv k4 _ _ h2'
        refine ⟨.tuple (m.map py), [.tuple [.str "id"], .tuple [.str "mark"]], dp_row W.kk hm.1 h4, .tup (SqT.of d3) (.cons (.tup (SqT.of d1) (.cons (.str _) .nil)) (.cons (.tup (SqT.of d2) (.cons (.str _) .nil)) .nil)), shaped_row hm.1, by decide +kernel, _, rfl, ?_⟩
        rw [any_id hm.1]
        cases e5 : idr (.tup m) with
        | true => exact iteC rfl ((show mrD plain (.tup [n, .tup m]) = true by rw [eg, e5]; rfl) ▸ k H4 k14)
        | false =>
          refine iteN rfl ?_
          rw [e5] at eg
          have eg : mrD plain (.tup [n, .tup m]) = arr plain (.tup m) := eg
          obtain ⟨b, us2, rfl, hb, p2⟩ := h4
          have hb : SqT K H4 b us2 := W.kk ▸ hb
          have el2 := p2.len
          refine ⟨_, rfl, b, us2, rfl, .inr hb, rfl, _, rfl, ?_⟩
          by_cases e6 : m.length = 4
          case neg =>
            refine iteC (by simp; omega) (goF ?_ H4 k14)
            rw [eg]
            exact arr_len e6
          refine iteN (by simp; omega) ?_
          obtain ⟨x0, x1, x2, x3, rfl⟩ : ∃ a b c d, m = [a, b, c, d] := by
            match m, e6 with
            | [a, b, c, d], _ => exact ⟨a, b, c, d, rfl⟩
          have i0 : isS x0 = true := by simpa using hm.2
          obtain ⟨s0, rfl⟩ : ∃ s0, x0 = .str s0 := by
            cases x0 with
            | str s0 => exact ⟨s0, rfl⟩
            | _ => cases i0
          obtain ⟨w0, w1, w2, w3, rfl, g0, g1, g2, g3⟩ := len4 p2
          cases g0
          have ea : arr plain (.tup [.str s0, x1, x2, x3]) = (decide (s0 = "around") && (amD plain x1 && (isS x2 && isS x3))) := rfl
          refine ⟨_, rfl, b, _, _, _, rfl, rfl, hb, atI_nat (j := 0) (xs := [.str s0, w1, w2, w3]) rfl, rfl, _, rfl, ?_⟩
          by_cases e7 : s0 = "around"
          case neg => exact iteC (by simp [e7]) (goF (by rw [eg, ea, decide_eq_false e7]; rfl) H4 k14)
          refine iteN (by simp [e7]) ⟨_, rfl, b, _, _, _, rfl, rfl, hb, atI_nat (j := 1) (xs := [.str s0, w1, w2, w3]) rfl, _, rfl, w1, x1, ap, plain, rfl, g1, .inl (SqL.same hap k14), _, rfl, ?_⟩
          rw [decide_eq_true e7] at ea
          cases e8 : amD plain x1 with
          | false => exact iteC rfl (goF (by rw [eg, ea, e8]; rfl) H4 k14)
          | true =>
            rw [e8] at ea
            refine iteN rfl ⟨_, rfl, b, _, _, _, rfl, rfl, hb, atI_nat (j := 2) (xs := [.str s0, w1, w2, w3]) rfl, w2, x2, rfl, g2, _, rfl, ?_⟩
            rw [isT_st]
            cases e9 : isS x2 with
            | false => exact iteN rfl (goF (by rw [eg, ea, e9]; rfl) H4 k14)
            | true =>
              refine iteC rfl ⟨_, rfl, b, _, _, _, rfl, rfl, hb, atI_nat (j := 3) (xs := [.str s0, w1, w2, w3]) rfl, w3, x3, rfl, g3, ?_⟩
              rw [isT_st]
              exact (show mrD plain (.tup [n, .tup [.str s0, x1, x2, x3]]) = isS x3 by rw [eg, ea, e9]; rfl) ▸ k H4 k14
end
end Kd

set_option Elab.async false
set_option linter.all false
set_option maxRecDepth 100000
set_option maxHeartbeats 4000000
namespace Kd
open PySem PySem.Spec PyProof.Rows L2 Dq Vl
variable {OB : Type} {O : Obs OB} {od : OB → Bool}
/-- a comprehension with a test: what stands for the turns that are taken -/
theorem lc_flt {J : It} {n : Nat} {G : Hp → Prop} {Y : Nat → Hp → V → Hp → Prop} (w : Walk J n G Y) {g : TG} {tt : TT} {te : TE} {vs : List Nat} {σ : L2.St} {H1 : Hp} {D : Addr} {Qd : Hp → Prop} (hD : H1 D = none) (inb : Nat → Bool) (out : Nat → V) (hn : n < sizeLine) (hG : ∀ H, Same H1 H → G H)
    (hs : ∀ i x H H' (N : V → Hp → Prop) (M : Hp → Prop), i < n → Same H1 H → Y i H x H' → (inb i = true → ∀ H4, Same H H4 → N (out i) H4) → (inb i = false → ∀ H4, Same H H4 → M H4) →
      g x (wipe σ vs) H' fun σ2 H2 => wipe σ2 vs = wipe σ vs ∧ tt σ2 H2 fun b H3 => if b = true then te σ2 H3 N else M H3)
    (hd : ∀ H, Same H1 H → H D = some (.lst (((List.range n).filter inb).map out)) → Qd H) :
    ∃ W : Nat → Nat → Hp → Prop, (∃ m, W 0 m (upd H1 D (.lst []))) ∧ ∀ i m H, W i m H →
      (J.stop i H ∧ Qd H) ∨ (J.go i H ∧ ∃ Nx : Hp → Prop, (∀ H', Nx H' → ∃ m', m' < m ∧ W (i + 1) m' H') ∧ ∀ x H', J.yld i H x H' → g x (wipe σ vs) H' fun σ2 H2 => wipe σ2 vs = wipe σ vs ∧ tt σ2 H2 fun b H3 =>
        if b = true then te σ2 H3 fun y H4 => ∃ acc, H4 D = some (.lst acc) ∧ acc.length < sizeLine ∧ Nx (upd H4 D (.lst (acc ++ [y]))) else Nx H3) := by
  refine lc_it w (fun i H => Same H1 H ∧ H D = some (.lst (((List.range i).filter inb).map out))) ⟨sm_upd hD, upd_same⟩ (fun i H _ h => hG H h.1) (fun i x H H' hi h y => ?_) (fun H h => hd H h.1 h.2)
  refine hs i x H H' _ _ hi h.1 y (fun e H4 k => ⟨_, k _ _ h.2, ?_, ?_, ?_⟩) (fun e H4 k => ⟨Same.trans h.1 k, ?_⟩)
  · rw [List.length_map]
    have := List.length_filter_le inb (List.range i)
    rw [List.length_range] at this
    omega
  · intro b o eb
    have nb : b ≠ D := fun z => by rw [z, hD] at eb; cases eb
    rw [upd_ne nb]
    exact k b o (h.1 b o eb)
  · rw [upd_same, List.range_succ, List.filter_append, List.map_append]
    simp [e]
  · rw [k _ _ h.2, List.range_succ, List.filter_append, List.map_append]
    simp [e]
theorem flt_map {α : Type} {β : Type} (p : α → Bool) (f : α → β) (q : Nat → Bool) (g : Nat → β) : ∀ (l : List α), (∀ i a, l[i]? = some a → q i = p a ∧ g i = f a) → ((List.range l.length).filter q).map g = (l.filter p).map f := fun l h => by
  induction l generalizing q g with
  | nil => rfl
  | cons x l ih =>
    have h0 := h 0 x rfl
    have ih := ih (fun i => q (i + 1)) (fun i => g (i + 1)) (fun i a e => h (i + 1) a (by simpa using e))
    rw [List.length_cons, List.range_succ_eq_map, List.filter_cons, List.filter_cons, h0.1, List.filter_map]
    cases e : p x with
    | false =>
      simp only [Bool.false_eq_true, if_false, List.map_map]
      exact ih
    | true =>
      simp only [if_true, List.map_cons, List.map_map, h0.2]
      exact congrArg _ ih
end Kd

set_option Elab.async false
set_option linter.all false
set_option maxRecDepth 100000
set_option maxHeartbeats 4000000
namespace Kd
open PySem PySem.Spec PyProof.Rows L2 Dq Vl
variable {OB : Type} {O : Obs OB} {od : OB → Bool}
/-- the world tells it as it is kept -/
def plR : DV OB → Bool
  | .tup [_, _, _, r] => isNo r
  | _ => false
def plN (gl : List (DV OB)) : List Str := (gl.filter plR).map nm0
def isIdRule : DV OB → Bool
  | .tup [_, .tup [.str r]] => decide (r = "id")
  | _ => false
def isIdRow : DV OB → Bool
  | .tup [.str s, x] => decide (s = "id") && isIdRule (.tup [.str s, x])
  | _ => false
def pyr : DV OB → PyData
  | .tup [_, .tup m] => .tuple (m.map py)
  | _ => .none
theorem nm_ok {s : Str} (h : nmS s = true) : PyData.strOk s = true := by
  simp only [nmS, Bool.and_eq_true] at h
  unfold PyData.strOk
  rw [← Array.all_toList]
  refine List.all_eq_true.mpr fun c hc => ?_
  have h2 := List.all_eq_true.mp h.2 c hc
  simp only [ltr, Bool.and_eq_true, decide_eq_true_eq] at h2
  exact decide_eq_true (by omega)
/-- a row that is right -/
theorem mr_row {plain : List Str} {d : DV OB} (h : mrD plain d = true) (k : okM d = true) : ∃ s m, d = .tup [.str s, .tup m] ∧ m.all lfo = true ∧ nmS s = true := by
  match d, h with
  | .tup [n, r], h =>
    have e : mrD plain (.tup [n, r]) = (nmD n && (isTu r && (idr r || arr plain r))) := rfl
    rw [e, Bool.and_eq_true, Bool.and_eq_true] at h
    obtain ⟨s, rfl⟩ : ∃ s, n = .str s := by
      cases n with
      | str s => exact ⟨s, rfl⟩
      | _ => cases h.1
    obtain ⟨m, rfl⟩ : ∃ m, r = .tup m := by
      cases r with
      | tup m => exact ⟨m, rfl⟩
      | _ => cases h.2.1
    simp only [okM, okRule, Bool.and_eq_true] at k
    exact ⟨s, m, rfl, k.2.1, h.1⟩
theorem eqv_21 (x y z : PyData) (r : List PyData) : PyData.eqvAll (y :: z :: r) [x] = false := by rw [PyData.eqvAll, PyData.eqvAll, Bool.and_false]
theorem eqv_str (a b : Str) : PyData.eqv (.str a) (.str b) = decide (a = b) := by
  rw [PyData.eqv, Bool.eq_iff_iff]
  simp
theorem eqv_id {s : Str} {m : List (DV OB)} (e : m.all lfo = true) : PyData.eqv (.tuple (m.map py)) (.tuple [.str "id"]) = isIdRule (.tup [.str s, .tup m]) := by
  rw [eqv_t]
  match m, e with
  | [], _ => rfl
  | [x], e =>
    cases x with
    | str z =>
      show PyData.eqvAll [.str z] [.str "id"] = decide (z = "id")
      rw [PyData.eqvAll, eqv_str, PyData.eqvAll, Bool.and_true]
    | non => rfl
    | bl b => rfl
    | int i => rfl
    | _ => cases e
  | x :: y :: r, _ =>
    rw [List.map_cons, List.map_cons, eqv_21]
    cases x <;> rfl
theorem eqv_idrow {s : Str} {m : List (DV OB)} (e : m.all lfo = true) : PyData.eqv (.tuple [.str s, .tuple (m.map py)]) (.tuple [.str "id", .tuple [.str "id"]]) = isIdRow (.tup [.str s, .tup m]) := by
  show _ = (decide (s = "id") && isIdRule (.tup [.str s, .tup m]))
  rw [← eqv_id e, eqv_t, PyData.eqvAll, PyData.eqvAll, PyData.eqvAll, eqv_str, Bool.and_true]
theorem shaped_row2 {s : Str} {m : List (DV OB)} (e : m.all lfo = true) (h : nmS s = true) : SeqAt.shaped (.tuple [.str s, .tuple (m.map py)]) = true := by
  obtain ⟨a, b, _⟩ := lay_leaves m e
  unfold SeqAt.shaped
  simp only [PyData.canLay0, PyData.canLayAll0, a, PyData.depth, PyData.depthAll, b, nm_ok h]
  rfl
/-- rows of made attributes, held against the given ones -/
def mdsL (gl l : List (DV OB)) : Bool := l.all (mrD (plN gl)) && (!l.isEmpty && (isIdRow (l.headD .non) && (decide (l.countP isIdRule = 1) && (decide (gl.map nm0 ++ l.map nm0).Nodup && decide (gl.length + l.length ≤ 8)))))
def mdsD (gl : List (DV OB)) : DV OB → Bool
  | .tup l => mdsL gl l
  | _ => false
def okMs : DV OB → Bool
  | .tup l => l.all okM && decide (l.length ≤ 1000)
  | _ => true
def spMds (K : PySem.W.Frag) (O : Obs OB) : Sp := fun vs H Q _ => ∃ (v vg : V) (d : DV OB) (gl : List (DV OB)), vs = [v, vg] ∧ Dv O H d v ∧ Dv O H (.tup gl) vg ∧ okMs d = true ∧ gl.all gvD = true ∧ gl.length ≤ 1000 ∧ ∀ H', Same H H' → Q (.bl (mdsD gl d)) H'
abbrev sMds : Stmt := Pf.top 19
abbrev NMds : List Str := ["rows", "given", "plain", "row", "rules", "names"]
theorem scMds : FnScope NMds ["rows", "given"] (defScope sMds) := ⟨rfl, rfl, rfl, by decide +kernel, rfl, by decide +kernel, by decide +kernel⟩
theorem gv_row {K : PySem.W.Frag} (kk : O.K = K) {H : Hp} {d : DV OB} {v : V} (h : Dv O H d v) (e : gvD d = true) : ∃ (a : Addr) (u1 u2 u3 : V) (r : DV OB), v = .ref a ∧ SqT K H a [.str (nm0 d), u1, u2, u3] ∧ Dv O H r u3 ∧ plR d = isNo r := by
  match d, e with
  | .tup [n, s, f, r], e =>
    obtain ⟨t, et⟩ := gv_named e
    obtain ⟨a, us, rfl, ha, hl⟩ := h
    obtain ⟨v1, v2, v3, v4, rfl, h1, h2, h3, h4⟩ := len4 hl
    simp only [DV.tup.injEq, List.cons.injEq] at et
    rw [et.1] at h1
    cases h1
    exact ⟨a, v2, v3, v4, r, rfl, kk ▸ ha, h4, rfl⟩
theorem mr_at {K : PySem.W.Frag} (kk : O.K = K) {H : Hp} {s : Str} {m : List (DV OB)} {v : V} (h : Dv O H (.tup [.str s, .tup m]) v) : ∃ (a : Addr) (u : V), v = .ref a ∧ SqT K H a [.str s, u] ∧ Dv O H (.tup m) u := by
  obtain ⟨a, us, rfl, ha, hl⟩ := h
  obtain ⟨v1, v2, rfl, h1, h2⟩ := len2 hl
  cases h1
  exact ⟨a, v2, rfl, kk ▸ ha, h2⟩
structure TxtM (mg : Str → Option Value) : Prop where
  most : ∃ t, mg "MOST_ATTRIBUTES" = some (.int 8 t)
end Kd

set_option Elab.async false
set_option linter.all false
set_option maxRecDepth 100000
set_option maxHeartbeats 4000000
namespace Kd
open PySem PySem.Spec PyProof.Rows L2 Dq Vl
variable {OB : Type} {O : Obs OB} {od : OB → Bool}
/-- the rules of the rows -/
theorem rules_of {K : PySem.W.Frag} (W : Tw K O od) {H : Hp} {plain : List Str} : ∀ {l : List (DV OB)} {us : List V}, DvL O H l us → (∀ d ∈ l, mrD plain d = true ∧ okM d = true) →
    ∃ rus : List V, rus.length = l.length ∧ (∀ H', Same H H' → DpAll K H' rus (l.map pyr)) ∧ ∀ (i : Nat) (y : V), us[i]? = some y → ∃ (b : Addr) (s : Str) (u : V) (x : DV OB), y = .ref b ∧ rus[i]? = some u ∧ SqT K H b [.str s, u] ∧ l[i]? = some x ∧ nm0 x = s
  | [], _, h, _ => by
    cases h
    exact ⟨[], rfl, fun _ _ => .nil, fun i y e => by simp at e⟩
  | x :: l, _, ⟨u, us, e, h, p⟩, g => by
    subst e
    obtain ⟨rus, r1, r2, r3⟩ := rules_of W p fun d hd => g d (List.mem_cons_of_mem _ hd)
    obtain ⟨s, m, rfl, hm, _⟩ := mr_row (g x List.mem_cons_self).1 (g x List.mem_cons_self).2
    obtain ⟨b, w, rfl, hb, hw⟩ := mr_at W.kk h
    refine ⟨w :: rus, by simp [r1], fun H' k => .cons (dp_row W.kk hm (W.dv k _ _ hw)) (r2 H' k), fun i y ey => ?_⟩
    cases i with
    | zero =>
      simp only [List.getElem?_cons_zero, Option.some.injEq] at ey
      exact ⟨b, s, w, _, ey.symm, rfl, hb, rfl, rfl⟩
    | succ i =>
      obtain ⟨b', s', u', x', e1, e2, e3, e4, e5⟩ := r3 i y (by simpa using ey)
      exact ⟨b', s', u', x', e1, by simpa using e2, e3, by simpa using e4, e5⟩
theorem plain_rows {plain : List Str} : ∀ {l : List (DV OB)}, (∀ d ∈ l, mrD plain d = true ∧ okM d = true) → PyData.plainAll (l.map pyr) = true ∧ (l.map pyr).countP (fun z => PyData.eqv z (.tuple [.str "id"])) = l.countP isIdRule
  | [], _ => ⟨rfl, rfl⟩
  | x :: l, g => by
    obtain ⟨a, b⟩ := plain_rows fun d hd => g d (List.mem_cons_of_mem _ hd)
    obtain ⟨s, m, rfl, hm, _⟩ := mr_row (g x List.mem_cons_self).1 (g x List.mem_cons_self).2
    obtain ⟨_, _, c⟩ := lay_leaves m hm
    refine ⟨?_, ?_⟩
    · rw [List.map_cons, PyData.plainAll, a]
      show ((PyData.tuple (m.map py)).plain && true) = true
      rw [PyData.plain, c]
      rfl
    · rw [List.map_cons, List.countP_cons, List.countP_cons, b]
      show _ + (if PyData.eqv (.tuple (m.map py)) (.tuple [.str "id"]) = true then 1 else 0) = _
      rw [eqv_id (s := s) hm]
section
variable {P : Program} {w : World} {K : PySem.W.Frag} {mg : Str → Option Value} {base : Heap}
theorem ok_mds {f fM fU : Addr} {fd fdM fdU : FuncData} (F : Fun K "_are_made" "_are_made" sMds f fd) (T : TxtK mg) (TM : TxtM mg) (W : Tw K O od)
    (DM : Def P w K mg base 2 "_is_made" fM fdM ["row", "plain"] (spMad K O)) (DU : Def P w K mg base 1 "are_unlike" fU fdU ["names"] (spUnl K)) :
    FnOk P w K mg base CX0 3 f fd ["rows", "given"] (spMds K O) := by
  obtain ⟨mt, hmost⟩ := TM.most
  refine F.ok scMds (fun vs H Q E h => ?_) (fun cdv A outer s H vs Q E hr h => ?_)
  · obtain ⟨v, vg, d, gl, rfl, _⟩ := h
    rfl
  · obtain ⟨v, vg, d, gl, rfl, hd, hg, hs, gg, gn, k⟩ := h
    refine ⟨_, (pss_cons (ps_set (i := 2) scMds.nd rfl (Or.inr rfl) (pe_lc (own := [("row", 3)]) (g := gName 3) rfl scMds.nd (pi_tup (pv 1)) (blkOk_by (N := NMds) (sc := defScope sMds) (by decide +kernel)) (fun _ _ _ _ _ => pg_name (i := 3) scMds.nd rfl (Or.inl rfl))
        (fun _ _ _ _ _ => pts_one (pt_cmpR op_isN (pe_ix (show IxR _ (rIxT K) from ix_tup) (pv 3) pe_int (fun _ _ => rfl)) pe_non (nomark _))) (fun _ _ _ _ _ => pe_ix (show IxR _ (rIxT K) from ix_tup) (pv 3) pe_int (fun _ _ => rfl))))
      (pss_cons (ps_if (PW.pt (pw_or (pt_not (pt_val (pe_callB (call_isK W (T := "tuple") (by simp)) (by rfl) T.isi (by decide +kernel) (pa_cons (pv 0) (pa_cons (pe_bltn (v := .ty "tuple") (by rfl) T.tuple (by decide +kernel) rfl) pa_nil))))) (pw_or1 (pt_not (pt_val (pe_callB (cr_all rfl) (by rfl) T.all (by decide +kernel) (pa_cons (pe_lc (own := [("row", 3)]) (g := gName 3) (tt := tYes) rfl scMds.nd (pi_tup (pv 0)) (blkOk_by (N := NMds) (sc := defScope sMds) (by decide +kernel)) (fun _ _ _ _ _ => pg_name (i := 3) scMds.nd rfl (Or.inl rfl)) (fun _ _ _ _ _ => pts_nil)
        (fun _ _ _ _ _ => pe_call DM.ok (hr.mono (by omega)) rfl DM.g DM.kp DM.b .nil pass0 (pa_cons (pv 3) (pa_cons (pv 2) pa_nil)))) pa_nil))))))) (pss_one (ps_ret pe_bl)) pss_nil)
      (pss_cons (ps_setLc (i := 4) (own := [("row", 3)]) (g := gName 3) (tt := tYes) rfl scMds.nd rfl rfl (sw_true rfl rfl rfl (by decide +kernel)) (pi_tup (pv 0)) (blkOk_by (N := NMds) (sc := defScope sMds) (by decide +kernel)) (fun _ _ _ _ _ => pg_name (i := 3) scMds.nd rfl (Or.inl rfl)) (fun _ _ _ _ _ => pts_nil) (fun _ _ _ _ _ => pe_ix (show IxR _ (rIxT K) from ix_tup) (pv 3) pe_int (fun _ _ => rfl)))
      (pss_cons (ps_if (PW.pt (pw_or (pt_not (pt_truth (pv 0) (fun _ => rfl))) (pw_or (pt_cmpR (op_neD hr.units) (pe_ix (show IxR _ (rIxT K) from ix_tup) (pv 0) pe_int (fun _ _ => rfl)) (pe_tup (pa_cons pe_str (pa_cons (pe_tup (pa_cons pe_str pa_nil)) pa_nil))) (nomark _)) (pw_or1 (pt_cmpR op_ne (pe_bm PySem.F.plainAttrs_list PySem.F.slot_list_count PySem.F.type_list_count (mt_countD (hu65 hr)) (pv 4) (pa_cons (pe_tup (pa_cons pe_str pa_nil)) pa_nil)) pe_int (nomark _)))))) (pss_one (ps_ret pe_bl)) pss_nil)
      (pss_cons (ps_set (i := 5) scMds.nd rfl (Or.inl rfl) (pe_op op_cat (pe_lc (own := [("row", 3)]) (g := gName 3) (tt := tYes) rfl scMds.nd (pi_tup (pv 1)) (blkOk_by (N := NMds) (sc := defScope sMds) (by decide +kernel)) (fun _ _ _ _ _ => pg_name (i := 3) scMds.nd rfl (Or.inl rfl)) (fun _ _ _ _ _ => pts_nil) (fun _ _ _ _ _ => pe_ix (show IxR _ (rIxT K) from ix_tup) (pv 3) pe_int (fun _ _ => rfl)))
        (pe_lc (own := [("row", 3)]) (g := gName 3) (tt := tYes) rfl scMds.nd (pi_tup (pv 0)) (blkOk_by (N := NMds) (sc := defScope sMds) (by decide +kernel)) (fun _ _ _ _ _ => pg_name (i := 3) scMds.nd rfl (Or.inl rfl)) (fun _ _ _ _ _ => pts_nil) (fun _ _ _ _ _ => pe_ix (show IxR _ (rIxT K) from ix_tup) (pv 3) pe_int (fun _ _ => rfl)))))
      (pss_one (ps_ret (pe_and (pe_call DU.ok (hr.mono (by omega)) rfl DU.g DU.kp DU.b .nil pass0 (pa_cons (pv 5) pa_nil)) (pe_one (pe_cmp (pc_le (pe_callB call_len_seq (by rfl) T.len PySem.boot_len (pa_cons (pv 5) pa_nil)) (pe_glob (v := .int 8) rfl hmost ⟨_, rfl⟩)) rfl)))))))))), ?_⟩
    have goF : mdsD gl d = false → ∀ H', Same H H' → Q (.bl false) H' := fun e H' k' => e ▸ k H' k'
    obtain ⟨ag, ug, rfl, hag, hgl⟩ := hg
    have hag : SqT K H ag ug := W.kk ▸ hag
    have elg := hgl.len
    have smg : ug.length < sizeLine := by rw [elg]; exact Nat.lt_of_le_of_lt gn (by decide)
    refine ⟨_, rfl, ag, rfl, ⟨_, hag⟩, fun D0 hD0 => ?_⟩
    refine lc_flt (walk_tup (xs := ug)) hD0 (fun i => plR (gl.getD i .non)) (fun i => .str (nm0 (gl.getD i .non))) smg (fun H2 k2 => SqT.same hag k2) (fun i y H2 H2' N M hi k2 hy q1 q2 => ?_) (fun H0 k0 h0 => ?_)
    · obtain ⟨rfl, ex⟩ := hy
      obtain ⟨x, e1, hx⟩ := rowAt hgl ex
      have eg : gl.getD i .non = x := by rw [List.getD_eq_getElem?_getD, e1]; rfl
      rw [eg] at q1 q2
      obtain ⟨b, u1, u2, u3, r, rfl, hb, hr3, er⟩ := gv_row W.kk (W.dv k2 _ _ hx) (List.all_eq_true.mp gg x (List.mem_of_getElem? e1))
      refine ⟨rfl, _, rfl, b, _, _, _, rfl, rfl, hb, atI_nat (j := 3) (xs := [.str (nm0 x), u1, u2, u3]) rfl, rfl, _, rfl, ?_⟩
      rw [isN_no W hr3, ← er]
      cases e9 : plR x with
      | true => exact iteC rfl ⟨_, rfl, b, _, _, _, rfl, rfl, hb, atI_nat (j := 0) (xs := [.str (nm0 x), u1, u2, u3]) rfl, q1 e9 _ (Same.refl _)⟩
      | false => exact iteN rfl (q2 e9 _ (Same.refl _))
    have eP : ((List.range ug.length).filter fun i => plR (gl.getD i .non)).map (fun i => V.str (nm0 (gl.getD i .non))) = (plN gl).map V.str := by
      rw [elg, plN, List.map_map]
      exact flt_map plR (V.str ∘ nm0) _ _ gl fun i a e => by rw [List.getD_eq_getElem?_getD, e]; exact ⟨rfl, rfl⟩
    rw [eP] at h0
    refine ⟨_, rfl, v, d, rfl, W.dv k0 _ _ hd, _, rfl, ?_⟩
    rw [isT_tu]
    by_cases et : isTu d = true
    case neg =>
      have et := (Bool.not_eq_true _).mp et
      rw [et]
      refine iteC rfl (goF ?_ H0 k0)
      cases d with
      | tup l => cases et
      | _ => rfl
    rw [et]
    obtain ⟨l, rfl⟩ : ∃ l, d = .tup l := by
      cases d with
      | tup l => exact ⟨l, rfl⟩
      | _ => cases et
    obtain ⟨a, us, rfl, ha, hl⟩ := hd
    have ha : SqT K H a us := W.kk ▸ ha
    have el := hl.len
    simp only [okMs, Bool.and_eq_true, decide_eq_true_eq] at hs
    have sml : us.length < sizeLine := by rw [el]; exact Nat.lt_of_le_of_lt hs.2 (by decide)
    refine iteN rfl ⟨_, rfl, a, rfl, ⟨_, SqT.same ha k0⟩, fun D1 hD1 => ?_⟩
    refine lc_out (walk_tup (xs := us)) hD1 (fun i => .bl (mrD (plN gl) (l.getD i .non))) sml (fun H2 k2 => SqT.same (SqT.same ha k0) k2) (fun i y H2 H2' N hi k2 hy q => ?_) (fun H1 k1' h1 => ?_)
    · obtain ⟨rfl, ex⟩ := hy
      obtain ⟨x, e1, hx⟩ := rowAt hl ex
      have eg : l.getD i .non = x := by rw [List.getD_eq_getElem?_getD, e1]; rfl
      rw [eg] at q
      exact ⟨rfl, y, rfl, _, rfl, y, x, D0, plN gl, rfl, W.dv (Same.trans k0 k2) _ _ hx, List.all_eq_true.mp hs.1 x (List.mem_of_getElem? e1), SqL.of (k2 _ _ h0), fun H3 k3 => q H3 k3⟩
    have k1 := Same.trans k0 k1'
    refine ⟨D1, l.map (mrD (plN gl)), rfl, SqL.of ?_, _, rfl, ?_⟩
    · rw [h1, List.map_map, el]
      exact congrArg (fun z => some (HO.lst z)) (range_map (fun c => V.bl (mrD (plN gl) c)) _ l fun i a h => by rw [List.getD_eq_getElem?_getD, h]; rfl)
    rw [all_map]
    have em : mdsD gl (.tup l) = mdsL gl l := rfl
    cases eg : l.all (mrD (plN gl)) with
    | false => exact iteC rfl (goF (by rw [em, mdsL, eg]; rfl) H1 k1)
    | true =>
      have gr : ∀ d ∈ l, mrD (plN gl) d = true ∧ okM d = true := fun d hd => ⟨List.all_eq_true.mp eg d hd, List.all_eq_true.mp hs.1 d hd⟩
      obtain ⟨rus, r1, r2, r3⟩ := rules_of W hl gr
      obtain ⟨p1, p2⟩ := plain_rows gr
      rw [mdsL, eg, Bool.true_and] at em
      refine iteN rfl ⟨_, rfl, a, rfl, ⟨_, SqT.same ha k1⟩, fun D2 hD2 => ?_⟩
      refine lc_out (walk_tup (xs := us)) hD2 (fun i => rus.getD i .non) sml (fun H2 k2 => SqT.same (SqT.same ha k1) k2) (fun i y H2 H2' N hi k2 hy q => ?_) (fun H2 k2' h2 => ?_)
      · obtain ⟨rfl, ex⟩ := hy
        obtain ⟨b, s1, u1, _, rfl, e2, hb, _⟩ := r3 i y ex
        have eg : rus.getD i .non = u1 := by rw [List.getD_eq_getElem?_getD, e2]; rfl
        rw [eg] at q
        exact ⟨rfl, _, rfl, b, _, _, _, rfl, rfl, SqT.same (SqT.same hb k1) k2, atI_nat (j := 1) (xs := [.str s1, u1]) rfl, q _ (Same.refl _)⟩
      have k2 := Same.trans k1 k2'
      have eR : (List.range us.length).map (fun i => rus.getD i .non) = rus := by
        rw [el, ← r1]
        exact (range_map (fun z : V => z) _ rus fun i a h => by rw [List.getD_eq_getElem?_getD, h]; rfl).trans (List.map_id _)
      rw [eR] at h2
      refine ⟨_, rfl, _, .inr (.inl ⟨_, SqT.same ha k2, rfl⟩), ?_⟩
      cases l with
      | nil =>
        obtain rfl : us = [] := List.length_eq_zero_iff.mp el
        exact iteC rfl (goF em H2 k2)
      | cons x0 l' =>
        obtain ⟨u0, us', rfl, hx0, hl'⟩ := hl
        obtain ⟨s0, m0, rfl, hm0, hs0⟩ := mr_row (gr x0 List.mem_cons_self).1 (gr x0 List.mem_cons_self).2
        refine iteN rfl ⟨_, rfl, a, _, _, _, rfl, rfl, SqT.same ha k2, atI_nat (j := 0) rfl, by show 1 ≤ sizeLine; decide, fun t1 n1 => ⟨by show 2 ≤ sizeLine; decide, fun t2 n2 => ?_⟩⟩
        have k3' : Same H2 (upd (upd H2 t1 (.tup [.str "id"])) t2 (.tup [.str "id", .ref t1])) := Same.upd (sm_upd n1) n2
        have d1 : (upd (upd H2 t1 (.tup [.str "id"])) t2 (.tup [.str "id", .ref t1])) t1 = some (.tup [.str "id"]) := (sm_upd n2) _ _ upd_same
        have d2 : (upd (upd H2 t1 (.tup [.str "id"])) t2 (.tup [.str "id", .ref t1])) t2 = some (.tup [.str "id", .ref t1]) := upd_same
        generalize (upd (upd H2 t1 (.tup [.str "id"])) t2 (.tup [.str "id", .ref t1])) = H3 at k3' d1 d2
        have k3 := Same.trans k2 k3'
        obtain ⟨b0, w0, rfl, hb0, hw0⟩ := mr_at W.kk hx0
        refine ⟨.tuple [.str s0, .tuple (m0.map py)], .tuple [.str "id", .tuple [.str "id"]], .tup (SqT.same hb0 k3) (.cons (.str _) (.cons (dp_row W.kk hm0 (W.dv k3 _ _ hw0)) .nil)), .tup (SqT.of d2) (.cons (.str _) (.cons (.tup (SqT.of d1) (.cons (.str _) .nil)) .nil)), shaped_row2 hm0 hs0, by decide +kernel, _, rfl, ?_⟩
        rw [eqv_idrow hm0]
        have em : mdsD gl (.tup (.tup [.str s0, .tup m0] :: l')) = (isIdRow (.tup [.str s0, .tup m0]) && (decide ((DV.tup [.str s0, .tup m0] :: l').countP isIdRule = 1) && (decide (gl.map nm0 ++ (DV.tup [.str s0, .tup m0] :: l').map nm0).Nodup && decide (gl.length + (DV.tup [.str s0, .tup m0] :: l').length ≤ 8)))) := em
        cases e4 : isIdRow (DV.tup [.str s0, .tup m0] : DV OB) with
        | false => exact iteC rfl (goF (by rw [em, e4]; rfl) H3 k3)
        | true =>
          rw [e4, Bool.true_and] at em
          refine iteN rfl ⟨_, rfl, .inl ⟨rfl, _, SqL.of (k3' _ _ h2)⟩, by show 1 ≤ sizeLine; decide, fun t3 n3 => ?_⟩
          have k4 := Same.trans k3 (sm_upd (o := .tup [.str "id"]) n3)
          have d3 : (upd H3 t3 (.tup [.str "id"])) t3 = some (.tup [.str "id"]) := upd_same
          have h2' : (upd H3 t3 (.tup [.str "id"])) D2 = some (.lst rus) := (sm_upd n3) _ _ (k3' _ _ h2)
          generalize (upd H3 t3 (.tup [.str "id"])) = H4 at k4 d3 h2'
          refine ⟨D2, rus, .ref t3, .tuple [.str "id"], _, rfl, rfl, SqL.of h2', r2 H4 k4, .tup (SqT.of d3) (.cons (.str _) .nil), by decide +kernel, p1, rfl, _, rfl, ?_⟩
          rw [p2]
          by_cases e5 : (DV.tup [.str s0, .tup m0] :: l').countP isIdRule = 1
          case neg => exact iteC (by simp; omega) (goF (by rw [em, decide_eq_false e5]; rfl) H4 k4)
          rw [decide_eq_true e5, Bool.true_and] at em
          refine iteN (by simp [e5]) ⟨_, rfl, ag, rfl, ⟨_, SqT.same hag k4⟩, fun D3 hD3 => ?_⟩
          refine lc_out (walk_tup (xs := ug)) hD3 (fun i => .str (nm0 (gl.getD i .non))) smg (fun H5 k5 => SqT.same (SqT.same hag k4) k5) (fun i y H5 H5' N hi k5 hy q => ?_) (fun H5 k5' h5 => ?_)
          · obtain ⟨rfl, ex⟩ := hy
            obtain ⟨x, e1, hx⟩ := rowAt hgl ex
            have eg : gl.getD i .non = x := by rw [List.getD_eq_getElem?_getD, e1]; rfl
            rw [eg] at q
            obtain ⟨b, u1, u2, u3, r, rfl, hb, _⟩ := gv_row W.kk hx (List.all_eq_true.mp gg x (List.mem_of_getElem? e1))
            exact ⟨rfl, _, rfl, b, _, _, _, rfl, rfl, SqT.same (SqT.same hb k4) k5, atI_nat (j := 0) (xs := [.str (nm0 x), u1, u2, u3]) rfl, q _ (Same.refl _)⟩
          have k5 := Same.trans k4 k5'
          refine ⟨_, rfl, a, rfl, ⟨_, SqT.same ha k5⟩, fun D4 hD4 => ?_⟩
          refine lc_out (walk_tup (xs := .ref b0 :: us')) hD4 (fun i => .str (nm0 ((DV.tup [.str s0, .tup m0] :: l').getD i .non))) sml (fun H6 k6 => SqT.same (SqT.same ha k5) k6) (fun i y H6 H6' N hi k6 hy q => ?_) (fun H6 k6' h6 => ?_)
          · obtain ⟨rfl, ex⟩ := hy
            obtain ⟨b, s1, u1, x, rfl, e2, hb, e7, e8⟩ := r3 i y ex
            have eg : (DV.tup [.str s0, .tup m0] :: l').getD i .non = x := by rw [List.getD_eq_getElem?_getD, e7]; rfl
            rw [eg, e8] at q
            exact ⟨rfl, _, rfl, b, _, _, _, rfl, rfl, SqT.same (SqT.same hb k5) k6, atI_nat (j := 0) (xs := [.str s1, u1]) rfl, q _ (Same.refl _)⟩
          have k6 := Same.trans k5 k6'
          have eA : (List.range ug.length).map (fun i => V.str (nm0 (gl.getD i .non))) = (gl.map nm0).map V.str := by
            rw [elg, List.map_map]
            exact range_map (V.str ∘ nm0) _ gl fun i a h => by rw [List.getD_eq_getElem?_getD, h]; rfl
          have eB : (List.range (V.ref b0 :: us').length).map (fun i => V.str (nm0 ((DV.tup [.str s0, .tup m0] :: l').getD i .non))) = ((DV.tup [.str s0, .tup m0] :: l').map nm0).map V.str := by
            rw [el, List.map_map]
            exact range_map (V.str ∘ nm0) _ _ fun i a h => by rw [List.getD_eq_getElem?_getD, h]; rfl
          rw [eA] at h5
          rw [eB] at h6
          refine ⟨D3, D4, _, _, rfl, rfl, k6' _ _ h5, h6, ?_, fun D5 hD5 => ?_⟩
          · rw [List.length_map, List.length_map, List.length_map, List.length_map]
            have : gl.length + (DV.tup [.str s0, .tup m0] :: l').length ≤ 2000 := by omega
            exact Nat.le_trans this (by decide)
          have k7 := Same.trans k6 (sm_upd (o := .lst ((gl.map nm0).map V.str ++ ((DV.tup [.str s0, .tup m0] :: l').map nm0).map V.str)) hD5)
          rw [← List.map_append] at k7 ⊢
          refine ⟨_, rfl, D5, _, rfl, SqL.of upd_same, ?_, _, rfl, ?_⟩
          · rw [List.length_append, List.length_map, List.length_map]
            omega
          cases e6 : decide (gl.map nm0 ++ (DV.tup [.str s0, .tup m0] :: l').map nm0).Nodup with
          | false => exact iteN rfl (goF (by rw [em, e6]; rfl) _ k7)
          | true =>
            refine iteC rfl ⟨_, rfl, D5, _, rfl, .inl (SqL.of upd_same), _, _, rfl, rfl, ?_⟩
            have e8 : mdsD gl (.tup (.tup [.str s0, .tup m0] :: l')) = decide ((((gl.map nm0 ++ (DV.tup [.str s0, .tup m0] :: l').map nm0).map V.str).length : Int) ≤ 8) := by
              rw [em, e6, Bool.true_and, List.length_map, List.length_append, List.length_map, List.length_map]
              exact decide_eq_decide.mpr (by omega)
            have z := k _ k7
            rw [e8] at z
            exact z
end
end Kd

set_option Elab.async false
set_option linter.all false
set_option maxRecDepth 100000
set_option maxHeartbeats 4000000
namespace Kd
open PySem PySem.Spec PyProof.Rows L2 Dq Vl
variable {OB : Type} {O : Obs OB} {od : OB → Bool}
abbrev sHld : Stmt := Pf.top 21
abbrev NHld : List Str := ["thing", "names", "name"]
theorem scHld : FnScope NHld ["thing", "names"] (defScope sHld) := ⟨rfl, rfl, rfl, by decide +kernel, rfl, by decide +kernel, by decide +kernel⟩
def sOf : DV OB → Str
  | .str s => s
  | _ => Str.empty
def hldL (names : List Str) (l : List (DV OB)) : Bool := l.all (amD names) && decide (l.map sOf).Nodup
/-- held names -/
def hldD (names : List Str) : DV OB → Bool
  | .tup l => hldL names l
  | _ => false
def okH : DV OB → Bool
  | .tup l => decide (l.length ≤ 1000)
  | _ => true
def spHld (K : PySem.W.Frag) (O : Obs OB) : Sp := fun vs H Q _ => ∃ (v : V) (d : DV OB) (a : Addr) (names : List Str), vs = [v, .ref a] ∧ Dv O H d v ∧ okH d = true ∧ SqL K H a (names.map V.str) ∧ ∀ H', Same H H' → Q (.bl (hldD names d)) H'
theorem strs_of {H : Hp} {names : List Str} : ∀ {l : List (DV OB)} {us : List V}, DvL O H l us → l.all (amD names) = true → us = (l.map sOf).map V.str
  | [], _, h, _ => by cases h; rfl
  | x :: l, _, ⟨u, us, e, h, p⟩, g => by
    simp only [List.all_cons, Bool.and_eq_true] at g
    subst e
    rw [List.map_cons, List.map_cons, ← strs_of p g.2]
    cases x with
    | str s => cases h; rfl
    | _ => cases g.1
section
variable {P : Program} {w : World} {K : PySem.W.Frag} {mg : Str → Option Value} {base : Heap}
theorem ok_hld {f fA fU : Addr} {fd fdA fdU : FuncData} (F : Fun K "_are_held" "_are_held" sHld f fd) (T : TxtK mg) (W : Tw K O od)
    (DA : Def P w K mg base 1 "_is_among" fA fdA ["thing", "names"] (spAmo K O)) (DU : Def P w K mg base 1 "are_unlike" fU fdU ["names"] (spUnl K)) :
    FnOk P w K mg base CX0 2 f fd ["thing", "names"] (spHld K O) := by
  refine F.ok scHld (fun vs H Q E h => ?_) (fun cdv A outer s H vs Q E hr h => ?_)
  · obtain ⟨v, d, a, names, rfl, _⟩ := h
    rfl
  · obtain ⟨v, d, an, names, rfl, hd, hs, han, k⟩ := h
    refine ⟨_, (pss_cons (ps_if (PW.pt (pw_or (pt_not (pt_val (pe_callB (call_isK W (T := "tuple") (by simp)) (by rfl) T.isi (by decide +kernel) (pa_cons (pv 0) (pa_cons (pe_bltn (v := .ty "tuple") (by rfl) T.tuple (by decide +kernel) rfl) pa_nil))))) (pw_or1 (pt_not (pt_val (pe_callB (cr_all rfl) (by rfl) T.all (by decide +kernel) (pa_cons (pe_lc (own := [("name", 2)]) (g := gName 2) (tt := tYes) rfl scHld.nd (pi_tup (pv 0)) (blkOk_by (N := NHld) (sc := defScope sHld) (by decide +kernel)) (fun _ _ _ _ _ => pg_name (i := 2) scHld.nd rfl (Or.inl rfl)) (fun _ _ _ _ _ => pts_nil)
        (fun _ _ _ _ _ => pe_call DA.ok (hr.mono (by omega)) rfl DA.g DA.kp DA.b .nil pass0 (pa_cons (pv 2) (pa_cons (pv 1) pa_nil)))) pa_nil))))))) (pss_one (ps_ret pe_bl)) pss_nil)
      (pss_one (ps_ret (pe_call DU.ok (hr.mono (by omega)) rfl DU.g DU.kp DU.b .nil pass0 (pa_cons (pe_callTy call_list_of (by rfl) T.list (by decide +kernel) (pa_cons (pv 0) pa_nil)) pa_nil))))), ?_⟩
    have goF : hldD names d = false → ∀ H', Same H H' → Q (.bl false) H' := fun e H' k' => e ▸ k H' k'
    refine ⟨_, rfl, v, d, rfl, hd, _, rfl, ?_⟩
    rw [isT_tu]
    by_cases et : isTu d = true
    case neg =>
      have et := (Bool.not_eq_true _).mp et
      rw [et]
      refine iteC rfl (goF ?_ H (Same.refl H))
      cases d with
      | tup l => cases et
      | _ => rfl
    rw [et]
    obtain ⟨l, rfl⟩ : ∃ l, d = .tup l := by
      cases d with
      | tup l => exact ⟨l, rfl⟩
      | _ => cases et
    obtain ⟨a, us, rfl, ha, hl⟩ := hd
    have ha : SqT K H a us := W.kk ▸ ha
    have el := hl.len
    have hs : l.length ≤ 1000 := of_decide_eq_true hs
    have sml : us.length < sizeLine := by rw [el]; exact Nat.lt_of_le_of_lt hs (by decide)
    refine iteN rfl ⟨_, rfl, a, rfl, ⟨_, ha⟩, fun D1 hD1 => ?_⟩
    refine lc_out (walk_tup (xs := us)) hD1 (fun i => .bl (amD names (l.getD i .non))) sml (fun H2 k2 => SqT.same ha k2) (fun i y H2 H2' N hi k2 hy q => ?_) (fun H1 k1 h1 => ?_)
    · obtain ⟨rfl, ex⟩ := hy
      obtain ⟨x, e1, hx⟩ := rowAt hl ex
      have eg : l.getD i .non = x := by rw [List.getD_eq_getElem?_getD, e1]; rfl
      rw [eg] at q
      exact ⟨rfl, y, rfl, _, rfl, y, x, an, names, rfl, W.dv k2 _ _ hx, .inl (SqL.same han k2), q _ (Same.refl _)⟩
    refine ⟨D1, l.map (amD names), rfl, SqL.of ?_, _, rfl, ?_⟩
    · rw [h1, List.map_map, el]
      exact congrArg (fun z => some (HO.lst z)) (range_map (fun c => V.bl (amD names c)) _ l fun i a h => by rw [List.getD_eq_getElem?_getD, h]; rfl)
    rw [all_map]
    have em : hldD names (.tup l) = hldL names l := rfl
    cases eg : l.all (amD names) with
    | false => exact iteC rfl (goF (by rw [em, hldL, eg]; rfl) H1 k1)
    | true =>
      rw [hldL, eg, Bool.true_and] at em
      have eu := strs_of hl eg
      refine iteN rfl ⟨_, rfl, a, us, rfl, .inr (SqT.same ha k1), fun D2 hD2 => ?_⟩
      refine ⟨D2, l.map sOf, rfl, SqL.of (by rw [← eu]; exact upd_same), by rw [List.length_map]; omega, ?_⟩
      rw [← em]
      exact k _ (Same.trans k1 (sm_upd hD2))
end
/-! ### the first part that is wrong -/
abbrev sWrg : Stmt := Pf.top 14
abbrev NWrg : List Str := ["name", "given", "made", "single", "holds", "names", "row"]
theorem scWrg : FnScope NWrg ["name", "given", "made", "single", "holds"] (defScope sWrg) := ⟨rfl, rfl, rfl, by decide +kernel, rfl, by decide +kernel, by decide +kernel⟩
def tupL : DV OB → List (DV OB)
  | .tup l => l
  | _ => []
/-- the five parts of a kind -/
structure Kp (OB : Type) where
  n : DV OB
  g : DV OB
  m : DV OB
  s : DV OB
  h : DV OB
def wrg (k : Kp OB) : Option Str :=
  if nmD k.n = false then some ("name" : Str) else if gvsD k.g = false then some ("given" : Str) else if mdsD (tupL k.g) k.m = false then some ("made" : Str) else
  if (isNo k.s || amD ((tupL k.g).map nm0) k.s) = false then some ("single" : Str) else if hldD ((tupL k.g).map nm0) k.h = false then some ("holds" : Str) else none
def wrV : Option Str → V
  | none => .non
  | some s => .str s
def okK (k : Kp OB) : Bool := shD k.n && (okA k.g && (okMs k.m && okH k.h))
def KpAt (O : Obs OB) (H : Hp) (k : Kp OB) (vs : List V) : Prop := ∃ a b c d e, vs = [a, b, c, d, e] ∧ Dv O H k.n a ∧ Dv O H k.g b ∧ Dv O H k.m c ∧ Dv O H k.s d ∧ Dv O H k.h e
def spWrg (O : Obs OB) : Sp := fun vs H Q _ => ∃ k : Kp OB, KpAt O H k vs ∧ okK k = true ∧ ∀ H', Same H H' → Q (wrV (wrg k)) H'
section
variable {P : Program} {w : World} {K : PySem.W.Frag} {mg : Str → Option Value} {base : Heap}
theorem ok_wrg {f fN fG fM fA fL : Addr} {fd fdN fdG fdM fdA fdL : FuncData} (F : Fun K "_wrong_part" "_wrong_part" sWrg f fd) (T : TxtK mg) (W : Tw K O od)
    (DN : Def P w K mg base 1 "is_name" fN fdN ["thing"] (spB O shD nmD)) (DG : Def P w K mg base 3 "_are_given" fG fdG ["rows"] (spB O okA gvsD)) (DM : Def P w K mg base 3 "_are_made" fM fdM ["rows", "given"] (spMds K O))
    (DA : Def P w K mg base 1 "_is_among" fA fdA ["thing", "names"] (spAmo K O)) (DL : Def P w K mg base 2 "_are_held" fL fdL ["thing", "names"] (spHld K O)) :
    FnOk P w K mg base CX0 4 f fd ["name", "given", "made", "single", "holds"] (spWrg O) := by
  refine F.ok scWrg (fun vs H Q E h => ?_) (fun cdv A outer s H vs Q E hr h => ?_)
  · obtain ⟨k, ⟨a, b, c, d, e, rfl, _⟩, _⟩ := h
    rfl
  · obtain ⟨⟨n, g, m, sg, hh⟩, ⟨va, vb, vc, vd, ve, rfl, hn, hg, hm, hsg, hhh⟩, ok, k⟩ := h
    simp only at hn hg hm hsg hhh
    simp only [okK, Bool.and_eq_true] at ok
    refine ⟨_, (pss_cons (ps_if (pt_not (pt_val (pe_call DN.ok (hr.mono (by omega)) rfl DN.g DN.kp DN.b .nil pass0 (pa_cons (pv 0) pa_nil)))) (pss_one (ps_ret pe_str)) pss_nil)
      (pss_cons (ps_if (pt_not (pt_val (pe_call DG.ok (hr.mono (by omega)) rfl DG.g DG.kp DG.b .nil pass0 (pa_cons (pv 1) pa_nil)))) (pss_one (ps_ret pe_str)) pss_nil)
      (pss_cons (ps_if (pt_not (pt_val (pe_call DM.ok (hr.mono (by omega)) rfl DM.g DM.kp DM.b .nil pass0 (pa_cons (pv 2) (pa_cons (pv 1) pa_nil))))) (pss_one (ps_ret pe_str)) pss_nil)
      (pss_cons (ps_setLc (i := 5) (own := [("row", 6)]) (g := gName 6) (tt := tYes) rfl scWrg.nd rfl rfl (sw_true rfl rfl rfl (by decide +kernel)) (pi_tup (pv 1)) (blkOk_by (N := NWrg) (sc := defScope sWrg) (by decide +kernel)) (fun _ _ _ _ _ => pg_name (i := 6) scWrg.nd rfl (Or.inl rfl)) (fun _ _ _ _ _ => pts_nil) (fun _ _ _ _ _ => pe_ix (show IxR _ (rIxT K) from ix_tup) (pv 6) pe_int (fun _ _ => rfl)))
      (pss_cons (ps_if (PW.pt (pw_and (pt_cmpR op_notN (pv 3) pe_non (nomark _)) (pw_and1 (pt_not (pt_val (pe_call DA.ok (hr.mono (by omega)) rfl DA.g DA.kp DA.b .nil pass0 (pa_cons (pv 3) (pa_cons (pv 5) pa_nil)))))))) (pss_one (ps_ret pe_str)) pss_nil)
      (pss_cons (ps_if (pt_not (pt_val (pe_call DL.ok (hr.mono (by omega)) rfl DL.g DL.kp DL.b .nil pass0 (pa_cons (pv 4) (pa_cons (pv 5) pa_nil))))) (pss_one (ps_ret pe_str)) pss_nil)
      (pss_one (ps_ret pe_non)))))))), ?_⟩
    refine ⟨_, rfl, va, n, rfl, hn, ok.1, fun H1 k1 => ⟨_, rfl, ?_⟩⟩
    cases e1 : nmD n with
    | false =>
      have ew : wrg ⟨n, g, m, sg, hh⟩ = some ("name" : Str) := by simp [wrg, e1]
      exact iteC rfl (show Q (wrV (some ("name" : Str))) H1 from ew ▸ k H1 k1)
    | true =>
    refine iteN rfl ⟨_, rfl, vb, g, rfl, W.dv k1 _ _ hg, ok.2.1, fun H2 k2' => ⟨_, rfl, ?_⟩⟩
    have k2 := Same.trans k1 k2'
    cases e2 : gvsD g with
    | false =>
      have ew : wrg ⟨n, g, m, sg, hh⟩ = some ("given" : Str) := by simp [wrg, e1, e2]
      exact iteC rfl (show Q (wrV (some ("given" : Str))) H2 from ew ▸ k H2 k2)
    | true =>
    obtain ⟨gl, rfl⟩ : ∃ gl, g = .tup gl := by
      cases g with
      | tup l => exact ⟨l, rfl⟩
      | _ => cases e2
    have e2' := e2
    simp only [gvsD, Bool.and_eq_true] at e2'
    have okg := ok.2.1
    simp only [okA, Bool.and_eq_true, decide_eq_true_eq] at okg
    refine iteN rfl ⟨_, rfl, _, rfl, vc, vb, m, gl, rfl, W.dv k2 _ _ hm, W.dv k2 _ _ hg, ok.2.2.1, e2'.1, okg.2, fun H3 k3' => ⟨_, rfl, ?_⟩⟩
    have k3 := Same.trans k2 k3'
    cases e3 : mdsD gl m with
    | false =>
      have ew : wrg ⟨n, .tup gl, m, sg, hh⟩ = some ("made" : Str) := by simp [wrg, e1, e2, tupL, e3]
      exact iteC rfl (show Q (wrV (some ("made" : Str))) H3 from ew ▸ k H3 k3)
    | true =>
    obtain ⟨ag, ug, rfl, hag, hgl⟩ := hg
    have hag : SqT K H ag ug := W.kk ▸ hag
    have elg := hgl.len
    have smg : ug.length < sizeLine := by rw [elg]; exact Nat.lt_of_le_of_lt okg.2 (by decide)
    refine iteN rfl ⟨_, rfl, ag, rfl, ⟨_, SqT.same hag k3⟩, fun D hD => ?_⟩
    refine lc_out (walk_tup (xs := ug)) hD (fun i => .str (nm0 (gl.getD i .non))) smg (fun H5 k5 => SqT.same (SqT.same hag k3) k5) (fun i y H5 H5' N hi k5 hy q => ?_) (fun H4 k4' h4 => ?_)
    · obtain ⟨rfl, ex⟩ := hy
      obtain ⟨x, e4, hx⟩ := rowAt hgl ex
      have eg : gl.getD i .non = x := by rw [List.getD_eq_getElem?_getD, e4]; rfl
      rw [eg] at q
      obtain ⟨b, u1, u2, u3, r, rfl, hb, _⟩ := gv_row W.kk hx (List.all_eq_true.mp e2'.1 x (List.mem_of_getElem? e4))
      exact ⟨rfl, _, rfl, b, _, _, _, rfl, rfl, SqT.same (SqT.same hb k3) k5, atI_nat (j := 0) (xs := [.str (nm0 x), u1, u2, u3]) rfl, q _ (Same.refl _)⟩
    have k4 := Same.trans k3 k4'
    have eA : (List.range ug.length).map (fun i => V.str (nm0 (gl.getD i .non))) = (gl.map nm0).map V.str := by
      rw [elg, List.map_map]
      exact range_map (V.str ∘ nm0) _ gl fun i a h => by rw [List.getD_eq_getElem?_getD, h]; rfl
    rw [eA] at h4
    refine ⟨_, rfl, rfl, _, rfl, ?_⟩
    rw [isN_no W hsg]
    cases e5 : isNo sg with
    | true =>
      refine iteN rfl ?_
      refine ⟨_, rfl, _, rfl, ve, hh, D, _, rfl, W.dv k4 _ _ hhh, ok.2.2.2, SqL.of h4, fun H5 k5' => ⟨_, rfl, ?_⟩⟩
      have k5 := Same.trans k4 k5'
      cases e7 : hldD (gl.map nm0) hh with
      | false =>
        have ew : wrg ⟨n, .tup gl, m, sg, hh⟩ = some ("holds" : Str) := by simp [wrg, e1, e2, tupL, e3, e5, e7]
        exact iteC rfl (show Q (wrV (some ("holds" : Str))) H5 from ew ▸ k H5 k5)
      | true =>
        have ew : wrg ⟨n, .tup gl, m, sg, hh⟩ = none := by simp [wrg, e1, e2, tupL, e3, e5, e7]
        exact iteN rfl (show Q (wrV none) H5 from ew ▸ k H5 k5)
    | false =>
      refine iteC rfl ⟨_, rfl, _, rfl, vd, sg, D, _, rfl, W.dv k4 _ _ hsg, .inl (SqL.of h4), _, rfl, ?_⟩
      cases e6 : amD (gl.map nm0) sg with
      | false =>
        have ew : wrg ⟨n, .tup gl, m, sg, hh⟩ = some ("single" : Str) := by simp [wrg, e1, e2, tupL, e3, e5, e6]
        exact iteC rfl (show Q (wrV (some ("single" : Str))) H4 from ew ▸ k H4 k4)
      | true =>
        refine iteN rfl ?_
        refine ⟨_, rfl, _, rfl, ve, hh, D, _, rfl, W.dv k4 _ _ hhh, ok.2.2.2, SqL.of h4, fun H5 k5' => ⟨_, rfl, ?_⟩⟩
        have k5 := Same.trans k4 k5'
        cases e7 : hldD (gl.map nm0) hh with
        | false =>
          have ew : wrg ⟨n, .tup gl, m, sg, hh⟩ = some ("holds" : Str) := by simp [wrg, e1, e2, tupL, e3, e5, e6, e7]
          exact iteC rfl (show Q (wrV (some ("holds" : Str))) H5 from ew ▸ k H5 k5)
        | true =>
          have ew : wrg ⟨n, .tup gl, m, sg, hh⟩ = none := by simp [wrg, e1, e2, tupL, e3, e5, e6, e7]
          exact iteN rfl (show Q (wrV none) H5 from ew ▸ k H5 k5)
end
end Kd

set_option Elab.async false
set_option linter.all false
set_option maxRecDepth 100000
set_option maxHeartbeats 4000000
/-! == and != of an instance whose class has an own __eq__ (and the __ne__ of object) -/
namespace Ow
open PySem PySem.Spec PyProof.Rows L2
/-- the class at C has the own __eq__ at f, the __ne__ of object -/
structure OwnQ (K : PySem.W.Frag) (C f : Addr) : Prop where
  at_ : PySem.W.findIn K (.ref C) "__eq__" = some (some (.ref f))
  fn : PySem.W.isFn K (.ref f) = true
  ne : PySem.W.findIn K (.ref C) "__ne__" = some (some (.builtin "object.__ne__"))
  ob : PySem.W.mroIn K C (.type "object") = some true
def kinds : List String := ["NoneType", "bool", "int", "str", "tuple", "list", "dict"]
theorem kinds_mro : ∀ T ∈ kinds, ((fastBuiltinMro T).map fun l => l.all fun v => match v with | .ref _ => false | _ => true) = some true := by decide +kernel
theorem first_kind {K : PySem.W.Frag} {C : Addr} {T : String} (h : T ∈ kinds) : PySem.W.notFirst K C (.type T) = true := by
  have e := kinds_mro T h
  refine Bool.or_eq_true_iff.mpr (.inr (beq_iff_eq.mpr ?_))
  show (fastBuiltinMro T).map (·.contains (.ref C)) = some false
  cases q : fastBuiltinMro T with
  | none => rw [q] at e; cases e
  | some l =>
    rw [q] at e
    have e : (l.all fun v => match v with | .ref _ => false | _ => true) = true := by simpa using e
    have : l.contains (.ref C) = false := by
      rw [Bool.eq_false_iff]
      intro z
      have z := List.contains_iff_mem.mp z
      have := List.all_eq_true.mp e _ z
      simp at this
    rw [Option.map_some, this]
section
variable {prog : Program} {w : World} {A : Around} {E : Value → Shared → Prop} {s : Shared} {K : PySem.W.Frag} {x C f L : Addr} {ox : Obj} {od : Option Obj} {m : Str → Option Value} {h₀ : Heap} {b tb : Value}
theorem ifBound_ne {M : Model} {args : List Value} {Q : Option Value → Shared → Prop} (X : K.In s.heap) (I : PySem.W.InstAt s.heap x ox C od) (hs : PySem.W.findIn K (.ref C) "__ne__" = some (some (.builtin "object.__ne__")))
    (h : wpAny M A (call (.builtin "object.__ne__") (.ref x :: args)) (fun v => Q (some v)) E s) : wpAny M A (callSpecialIfBound? (.ref x) "__ne__" args) Q E s := by
  simp only [callSpecialIfBound?, bindSpecialIfBound?]
  refine wpAny_holding (wpAny_bind (wpAny_bind (wpAny_bind (I.type.here ((PySem.W.looks_findIn X hs).here ?_)))))
  refine wpAny_bind (wpAny_askSetting (wpAny_ite ?_))
  have fin : wpAny M A (call (.builtin "object.__ne__") ([.ref x] ++ args) >>= fun v => pure (some v)) Q E s := wpAny_bind (wpAny_mono h (fun v s' h' => wpAny_pure h') fun _ _ h' => h')
  split
  · exact wpAny_bind (wpAny_of_eq (F.cmp_object.ne.bind _) (wpAny_pure (by exact fin)))
  · exact wpAny_tryCatch (wpAny_bind (wpAny_of_eq (F.cmp_object.ne.bind _) (wpAny_pure (by exact fin))))
theorem entry_ne (hu : A.units < cLine) (X : K.In s.heap) (I : PySem.W.InstAt s.heap x ox C od) (O : OwnQ K C f) {Q : Fin → Shared → Prop}
    (hcall : wpAny (model prog w) A (call (.ref f) [.ref x, b]) (fun v s' => ∃ c, v = .bool c ∧ Q (.done (.ret (.bool (!c)))) s') E s) :
    wpAny (model prog w) A (Builtin.«object.__ne__» ⟨[.ref x, b], []⟩) Q E s := by
  unfold Builtin.«object.__ne__»
  refine wpAny_bind (wpAny_of_eq (a := ((Value.ref x : Value), [b])) (by first | rfl | (simp only [slotArgs]; rfl)) ?_)
  dsimp only
  refine wpAny_bind (wpAny_cRoomFor hu ?_)
  refine wpAny_bind (m := callSpecialIfBound? (.ref x) (Str.ofString "__eq__") [b]) (PySem.W.ifBound_K X I O.at_ O.fn (wpAny_mono hcall (fun r s' hr => ?_) fun _ _ e => e))
  obtain ⟨c, rfl, hq⟩ := hr
  dsimp only
  exact wpAny_bind (wpAny_truthy_bool (wpAny_pure hq))
theorem ne_K {Q : Value → Shared → Prop} (hu : A.units + 1 < cLine) (Fm : Fr h₀ L s.heap m) (X₀ : K.In h₀) (I : PySem.W.InstAt s.heap x ox C od) (hb : PySem.W.Looks (model prog w) s.heap (typeOf b) tb) (hn : PySem.W.notFirst K C tb = true) (O : OwnQ K C f)
    (h : wpAny (model prog w) A.in1 (call (.ref f) [.ref x, b]) (fun v s' => ∃ c, v = .bool c ∧ Q (.bool (!c)) s') E s) : wpAny (model prog w) A (richCompare .NotEq (.ref x) b) Q E s := by
  have X := X₀.keeps Fm.keep
  have one : wpAny (model prog w) A (tryCompare (.ref x) (cmpInfo .NotEq).2.1 b) (fun r s' => ∃ v, r = some v ∧ Q v s') E s := by
    unfold tryCompare
    refine wpAny_bind (ifBound_ne X I O.ne (wpAny_call (codeAny_call_builtin F.cmp_object.ne.plain F.cmpEntry_ne (PySem.W.check_slot F.cmpKind_ne F.cmpSplit_ne (I.type.andThen (PySem.W.looks_mroIn X O.ob)) (F.cmpArgs_ne _ _)
      (entry_ne (A := A.in1) hu X I O (wpAny_mono h (fun v s' hv => ?_) fun _ _ e => e))))))
    obtain ⟨c, rfl, hq⟩ := hv
    first | exact ⟨c, rfl, wpAny_pure ⟨_, rfl, hq⟩⟩ | exact ⟨c, rfl, wpAny_pure (wpAny_pure ⟨_, rfl, hq⟩)⟩
  unfold richCompare
  simp only [oneThing_ref]
  refine wpAny_holding (wpAny_bind (wpAny_cRoomFor (Nat.lt_of_succ_lt hu) ?_))
  refine wpAny_bind (I.type.here (wpAny_bind (hb.here ?_)))
  split
  · rename_i q
    have e : PySem.W.subIn K tb (.ref C) = some false := by
      rcases Bool.or_eq_true_iff.mp hn with e | e
      · rw [beq_iff_eq.mp e] at q; simp at q
      · exact beq_iff_eq.mp e
    refine wpAny_bind ((PySem.W.looks_subIn X e).here ?_)
    simp only [Bool.false_eq_true, if_false]
    refine wpAny_bind (wpAny_mono one (fun r s' z => ?_) fun _ _ e => e)
    obtain ⟨v, rfl, hq⟩ := z
    exact wpAny_pure hq
  · refine wpAny_bind (wpAny_pure ?_)
    simp only [Bool.false_eq_true, if_false]
    refine wpAny_bind (wpAny_mono one (fun r s' z => ?_) fun _ _ e => e)
    obtain ⟨v, rfl, hq⟩ := z
    exact wpAny_pure hq
end
/-- x an instance of the class at C, y anything whose class goes not first; the own __eq__ keeps sp -/
def rOwnQ (K : PySem.W.Frag) (C : Addr) (sp : Sp) (neg : Bool) : R2 := fun x y H Q => ∃ a dx fs t, x = .ref a ∧ H a = some (.ins C dx fs) ∧ TyX K H y t ∧ PySem.W.notFirst K C t = true ∧ sp [x, y] H (fun v H' => ∃ b, v = .bl b ∧ Q (.bl (if neg = true then !b else b)) H') E0
section
variable {X : Cx} {C f : Addr} {fd : FuncData} {k : Nat} {ps : List Str} {sp : Sp}
theorem op_eqO (O : OwnQ X.K C f) (F : FnOk X.prog X.w X.K X.mg X.base CX0 k f fd ps sp) (hb : Binds X.K fd ps []) (hr : Room k X.A) : OpR X (compareOp .Eq) (rOwnQ X.K C sp false) := by
  intro pins s σ H x y v u Q I rx ry h
  obtain ⟨a, dx, fs, t, rfl, ha, hz, hn, q⟩ := h
  cases rx
  obtain ⟨mA, J, _⟩ := ins_get I.hok ha
  obtain ⟨od, J, _⟩ := J.look
  obtain ⟨m, hF⟩ := I.fr
  obtain ⟨P, Z, p, _⟩ := kit_of I ry hz
  have hy := Z.ty (model X.prog X.w) s.heap I.kIn p
  show wpAny (model X.prog X.w) X.A (richCompare .Eq (.ref a) u) (EP X pins σ Q) X.xe s
  refine PySem.W.cmp_K (op := .Eq) (tb := t) hr.units0 hF I.ok.mod.kin J hy hn O.at_ O.fn ?_
  refine wpAny_mono (run_fn (us := [.ref a, u]) (vs := [.ref a, y]) (E := E0) F hr hb .nil pass0 I (.cons rfl (.cons ry .nil)) (Q := fun v' H' => ∃ b, v' = .bl b ∧ Q (.bl b) H') (by simpa using q)) (fun w s' g => ?_) fun _ _ e => e
  obtain ⟨v', H', I', rv, b, rfl, q'⟩ := g
  cases (show w = Value.bool b from rv)
  exact ⟨.bl b, H', I', rfl, q'⟩
theorem op_neO (O : OwnQ X.K C f) (F : FnOk X.prog X.w X.K X.mg X.base CX0 k f fd ps sp) (hb : Binds X.K fd ps []) (hr : Room (k + 1) X.A) : OpR X (compareOp .NotEq) (rOwnQ X.K C sp true) := by
  intro pins s σ H x y v u Q I rx ry h
  obtain ⟨a, dx, fs, t, rfl, ha, hz, hn, q⟩ := h
  cases rx
  obtain ⟨mA, J, _⟩ := ins_get I.hok ha
  obtain ⟨od, J, _⟩ := J.look
  obtain ⟨m, hF⟩ := I.fr
  obtain ⟨P, Z, p, _⟩ := kit_of I ry hz
  have hy := Z.ty (model X.prog X.w) s.heap I.kIn p
  show wpAny (model X.prog X.w) X.A (richCompare .NotEq (.ref a) u) (EP X pins σ Q) X.xe s
  have FR : FnR X.prog X.w X.K X.mg X.base CX0 k f sp := fun A outer s H us vs Q E hr e0 r hs => by
    have hl : us.length = ps.length := by rw [← r.length]; exact F.len _ _ _ _ hs
    have := hb s us (e0.mod.kin.keeps fun b o e => (e0.bs b o e).1) (by simpa using hl)
    rw [List.append_nil] at this
    exact F.run A outer s H ⟨us, []⟩ us vs Q E hr e0 this r hs
  have z1 : X.A.units + 1 < cLine := by have := hr.un; omega
  refine ne_K (tb := t) z1 hF I.ok.mod.kin J hy hn O (wpAny_mono (wpAny_call (SlX.run_at (us := [.ref a, u]) (ws := [.ref a, y]) FR (Room.in1 hr) I.env0.in1 pass0 I (.cons rfl (.cons ry .nil)) (Q := fun v' H' => ∃ b, v' = .bl b ∧ Q (.bl (!b)) H') (by simpa using q))) (fun w s' g => ?_) fun _ _ e => e)
  obtain ⟨v', H', I', rv, b, rfl, q'⟩ := g
  cases (show w = Value.bool b from rv)
  exact ⟨b, rfl, .bl (!b), H', I', rfl, q'⟩
end
/-- what is never reached -/
theorem pe_nv {X : Cx} {e : Expr} : PE X e (fun _ _ _ => False) := ⟨fun _ _ _ _ _ _ h => h.elim⟩
theorem pi_nv {X : Cx} {tg e : Expr} : PI X tg e (fun _ _ _ => False) := ⟨by intros; rename_i h; exact h.elim⟩
theorem pg_nv {X : Cx} {tg : Expr} : PG X tg (fun _ _ _ _ => False) := ⟨by intros; rename_i h; exact h.elim⟩
theorem pss_nv {X : Cx} {b : List Stmt} : PSs X b (fun _ _ _ => False) := ⟨fun _ _ _ _ _ _ h => h.elim⟩
end Ow

set_option Elab.async false
set_option linter.all false
set_option maxRecDepth 100000
set_option maxHeartbeats 4000000
/-! Kind: its making -/
namespace Kd
open PySem PySem.Spec PyProof.Rows L2 Dq Vl ClX
variable {OB : Type} {O : Obs OB} {od : OB → Bool}
abbrev sKI : Stmt := inClass (Pf.top 13) 0
abbrev sKPa : Stmt := inClass (Pf.top 13) 1
abbrev NKI : List Str := ["self", "name", "given", "made", "single", "holds", "part"]
abbrev PKI : List Str := ["self", "name", "given", "made", "single", "holds"]
theorem scKI : FnScope NKI PKI (defScope sKI) := ⟨rfl, rfl, rfl, by decide +kernel, rfl, by decide +kernel, by decide +kernel⟩
theorem scKPa : FnScope ["self"] ["self"] (defScope sKPa) := ⟨rfl, rfl, rfl, by decide +kernel, rfl, by decide +kernel, by decide +kernel⟩
theorem lk_hd {f : Str} {v : V} {r : List (Str × V)} : ((f, v) :: r).lookup f = some v := by simp [List.lookup]
theorem lk_tl {f g : Str} {v : V} {r : List (Str × V)} (h : (f == g) = false) : ((g, v) :: r).lookup f = r.lookup f := by simp [List.lookup, h]
theorem putF_nil {f : Str} {v : V} : putF f v [] = [(f, v)] := rfl
theorem putF_tl {f g : Str} {v x : V} {r : List (Str × V)} (h : ¬ g = f) : putF f v ((g, x) :: r) = (g, x) :: putF f v r := if_neg h
abbrev kfl (a b c d e : V) : List (Str × V) := [("name", a), ("given", b), ("made", c), ("single", d), ("holds", e)]
theorem kf2 (a b : V) : putF "given" b (putF "name" a []) = ([("name", a), ("given", b)] : List (Str × V)) := by rw [putF_nil, putF_tl (by decide +kernel), putF_nil]
theorem kf3 (a b c : V) : putF "made" c [("name", a), ("given", b)] = ([("name", a), ("given", b), ("made", c)] : List (Str × V)) := by rw [putF_tl (by decide +kernel), putF_tl (by decide +kernel), putF_nil]
theorem kf4 (a b c d : V) : putF "single" d [("name", a), ("given", b), ("made", c)] = ([("name", a), ("given", b), ("made", c), ("single", d)] : List (Str × V)) := by rw [putF_tl (by decide +kernel), putF_tl (by decide +kernel), putF_tl (by decide +kernel), putF_nil]
theorem kf5 (a b c d e : V) : putF "holds" e [("name", a), ("given", b), ("made", c), ("single", d)] = kfl a b c d e := by rw [putF_tl (by decide +kernel), putF_tl (by decide +kernel), putF_tl (by decide +kernel), putF_tl (by decide +kernel), putF_nil]
/-- a Kind stands at a -/
def KdAt (O : Obs OB) (C : Addr) (H : Hp) (a : Addr) (k : Kp OB) : Prop := ∃ dx v1 v2 v3 v4 v5, H a = some (.ins C dx (kfl v1 v2 v3 v4 v5)) ∧ KpAt O H k [v1, v2, v3, v4, v5]
structure TxtKi (K : PySem.W.Frag) (mg : Str → Option Value) (C : Addr) : Prop where
  cl : Cls K C
  n1 : NoAttr K C "name"
  n2 : NoAttr K C "given"
  n3 : NoAttr K C "made"
  n4 : NoAttr K C "single"
  n5 : NoAttr K C "holds"
  mg : mg "Kind" = some (.ref C)
def spKI (O : Obs OB) (C : Addr) : Sp := fun vs H Q _ => ∃ (a dx : Addr) (v1 v2 v3 v4 v5 : V) (k : Kp OB), vs = [.ref a, v1, v2, v3, v4, v5] ∧ H a = some (.ins C dx []) ∧ KpAt O H k [v1, v2, v3, v4, v5] ∧ okK k = true ∧ wrg k = none ∧
  (∀ H', (∀ b x, H b = some x → b ≠ a → H' b = some x) → H' a = some (.ins C dx (kfl v1 v2 v3 v4 v5)) → Q .non H')
/-- a kind's parts, as one value -/
def kpD (k : Kp OB) : DV OB := .tup [k.n, k.g, k.m, k.s, k.h]
def spKPa (O : Obs OB) (C : Addr) : Sp := fun vs H Q _ => ∃ (a : Addr) (k : Kp OB), vs = [.ref a] ∧ KdAt O C H a k ∧ ∀ v H', Same H H' → Dv O H' (kpD k) v → Q v H'
section
variable {P : Program} {w : World} {K : PySem.W.Frag} {mg : Str → Option Value} {base : Heap} {C : Addr}
theorem ok_ki {f fW : Addr} {fd fdW : FuncData} (F : Fun K "__init__" "Kind.__init__" sKI f fd) (T : TxtKi K mg C)
    (DW : Def P w K mg base 4 "_wrong_part" fW fdW ["name", "given", "made", "single", "holds"] (spWrg O)) : FnOk P w K mg base CX0 5 f fd PKI (spKI O C) := by
  refine F.ok scKI (fun vs H Q E h => ?_) (fun cdv A outer s H vs Q E hr h => ?_)
  · obtain ⟨a, dx, v1, v2, v3, v4, v5, k, rfl, _⟩ := h
    rfl
  · obtain ⟨a, dx, v1, v2, v3, v4, v5, k, rfl, ha, hk, ok, ew, kq⟩ := h
    refine ⟨_, pss_cons (ps_set (i := 6) scKI.nd rfl (Or.inl rfl) (pe_call DW.ok (hr.mono (by omega)) rfl DW.g DW.kp DW.b .nil pass0 (pa_cons (pv 1) (pa_cons (pv 2) (pa_cons (pv 3) (pa_cons (pv 4) (pa_cons (pv 5) pa_nil)))))))
      (pss_cons (ps_if (pt_cmpR op_notN (pv 6) pe_non (nomark _)) Ow.pss_nv pss_nil)
      (pss_cons (ps_fld (pv 0) (pv 1) rfl) (pss_cons (ps_fld (pv 0) (pv 2) rfl) (pss_cons (ps_fld (pv 0) (pv 3) rfl) (pss_cons (ps_fld (pv 0) (pv 4) rfl) (pss_one (ps_fld (pv 0) (pv 5) rfl))))))), ?_⟩
    refine ⟨_, rfl, _, rfl, _, rfl, _, rfl, _, rfl, k, hk, ok, fun H1 k1 => ⟨_, rfl, rfl, _, rfl, ?_⟩⟩
    rw [ew]
    refine iteN rfl ?_
    · have a1 := k1 _ _ ha
      refine ⟨_, rfl, _, rfl, a, C, dx, _, rfl, a1, T.cl, T.n1, by show 0 < 1000; decide, _, rfl, _, rfl, a, C, dx, _, rfl, upd_same, T.cl, T.n2, by show 1 < 1000; decide, ?_⟩
      rw [kf2]
      refine ⟨_, rfl, _, rfl, a, C, dx, _, rfl, upd_same, T.cl, T.n3, by show 2 < 1000; decide, ?_⟩
      rw [kf3]
      refine ⟨_, rfl, _, rfl, a, C, dx, _, rfl, upd_same, T.cl, T.n4, by show 3 < 1000; decide, ?_⟩
      rw [kf4]
      refine ⟨_, rfl, _, rfl, a, C, dx, _, rfl, upd_same, T.cl, T.n5, by show 4 < 1000; decide, ?_⟩
      rw [kf5]
      refine kq _ (fun b x e nb => ?_) upd_same
      rw [upd_ne nb, upd_ne nb, upd_ne nb, upd_ne nb, upd_ne nb]
      exact k1 _ _ e
theorem ok_kpa {f : Addr} {fd : FuncData} (F : Fun K "parts" "Kind.parts" sKPa f fd) (T : TxtKi K mg C) (W : Tw K O od) : FnOk P w K mg base CX0 1 f fd ["self"] (spKPa O C) := by
  refine F.ok scKPa (fun vs H Q E h => ?_) (fun cdv A outer s H vs Q E hr h => ?_)
  · obtain ⟨a, k, rfl, _⟩ := h
    rfl
  · obtain ⟨a, k, rfl, ⟨dx, v1, v2, v3, v4, v5, ha, w1, w2, w3, w4, w5, e, h1, h2, h3, h4, h5⟩, kq⟩ := h
    simp only [List.cons.injEq, and_true] at e
    obtain ⟨rfl, rfl, rfl, rfl, rfl⟩ := e
    refine ⟨_, pss_one (ps_ret (pe_tup (pa_cons (pe_fld (pv 0) rfl) (pa_cons (pe_fld (pv 0) rfl) (pa_cons (pe_fld (pv 0) rfl) (pa_cons (pe_fld (pv 0) rfl) (pa_cons (pe_fld (pv 0) rfl) pa_nil))))))), ?_⟩
    refine ⟨_, rfl, a, C, dx, _, _, rfl, ha, T.cl, T.n1, lk_hd, _, rfl, a, C, dx, _, _, rfl, ha, T.cl, T.n2, (lk_tl (by decide +kernel)).trans lk_hd,
      _, rfl, a, C, dx, _, _, rfl, ha, T.cl, T.n3, (lk_tl (by decide +kernel)).trans ((lk_tl (by decide +kernel)).trans lk_hd), _, rfl, a, C, dx, _, _, rfl, ha, T.cl, T.n4, (lk_tl (by decide +kernel)).trans ((lk_tl (by decide +kernel)).trans ((lk_tl (by decide +kernel)).trans lk_hd)),
      _, rfl, a, C, dx, _, _, rfl, ha, T.cl, T.n5, (lk_tl (by decide +kernel)).trans ((lk_tl (by decide +kernel)).trans ((lk_tl (by decide +kernel)).trans ((lk_tl (by decide +kernel)).trans lk_hd))), by show 5 ≤ sizeLine; decide, fun t ht => ?_⟩
    have kk := sm_upd (o := .tup [v1, v2, v3, v4, v5]) ht
    exact kq _ _ kk ⟨t, _, rfl, SqT.of upd_same, _, _, rfl, W.dv kk _ _ h1, _, _, rfl, W.dv kk _ _ h2, _, _, rfl, W.dv kk _ _ h3, _, _, rfl, W.dv kk _ _ h4, _, _, rfl, W.dv kk _ _ h5, rfl⟩
end
end Kd

set_option Elab.async false
set_option linter.all false
set_option maxRecDepth 100000
set_option maxHeartbeats 4000000
/-! own rule: try with any number of clauses «except X as n» -/
namespace Clz
open PySem PySem.Spec PyProof.Rows L2
/-- an exception of the class cls at a, with its dict d, has come to rest in the state s -/
def Rest (X : Cx) (pins : List (Addr × Obj)) (a : Addr) (cls : Value) (d : Option Addr) (σ : L2.St) (H : Hp) (s : Shared) : Prop :=
  ∃ (B : Heap) (s0 : Shared), Inv X pins σ H s0 ∧ (∀ b o, s0.heap.get? b = some o → b ∉ frs X.stack → B.get? b = some o) ∧ s0.heap.UpToSlots s.heap ∧ HandSPX.FlyingZ B X.stack a (Zc cls d) s.heap ∧ H a = none ∧ s.os = s0.os ∧ AllBare s.gens
abbrev Cl := Addr → Value → Option Addr → Ends → L2.St → Hp → Prop
/-- what the clauses make of it -/
def Clauses (X : Cx) (hds : List ExceptHandler) (G : Cl) : Prop :=
  ∀ (pins : List (Addr × Obj)) (s : Shared) (σ : L2.St) (H : Hp) (D : Ends) (a : Addr) (cls : Value) (d : Option Addr), Rest X pins a cls d σ H s → G a cls d D σ H → wpAny (model X.prog X.w) X.A (handleBy (.ref a) X.env hds) (SP X pins D) X.xe s
section
variable {X : Cx} {pins : List (Addr × Obj)} {a : Addr} {cls : Value} {d : Option Addr} {σ : L2.St} {H : Hp} {s : Shared}
theorem Rest.inv (r : Rest X pins a cls d σ H s) : Inv X pins σ H s := by
  obtain ⟨B, s0, J, nb, up, fl, na, os, ag⟩ := r
  exact J.landed nb fl.1 up os ag
theorem Rest.at_ (r : Rest X pins a cls d σ H s) : ∃ oe vs, s.heap.get? a = some oe ∧ Zc cls d oe ∧ oe.data = .fields vs ∧ H a = none ∧ a ∉ frs X.stack := by
  obtain ⟨B, s0, J, nb, up, fl, na, os, ag⟩ := r
  obtain ⟨oe, vs, he, hz, hd⟩ := fl.there
  refine ⟨oe, vs, he, hz, hd, na, fun hm => ?_⟩
  obtain ⟨_, o', e', hnf⟩ := fl.2.2.1.mem hm
  rw [he] at e'
  cases e'
  exact hnf _ hd
theorem Rest.suite (r : Rest X pins a cls d σ H s) (hs : X.stack = X.env :: X.outer) (hf : X.env.frame = some X.env.locals) {oe : Obj} {vs : Array Value} (he : s.heap.get? a = some oe) (hd : oe.data = .fields vs) : Inv (X.suite a ((a, oe) :: (X.pn ++ pins))) [] σ H s := by
  obtain ⟨_, _, _, _, _, na, nf⟩ := r.at_
  rw [hs] at nf
  refine r.inv.suite he hd na (fun z => nf (List.mem_filterMap.mpr ⟨X.env, List.mem_cons_self, by rw [hf, z]⟩)) fun hm => ?_
  obtain ⟨e, he, q⟩ := List.mem_filterMap.mp hm
  exact nf (List.mem_filterMap.mpr ⟨e, List.mem_cons_of_mem _ he, q⟩)
/-- no clause is left: it flies on -/
theorem cl_end {W : WX} (hs : X.stack = X.env :: X.outer) (hf : X.env.frame = some X.env.locals) (tk : Takes X W) : Clauses X [] (fun _ cls d _ σ H => W cls d σ H) := by
  intro pins s σ H D a cls d r w
  obtain ⟨B, s0, J, nb, up, fl, na, os, ag⟩ := r
  refine wpAny_handleBy_nil ?_
  obtain ⟨_, _, _, oe, vs, T, oT, ts', he, hz, hd, h1, hr⟩ := id fl
  unfold PySem.passOn
  refine wpAny_bind (wpAny_field he hd h1 ?_)
  rw [if_neg (show ¬ ((Value.ref T == Value.none) = true) from by simp)]
  have fin : wpAny (model X.prog X.w) X.A (setFlight (.ref a) X.env.frame) (fun _ s4 => wpAny (model X.prog X.w) X.A (throw (.ref a) : Sem Flow) (SP X pins D) X.xe s4) X.xe s := by
    rw [hf]
    exact HandSPX.setFlight_upZ fl fun h4 hh4 up4 => wpAny_throw (tk _ _ ⟨a, B, s0, pins, σ, H, cls, d, rfl, J, nb, up.trans up4, .inr (.inr hh4), na, os, ag, w⟩)
  first
    | exact wpAny_bind (wpAny_pure (wpAny_bind fin))
    | exact wpAny_bind fin
/-- the ends of a suite whose name goes behind it -/
def Ends.gone (D : Ends) (i : Nat) : Ends := { nx := fun σ' H' => D.nx (σ'.set i none) H', rt := D.rt, bk := fun σ' H' => D.bk (σ'.set i none) H', ct := fun σ' H' => D.ct (σ'.set i none) H' }
/-- except x as n, n in slot i -/
theorem cl_as {x n : Str} {c : Value} {i : Nat} {b₀ : Stmt} {suite : List Stmt} {np pos' : Pos} {ts : Addr → Value → Option Addr → TS} {hds : List ExceptHandler} {G : Cl}
    (hs : X.stack = X.env :: X.outer) (hf : X.env.frame = some X.env.locals) (hN : X.N.Nodup) (hi : X.N[i]? = some n) (hln : X.env.kindOf n = some .local) (hc : Names X x c)
    (hsu : ∀ (a : Addr) (oe : Obj) (cls : Value) (d : Option Addr) (pn : List (Addr × Obj)), Zc cls d oe → (∃ vs, oe.data = .fields vs) → PSs (X.suite a ((a, oe) :: pn)) (b₀ :: suite) (ts a cls d)) (rest : Clauses X hds G) :
    Clauses X (.ExceptHandler (some (.Name x np)) (some n) (b₀ :: suite) pos' :: hds) (fun a cls d D σ H => ∃ b, PySem.W.exmOne X.K cls c = some b ∧ (b = true → ts a cls d (Ends.gone D i) (σ.set i (some (.ref a))) H) ∧ (b = false → G a cls d D σ H)) := by
  intro pins s σ H D a cls d r w
  obtain ⟨b, hb1, hyes, hno⟩ := w
  obtain ⟨oe, vs, he, hz, hd, na, nf⟩ := r.at_
  have S3 := r.suite hs hf he hd
  have ok := r.inv.ok
  refine wpAny_handleBy_cons (codeAny_handlers_test ?_) (by intro q; cases q)
  have LT : PySem.W.Looks (model X.prog X.w) s.heap (typeOf (.ref a)) cls := fun A Q E s k q => wpAny_typeOf_ref (k _ _ he) (by rw [hz.1]; exact q)
  have LM := PySem.W.exm_one (M := model X.prog X.w) r.inv.kIn LT hb1
  have test : ∀ {Q : Value → Shared → Prop} {E : Value → Shared → Prop}, Q c s → wpAny (model X.prog X.w) (X.A.mark (some (.ref a))) (eval (.Name x np) X.env) Q E s := fun {Q E} q => by
    obtain ⟨hg, hdbg, hm | ⟨hm, hv, hnn⟩⟩ := hc
    · exact ld_glob (X := X.suite a ((a, oe) :: (X.pn ++ pins))) S3 hg hm q hdbg
    · exact ld_blt (X := X.suite a ((a, oe) :: (X.pn ++ pins))) S3 hg hm hv q hnn hdbg
  refine test (LM.here ?_)
  cases b with
  | false => exact rest pins s σ H D a cls d r (hno rfl)
  | true =>
    obtain ⟨B, s0, J, nb, up, fl, _, os, ag⟩ := r
    refine codeAny_handlers_suite_as (HandSPX.lands_againZ fl fun h4 fl4 up4 => ?_)
    have r4 : Rest X pins a cls d σ H { s with heap := h4 } := ⟨B, s0, J, nb, up.trans up4, fl4, na, os, ag⟩
    obtain ⟨oe4, vs4, he4, hz4, hd4, _⟩ := r4.at_
    refine store_ok (X := X.suite a ((a, oe4) :: (X.pn ++ pins))) (v := .ref a) (r4.suite hs hf he4 hd4) hN hi (.inl hln) rfl (fun s5 S5 => ?_) (.inr hln)
    refine wpAny_mono ((hsu a oe4 cls d (X.pn ++ pins) hz4 ⟨_, hd4⟩).run [] s5 _ H _ S5 (hyes rfl)) (fun f s6 h6 => ?_) (fun _ _ z => False.elim z)
    have gone : ∀ {σ6 : L2.St} {H6 : Hp} {Q : Shared → Prop}, Inv (X.suite a ((a, oe4) :: (X.pn ++ pins))) [] σ6 H6 s6 → (∀ s7, Inv X pins (σ6.set i none) H6 s7 → Q s7) →
        wpAny (model X.prog X.w) X.A (do bindName X.env n .none; unbindBehindTheSuite X.env n pos') (fun _ s7 => Q s7) X.xe s6 := fun S6 hq => gone_ok (S6.unsuite ok) hN hi hln hq
    cases f with
    | ret u =>
      obtain ⟨v6, σ6, H6, S6, r6, q6⟩ := h6
      exact gone S6 fun s7 J7 => ⟨_, _, _, J7, r6, q6⟩
    | next =>
      obtain ⟨σ6, H6, S6, q6⟩ := h6
      exact gone S6 fun s7 J7 => ⟨_, _, J7, q6⟩
    | brk =>
      obtain ⟨σ6, H6, S6, q6⟩ := h6
      exact gone S6 fun s7 J7 => ⟨_, _, J7, q6⟩
    | cont =>
      obtain ⟨σ6, H6, S6, q6⟩ := h6
      exact gone S6 fun s7 J7 => ⟨_, _, J7, q6⟩
/-- try: body / clauses -/
theorem ps_try_cl {body : List Stmt} {h₀ : ExceptHandler} {hds : List ExceptHandler} {pos : Pos} {tb : WX → TS} {G : Cl} (hs : X.stack = X.env :: X.outer) (hf : X.env.frame = some X.env.locals)
    (hb : ∀ (W : WX) (pn : List (Addr × Obj)) (xe : Value → Shared → Prop), Takes (X.tr pn xe) W → PassesOwn (model X.prog X.w) X.A X.env xe → PSs (X.tr pn xe) body (tb W)) (hc : Clauses X (h₀ :: hds) G) :
    PS X (.Try body (h₀ :: hds) [] [] pos) (fun D σ H => tb (fun cls d σ' H' => σ'.length = X.N.length → ∀ a, H' a = none → G a cls d D σ' H') D σ H) := by
  refine ⟨fun pins s σ H D I h => wpAny_Try_except ?_⟩
  have ok := I.ok
  have hfr : X.A.frames = some (X.env :: X.outer) := by rw [ok.frames, hs]
  refine wpAny_mono ((hb _ (X.pn ++ pins) (fun e s₁ => wpAny (model X.prog X.w) X.A (noteFrame e X.env) (fun _ s₂ => wpAny (model X.prog X.w) X.A (setFlight e none) (fun _ s₃ =>
    wpAny (model X.prog X.w) X.A (handleBy e X.env (h₀ :: hds)) (SP X pins D) X.xe s₃) X.xe s₂) X.xe s₁) (fun u s' xx => ?_) PassesOwn.looking).run [] s σ H D (I.toTry _) h) (fun f s1 h1 => ?_) (fun e s1 he => he)
  · obtain ⟨a, B, s0, pins', σ', H', cls, d, rfl, J', nb, up, sky, na, os, ag, w⟩ := xx
    have sky' : Sky B (X.env :: X.outer) a (Zc cls d) X.env.locals s'.heap := by rw [← hs]; exact sky
    refine Sky.land Zc.steady hfr hf sky' fun h3 fl3 up3 => ?_
    exact hc pins _ σ' H' D a cls d ⟨B, s0, J'.ofTry ok, nb, up.trans up3, by rw [hs]; exact fl3, na, os, ag⟩ (w J'.len a na)
  · cases f with
    | ret u =>
      obtain ⟨v, σ', H', J', r, q⟩ := h1
      exact ⟨v, σ', H', J'.ofTry ok, r, q⟩
    | next =>
      obtain ⟨σ', H', J', q⟩ := h1
      exact wpAny_execs_nil ⟨σ', H', J'.ofTry ok, q⟩
    | brk =>
      obtain ⟨σ', H', J', q⟩ := h1
      exact ⟨σ', H', J'.ofTry ok, q⟩
    | cont =>
      obtain ⟨σ', H', J', q⟩ := h1
      exact ⟨σ', H', J'.ofTry ok, q⟩
end
end Clz

set_option Elab.async false
set_option linter.all false
set_option maxRecDepth 100000
set_option maxHeartbeats 4000000
/-! data with instances as their objects; isinstance of five classes; what stays -/
namespace Kd
open PySem PySem.Spec PyProof.Rows L2 Dq Vl Pf
abbrev D5 := DV Unit
structure InsT (K : PySem.W.Frag) (C : Addr) : Prop where
  i : C8.InsC K C
  t : ∀ T ∈ ["str", "tuple", "dict", "bool", "int", "list"], PySem.W.kitOne K (.ref C) (.type T) = some false
/-- an instance -/
def O5 (K : PySem.W.Frag) : Obs Unit := { At := fun H _ v => ∃ a C dx fs, v = .ref a ∧ H a = some (.ins C dx fs) ∧ InsT K C, cls := fun _ => 0, eq := fun _ _ => false, K := K }
theorem tw5 (K : PySem.W.Frag) : Tw K (O5 K) (fun _ => false) where
  keep := fun s ⟨a, C, dx, fs, e, h, t⟩ => ⟨a, C, dx, fs, e, s _ _ h, t⟩
  isi := fun {H o v} ⟨a, C, dx, fs, e, h, t⟩ => by
    subst e
    have U := t.i
    refine ⟨.ref C, .base (.ins h U.cl U.ha U.hn U.htk U.hm), fun T hT => ?_⟩
    rw [Bool.false_and]
    refine t.t T ?_
    simp only [List.mem_cons, List.not_mem_nil, or_false] at hT ⊢
    rcases hT with rfl | rfl | rfl | rfl <;> simp
  nn := fun ⟨a, C, dx, fs, e, _⟩ z => by rw [e] at z; cases z
  kk := rfl
  dic := fun _ h => nomatch h
def isT6 (T : String) : D5 → Bool
  | .non => false
  | .bl _ => decide (T = "bool") || decide (T = "int")
  | .int _ => decide (T = "int")
  | .str _ => decide (T = "str")
  | .ob _ => false
  | .tup _ => decide (T = "tuple")
  | .lst _ => decide (T = "list")
  | .map _ _ => decide (T = "dict")
theorem kit_tab6 : ∀ a ∈ ["NoneType", "int", "str", "tuple", "list", "dict"], ∀ T ∈ ["str", "tuple", "dict", "bool", "int", "list"], kitB a T = some (a == T) := by decide +kernel
theorem kit_tab7 : ∀ T ∈ ["str", "tuple", "dict", "bool", "int", "list"], kitB "bool" T = some (decide (T = "bool") || decide (T = "int")) := by decide +kernel
theorem beq_dec (a b : String) : (a == b) = decide (b = a) := by
  rw [Bool.eq_iff_iff, beq_iff_eq, decide_eq_true_eq]
  exact ⟨Eq.symm, Eq.symm⟩
theorem tyK6 {K : PySem.W.Frag} {H : Hp} {x : D5} {v : V} (h : Dv (O5 K) H x v) : ∃ t, TyX K H v t ∧ ∀ T ∈ ["str", "tuple", "dict", "bool", "int", "list"], PySem.W.kitOne K t (.type T) = some (isT6 T x) := by
  have go : ∀ a, a ∈ ["NoneType", "int", "str", "tuple", "list", "dict"] → ∀ T ∈ ["str", "tuple", "dict", "bool", "int", "list"], PySem.W.kitOne K (.type a) (.type T) = some (decide (T = a)) := fun a ha T hT => by
    rw [← beq_dec]
    exact kit_ty (kit_tab6 a ha T hT)
  cases x with
  | non => cases h; exact ⟨_, .base .non, fun T hT => (go "NoneType" (by simp) T hT).trans (by
      simp only [List.mem_cons, List.not_mem_nil, or_false] at hT
      rcases hT with rfl | rfl | rfl | rfl | rfl | rfl <;> rfl)⟩
  | bl b => cases h; exact ⟨_, .base (.bl b), fun T hT => kit_ty (kit_tab7 T hT)⟩
  | int i => cases h; exact ⟨_, .base (.int i), go "int" (by simp)⟩
  | str s => cases h; exact ⟨_, .base (.str s), go "str" (by simp)⟩
  | ob o =>
    obtain ⟨a, C, dx, fs, rfl, h, t⟩ := h
    have U := t.i
    exact ⟨.ref C, .base (.ins h U.cl U.ha U.hn U.htk U.hm), t.t⟩
  | tup l => obtain ⟨a, us, rfl, e, _⟩ := h; exact ⟨_, SqT.tyx e, go "tuple" (by simp)⟩
  | lst l => obtain ⟨a, us, rfl, e, _⟩ := h; exact ⟨_, .base (.lst e), go "list" (by simp)⟩
  | map ks l => obtain ⟨a, us, rfl, e, _⟩ := h; exact ⟨_, .base (.dK e), go "dict" (by simp)⟩
theorem call_is6 {X : Cx} {T : String} (hT : T ∈ ["str", "tuple", "dict", "bool", "int", "list"]) : CallR X (.builtin "isinstance") (fun xs H Q => ∃ v x, xs = [v, .ty T] ∧ Dv (O5 X.K) H x v ∧ Q (.bl (isT6 T x)) H) := fun pins s σ H xs us Q I r ⟨v, x, e, h, q⟩ => by
  obtain ⟨t, h1, h2⟩ := tyK6 h
  exact call_isi pins s σ H xs us Q I r ⟨v, .ty T, t, .type T, _, e, .ty T, h1, h2 T hT, q⟩
/-! ### what stays -/
/-- all but what stands at the places of S -/
def Ch (S : List Addr) (H H' : Hp) : Prop := ∀ b o, H b = some o → b ∉ S → H' b = some o
theorem Ch.refl (S : List Addr) (H : Hp) : Ch S H H := fun _ _ e _ => e
theorem Ch.trans {S : List Addr} {H H1 H2 : Hp} (h : Ch S H H1) (k : Ch S H1 H2) : Ch S H H2 := fun b o e n => k b o (h b o e n) n
theorem Ch.same {S : List Addr} {H H' : Hp} (h : Same H H') : Ch S H H' := fun b o e _ => h b o e
theorem Ch.mono {S T : List Addr} {H H' : Hp} (h : Ch S H H') (m : ∀ b ∈ S, b ∈ T) : Ch T H H' := fun b o e n => h b o e fun q => n (m b q)
theorem Ch.upd {S : List Addr} {H : Hp} {a : Addr} {o : HO} (m : a ∈ S) : Ch S H (upd H a o) := fun b u e n => (upd_ne fun q => n (by rw [q]; exact m)).trans e
theorem Ch.updNew {S : List Addr} {H H1 : Hp} {a : Addr} {o : HO} (h : Ch S H H1) (n : H a = none) : Ch S H (L2.upd H1 a o) := fun b u e m => (upd_ne (ne_of_none e n)).trans (h b u e m)
theorem Ch.new {S : List Addr} {H : Hp} {a : Addr} {o : HO} (n : H a = none) : Ch S H (L2.upd H a o) := Ch.same (sm_upd n)
theorem Ch.but {a : Addr} {H H' : Hp} (h : But a H H') : Ch [a] H H' := fun b o e n => h b o e fun q => n (by rw [q]; exact List.mem_singleton.mpr rfl)
mutual
/-- kept data: no lists, maps with the keys of Ks alone, no objects -/
def kpt (Ks : List Str → Bool) : D5 → Bool
  | .lst _ => false
  | .ob _ => false
  | .tup l => kptL Ks l
  | .map ks l => Ks ks && kptL Ks l
  | _ => true
def kptL (Ks : List Str → Bool) : List D5 → Bool
  | [] => true
  | x :: l => kpt Ks x && kptL Ks l
end
/-- no kept data stands there: no tuple, no dict with keys of Ks -/
def Alien (Ks : List Str → Bool) (o : HO) : Prop := (∀ xs, o ≠ .tup xs) ∧ (∀ ob xs, o ≠ .frz ob (.tup xs)) ∧ ∀ kvs ks, o = .dK kvs → Ks ks = true → kvs.map (·.1) ≠ ks.map Sum.inr
section
variable {K : PySem.W.Frag} {H H' : Hp} {S : List Addr} {Ks : List Str → Bool}
theorem sqt_ch {b : Addr} {us : List V} (h : SqT K H b us) (k : Ch S H H') (al : ∀ a ∈ S, ∀ o, H a = some o → Alien Ks o) : SqT K H' b us := by
  rcases h with (h | ⟨o, h⟩) | h
  · exact .inl (.inl (k _ _ h fun q => (al b q _ h).1 _ rfl))
  · exact .inl (.inr ⟨o, k _ _ h fun q => (al b q _ h).2.1 _ _ rfl⟩)
  · exact .inr h
mutual
theorem Dv.ch (k : Ch S H H') (al : ∀ a ∈ S, ∀ o, H a = some o → Alien Ks o) : ∀ (x : D5) (v : V), kpt Ks x = true → Dv (O5 K) H x v → Dv (O5 K) H' x v
  | .non, _, _, h => h
  | .bl _, _, _, h => h
  | .int _, _, _, h => h
  | .str _, _, _, h => h
  | .ob _, _, n, _ => nomatch n
  | .tup l, _, n, ⟨b, us, e, h, p⟩ => by
    rw [kpt] at n
    exact ⟨b, us, e, sqt_ch h k al, DvL.ch k al l us n p⟩
  | .lst l, _, n, _ => by rw [kpt] at n; cases n
  | .map ks l, _, n, ⟨b, kvs, e, h, nd, hk, p⟩ => by
    rw [kpt, Bool.and_eq_true] at n
    exact ⟨b, kvs, e, k _ _ h (fun q => (al b q _ h).2.2 _ _ rfl n.1 hk), nd, hk, DvL.ch k al l _ n.2 p⟩
theorem DvL.ch (k : Ch S H H') (al : ∀ a ∈ S, ∀ o, H a = some o → Alien Ks o) : ∀ (l : List D5) (us : List V), kptL Ks l = true → DvL (O5 K) H l us → DvL (O5 K) H' l us
  | [], _, _, h => h
  | x :: l, _, n, ⟨u, us, e, h, p⟩ => by
    rw [kptL, Bool.and_eq_true] at n
    exact ⟨u, us, e, Dv.ch k al x u n.1 h, DvL.ch k al l us n.2 p⟩
end
end
end Kd

set_option Elab.async false
set_option linter.all false
set_option maxRecDepth 100000
set_option maxHeartbeats 4000000
/-! what stays where lists change; small things -/
namespace Kd
open PySem PySem.Spec PyProof.Rows L2 Dq Vl Pf
/-- all but lists stays -/
def Kt (H H' : Hp) : Prop := ∀ b o, H b = some o → (∀ xs, o ≠ .lst xs) → H' b = some o
theorem Kt.refl (H : Hp) : Kt H H := fun _ _ e _ => e
theorem Kt.trans {H H1 H2 : Hp} (h : Kt H H1) (k : Kt H1 H2) : Kt H H2 := fun b o e n => k b o (h b o e n) n
theorem Kt.same {H H' : Hp} (h : Same H H') : Kt H H' := fun b o e _ => h b o e
theorem Kt.but {H H' : Hp} {a : Addr} {z : Int} (hw : WellAt H a z) (h : But a H H') : Kt H H' := fun b o e n => h b o e fun q => by
  obtain ⟨x, y, ha⟩ := hw
  rw [q, ha] at e
  cases e
  exact n _ rfl
theorem Kt.lst {H : Hp} {a : Addr} {xs ys : List V} (h : H a = some (.lst xs)) : Kt H (upd H a (.lst ys)) := fun b o e n => by
  refine (upd_ne fun q => ?_).trans e
  rw [q, h] at e
  cases e
  exact n _ rfl
theorem Kt.new {H : Hp} {a : Addr} {o : HO} (h : H a = none) : Kt H (upd H a o) := Kt.same (sm_upd h)
mutual
/-- no list lies within -/
def nol : D5 → Bool
  | .lst _ => false
  | .tup l => nolL l
  | .map _ l => nolL l
  | _ => true
def nolL : List D5 → Bool
  | [] => true
  | x :: l => nol x && nolL l
end
section
variable {K : PySem.W.Frag} {H H' : Hp}
mutual
theorem Dv.kt (k : Kt H H') : ∀ (x : D5) (v : V), nol x = true → Dv (O5 K) H x v → Dv (O5 K) H' x v
  | .non, _, _, h => h
  | .bl _, _, _, h => h
  | .int _, _, _, h => h
  | .str _, _, _, h => h
  | .ob _, _, _, ⟨p, C, dx, fs, e, h, t⟩ => ⟨p, C, dx, fs, e, k _ _ h (fun xs q => nomatch q), t⟩
  | .tup l, _, n, ⟨b, us, e, h, p⟩ => by
    rw [nol] at n
    refine ⟨b, us, e, ?_, DvL.kt k l us n p⟩
    rcases h with (h | ⟨o, h⟩) | h
    · exact .inl (.inl (k _ _ h fun xs q => nomatch q))
    · exact .inl (.inr ⟨o, k _ _ h fun xs q => nomatch q⟩)
    · exact .inr h
  | .lst l, _, n, _ => by rw [nol] at n; cases n
  | .map _ l, _, n, ⟨b, kvs, e, h, nd, hk, p⟩ => by
    rw [nol] at n
    exact ⟨b, kvs, e, k _ _ h (fun xs q => nomatch q), nd, hk, DvL.kt k l _ n p⟩
theorem DvL.kt (k : Kt H H') : ∀ (l : List D5) (us : List V), nolL l = true → DvL (O5 K) H l us → DvL (O5 K) H' l us
  | [], _, _, h => h
  | x :: l, _, n, ⟨u, us, e, h, p⟩ => by
    rw [nolL, Bool.and_eq_true] at n
    exact ⟨u, us, e, Dv.kt k x u n.1 h, DvL.kt k l us n.2 p⟩
end
end
theorem nolL_all : ∀ {l : List D5}, (∀ d ∈ l, nol d = true) → nolL l = true
  | [], _ => by simp [nolL]
  | x :: l, h => by rw [nolL, h x List.mem_cons_self, nolL_all fun d hd => h d (List.mem_cons_of_mem _ hd)]; rfl
theorem DvL.snoc {OB : Type} {O : Obs OB} {H : Hp} {x : DV OB} {v : V} (h : Dv O H x v) : ∀ {l : List (DV OB)} {us : List V}, DvL O H l us → DvL O H (l ++ [x]) (us ++ [v])
  | [], _, p => by cases p; exact ⟨v, [], rfl, h, rfl⟩
  | y :: l, _, ⟨u, us, e, h', p⟩ => by subst e; exact ⟨u, us ++ [v], rfl, h', DvL.snoc h p⟩
theorem butT {a : Addr} {H H1 H2 : Hp} (x : But a H H1) (y : But a H1 H2) : But a H H2 := fun b o h n => y b o (x b o h n) n
theorem butS {a : Addr} {H H1 : Hp} (x : Same H H1) : But a H H1 := fun b o h _ => x b o h
theorem wellNe {H : Hp} {a D : Addr} {z : Int} (w : WellAt H a z) (h : H D = none) : D ≠ a := fun e => by
  obtain ⟨x, y, e1⟩ := w
  rw [e, e1] at h
  cases h
theorem wellS {H H' : Hp} {a : Addr} {z : Int} (w : WellAt H a z) (k : Same H H') : WellAt H' a z := by
  obtain ⟨x, y, e1⟩ := w
  exact ⟨x, y, k _ _ e1⟩
theorem wellU {H : Hp} {a D : Addr} {z : Int} {o : HO} (w : WellAt H a z) (n : D ≠ a) : WellAt (upd H D o) a z := by
  obtain ⟨x, y, e1⟩ := w
  exact ⟨x, y, (upd_ne (Ne.symm n)).trans e1⟩
/-- a change of a list that was not there at H -/
theorem butU {H H1 : Hp} {a D : Addr} {o : HO} (k : But a H H1) (n : H D = none) : But a H (upd H1 D o) := fun b x e nb => by
  have nD : b ≠ D := fun q => by rw [q, n] at e; cases e
  exact (upd_ne nD).trans (k b x e nb)
theorem dvl_mem {OB : Type} {O : Obs OB} {H : Hp} {v : V} : ∀ {l : List (DV OB)} {us : List V}, DvL O H l us → v ∈ us → ∃ d ∈ l, Dv O H d v
  | [], _, p, h => by cases p; cases h
  | x :: l, _, ⟨u, us, e, hx, p⟩, h => by
    subst e
    rcases List.mem_cons.mp h with rfl | h
    · exact ⟨x, List.mem_cons_self, hx⟩
    · obtain ⟨d, hd, k⟩ := dvl_mem p h
      exact ⟨d, List.mem_cons_of_mem _ hd, k⟩
theorem dvl_str {OB : Type} {O : Obs OB} {H : Hp} : ∀ (l : List Str), DvL O H (l.map DV.str) (l.map V.str)
  | [] => rfl
  | x :: l => ⟨_, _, rfl, rfl, dvl_str l⟩
theorem filter_succ {α : Type} (p : α → Bool) {l : List α} {i : Nat} {x : α} (h : l[i]? = some x) : (l.take (i + 1)).filter p = (l.take i).filter p ++ (if p x then [x] else []) := by
  have hi : i < l.length := by
    rcases Nat.lt_or_ge i l.length with q | q
    · exact q
    · rw [List.getElem?_eq_none q] at h; cases h
  rw [List.take_succ, h, List.filter_append]
  simp only [Option.toList, List.filter_cons, List.filter_nil]
end Kd

set_option Elab.async false
set_option linter.all false
set_option maxRecDepth 100000
set_option maxHeartbeats 4000000
/-! expressions whose value is data, whatever else stands -/
namespace Ed
open PySem PySem.Spec PyProof.Rows L2 Dq Vl
variable {OB : Type} {O : Obs OB} {K : PySem.W.Frag}
abbrev apd (l m : List (DV OB)) : List (DV OB) := l ++ m
structure Kps (K : PySem.W.Frag) (O : Obs OB) : Prop where
  dv : ∀ {H H' : Hp} {x : DV OB} {v : V}, Same H H' → Dv O H x v → Dv O H' x v
  dvl : ∀ {H H' : Hp} {l : List (DV OB)} {us : List V}, Same H H' → DvL O H l us → DvL O H' l us
  kk : O.K = K
def ED (O : Obs OB) (te : TE) (σ : L2.St) (H : Hp) (d : DV OB) : Prop := ∀ H1, Same H H1 → ∀ Q : VK, (∀ v H2, Same H1 H2 → Dv O H2 d v → Q v H2) → te σ H1 Q
def EA (O : Obs OB) (ta : TA) (σ : L2.St) (H : Hp) (l : List (DV OB)) : Prop := ∀ H1, Same H H1 → ∀ Q : List V → Hp → Prop, (∀ vs H2, Same H1 H2 → DvL O H2 l vs → Q vs H2) → ta σ H1 Q
def EO (to : TO) (σ : L2.St) (H : Hp) (o : Option Int) : Prop := ∀ H1, Same H H1 → ∀ Q : Option Int → Hp → Prop, (∀ H2, Same H1 H2 → Q o H2) → to σ H1 Q
variable {σ : L2.St} {H : Hp}
theorem ED.mono {te : TE} {H' : Hp} {d : DV OB} (h : ED O te σ H d) (s : Same H H') : ED O te σ H' d := fun H1 s1 Q k => h H1 (Same.trans s s1) Q k
theorem ED.run {te : TE} {d : DV OB} (h : ED O te σ H d) {Q : VK} (k : ∀ v H2, Same H H2 → Dv O H2 d v → Q v H2) : te σ H Q := h H (Same.refl H) Q k
theorem EA.run {ta : TA} {l : List (DV OB)} (h : EA O ta σ H l) {Q : List V → Hp → Prop} (k : ∀ vs H2, Same H H2 → DvL O H2 l vs → Q vs H2) : ta σ H Q := h H (Same.refl H) Q k
theorem ED.as {te : TE} {d : DV OB} (h : ED O te σ H d) : ED O te σ H d := h
/-- name = e, then the rest -/
theorem ED.seq {te : TE} {d : DV OB} {u : TS} {D : Ends} {i : Nat} (h : ED O te σ H d) (k : ∀ v H2, Same H H2 → Dv O H2 d v → u D (σ.set i (some v)) H2) : tSeq (tAsg te (gName i)) u D σ H := h.run k
theorem ED.ret {te : TE} {d : DV OB} {D : Ends} (h : ED O te σ H d) (k : ∀ v H2, Same H H2 → Dv O H2 d v → D.rt v H2) : tRet te D σ H := h.run k
theorem EA.call {ta : TA} {sp : Sp} {dvs : List V} {E : XK} {Q : VK} {l : List (DV OB)} (h : EA O ta σ H l) (k : ∀ vs H2, Same H H2 → DvL O H2 l vs → sp (vs ++ dvs) H2 Q E) : tCall sp dvs E ta σ H Q := h.run k
theorem ED.cons {te : TE} {ta : TA} {d : DV OB} {Q : List V → Hp → Prop} (h : ED O te σ H d) (k : ∀ v H2, Same H H2 → Dv O H2 d v → ta σ H2 fun xs H3 => Q (v :: xs) H3) : tCons te ta σ H Q := h.run k
theorem ed_pv (P : Kps K O) {i : Nat} {v : V} {d : DV OB} (e : σ[i]? = some (some v)) (h : Dv O H d v) : ED O (tVar i) σ H d := fun H1 s Q k => ⟨v, e, k v H1 (Same.refl _) (P.dv s h)⟩
theorem ed_str {s : Str} : ED O (tC (.str s)) σ H (.str s) := fun H1 _ Q k => k _ H1 (Same.refl _) rfl
theorem ed_int {i : Int} : ED O (tC (.int i)) σ H (.int i) := fun H1 _ Q k => k _ H1 (Same.refl _) rfl
theorem ed_bl {b : Bool} : ED O (tC (.bl b)) σ H (.bl b) := fun H1 _ Q k => k _ H1 (Same.refl _) rfl
theorem ed_non : ED O (tC .non) σ H .non := fun H1 _ Q k => k _ H1 (Same.refl _) rfl
theorem ea_nil : EA O tNil σ H [] := fun H1 _ Q k => k _ H1 (Same.refl _) rfl
theorem ea_cons (P : Kps K O) {te : TE} {ta : TA} {d : DV OB} {l : List (DV OB)} (h : ED O te σ H d) (h2 : EA O ta σ H l) : EA O (tCons te ta) σ H (d :: l) := fun H1 s Q k =>
  h H1 s _ fun v H2 s2 hv => h2 H2 (Same.trans s s2) _ fun vs H3 s3 hvs => k _ H3 (Same.trans s2 s3) ⟨v, vs, rfl, P.dv s3 hv, hvs⟩
theorem len_ok {H : Hp} {l : List (DV OB)} {us : List V} (h : DvL O H l us) (hl : l.length ≤ 10000) : us.length ≤ sizeLine := by rw [h.len]; exact Nat.le_trans hl (by decide)
theorem ed_tup (P : Kps K O) {ta : TA} {l : List (DV OB)} (h : EA O ta σ H l) (hl : l.length ≤ 10000) : ED O (tTup ta) σ H (.tup l) := fun H1 s Q k =>
  h H1 s _ fun vs H2 s2 hv => ⟨len_ok hv hl, fun p np => k _ _ (Same.upd s2 np) ⟨p, vs, rfl, .inl (.inl upd_same), P.dvl (sm_upd np) hv⟩⟩
theorem ed_lst (P : Kps K O) {ta : TA} {l : List (DV OB)} (h : EA O ta σ H l) (hl : l.length ≤ 10000) : ED O (tLst ta) σ H (.lst l) := fun H1 s Q k =>
  h H1 s _ fun vs H2 s2 hv => ⟨len_ok hv hl, fun p np => k _ _ (Same.upd s2 np) ⟨p, vs, rfl, upd_same, P.dvl (sm_upd np) hv⟩⟩
theorem DvL.app {H : Hp} : ∀ {l m : List (DV OB)} {us vs : List V}, DvL O H l us → DvL O H m vs → DvL O H (l ++ m) (us ++ vs)
  | [], _, _, _, h, k => by cases h; exact k
  | x :: l, m, _, vs, ⟨u, us, e, h, p⟩, k => by subst e; exact ⟨u, us ++ vs, rfl, h, DvL.app p k⟩
/-- t + u of tuples -/
theorem ed_catT (P : Kps K O) {ta tb : TE} {l m : List (DV OB)} (h : ED O ta σ H (.tup l)) (h2 : ED O tb σ H (.tup m)) (hl : l ≠ []) (hz : l.length + m.length ≤ 10000) : ED O (tOp (rCatT K) ta tb) σ H (.tup (l ++ m)) := fun H1 s Q k =>
  h H1 s _ fun v H2 s2 hv => h2 H2 (Same.trans s s2) _ fun u H3 s3 hu => by
    obtain ⟨a, us, rfl, ha, pa⟩ := P.dv s3 hv
    obtain ⟨b, vs, rfl, hb, pb⟩ := hu
    refine ⟨a, b, us, vs, rfl, rfl, P.kk ▸ ha, P.kk ▸ hb, fun e => ?_, by rw [pa.len, pb.len]; exact Nat.le_trans hz (by decide), fun e => ?_, fun _ p np => ?_⟩
    · subst e
      cases l with
      | nil => exact hl rfl
      | cons x l => obtain ⟨_, _, e, _⟩ := pa; cases e
    · subst e
      have em : m = [] := by
        cases m with
        | nil => rfl
        | cons x l => obtain ⟨_, _, e, _⟩ := pb; cases e
      subst em
      exact k _ _ (Same.trans s2 s3) ⟨a, us, rfl, ha, by rw [List.append_nil]; exact pa⟩
    · exact k _ _ (Same.upd (Same.trans s2 s3) np) ⟨p, _, rfl, .inl (.inl upd_same), P.dvl (sm_upd np) (DvL.app pa pb)⟩
/-- xs + ys of lists -/
theorem ed_cat (P : Kps K O) {ta tb : TE} {l m : List (DV OB)} (h : ED O ta σ H (.lst l)) (h2 : ED O tb σ H (.lst m)) (hz : l.length + m.length ≤ 10000) : ED O (tOp rCat ta tb) σ H (.lst (l ++ m)) := fun H1 s Q k =>
  h H1 s _ fun v H2 s2 hv => h2 H2 (Same.trans s s2) _ fun u H3 s3 hu => by
    obtain ⟨a, us, rfl, ha, pa⟩ := P.dv s3 hv
    obtain ⟨b, vs, rfl, hb, pb⟩ := hu
    exact ⟨a, b, us, vs, rfl, rfl, ha, hb, by rw [pa.len, pb.len]; exact Nat.le_trans hz (by decide), fun p np => k _ _ (Same.upd (Same.trans s2 s3) np) ⟨p, _, rfl, upd_same, P.dvl (sm_upd np) (DvL.app pa pb)⟩⟩
theorem at_dv {H : Hp} : ∀ {l : List (DV OB)} {us : List V} {i : Nat} {d : DV OB}, DvL O H l us → l[i]? = some d → ∃ u, us[i]? = some u ∧ Dv O H d u
  | x :: l, _, 0, d, ⟨u, us, e, h, p⟩, k => by subst e; cases k; exact ⟨u, rfl, h⟩
  | x :: l, _, i + 1, d, ⟨u, us, e, h, p⟩, k => by subst e; exact at_dv (l := l) (i := i) p (by simpa using k)
theorem ed_ixT (P : Kps K O) {ta : TE} {i : Nat} {l : List (DV OB)} {d : DV OB} (h : ED O ta σ H (.tup l)) (e : l[i]? = some d) : ED O (tOp (rIxT K) ta (tC (.int (i : Int)))) σ H d := fun H1 s Q k =>
  h H1 s _ fun v H2 s2 hv => by
    obtain ⟨a, us, rfl, ha, pa⟩ := hv
    obtain ⟨u, eu, hu⟩ := at_dv pa e
    exact ⟨a, us, _, u, rfl, rfl, P.kk ▸ ha, atI_nat eu, k u H2 s2 hu⟩
theorem ed_ixL (P : Kps K O) {ta : TE} {i : Nat} {l : List (DV OB)} {d : DV OB} (h : ED O ta σ H (.lst l)) (e : l[i]? = some d) : ED O (tOp (rIxL K) ta (tC (.int (i : Int)))) σ H d := fun H1 s Q k =>
  h H1 s _ fun v H2 s2 hv => by
    obtain ⟨a, us, rfl, ha, pa⟩ := hv
    obtain ⟨u, eu, hu⟩ := at_dv pa e
    exact ⟨a, us, _, u, rfl, rfl, SqL.of ha, atI_nat eu, k u H2 s2 hu⟩
def cutD (l : List (DV OB)) (lo hi : Option Int) : List (DV OB) := (l.drop (HT.sIx l.length 0 lo)).take (HT.sIx l.length l.length hi - HT.sIx l.length 0 lo)
theorem DvL.drop {H : Hp} : ∀ {l : List (DV OB)} {us : List V} (n : Nat), DvL O H l us → DvL O H (l.drop n) (us.drop n)
  | l, us, 0, h => h
  | [], _, n + 1, h => by cases h; rfl
  | x :: l, _, n + 1, ⟨u, us, e, h, p⟩ => by subst e; exact DvL.drop n p
theorem DvL.take {H : Hp} : ∀ {l : List (DV OB)} {us : List V} (n : Nat), DvL O H l us → DvL O H (l.take n) (us.take n)
  | l, us, 0, h => rfl
  | [], _, n + 1, h => by cases h; rfl
  | x :: l, _, n + 1, ⟨u, us, e, h, p⟩ => by subst e; exact ⟨u, us.take n, rfl, h, DvL.take n p⟩
theorem DvL.cut {H : Hp} {l : List (DV OB)} {us : List V} (h : DvL O H l us) (lo hi : Option Int) : DvL O H (cutD l lo hi) (cutV us lo hi) := by
  unfold cutD cutV
  rw [h.len]
  exact DvL.take _ (DvL.drop _ h)
theorem eo_none : EO tNoPart σ H none := fun H1 _ Q k => k H1 (Same.refl _)
theorem eo_int {i : Int} : EO (tPart (tC (.int i))) σ H (some i) := fun H1 _ Q k => ⟨i, rfl, k H1 (Same.refl _)⟩
/-- t[lo:hi] -/
theorem ed_slT (P : Kps K O) {ta : TE} {tl th : TO} {lo hi : Option Int} {l : List (DV OB)} (h : ED O ta σ H (.tup l)) (h1 : EO tl σ H lo) (h2 : EO th σ H hi) : ED O (tSl (rSlA K) ta tl th) σ H (.tup (cutD l lo hi)) := fun H1 s Q k =>
  h H1 s _ fun v H2 s2 hv => h1 H2 (Same.trans s s2) _ fun H3 s3 => h2 H3 (Same.trans s (Same.trans s2 s3)) _ fun H4 s4 => by
    have s5 := Same.trans s3 s4
    obtain ⟨a, us, rfl, ha, pa⟩ := P.dv s5 hv
    refine ⟨a, us, rfl, P.kk ▸ ha, fun e => ?_, fun _ p np => ?_⟩
    · have ec : cutD l lo hi = l := by
        unfold cutD
        rw [← pa.len, e.1, e.2, List.drop_zero, pa.len, Nat.sub_zero, List.take_length]
      exact k _ _ (Same.trans s2 s5) ⟨a, us, rfl, ha, by rw [ec]; exact pa⟩
    · exact k _ _ (Same.upd (Same.trans s2 s5) np) ⟨p, _, rfl, .inl (.inl upd_same), P.dvl (sm_upd np) (DvL.cut pa lo hi)⟩
/-- xs[lo:hi] -/
theorem ed_slL (P : Kps K O) {ta : TE} {tl th : TO} {lo hi : Option Int} {l : List (DV OB)} (h : ED O ta σ H (.lst l)) (h1 : EO tl σ H lo) (h2 : EO th σ H hi) : ED O (tSl (rSlL K) ta tl th) σ H (.lst (cutD l lo hi)) := fun H1 s Q k =>
  h H1 s _ fun v H2 s2 hv => h1 H2 (Same.trans s s2) _ fun H3 s3 => h2 H3 (Same.trans s (Same.trans s2 s3)) _ fun H4 s4 => by
    have s5 := Same.trans s3 s4
    obtain ⟨a, us, rfl, ha, pa⟩ := P.dv s5 hv
    exact ⟨a, us, rfl, SqL.of ha, fun p np => k _ _ (Same.upd (Same.trans s2 s5) np) ⟨p, _, rfl, upd_same, P.dvl (sm_upd np) (DvL.cut pa lo hi)⟩⟩
/-- {} -/
theorem ed_dnew : ED O tDNewK σ H (.map [] []) := fun H1 _ Q k p np => k _ _ (sm_upd np) ⟨p, _, rfl, upd_same, List.nodup_nil, rfl, rfl⟩
/-- {'k': v}, v no object -/
theorem ed_disp1 (P : Kps K O) {te : TE} {z : Str} {d : DV OB} (h : ED O te σ H d) (lf : ∀ {H H' : Hp} {v : V}, Dv O H d v → Dv O H' d v) : ED O (tDisp [(tC (.str z), te)]) σ H (.map [z] [d]) := fun H1 s Q k p np => by
  refine h _ (Same.upd s np) _ fun v H2 s2 hv => ⟨s2 _ _ upd_same, [(.inr z, v)], rfl, by simp, ?_⟩
  have s3 : Same H1 (upd H2 p (.dK [(.inr z, v)])) := fun b o e => (upd_ne (ne_of_none e np)).trans (s2 _ _ (sm_upd np _ _ e))
  have e : mergeK [] [((.inr z : Key), v)] = [(.inr z, v)] := rfl
  rw [e]
  exact k _ _ s3 ⟨p, _, rfl, upd_same, by simp, rfl, v, [], rfl, lf hv, rfl⟩
/-- list(t) of a tuple, of a list -/
theorem ed_listT (P : Kps K O) {ta : TE} {l : List (DV OB)} (h : ED O ta σ H (.tup l)) : ED O (tCB (fun xs H Q => ∃ p ys, xs = [.ref p] ∧ (SqL K H p ys ∨ SqT K H p ys) ∧ ∀ l, H l = none → Q (.ref l) (upd H l (.lst ys))) (tCons ta tNil)) σ H (.lst l) := fun H1 s Q k =>
  h H1 s _ fun v H2 s2 hv => by
    obtain ⟨a, us, rfl, ha, pa⟩ := hv
    exact ⟨a, us, rfl, .inr (P.kk ▸ ha), fun p np => k _ _ (Same.upd s2 np) ⟨p, _, rfl, upd_same, P.dvl (sm_upd np) pa⟩⟩
theorem ed_listL (P : Kps K O) {ta : TE} {l : List (DV OB)} (h : ED O ta σ H (.lst l)) : ED O (tCB (fun xs H Q => ∃ p ys, xs = [.ref p] ∧ (SqL K H p ys ∨ SqT K H p ys) ∧ ∀ l, H l = none → Q (.ref l) (upd H l (.lst ys))) (tCons ta tNil)) σ H (.lst l) := fun H1 s Q k =>
  h H1 s _ fun v H2 s2 hv => by
    obtain ⟨a, us, rfl, ha, pa⟩ := hv
    exact ⟨a, us, rfl, .inl (SqL.of ha), fun p np => k _ _ (Same.upd s2 np) ⟨p, _, rfl, upd_same, P.dvl (sm_upd np) pa⟩⟩
/-- tuple(xs) of a list, of a tuple -/
theorem ed_tupL (P : Kps K O) {ta : TE} {l : List (DV OB)} (h : ED O ta σ H (.lst l)) : ED O (tCB (fun xs H Q => ∃ p ys, xs = [.ref p] ∧ ((SqL K H p ys ∧ ∀ l, H l = none → Q (.ref l) (upd H l (.tup ys))) ∨ (SqT K H p ys ∧ Q (.ref p) H))) (tCons ta tNil)) σ H (.tup l) := fun H1 s Q k =>
  h H1 s _ fun v H2 s2 hv => by
    obtain ⟨a, us, rfl, ha, pa⟩ := hv
    exact ⟨a, us, rfl, .inl ⟨SqL.of ha, fun p np => k _ _ (Same.upd s2 np) ⟨p, _, rfl, .inl (.inl upd_same), P.dvl (sm_upd np) pa⟩⟩⟩
theorem kps5 : Kps K (Kd.O5 K) where
  dv := fun s h => (Kd.tw5 K).dv s _ _ h
  dvl := fun s h => (Kd.tw5 K).dvl s _ _ h
  kk := rfl
/-- a comprehension whose turns give data without lists, or nothing -/
theorem lc_dat {J : It} {n : Nat} {G : Hp → Prop} {Y : Nat → Hp → V → Hp → Prop} (w : Walk J n G Y) {g : TG} {tt : TT} {te : TE} {vs : List Nat} {σ : L2.St} {H1 : Hp} {D : Addr} {Qd : Hp → Prop} (hD : H1 D = none) (out : Nat → Option Kd.D5) (hn : n ≤ 10000) (nl : ∀ i d, i < n → out i = some d → Kd.nol d = true) (hG : ∀ H, Same H1 H → G H)
    (hs : ∀ i x H H' (N : V → Hp → Prop) (M : Hp → Prop), i < n → Same H1 H → Y i H x H' → (∀ d, out i = some d → ∀ v H4, Same H H4 → Dv (Kd.O5 K) H4 d v → N v H4) → (out i = none → ∀ H4, Same H H4 → M H4) →
      g x (wipe σ vs) H' fun σ2 H2 => wipe σ2 vs = wipe σ vs ∧ tt σ2 H2 fun b H3 => if b = true then te σ2 H3 N else M H3)
    (hd : ∀ H us, Same H1 H → H D = some (.lst us) → DvL (Kd.O5 K) H ((List.range n).filterMap out) us → Qd H) :
    ∃ W : Nat → Nat → Hp → Prop, (∃ m, W 0 m (upd H1 D (.lst []))) ∧ ∀ i m H, W i m H →
      (J.stop i H ∧ Qd H) ∨ (J.go i H ∧ ∃ Nx : Hp → Prop, (∀ H', Nx H' → ∃ m', m' < m ∧ W (i + 1) m' H') ∧ ∀ x H', J.yld i H x H' → g x (wipe σ vs) H' fun σ2 H2 => wipe σ2 vs = wipe σ vs ∧ tt σ2 H2 fun b H3 =>
        if b = true then te σ2 H3 fun y H4 => ∃ acc, H4 D = some (.lst acc) ∧ acc.length < sizeLine ∧ Nx (upd H4 D (.lst (acc ++ [y]))) else Nx H3) := by
  have nlf : ∀ i, i ≤ n → Kd.nolL ((List.range i).filterMap out) = true := fun i hi => Kd.nolL_all fun d hd => by
    obtain ⟨j, hj, e⟩ := List.mem_filterMap.mp hd
    exact nl j d (by have := List.mem_range.mp hj; omega) e
  refine lc_it w (fun i H => Same H1 H ∧ ∃ us, H D = some (.lst us) ∧ DvL (Kd.O5 K) H ((List.range i).filterMap out) us) ⟨sm_upd hD, [], upd_same, rfl⟩ (fun i H _ h => hG H h.1) (fun i x H H' hi h y => ?_) (fun H h => by
    obtain ⟨s, us, e, d⟩ := h
    exact hd H us s e d)
  obtain ⟨s, us, e, d⟩ := h
  refine hs i x H H' _ _ hi s y (fun z ez v H4 k hv => ?_) (fun ez H4 k => ⟨Same.trans s k, us, k _ _ e, ?_⟩)
  · have tk : Kd.Kt H (upd H4 D (.lst (us ++ [v]))) := (Kd.Kt.same k).trans (Kd.Kt.lst (k _ _ e))
    refine ⟨us, k _ _ e, ?_, ?_, us ++ [v], upd_same, ?_⟩
    · have := List.length_filterMap_le out (List.range i)
      rw [List.length_range] at this
      rw [d.len]
      exact Nat.lt_of_le_of_lt (show _ ≤ 10000 by omega) (by decide)
    · intro b o eb
      have nb : b ≠ D := fun z => by rw [z, hD] at eb; cases eb
      rw [upd_ne nb]
      exact k b o (s b o eb)
    · rw [List.range_succ, List.filterMap_append]
      simp only [List.filterMap_cons, ez, List.filterMap_nil]
      exact Kd.DvL.snoc (Kd.Dv.kt (Kd.Kt.lst (k _ _ e)) _ _ (nl i z hi ez) hv) (Kd.DvL.kt tk _ _ (nlf i (by omega)) d)
  · rw [List.range_succ, List.filterMap_append]
    simp only [List.filterMap_cons, ez, List.filterMap_nil, List.append_nil]
    exact (kps5 (K := K)).dvl k d
theorem filterMap_range {α β : Type} (p : α → Option β) (q : Nat → Option β) : ∀ (l : List α), (∀ i a, l[i]? = some a → q i = p a) → (List.range l.length).filterMap q = l.filterMap p := fun l h => by
  induction l generalizing q with
  | nil => rfl
  | cons x l ih =>
    have h0 := h 0 x rfl
    have ih := ih (fun i => q (i + 1)) (fun i a e => h (i + 1) a (by simpa using e))
    rw [List.length_cons, List.range_succ_eq_map, List.filterMap_cons, List.filterMap_cons, h0, List.filterMap_map]
    cases e : p x with
    | none => exact ih
    | some y => exact congrArg _ ih
/-- s + t of texts -/
theorem ed_addS {ta tb : TE} {s t : Str} (h : ED O ta σ H (.str s)) (h2 : ED O tb σ H (.str t)) (hz : s.length + t.length ≤ 10000) : ED O (tOp (fun x y H Q => ∃ i j, x = .str i ∧ y = .str j ∧ i.length + j.length ≤ sizeLine ∧ Q (.str (i ++ j)) H) ta tb) σ H (.str (s ++ t)) := fun H1 s1 Q k =>
  h H1 s1 _ fun v H2 s2 hv => h2 H2 (Same.trans s1 s2) _ fun u H3 s3 hu => by
    cases hv
    cases hu
    exact ⟨s, t, rfl, rfl, Nat.le_trans hz (by decide), k _ _ (Same.trans s2 s3) rfl⟩
/-- xs * k of a list -/
theorem ed_rep (P : Kps K O) {ta : TE} {l : List (DV OB)} {n : Nat} (h : ED O ta σ H (.lst l)) (hz : l.length * n ≤ 10000) (hn : n ≤ 10000) : ED O (tOp rRep ta (tC (.int (n : Int)))) σ H (.lst (List.replicate n l).flatten) := fun H1 s Q k =>
  h H1 s _ fun v H2 s2 hv => by
    obtain ⟨a, us, rfl, ha, pa⟩ := hv
    have rep : ∀ (n : Nat) {H : Hp}, DvL O H l us → DvL O H (List.replicate n l).flatten (List.replicate n us).flatten := fun n => by
      induction n with
      | zero => intro H h; exact rfl
      | succ n ih => intro H h; rw [List.replicate_succ, List.replicate_succ, List.flatten_cons, List.flatten_cons]; exact DvL.app h (ih h)
    refine ⟨a, (n : Int), us, rfl, rfl, ha, by omega, Int.lt_of_le_of_lt (show (n : Int) ≤ 10000 by omega) (by decide), ?_, fun p np => k _ _ (Same.upd s2 np) ⟨p, _, rfl, upd_same, ?_⟩⟩
    · rw [pa.len, Int.toNat_natCast]
      exact Nat.le_trans hz (by decide)
    · rw [Int.toNat_natCast]
      exact P.dvl (sm_upd np) (rep n pa)
/-- a comprehension over a tuple: data without lists, or nothing -/
theorem ed_lcD {ta : TE} {tt : TT} {te : TE} {i : Nat} {l : List Kd.D5} {f : Kd.D5 → Option Kd.D5} (h : ED (Kd.O5 K) ta σ H (.tup l)) (hl : l.length ≤ 10000) (nl : ∀ x ∈ l, ∀ d, f x = some d → Kd.nol d = true)
    (hw : ∀ u, wipe ((wipe σ [i]).set i (some u)) [i] = wipe σ [i])
    (hs : ∀ x u H2 (N : V → Hp → Prop) (M : Hp → Prop), x ∈ l → Same H H2 → Dv (Kd.O5 K) H2 x u → (∀ d, f x = some d → ∀ v H4, Same H2 H4 → Dv (Kd.O5 K) H4 d v → N v H4) → (f x = none → ∀ H4, Same H2 H4 → M H4) →
      tt ((wipe σ [i]).set i (some u)) H2 fun b H3 => if b = true then te ((wipe σ [i]).set i (some u)) H3 N else M H3) :
    ED (Kd.O5 K) (tLc (iTup K ta) (gName i) tt te [i]) σ H (.lst (l.filterMap f)) := fun H1 s Q k =>
  h H1 s _ fun v H2 s2 hv => by
    obtain ⟨a, us, rfl, ha, pa⟩ := hv
    have ha : SqT K H2 a us := ha
    refine ⟨a, rfl, ⟨_, ha⟩, fun D nD => ?_⟩
    refine lc_dat (K := K) (walk_tup (xs := us)) nD (fun j => f (l.getD j .non)) (by rw [pa.len]; exact hl) (fun j d hj ed => ?_) (fun H3 s3 => SqT.same ha s3) (fun j x H3 H3' N M hj s3 hy q1 q2 => ?_) (fun H3 us' s3 e3 d3 => ?_)
    · have hj : j < l.length := by rw [← pa.len]; exact hj
      refine nl (l.getD j .non) ?_ d ed
      rw [List.getD_eq_getElem?_getD, List.getElem?_eq_getElem hj]
      exact List.getElem_mem hj
    · obtain ⟨rfl, ex⟩ := hy
      obtain ⟨y, e1, hx⟩ := Kd.rowAt pa ex
      have eg : l.getD j .non = y := by rw [List.getD_eq_getElem?_getD, e1]; rfl
      rw [eg] at q1 q2
      exact ⟨hw x, hs y x _ N M (List.mem_of_getElem? e1) (Same.trans s (Same.trans s2 s3)) ((kps5 (K := K)).dv s3 hx) q1 q2⟩
    · rw [pa.len, filterMap_range f _ l fun i a e => by rw [List.getD_eq_getElem?_getD, e]; rfl] at d3
      exact k _ _ (Same.trans s2 s3) ⟨D, us', rfl, e3, d3⟩
/-- a comprehension over a written text -/
theorem ed_lcS {z : Str} {te : TE} {i : Nat} {f : Nat → Kd.D5} (hz : z.cps.size ≤ 10000) (nl : ∀ j, Kd.nol (f j) = true) (hw : ∀ u, wipe ((wipe σ [i]).set i (some u)) [i] = wipe σ [i])
    (hs : ∀ j c H2, z.cps[j]? = some c → Same H H2 → ED (Kd.O5 K) te ((wipe σ [i]).set i (some (.str ⟨#[c]⟩))) H2 (f j)) :
    ED (Kd.O5 K) (tLc (iStr (tC (.str z))) (gName i) tYes te [i]) σ H (.lst ((List.range z.cps.size).map f)) := fun H1 s Q k => by
  refine ⟨z, rfl, fun D nD => ?_⟩
  refine lc_dat (K := K) (walk_str (z := z)) nD (fun j => some (f j)) hz (fun j d hj ed => by cases ed; exact nl j) (fun H3 s3 => trivial) (fun j x H3 H3' N M hj s3 hy q1 q2 => ?_) (fun H3 us' s3 e3 d3 => ?_)
  · obtain ⟨rfl, c, ec, rfl⟩ := hy
    refine ⟨hw _, ?_⟩
    exact (hs j c _ ec (Same.trans s s3)) _ (Same.refl _) _ fun v H4 s4 hv => q1 _ rfl v H4 s4 hv
  · rw [List.filterMap_eq_map'] at d3
    exact k _ _ s3 ⟨D, us', rfl, e3, d3⟩
theorem cut1 {x : DV OB} {l : List (DV OB)} : cutD (x :: l) (some 1) none = l := by
  simp [cutD, HT.sIx]
theorem cutT1 {x : DV OB} {l : List (DV OB)} : cutD (x :: l) none (some 1) = [x] := by
  simp [cutD, HT.sIx]
end Ed

set_option Elab.async false
set_option linter.all false
set_option maxRecDepth 100000
set_option maxHeartbeats 4000000
/-! lists of the same values; a block read otherwise -/
namespace Kd
open PySem PySem.Spec PyProof.Rows L2 Dq Vl Pf Ed
/-- no number with a point, no bytes -/
def noF : V → Bool
  | .byt _ => false
  | .flt _ => false
  | _ => true
theorem eqAt_self {A : Around} {s : Shared} {v : V} {u w : Value} (h : noF v = true) (r : RelV v u) (k : RelV v w) : SeqAt.EqAt A s u w true := by
  cases v with
  | non => cases r; cases k; exact SeqAt.EqAt.same _
  | bl b => cases r; cases k; exact SeqAt.EqAt.same _
  | int i =>
    obtain ⟨t, rfl⟩ := r
    obtain ⟨t', rfl⟩ := k
    have := SeqAt.EqAt.int_int (A := A) (s := s) i t i t'
    rwa [beq_self_eq_true] at this
  | str i =>
    obtain ⟨t, rfl⟩ := r
    obtain ⟨t', rfl⟩ := k
    have := SeqAt.EqAt.str_str (A := A) (s := s) i t i t'
    rwa [beq_self_eq_true] at this
  | byt b => cases h
  | flt b => cases h
  | ref a => cases r; cases k; exact SeqAt.EqAt.same _
  | ty n => cases r; cases k; exact SeqAt.EqAt.same _
def rNeSame (K : PySem.W.Frag) : R2 := fun x y H Q => ∃ p q xs, x = .ref p ∧ y = .ref q ∧ SqL K H p xs ∧ SqL K H q xs ∧ xs.all noF = true ∧ Q (.bl false) H
/-- xs != ys: lists of the same values -/
theorem op_neSame {X : Cx} (hu : X.A.units < cLine) : OpR X (compareOp .NotEq) (rNeSame X.K) := by
  intro pins s σ H x y v u Q I rx ry h
  obtain ⟨p, q, xs, rfl, rfl, hp, hq, hf, k⟩ := h
  cases rx
  cases ry
  obtain ⟨its, r, ht, _⟩ := I.list hp
  obtain ⟨its2, r2, ht2, _⟩ := I.list hq
  have e1 := r.length
  have e2 := r2.length
  have he : ∀ j (h1 : j < its.toArray.size) (h2 : j < its2.toArray.size), SeqAt.EqAt X.A.in1 s its.toArray[j] its2.toArray[j] true := fun j h1 h2 => by
    have hj : j < xs.length := by simp at h1; omega
    obtain ⟨a, ea, ra⟩ := r.get (i := j) (List.getElem?_eq_getElem hj)
    obtain ⟨b, eb, rb⟩ := r2.get (i := j) (List.getElem?_eq_getElem hj)
    have := eqAt_self (A := X.A.in1) (s := s) (List.all_eq_true.mp hf _ (List.getElem_mem hj)) ra rb
    rw [List.getElem?_eq_getElem (by simp at h1; omega)] at ea
    rw [List.getElem?_eq_getElem (by simp at h2; omega)] at eb
    cases ea
    cases eb
    simpa using this
  have z := SeqAt.RcNeAt.lists (A := X.A) ht.isList ht2.isList (by simp; omega) hu (e := fun _ => true) he
  rw [show (List.range its.toArray.size).all (fun _ => true) = true from List.all_eq_true.mpr fun _ _ => rfl] at z
  exact z X.prog X.w X.xe _ ⟨.bl false, H, I, rfl, k⟩
/-- a block whose reading is told otherwise -/
theorem pss_by {X : Cx} {b : List Stmt} {t u : TS} (h : PSs X b t) (k : ∀ D σ H, u D σ H → t D σ H) : PSs X b u := ⟨fun pins s σ H D I q => h.run pins s σ H D I (k D σ H q)⟩
end Kd

set_option Elab.async false
set_option linter.all false
set_option maxRecDepth 100000
set_option maxHeartbeats 4000000
/-! what an expression gives, by a relation; what a test tells; statements stepped through -/
namespace Ed
open PySem PySem.Spec PyProof.Rows L2 Dq Vl
def EP (te : TE) (σ : L2.St) (H : Hp) (R : V → Hp → Prop) : Prop := ∀ H1, Same H H1 → ∀ Q : VK, (∀ v H2, Same H1 H2 → R v H2 → Q v H2) → te σ H1 Q
def ET (tt : TT) (σ : L2.St) (H : Hp) (b : Bool) : Prop := ∀ H1, Same H H1 → ∀ Q : Bool → Hp → Prop, (∀ H2, Same H1 H2 → Q b H2) → tt σ H1 Q
variable {OB : Type} {O : Obs OB} {K : PySem.W.Frag} {σ : L2.St} {H : Hp} {te ta tb : TE} {tt tu : TT} {R R' : V → Hp → Prop} {b c : Bool}
theorem EP.run (h : EP te σ H R) {Q : VK} (k : ∀ v H2, Same H H2 → R v H2 → Q v H2) : te σ H Q := h H (Same.refl H) Q k
theorem ET.run (h : ET tt σ H b) {Q : Bool → Hp → Prop} (k : ∀ H2, Same H H2 → Q b H2) : tt σ H Q := h H (Same.refl H) Q k
theorem ED.ep {d : DV OB} (h : ED O te σ H d) : EP te σ H fun v H => Dv O H d v := h
theorem EP.ed {d : DV OB} (h : EP te σ H fun v H => Dv O H d v) : ED O te σ H d := h
theorem EP.imp (h : EP te σ H R) (k : ∀ v H2, Same H H2 → R v H2 → R' v H2) : EP te σ H R' := fun H1 s Q q => h H1 s Q fun v H2 s2 r => q v H2 s2 (k v H2 (Same.trans s s2) r)
/-- name = e, then the rest -/
theorem EP.seq {u : TS} {D : Ends} {i : Nat} (h : EP te σ H R) (k : ∀ v H2, Same H H2 → R v H2 → u D (σ.set i (some v)) H2) : tSeq (tAsg te (gName i)) u D σ H := h.run k
theorem EP.ret {D : Ends} (h : EP te σ H R) (k : ∀ v H2, Same H H2 → R v H2 → D.rt v H2) : tRet te D σ H := h.run k
/-- a, b = e1, e2 -/
theorem EP.par {u : TS} {D : Ends} {i j : Nat} (h : EP ta σ H R) (h2 : EP tb σ H R') (st : ∀ {H H' : Hp} {v : V}, Same H H' → R v H → R v H') (k : ∀ v w H2, Same H H2 → R v H2 → R' w H2 → u D ((σ.set i (some v)).set j (some w)) H2) : tSeq (tPar i j (tCons ta (tCons tb tNil))) u D σ H :=
  h.run fun v H1 s1 r => h2 H1 s1 _ fun w H2 s2 r2 => ⟨v, w, rfl, k v w H2 (Same.trans s1 s2) (st s2 r) r2⟩
theorem ep_pv {i : Nat} {v : V} (e : σ[i]? = some (some v)) (h : ∀ H2, Same H H2 → R v H2) : EP (tVar i) σ H R := fun H1 s Q k => ⟨v, e, k v H1 (Same.refl _) (h H1 s)⟩
/-- a test that is not met, then the rest -/
theorem ET.skip {t u : TS} {D : Ends} (h : ET tt σ H false) (k : ∀ H2, Same H H2 → u D σ H2) : tSeq (tIfS tt t tNext) u D σ H := h.run fun H2 s => iteN rfl (k H2 s)
theorem ET.skip1 {t : TS} {D : Ends} (h : ET tt σ H false) (k : ∀ H2, Same H H2 → D.nx σ H2) : tIfS tt t tNext D σ H := h.run fun H2 s => iteN rfl (k H2 s)
theorem et_not (h : ET tt σ H b) : ET (tNot tt) σ H (!b) := fun H1 s Q k => h H1 s _ fun H2 s2 => k H2 s2
theorem et_or (h : ET tt σ H false) (h2 : ET tu σ H c) : ET (tOr tt tu) σ H c := fun H1 s Q k => h H1 s _ fun H2 s2 => iteN rfl (h2 H2 (Same.trans s s2) _ fun H3 s3 => k H3 (Same.trans s2 s3))
theorem et_and (h : ET tt σ H true) (h2 : ET tu σ H c) : ET (tAnd tt tu) σ H c := fun H1 s Q k => h H1 s _ fun H2 s2 => iteC rfl (h2 H2 (Same.trans s s2) _ fun H3 s3 => k H3 (Same.trans s2 s3))
theorem et_andF (h : ET tt σ H false) : ET (tAnd tt tu) σ H false := fun H1 s Q k => h H1 s _ fun H2 s2 => iteN rfl (k H2 s2)
/-- a test by a value -/
theorem et_val (h : EP te σ H fun v _ => v = .bl b) : ET (tTest te) σ H b := fun H1 s Q k => h H1 s _ fun v H2 s2 e => ⟨b, e, k H2 s2⟩
theorem ep_if {d : DV OB} (h : ET tt σ H b) (h1 : b = true → ED O ta σ H d) (h2 : b = false → ED O tb σ H d) : ED O (tIf tt ta tb) σ H d := fun H1 s Q k => h H1 s _ fun H2 s2 => by
  cases b with
  | true => exact iteC rfl (h1 rfl H2 (Same.trans s s2) Q fun v H3 s3 hv => k v H3 (Same.trans s2 s3) hv)
  | false => exact iteN rfl (h2 rfl H2 (Same.trans s s2) Q fun v H3 s3 hv => k v H3 (Same.trans s2 s3) hv)
theorem ed_not {b : Bool} (h : ED O te σ H (.bl b)) : ED O (tNotV te) σ H (.bl (!b)) := fun H1 s Q k => h H1 s _ fun v H2 s2 e => ⟨b, e, k _ H2 s2 rfl⟩
/-- x is None -/
theorem et_isN {d : DV OB} (nn : ∀ {H : Hp} {v : V}, Dv O H d v → decide (v = V.non) = b) (h : ED O te σ H d) : ET (tTest (tOp (fun x y H Q => y = .non ∧ Q (.bl (decide (x = .non))) H) te (tC .non))) σ H b := fun H1 s Q k =>
  h H1 s _ fun v H2 s2 hv => ⟨rfl, b, by rw [nn hv], k H2 s2⟩
/-- the last item of a list -/
theorem ed_ixLast (P : Kps K O) {l : List (DV OB)} {d : DV OB} (h : ED O ta σ H (.lst (l ++ [d]))) : ED O (tOp (rIxL K) ta (tUn (rU fun i => .int (-i)) (tC (.int 1)))) σ H d := fun H1 s Q k =>
  h H1 s _ fun v H2 s2 hv => by
    obtain ⟨a, us, rfl, ha, pa⟩ := hv
    have e := pa.len
    rw [List.length_append, List.length_singleton] at e
    have hu : us = us.take l.length ++ us.drop l.length := (List.take_append_drop _ _).symm
    have p2 := Ed.DvL.drop l.length pa
    rw [List.drop_left] at p2
    obtain ⟨u, r, e2, hd, e3⟩ := p2
    cases (show r = [] from e3)
    rw [e2] at hu
    refine ⟨1, rfl, a, us, -1, u, rfl, rfl, SqL.of ha, ?_, k u H2 s2 hd⟩
    rw [hu]
    exact atI_last _ _
/-- leaves held against leaves -/
theorem et_neD {l m : List (DV OB)} (kk : O.K = K) (el : l.all Kd.lfo = true) (em : m.all Kd.lfo = true) (h : ED O ta σ H (.tup l)) (h2 : ED O tb σ H (.tup m)) (st : ∀ {H H' : Hp} {v : V}, Same H H' → Dv O H (.tup l) v → Dv O H' (.tup l) v)
    (s1 : SeqAt.shaped (.tuple (l.map Kd.py)) = true) (s2 : SeqAt.shaped (.tuple (m.map Kd.py)) = true) (e : (!PyData.eqv (.tuple (l.map Kd.py)) (.tuple (m.map Kd.py))) = b) : ET (tTest (tOp (rNeD K) ta tb)) σ H b := fun H1 s Q k =>
  h H1 s _ fun v H2 s3 hv => h2 H2 (Same.trans s s3) _ fun u H3 s4 hu => ⟨_, _, Kd.dp_row kk el (st s4 hv), Kd.dp_row kk em hu, s1, s2, b, by rw [e], k H3 (Same.trans s3 s4)⟩
theorem et_eqD {l m : List (DV OB)} (kk : O.K = K) (el : l.all Kd.lfo = true) (em : m.all Kd.lfo = true) (h : ED O ta σ H (.tup l)) (h2 : ED O tb σ H (.tup m)) (st : ∀ {H H' : Hp} {v : V}, Same H H' → Dv O H (.tup l) v → Dv O H' (.tup l) v)
    (s1 : SeqAt.shaped (.tuple (l.map Kd.py)) = true) (s2 : SeqAt.shaped (.tuple (m.map Kd.py)) = true) (e : PyData.eqv (.tuple (l.map Kd.py)) (.tuple (m.map Kd.py)) = b) : ET (tTest (tOp (rEqD K) ta tb)) σ H b := fun H1 s Q k =>
  h H1 s _ fun v H2 s3 hv => h2 H2 (Same.trans s s3) _ fun u H3 s4 hu => ⟨_, _, Kd.dp_row kk el (st s4 hv), Kd.dp_row kk em hu, s1, s2, b, by rw [e], k H3 (Same.trans s3 s4)⟩
/-- a comprehension over a text that is reckoned -/
theorem ed_lcZ {z : Str} {ts te : TE} {i : Nat} {f : Nat → Kd.D5} (ez : EP ts σ H fun v _ => v = .str z) (hz : z.cps.size ≤ 10000) (nl : ∀ j, Kd.nol (f j) = true) (hw : ∀ u, wipe ((wipe σ [i]).set i (some u)) [i] = wipe σ [i])
    (hs : ∀ j c H2, z.cps[j]? = some c → Same H H2 → ED (Kd.O5 K) te ((wipe σ [i]).set i (some (.str ⟨#[c]⟩))) H2 (f j)) :
    ED (Kd.O5 K) (tLc (iStr ts) (gName i) tYes te [i]) σ H (.lst ((List.range z.cps.size).map f)) := fun H1 s Q k => by
  refine ez H1 s _ fun v H1' s' ev => ⟨z, ev, fun D nD => ?_⟩
  refine lc_dat (K := K) (walk_str (z := z)) nD (fun j => some (f j)) hz (fun j d hj ed => by cases ed; exact nl j) (fun H3 s3 => trivial) (fun j x H3 H3' N M hj s3 hy q1 q2 => ?_) (fun H3 us' s3 e3 d3 => ?_)
  · obtain ⟨rfl, c, ec, rfl⟩ := hy
    refine ⟨hw _, ?_⟩
    exact (hs j c _ ec (Same.trans s (Same.trans s' s3))) _ (Same.refl _) _ fun v H4 s4 hv => q1 _ rfl v H4 s4 hv
  · rw [List.filterMap_eq_map'] at d3
    exact k _ _ (Same.trans s' s3) ⟨D, us', rfl, e3, d3⟩
end Ed

set_option Elab.async false
set_option linter.all false
set_option maxRecDepth 100000
set_option maxHeartbeats 4000000
/-! more of what an expression gives -/
namespace Ed
open PySem PySem.Spec PyProof.Rows L2 Dq Vl
variable {OB : Type} {O : Obs OB} {K : PySem.W.Frag} {σ : L2.St} {H : Hp} {te ta tb : TE} {tt tu : TT} {R R' : V → Hp → Prop} {b c : Bool}
theorem ET.asB (h : ET (tTest te) σ H b) : ET (tB te) σ H b := h
/-- an item by a number that a name holds -/
theorem ed_ixLv (P : Kps K O) {i : Nat} {l : List (DV OB)} {d : DV OB} (h : ED O ta σ H (.lst l)) (h2 : EP tb σ H fun v _ => v = .int (i : Int)) (e : l[i]? = some d) : ED O (tOp (rIxL K) ta tb) σ H d := fun H1 s Q k =>
  h H1 s _ fun v H2 s2 hv => h2 H2 (Same.trans s s2) _ fun u H3 s3 hu => by
    obtain ⟨a, us, rfl, ha, pa⟩ := P.dv s3 hv
    cases hu
    obtain ⟨w, eu, hw⟩ := at_dv pa e
    exact ⟨a, us, _, w, rfl, rfl, SqL.of ha, atI_nat eu, k w H3 (Same.trans s2 s3) hw⟩
theorem ED.asg {d : DV OB} {g : TG} {u : TS} {D : Ends} (h : ED O te σ H d) (k : ∀ v H2, Same H H2 → Dv O H2 d v → g v σ H2 (u D)) : tSeq (tAsg te g) u D σ H := h.run k
theorem ed_ifD {d1 d2 : DV OB} (h : ET tt σ H b) (h1 : ED O ta σ H d1) (h2 : ED O tb σ H d2) : ED O (tIf tt ta tb) σ H (if b = true then d1 else d2) := by
  cases b with
  | true => exact ep_if h (fun _ => h1) (fun e => nomatch e)
  | false => exact ep_if h (fun e => nomatch e) (fun _ => h2)
abbrev rLen (K : PySem.W.Frag) : List V → Hp → VK → Prop := fun xs H Q => ∃ p ys, xs = [.ref p] ∧ (SqL K H p ys ∨ SqT K H p ys) ∧ Q (.int ys.length) H
theorem ep_lenT (P : Kps K O) {l : List (DV OB)} (h : ED O ta σ H (.tup l)) : EP (tCB (rLen K) (tCons ta tNil)) σ H fun v _ => v = .int (l.length : Int) := fun H1 s Q k =>
  h H1 s _ fun v H2 s2 hv => by
    obtain ⟨a, us, rfl, ha, pa⟩ := hv
    exact ⟨a, us, rfl, .inr (P.kk ▸ ha), k _ H2 s2 (by rw [pa.len])⟩
theorem ep_lenL (P : Kps K O) {l : List (DV OB)} (h : ED O ta σ H (.lst l)) : EP (tCB (rLen K) (tCons ta tNil)) σ H fun v _ => v = .int (l.length : Int) := fun H1 s Q k =>
  h H1 s _ fun v H2 s2 hv => by
    obtain ⟨a, us, rfl, ha, pa⟩ := hv
    exact ⟨a, us, rfl, .inl (SqL.of ha), k _ H2 s2 (by rw [pa.len])⟩
theorem ep_int {i : Int} : EP (tC (.int i)) σ H fun v _ => v = .int i := fun H1 s Q k => k _ H1 (Same.refl _) rfl
theorem ep_str {i : Str} : EP (tC (.str i)) σ H fun v _ => v = .str i := fun H1 s Q k => k _ H1 (Same.refl _) rfl
theorem ep_sub {i j : Int} (h : EP ta σ H fun v _ => v = .int i) (h2 : EP tb σ H fun v _ => v = .int j) : EP (tOp (rI0 fun i j => .int (i - j)) ta tb) σ H fun v _ => v = .int (i - j) := fun H1 s Q k =>
  h H1 s _ fun v H2 s2 e => h2 H2 (Same.trans s s2) _ fun u H3 s3 e2 => ⟨i, j, e, e2, k _ H3 (Same.trans s2 s3) rfl⟩
/-- s[:i] of a text -/
theorem ep_cutS {z : Str} {i : Int} (hz : z.length ≤ 10000) (h : EP ta σ H fun v _ => v = .str z) (h2 : EP tb σ H fun v _ => v = .int i) : EP (tSl rSlS ta tNoPart (tPart tb)) σ H fun v _ => v = .str (cutS z none (some i)) := fun H1 s Q k =>
  h H1 s _ fun v H2 s2 e => h2 H2 (Same.trans s s2) _ fun u H3 s3 e2 => ⟨i, e2, z, e, Nat.le_trans hz (by decide), k _ H3 (Same.trans s2 s3) rfl⟩
theorem cutS_size {z : Str} {n : Nat} (h : n ≤ z.length) : (cutS z none (some (n : Int))).cps.size = n := by
  unfold cutS
  rw [HT.sIx_none, HT.sIx_nat, List.drop_zero, Nat.sub_zero, List.size_toArray, List.length_take, Array.length_toList]
  show min (min n z.length) z.length = n
  omega
end Ed

set_option Elab.async false
set_option linter.all false
set_option maxRecDepth 100000
set_option maxHeartbeats 4000000
/-! truth values as values; is_integer, is_tag -/
namespace Ed
open PySem PySem.Spec PyProof.Rows L2 Dq Vl Kd
variable {K : PySem.W.Frag} {σ : L2.St} {H : Hp} {te ta tb : TE} {b c : Bool}
abbrev EB (te : TE) (σ : L2.St) (H : Hp) (b : Bool) : Prop := EP te σ H fun v _ => v = .bl b
theorem eb_and (h : EB ta σ H b) (h2 : b = true → EB tb σ H c) : EB (tAndV ta tb) σ H (b && c) := fun H1 s Q k => h H1 s _ fun v H2 s2 e => ⟨b, e, by
  cases b with
  | true => exact iteC rfl (h2 rfl H2 (Same.trans s s2) Q fun v H3 s3 e => k v H3 (Same.trans s2 s3) e)
  | false => exact iteN rfl (k _ H2 s2 rfl)⟩
theorem eb_or (h : EB ta σ H b) (h2 : b = false → EB tb σ H c) : EB (tOrV ta tb) σ H (b || c) := fun H1 s Q k => h H1 s _ fun v H2 s2 e => ⟨b, e, by
  cases b with
  | true => exact iteC rfl (k _ H2 s2 rfl)
  | false => exact iteN rfl (h2 rfl H2 (Same.trans s s2) Q fun v H3 s3 e => k v H3 (Same.trans s2 s3) e)⟩
theorem eb_not (h : EB te σ H b) : EB (tNotV te) σ H (!b) := fun H1 s Q k => h H1 s _ fun v H2 s2 e => ⟨b, e, k _ H2 s2 rfl⟩
theorem eb_is6 {T : String} {d : D5} (h : ED (O5 K) ta σ H d) : EB (tCB (fun xs H Q => ∃ v x, xs = [v, .ty T] ∧ Dv (O5 K) H x v ∧ Q (.bl (isT6 T x)) H) (tCons ta (tCons (tC (.ty T)) tNil))) σ H (isT6 T d) := fun H1 s Q k =>
  h H1 s _ fun v H2 s2 hv => ⟨v, d, rfl, hv, k _ H2 s2 rfl⟩
/-- a scalar by == -/
theorem eb_eq {x y : V} (h : EP ta σ H fun v _ => v = x) (h2 : EP tb σ H fun v _ => v = y) (e : scal x y = true) : EB (tOp rEq ta tb) σ H (decide (x = y)) := fun H1 s Q k =>
  h H1 s _ fun v H2 s2 e1 => h2 H2 (Same.trans s s2) _ fun u H3 s3 e2 => by subst e1 e2; exact ⟨e, k _ H3 (Same.trans s2 s3) rfl⟩
theorem eb_ints {f : Int → Int → Bool} {i j : Int} (h : EP ta σ H fun v _ => v = .int i) (h2 : EP tb σ H fun v _ => v = .int j) : EB (tOp (rI0 fun i j => .bl (f i j)) ta tb) σ H (f i j) := fun H1 s Q k =>
  h H1 s _ fun v H2 s2 e1 => h2 H2 (Same.trans s s2) _ fun u H3 s3 e2 => ⟨i, j, e1, e2, k _ H3 (Same.trans s2 s3) rfl⟩
theorem et_b (h : EB te σ H b) : ET (tB te) σ H b := fun H1 s Q k => h H1 s _ fun v H2 s2 e => ⟨b, e, k H2 s2⟩
theorem et_t (h : EB te σ H b) : ET (tTest te) σ H b := fun H1 s Q k => h H1 s _ fun v H2 s2 e => ⟨b, e, k H2 s2⟩
theorem ep_v {i : Nat} {v : V} (e : σ[i]? = some (some v)) : EP (tVar i) σ H fun u _ => u = v := ep_pv e fun _ _ => rfl
theorem ep_int2 {i : Int} : EP (tC (.int i)) σ H fun v _ => v = .int i := fun H1 s Q k => k _ H1 (Same.refl _) rfl
end Ed
namespace Kd
open PySem PySem.Spec PyProof.Rows L2 Dq Vl Pf Ed
structure TxtV (mg : Str → Option Value) : Prop where
  isi : mg "isinstance" = none
  str : mg "str" = none
  tuple : mg "tuple" = none
  dict : mg "dict" = none
  bool : mg "bool" = none
  int : mg "int" = none
  len : mg "len" = none
  all : mg "all" = none
  list : mg "list" = none
  sorted : mg "sorted" = none
abbrev sInt : Stmt := tp 15
theorem scInt : FnScope ["thing"] ["thing"] (defScope sInt) := ⟨rfl, rfl, rfl, by decide +kernel, rfl, by decide +kernel, by decide +kernel⟩
def intD : D5 → Bool
  | .int _ => true
  | _ => false
theorem int_is (d : D5) : (isT6 "int" d && !isT6 "bool" d) = intD d := by cases d <;> rfl
abbrev spV (K : PySem.W.Frag) (ok f : D5 → Bool) : Sp := spB (O5 K) ok f
section
variable {P : Program} {w : World} {K : PySem.W.Frag} {mg : Str → Option Value} {base : Heap}
theorem ok_int {f : Addr} {fd : FuncData} (F : Fun K "is_integer" "is_integer" sInt f fd) (T : TxtV mg) : FnOk P w K mg base CX0 1 f fd ["thing"] (spV K (fun _ => true) intD) := by
  refine F.ok scInt (fun vs H Q E h => ?_) (fun cdv A outer s H vs Q E hr h => ?_)
  · obtain ⟨v, d, rfl, _⟩ := h
    rfl
  · obtain ⟨v, d, rfl, hd, _, q⟩ := h
    refine ⟨_, pss_one (ps_ret (pe_and (pe_callB (call_is6 (T := "int") (by simp)) (by rfl) T.isi (by decide +kernel) (pa_cons (pv 0) (pa_cons (pe_bltn (v := .ty "int") (by rfl) T.int (by decide +kernel) rfl) pa_nil)))
      (pe_one (pe_not (pe_callB (call_is6 (T := "bool") (by simp)) (by rfl) T.isi (by decide +kernel) (pa_cons (pv 0) (pa_cons (pe_bltn (v := .ty "bool") (by rfl) T.bool (by decide +kernel) rfl) pa_nil))))))), ?_⟩
    have P := kps5 (K := K)
    have h0 : ∀ {σ : L2.St}, σ[0]? = some (some v) → ED (O5 K) (tVar 0) σ H d := fun e => ed_pv P e hd
    exact EP.ret (eb_and (eb_is6 (h0 rfl)) fun _ => eb_not (eb_is6 (h0 rfl))) fun u H2 s2 e => by
      rw [e, int_is]
      exact q H2 s2
end
end Kd

set_option Elab.async false
set_option linter.all false
set_option maxRecDepth 100000
set_option maxHeartbeats 4000000
/-! is_tag, _as_chosen, _tags_in -/
namespace Ed
open PySem PySem.Spec PyProof.Rows L2 Dq Vl Kd
variable {K : PySem.W.Frag} {σ : L2.St} {H : Hp} {te ta tb : TE} {tt tu : TT} {b c : Bool}
theorem ET.ite {t u : TS} {D : Ends} (h : ET tt σ H b) (h1 : b = true → ∀ H2, Same H H2 → t { D with nx := u D } σ H2) (h2 : b = false → ∀ H2, Same H H2 → u D σ H2) : tSeq (tIfS tt t tNext) u D σ H := h.run fun H2 s => by
  cases b with
  | true => exact iteC rfl (h1 rfl H2 s)
  | false => exact iteN rfl (h2 rfl H2 s)
theorem et_orI (h : ET tt σ H b) (h2 : b = false → ET tu σ H c) : ET (tOr tt tu) σ H (b || c) := fun H1 s Q k => h H1 s _ fun H2 s2 => by
  cases b with
  | true => exact iteC rfl (k H2 s2)
  | false => exact iteN rfl (h2 rfl H2 (Same.trans s s2) _ fun H3 s3 => k H3 (Same.trans s2 s3))
theorem et_andI (h : ET tt σ H b) (h2 : b = true → ET tu σ H c) : ET (tAnd tt tu) σ H (b && c) := fun H1 s Q k => h H1 s _ fun H2 s2 => by
  cases b with
  | true => exact iteC rfl (h2 rfl H2 (Same.trans s s2) _ fun H3 s3 => k H3 (Same.trans s2 s3))
  | false => exact iteN rfl (k H2 s2)
/-- len(xs) != n -/
theorem et_neI {i j : Int} (h : EP ta σ H fun v _ => v = .int i) (h2 : EP tb σ H fun v _ => v = .int j) : ET (tTest (tOp rNe ta tb)) σ H (!decide (i = j)) := fun H1 s Q k =>
  h H1 s _ fun v H2 s2 e1 => h2 H2 (Same.trans s s2) _ fun u H3 s3 e2 => by
    subst e1 e2
    exact ⟨rfl, _, rfl, by
      have := k H3 (Same.trans s2 s3)
      rwa [show decide (V.int i = V.int j) = decide (i = j) from decide_eq_decide.mpr ⟨fun e => V.int.inj e, fun e => by rw [e]⟩]⟩
end Ed
namespace Kd
open PySem PySem.Spec PyProof.Rows L2 Dq Vl Pf Ed
abbrev sTag : Stmt := tp 18
abbrev NTag : List Str := ["thing", "mark", "kind", "number"]
theorem scTag : FnScope NTag ["thing"] (defScope sTag) := ⟨rfl, rfl, rfl, by decide +kernel, rfl, by decide +kernel, by decide +kernel⟩
def numD : D5 → Bool
  | .int n => decide (1 ≤ n)
  | _ => false
/-- ("#", a name, a whole number from 1 on) -/
def tagD : D5 → Bool
  | .tup [.str m, k, n] => decide (m = "#") && (nmD k && numD n)
  | _ => false
def okTag : D5 → Bool
  | .tup [.str _, k, _] => shD k
  | .tup [_, _, _] => false
  | _ => true
section
variable {P : Program} {w : World} {K : PySem.W.Frag} {mg : Str → Option Value} {base : Heap}
theorem ok_tag {f fN fI : Addr} {fd fdN fdI : FuncData} (F : Fun K "is_tag" "is_tag" sTag f fd) (T : TxtV mg) (DN : Def P w K mg base 1 "is_name" fN fdN ["thing"] (spB (O5 K) shD nmD)) (DI : Def P w K mg base 1 "is_integer" fI fdI ["thing"] (spV K (fun _ => true) intD)) :
    FnOk P w K mg base CX0 2 f fd ["thing"] (spV K okTag tagD) := by
  refine F.ok scTag (fun vs H Q E h => ?_) (fun cdv A outer s H vs Q E hr h => ?_)
  · obtain ⟨v, d, rfl, _⟩ := h
    rfl
  · obtain ⟨v, d, rfl, hd, ok, q⟩ := h
    refine ⟨_, pss_cons (ps_if (PW.pt (pw_or (pt_not (pt_val (pe_callB (call_is6 (T := "tuple") (by simp)) (by rfl) T.isi (by decide +kernel) (pa_cons (pv 0) (pa_cons (pe_bltn (v := .ty "tuple") (by rfl) T.tuple (by decide +kernel) rfl) pa_nil)))))
        (pw_or1 (pt_cmpR op_ne (pe_callB call_len_seq (by rfl) T.len PySem.boot_len (pa_cons (pv 0) pa_nil)) pe_int (nomark _))))) (pss_one (ps_ret pe_bl)) pss_nil)
      (pss_cons (ps_asg (pv 0) (pg_tup rfl (pgs_cons (pg_name (i := 1) scTag.nd rfl (Or.inl rfl)) (pgs_cons (pg_name (i := 2) scTag.nd rfl (Or.inl rfl)) (pgs_cons (pg_name (i := 3) scTag.nd rfl (Or.inl rfl)) pgs_nil)))))
      (pss_one (ps_ret (pe_and (pe_cmpR op_eq (pv 1) pe_str (nomark _)) (pe_and (pe_call DN.ok (hr.mono (by omega)) rfl DN.g DN.kp DN.b .nil pass0 (pa_cons (pv 2) pa_nil)) (pe_and (pe_call DI.ok (hr.mono (by omega)) rfl DI.g DI.kp DI.b .nil pass0 (pa_cons (pv 3) pa_nil)) (pe_one (pe_cmpR op_ge (pv 3) pe_int (nomark _))))))))), ?_⟩
    have P := kps5 (K := K)
    have h0 : ∀ {σ : L2.St}, σ[0]? = some (some v) → ED (O5 K) (tVar 0) σ H d := fun e => ed_pv P e hd
    have no : tagD d = false → ∀ H2, Same H H2 → Q (.bl false) H2 := fun e H2 s2 => e ▸ q H2 s2
    obtain ⟨l, rfl⟩ | ht : (∃ l, d = .tup l) ∨ isT6 "tuple" d = false := by
      cases d with
      | tup l => exact .inl ⟨l, rfl⟩
      | _ => exact .inr rfl
    case inr =>
      have : tagD d = false := by
        cases d with
        | tup l => cases ht
        | _ => rfl
      refine ET.ite (b := true) (by
        have := et_not (et_b (eb_is6 (T := "tuple") (h0 (σ := [some v, none, none, none]) rfl)))
        rw [ht] at this
        exact et_orI (c := false) this fun e => nomatch e) (fun _ H2 s2 => no this H2 s2) (fun e => nomatch e)
    by_cases el : l.length = 3
    case neg =>
      have : tagD (.tup l) = false := by
        match l, el with
        | [], _ => rfl
        | [m], _ => cases m <;> rfl
        | [m, _], _ => cases m <;> rfl
        | [_, _, _], el => exact absurd rfl el
        | m :: _ :: _ :: _ :: _, _ => cases m <;> rfl
      refine ET.ite (b := true) (by
        have h1 := et_not (et_b (eb_is6 (T := "tuple") (h0 (σ := [some v, none, none, none]) rfl)))
        have h2 := et_neI (ep_lenT P (h0 (σ := [some v, none, none, none]) rfl)) (ep_int2 (i := 3))
        rw [decide_eq_false (fun z => el (by omega))] at h2
        exact et_orI (b := false) h1 fun _ => h2) (fun _ H2 s2 => no this H2 s2) (fun e => nomatch e)
    obtain ⟨m, k, n, rfl⟩ : ∃ m k n, l = [m, k, n] := by
      match l, el with
      | [m, k, n], _ => exact ⟨m, k, n, rfl⟩
    obtain ⟨z, rfl⟩ : ∃ z, m = .str z := by
      cases m with
      | str z => exact ⟨z, rfl⟩
      | _ => cases ok
    refine ET.ite (b := false) (by
        have h1 := et_not (et_b (eb_is6 (T := "tuple") (h0 (σ := [some v, none, none, none]) rfl)))
        have h2 := et_neI (ep_lenT P (h0 (σ := [some v, none, none, none]) rfl)) (ep_int2 (i := 3))
        exact et_orI (b := false) h1 fun _ => h2) (fun e => nomatch e) fun _ H1 s1 => ?_
    obtain ⟨a, us, rfl, ha, u1, r1, rfl, h1, u2, r2, rfl, h2, u3, r3, rfl, h3, e3⟩ := P.dv s1 hd
    cases (show r3 = [] from e3)
    refine ⟨_, rfl, a, _, rfl, ha, rfl, _, _, rfl, _, _, rfl, _, _, rfl, rfl, ?_⟩
    cases h1
    have hnm : ∀ {σ : L2.St}, σ[2]? = some (some u2) → EB (tCall (spB (O5 K) shD nmD) [] E0 (tCons (tVar 2) tNil)) σ H1 (nmD k) := fun e H2 s2 Q2 q2 => ⟨_, e, u2, k, rfl, P.dv s2 h2, ok, fun H3 s3 => q2 _ H3 s3 rfl⟩
    have hin : ∀ {σ : L2.St}, σ[3]? = some (some u3) → EB (tCall (spV K (fun _ => true) intD) [] E0 (tCons (tVar 3) tNil)) σ H1 (intD n) := fun e H2 s2 Q2 q2 => ⟨_, e, u3, n, rfl, P.dv s2 h3, rfl, fun H3 s3 => q2 _ H3 s3 rfl⟩
    refine EP.ret (eb_and (c := nmD k && numD n) (eb_eq (x := .str z) (y := .str "#") (ep_v rfl) ep_str rfl) fun _ => eb_and (c := numD n) (hnm rfl) fun _ => ?_) fun u H2 s2 e => ?_
    · cases n with
      | int i =>
        cases h3
        exact eb_and (b := true) (c := decide (1 ≤ i)) (hin rfl) fun _ => eb_ints (f := fun i j => decide (j ≤ i)) (ep_v rfl) ep_int2
      | _ => exact eb_and (b := false) (c := false) (hin rfl) fun e => nomatch e
    · rw [e, show decide (V.str z = V.str "#") = decide (z = "#") from decide_eq_decide.mpr ⟨fun e => V.str.inj e, fun e => by rw [e]⟩]
      exact q H2 (Same.trans s1 s2)
end
end Kd

set_option Elab.async false
set_option linter.all false
set_option maxRecDepth 100000
set_option maxHeartbeats 4000000
/-! fresh -/
namespace Ed
open PySem PySem.Spec PyProof.Rows L2 Dq Vl Kd
variable {K : PySem.W.Frag} {σ : L2.St} {H : Hp} {te ta tb : TE}
/-- a comprehension over a tuple, without tests -/
theorem ed_lcT {i : Nat} {l : List D5} {f : D5 → D5} (h : ED (O5 K) ta σ H (.tup l)) (hl : l.length ≤ 10000) (nl : ∀ x ∈ l, nol (f x) = true) (hw : ∀ u, wipe ((wipe σ [i]).set i (some u)) [i] = wipe σ [i])
    (hs : ∀ x u H2, x ∈ l → Same H H2 → Dv (O5 K) H2 x u → ED (O5 K) te ((wipe σ [i]).set i (some u)) H2 (f x)) : ED (O5 K) (tLc (iTup K ta) (gName i) tYes te [i]) σ H (.lst (l.map f)) := by
  have e := ed_lcD (K := K) (tt := tYes) (te := te) (f := fun x => some (f x)) h hl (fun x hx d e => by cases e; exact nl x hx) hw fun x u H2 N M hx s2 hxu q1 q2 => by
    show if true = true then te _ H2 N else M H2
    rw [if_pos rfl]
    exact (hs x u H2 hx s2 hxu).run fun v H4 s4 hv => q1 _ rfl v H4 s4 hv
  rwa [List.filterMap_eq_map'] at e
end Ed
namespace Kd
open PySem PySem.Spec PyProof.Rows L2 Dq Vl Pf Ed
abbrev sFrs : Stmt := tp 19
abbrev NFrs : List Str := ["value", "part", "key"]
theorem scFrs : FnScope NFrs ["value"] (defScope sFrs) := ⟨rfl, rfl, rfl, by decide +kernel, rfl, by decide +kernel, by decide +kernel⟩
/-- maps that may lie in a map of these keys -/
def below (ks : List Str) : List Str → Bool := fun z => !decide (z = ks.take z.length)
/-- data of so many layers, without lists and objects -/
def lay : Nat → D5 → Bool
  | 0, _ => false
  | n + 1, .tup l => l.all (lay n) && decide (l.length ≤ 1000)
  | n + 1, .map ks l => l.all (lay n) && (l.all (kpt (below ks)) && decide (ks.length ≤ 1000))
  | _ + 1, .lst _ => false
  | _ + 1, .ob _ => false
  | _ + 1, _ => true
/-- a map is a new one -/
def newM (H : Hp) (d : D5) (v : V) : Prop := ∀ ks l, d = .map ks l → ∃ D, v = .ref D ∧ H D = none
def spFrs (K : PySem.W.Frag) (n : Nat) : Sp := fun vs H Q _ => ∃ v d, vs = [v] ∧ Dv (O5 K) H d v ∧ lay n d = true ∧ ∀ v' H', Same H H' → Dv (O5 K) H' d v' → newM H d v' → Q v' H'
theorem lay_nol : ∀ (n : Nat) (d : D5), lay n d = true → nol d = true
  | n + 1, .non, _ => rfl
  | n + 1, .bl _, _ => rfl
  | n + 1, .int _, _ => rfl
  | n + 1, .str _, _ => rfl
  | n + 1, .ob _, h => nomatch h
  | n + 1, .lst _, h => nomatch h
  | n + 1, .tup l, h => by
    simp only [lay, Bool.and_eq_true] at h
    rw [nol]
    exact nolL_all fun x hx => lay_nol n x (List.all_eq_true.mp h.1 x hx)
  | n + 1, .map ks l, h => by
    simp only [lay, Bool.and_eq_true] at h
    rw [nol]
    exact nolL_all fun x hx => lay_nol n x (List.all_eq_true.mp h.1 x hx)
theorem kptL_all {Ks : List Str → Bool} : ∀ {l : List D5}, (∀ x ∈ l, kpt Ks x = true) → kptL Ks l = true
  | [], _ => by simp [kptL]
  | x :: l, h => by rw [kptL, h x List.mem_cons_self, kptL_all fun y hy => h y (List.mem_cons_of_mem _ hy)]; rfl
theorem ks_take {ks : List Str} : ∀ i, ∀ ks', below ks ks' = true → (ks.take i).map (Sum.inr : Str → Key) ≠ ks'.map Sum.inr := fun i ks' hk e => by
  have e1 : ks.take i = ks' := (List.map_inj_right (fun a b q => Sum.inr.inj q)).mp e
  unfold below at hk
  rw [Bool.not_eq_true', decide_eq_false_iff_not] at hk
  refine hk ?_
  rw [← e1, List.length_take]
  rcases Nat.le_total i ks.length with h | h
  · rw [Nat.min_eq_left h]
  · rw [Nat.min_eq_right h, List.take_of_length_le h, List.take_length]
theorem alien_dk {Ks : List Str → Bool} {kvs : List (Key × V)} (h : ∀ ks, Ks ks = true → kvs.map (·.1) ≠ ks.map Sum.inr) : Alien Ks (.dK kvs) := ⟨fun xs e => (nomatch e), fun ob xs e => (nomatch e), fun kvs' ks e hk => by cases e; exact h ks hk⟩
theorem alien_frz {Ks : List Str → Bool} {ob : Obj} {kvs : List (Key × V)} : Alien Ks (.frz ob (.dK kvs)) := ⟨fun xs e => (nomatch e), fun o xs e => (by cases e), fun kvs' ks e hk => (nomatch e)⟩
section
variable {P : Program} {w : World} {K : PySem.W.Frag} {mg : Str → Option Value} {base : Heap}
theorem ok_frs {f : Addr} {fd : FuncData} {n j : Nat} (F : Fun K "fresh" "fresh" sFrs f fd) (T : TxtV mg) (DF : Def P w K mg base j "fresh" f fd ["value"] (spFrs K n)) : FnOk P w K mg base CX0 (j + 1) f fd ["value"] (spFrs K (n + 1)) := by
  refine F.ok scFrs (fun vs H Q E h => ?_) (fun cdv A outer s H vs Q E hr h => ?_)
  · obtain ⟨v, d, rfl, _⟩ := h
    rfl
  · obtain ⟨v, d, rfl, hd, ok, q⟩ := h
    refine ⟨_, pss_cons (ps_if (pt_val (pe_callB (call_is6 (T := "tuple") (by simp)) (by rfl) T.isi (by decide +kernel) (pa_cons (pv 0) (pa_cons (pe_bltn (v := .ty "tuple") (by rfl) T.tuple (by decide +kernel) rfl) pa_nil))))
        (pss_one (ps_ret (pe_callTy call_tuple_of (by rfl) T.tuple (by decide +kernel) (pa_cons (pe_lc (own := [("part", 1)]) (g := gName 1) (tt := tYes) rfl scFrs.nd (pi_tup (pv 0)) (blkOk_by (N := NFrs) (sc := defScope sFrs) (by decide +kernel)) (fun _ _ _ _ _ => pg_name (i := 1) scFrs.nd rfl (Or.inl rfl)) (fun _ _ _ _ _ => pts_nil)
          (fun _ _ _ _ _ => pe_call DF.ok hr rfl DF.g DF.kp DF.b .nil pass0 (pa_cons (pv 1) pa_nil))) pa_nil)))) pss_nil)
      (pss_cons (ps_if (pt_val (pe_callB (call_is6 (T := "dict") (by simp)) (by rfl) T.isi (by decide +kernel) (pa_cons (pv 0) (pa_cons (pe_bltn (v := .ty "dict") (by rfl) T.dict (by decide +kernel) rfl) pa_nil))))
        (pss_one (ps_ret (pe_lock (pe_dc (own := [("key", 2)]) (g := gName 2) (tt := tYes) rfl scFrs.nd (pi_keys (pv 0)) (blkOk_by (N := NFrs) (sc := defScope sFrs) (by decide +kernel)) (fun _ _ _ _ _ => pg_name (i := 2) scFrs.nd rfl (Or.inl rfl)) (fun _ _ _ _ _ => pts_nil) (fun _ _ _ _ _ => pv 2)
          (fun _ _ _ _ _ => (pe_call DF.ok hr rfl DF.g DF.kp DF.b .nil pass0 (pa_cons (pe_dget (hu_of hr) (pv 0) (pv 2) (fun _ _ => rfl)) pa_nil))))))) pss_nil)
      (pss_one (ps_ret (pv 0)))), ?_⟩
    have P := kps5 (K := K)
    have h0 : ∀ {σ : L2.St} {H' : Hp}, σ[0]? = some (some v) → Same H H' → ED (O5 K) (tVar 0) σ H' d := fun e s => ed_pv P e (P.dv s hd)
    refine ET.ite (et_b (eb_is6 (h0 rfl (Same.refl H)))) (fun et H1 s1 => ?_) fun et H1 s1 => ?_
    · obtain ⟨l, rfl⟩ : ∃ l, d = .tup l := by
        cases d with
        | tup l => exact ⟨l, rfl⟩
        | bl b => simp [isT6] at et
        | _ => cases et
      simp only [lay, Bool.and_eq_true, decide_eq_true_eq] at ok
      have oks := List.all_eq_true.mp ok.1
      have e1 := ed_tupL P (ed_lcT (K := K) (te := tCall (spFrs K n) [] E0 (tCons (tVar 1) tNil)) (i := 1) (f := fun x => x) (h0 (σ := [some v, none, none]) rfl s1) (by omega) (fun x hx => lay_nol n x (oks x hx)) (fun u => rfl) fun x u H2 hx s2 hxu H3 s3 Q3 q3 => ⟨_, rfl, u, x, rfl, P.dv s3 hxu, oks x hx, fun v' H' s' hd' _ => q3 v' H' s' hd'⟩)
      rw [List.map_id'] at e1
      exact ED.ret e1 fun v' H' s' hd' => q v' H' (Same.trans s1 s') hd' fun ks l e => nomatch e
    · refine ET.ite (et_b (eb_is6 (h0 rfl s1))) (fun et2 H2 s2 => ?_) fun et2 H2 s2 => ?_
      · obtain ⟨ks, l, rfl⟩ : ∃ ks l, d = .map ks l := by
          cases d with
          | map ks l => exact ⟨ks, l, rfl⟩
          | bl b => simp [isT6] at et2
          | _ => cases et2
        simp only [lay, Bool.and_eq_true, decide_eq_true_eq] at ok
        obtain ⟨ok1, ok2, ok4⟩ := ok
        have oks := List.all_eq_true.mp ok1
        have okk := List.all_eq_true.mp ok2
        obtain ⟨a, kvs, rfl, ha, nd, hk, hl⟩ := P.dv (Same.trans s1 s2) hd
        have s02 := Same.trans s1 s2
        have lk : kvs.length = ks.length := by have := congrArg List.length hk; rwa [List.length_map, List.length_map] at this
        have ndk : (kvs.map (·.1)).Nodup := by rw [hk]; exact List.pairwise_map.mpr (List.Pairwise.imp (fun n e => n (Sum.inr.inj e)) nd)
        have al0 : ∀ b ∈ [a], ∀ o, H2 b = some o → Alien (below ks) o := fun b hb o e => by
          rw [List.mem_singleton.mp hb, ha] at e
          cases e
          exact alien_dk fun ks' hk' => by
            rw [hk]
            have := ks_take ks.length ks' hk'
            rwa [List.take_length] at this
        refine ⟨a, .dK kvs, ha, True.intro, fun od => ⟨_, rfl, a, od, rfl, .inl ⟨kvs, upd_same, fun D hD => ?_⟩⟩⟩
        have nDa : D ≠ a := fun e => by rw [e, upd_same] at hD; cases hD
        have hD0 : H2 D = none := by rwa [upd_ne nDa] at hD
        refine Sd.dc_it (walk_keys (d := a) (o := od) (kvs := kvs)) (fun i H' => (H' a = some (.frz od (.dK kvs)) ∧ Ch [a] H2 H') ∧ ∃ kv', H' D = some (.dK kv') ∧ kv'.map (·.1) = (ks.take i).map Sum.inr ∧ DvL (O5 K) H' (l.take i) (kv'.map (·.2)))
          ⟨⟨(upd_ne (Ne.symm nDa)).trans upd_same, Ch.updNew (Ch.upd (by simp)) hD0⟩, [], upd_same, rfl, rfl⟩ (fun i H' _ h => h.1.1) (fun i x H3 H4 hlt h y => ?_) (fun H3 h => ?_)
        · obtain ⟨⟨e1, e2⟩, kv', e3, e4, e5⟩ := h
          obtain ⟨rfl, k, v1, e6, rfl⟩ := y
          have hlk : i < ks.length := by omega
          obtain ⟨z, ez⟩ : ∃ z, ks[i]? = some z := ⟨ks[i], List.getElem?_eq_getElem hlk⟩
          have ek : k = Sum.inr z := by
            have := congrArg (fun m => m[i]?) hk
            simp only [List.getElem?_map, e6, ez, Option.map_some, Option.some.injEq] at this
            exact this
          subst ek
          obtain ⟨x, ex, hx⟩ := rowAt hl (i := i) (u := v1) (by rw [List.getElem?_map, e6]; rfl)
          have mx := List.mem_of_getElem? ex
          have hx3 := Dv.ch e2 al0 x v1 (okk x mx) hx
          refine ⟨rfl, _, rfl, _, rfl, _, rfl, a, v1, rfl, .inl ⟨kvs, Sum.inr z, .inr ⟨od, e1⟩, rfl, (find_at ndk e6).symm⟩, v1, x, rfl, hx3, oks x mx, fun v' H5 s5 hv' _ => ⟨kv', Sum.inr z, rfl, s5 _ _ e3, ?_, ⟨(upd_ne (Ne.symm nDa)).trans (s5 _ _ e1), Ch.updNew (Ch.trans e2 (Ch.same s5)) hD0⟩, ?_⟩⟩
          · have : kv'.length ≤ 1000 := by
              have := congrArg List.length e4
              rw [List.length_map, List.length_map, List.length_take] at this
              omega
            exact Nat.lt_of_le_of_lt this (by decide)
          · have nz : valV kv' (Sum.inr z : Key) = none := by
              unfold valV
              rw [Option.map_eq_none_iff, List.find?_eq_none]
              intro p hp
              simp only [decide_eq_true_eq]
              intro q2
              have m1 : (Sum.inr z : Key) ∈ (ks.take i).map Sum.inr := by rw [← e4, ← q2]; exact List.mem_map_of_mem (f := (·.1)) hp
              obtain ⟨y, hy, e7⟩ := List.mem_map.mp m1
              cases e7
              have hd2 : z ∈ ks.drop i := by rw [List.drop_eq_getElem_cons hlk]; rw [List.getElem?_eq_getElem hlk] at ez; cases ez; exact List.mem_cons_self
              have nn := nd
              rw [← List.take_append_drop i ks] at nn
              exact (List.nodup_append.mp nn).2.2 z hy z hd2 rfl
            rw [putK_new v' nz]
            have al : ∀ b ∈ [D], ∀ o, H5 b = some o → Alien (below ks) o := fun b hb o e => by
              rw [List.mem_singleton.mp hb, s5 _ _ e3] at e
              cases e
              exact alien_dk fun ks' hk' => by rw [e4]; exact ks_take i ks' hk'
            have cD : Ch [D] H5 (upd H5 D (.dK (kv' ++ [(Sum.inr z, v')]))) := Ch.upd (by simp)
            refine ⟨_, upd_same, ?_, ?_⟩
            · rw [List.map_append, e4, List.take_succ, ez, List.map_append]
              rfl
            · rw [List.map_append, List.take_succ, ex]
              exact DvL.snoc (Dv.ch cD al _ _ (okk x mx) hv') (DvL.ch cD al _ _ (kptL_all fun y hy => okk y (List.mem_of_mem_take hy)) (P.dvl s5 e5))
        · obtain ⟨⟨e1, e2⟩, kv', e3, e4, e5⟩ := h
          have ll : l.length = kvs.length := by have := hl.len; rw [List.length_map] at this; omega
          rw [lk, List.take_length] at e4
          rw [← ll, List.take_length] at e5
          refine ⟨e1, q (.ref D) _ (Same.trans s02 fun c o e => ?_) ⟨D, kv', rfl, (upd_ne nDa).trans e3, nd, e4, ?_⟩ fun ks' l' _ => ⟨D, rfl, ?_⟩⟩
          · by_cases n : c = a
            · subst n
              rw [ha] at e
              cases e
              exact upd_same
            · exact (upd_ne n).trans (e2 c o e (by simpa using n))
          · exact DvL.ch (Ks := below ks) (Ch.upd (S := [a]) (by simp)) (fun b hb o e => by
              rw [List.mem_singleton.mp hb, e1] at e
              cases e
              exact alien_frz) _ _ (kptL_all okk) e5
          · cases e : H D with
            | none => rfl
            | some o => rw [s02 _ _ e] at hD0; cases hD0
      · exact ED.ret (h0 rfl (Same.trans s1 s2)) fun v' H' s' hd' => q v' H' (Same.trans s1 (Same.trans s2 s')) hd' fun ks l e => by subst e; cases et2
theorem ok_fresh {f : Addr} {fd : FuncData} (F : Fun K "fresh" "fresh" sFrs f fd) (T : TxtV mg) (g : mg "fresh" = some (.ref f)) (b : Binds K fd ["value"] []) : ∀ n, FnOk P w K mg base CX0 (n + 1) f fd ["value"] (spFrs K n)
  | 0 => F.ok (k := 0) scFrs (fun vs H Q E ⟨_, _, _, _, h, _⟩ => nomatch h) (fun cdv A outer s H vs Q E hr ⟨_, _, _, _, h, _⟩ => nomatch h)
  | n + 1 => ok_frs F T ⟨ok_fresh F T g b n, g, F.kp, b⟩
end
end Kd

set_option Elab.async false
set_option linter.all false
set_option maxRecDepth 100000
set_option maxHeartbeats 4000000
namespace Kd
open PySem PySem.Spec PyProof.Rows L2
theorem ltCps_as : ∀ a b : List Nat, ltCps a b = false → ltCps b a = false → a = b
  | [], [], _, _ => rfl
  | [], _ :: _, h, _ => by simp [ltCps] at h
  | _ :: _, [], _, h => by simp [ltCps] at h
  | x :: r, y :: t, h1, h2 => by
    simp only [ltCps, Bool.or_eq_false_iff, Bool.and_eq_false_iff, decide_eq_false_iff_not, beq_eq_false_iff_ne] at h1 h2
    have e : x = y := by omega
    subst e
    have a1 : ltCps r t = false := h1.2.resolve_left fun z => z rfl
    have a2 : ltCps t r = false := h2.2.resolve_left fun z => z rfl
    rw [ltCps_as r t a1 a2]
theorem ltCps_tr : ∀ a b c : List Nat, ltCps b a = false → ltCps c b = false → ltCps c a = false
  | _, _, [], _, h => by
    rename_i a b _
    cases a with
    | nil => rfl
    | cons x r =>
      cases b with
      | nil => (rename_i h1; simp [ltCps] at h1)
      | cons y t => simp [ltCps] at h
  | [], _, _ :: _, _, _ => rfl
  | _ :: _, [], _ :: _, h, _ => by simp [ltCps] at h
  | x :: r, y :: t, z :: u, h1, h2 => by
    simp only [ltCps, Bool.or_eq_false_iff, Bool.and_eq_false_iff, decide_eq_false_iff_not, beq_eq_false_iff_ne] at h1 h2 ⊢
    refine ⟨by omega, ?_⟩
    by_cases e : z = x
    · right
      have e1 : y = x := by omega
      have e2 : z = y := by omega
      exact ltCps_tr r t u (h1.2.resolve_left fun w => w e1) (h2.2.resolve_left fun w => w e2)
    · exact .inl e
def leS (a b : Str) : Prop := ltCps b.cps.toList a.cps.toList = false
theorem Str.ext' {a b : Str} (h : a.cps.toList = b.cps.toList) : a = b := by
  cases a; cases b
  simp at h
  rw [h]
theorem rising_all : ∀ (l : List Str) (p : Str), risingS p l = true → (p :: l).Pairwise leS
  | [], _, _ => List.pairwise_singleton _ _
  | x :: r, p, h => by
    have h' : (!ltCps x.cps.toList p.cps.toList && risingS x r) = true := h
    rw [Bool.and_eq_true, Bool.not_eq_true'] at h'
    have ih := rising_all r x h'.2
    refine List.pairwise_cons.mpr ⟨fun y hy => ?_, ih⟩
    rcases List.mem_cons.mp hy with rfl | hy
    · exact h'.1
    · exact ltCps_tr _ _ _ h'.1 ((List.pairwise_cons.mp ih).1 y hy)
theorem sorted_all : ∀ {l : List Str}, sortedS l = true → l.Pairwise leS
  | [], _ => List.Pairwise.nil
  | x :: r, h => rising_all r x h
/-- two sorted lists are the same just if they have the same items -/
theorem sorted_eq {ys zs ks ls : List Str} (h1 : ys.Perm ks) (s1 : sortedS ys = true) (h2 : zs.Perm ls) (s2 : sortedS zs = true) : ys = zs ↔ ks.Perm ls := by
  constructor
  · rintro rfl
    exact h1.symm.trans h2
  · intro p
    exact List.Perm.eq_of_pairwise (le := leS) (fun a b _ _ x y => Str.ext' (ltCps_as _ _ y x)) (sorted_all s1) (sorted_all s2) (h1.trans (p.trans h2.symm))
theorem sorted_eq2 {ys zs ks : List Str} (h1 : ys.Perm ks) (s1 : sortedS ys = true) (h2 : zs.Perm ks) (s2 : sortedS zs = true) : ys = zs := (sorted_eq h1 s1 h2 s2).mpr (List.Perm.refl ks)
end Kd

set_option Elab.async false
set_option linter.all false
set_option maxRecDepth 100000
set_option maxHeartbeats 4000000
/-! _law_key -/
namespace Ed
open PySem PySem.Spec PyProof.Rows L2 Dq Vl Kd
variable {K : PySem.W.Frag} {σ : L2.St} {H : Hp} {te ta tb : TE}
/-- a comprehension over a list of known values, without tests -/
theorem ed_lcV {i : Nat} {vs : List V} {f : Nat → D5} (h : EP ta σ H fun v H => ∃ p, v = .ref p ∧ H p = some (.lst vs)) (hl : vs.length ≤ 10000) (nl : ∀ j, j < vs.length → nol (f j) = true) (hw : ∀ u, wipe ((wipe σ [i]).set i (some u)) [i] = wipe σ [i])
    (hs : ∀ j u H2, vs[j]? = some u → Same H H2 → ED (O5 K) te ((wipe σ [i]).set i (some u)) H2 (f j)) : ED (O5 K) (tLc (iList K ta) (gName i) tYes te [i]) σ H (.lst ((List.range vs.length).map f)) := fun H1 s Q k =>
  h H1 s _ fun v H2 s2 ⟨p, ev, hp⟩ => by
    subst ev
    refine ⟨p, rfl, ⟨_, SqL.of hp⟩, fun D nD => ?_⟩
    refine lc_dat (K := K) (walk_list (xs := vs)) nD (fun j => some (f j)) hl (fun j d hj ed => by cases ed; exact nl j hj) (fun H3 s3 => SqL.of (s3 _ _ hp)) (fun j x H3 H3' N M hj s3 hy q1 q2 => ?_) (fun H3 us' s3 e3 d3 => ?_)
    · obtain ⟨rfl, ex⟩ := hy
      refine ⟨hw x, ?_⟩
      exact (hs j x _ ex (Same.trans s (Same.trans s2 s3))) _ (Same.refl _) _ fun v H4 s4 hv => q1 _ rfl v H4 s4 hv
    · rw [List.filterMap_eq_map'] at d3
      exact k _ _ (Same.trans s2 s3) ⟨D, us', rfl, e3, d3⟩
end Ed
namespace Kd
open PySem PySem.Spec PyProof.Rows L2 Dq Vl Pf Ed
abbrev sKey : Stmt := tp 43
abbrev NKey : List Str := ["_law_value", "_law_name", "_law_part"]
theorem scKey : FnScope NKey ["_law_value"] (defScope sKey) := ⟨rfl, rfl, rfl, by decide +kernel, rfl, by decide +kernel, by decide +kernel⟩
mutual
/-- a value's key, by which values are held against each other -/
def keyD : D5 → D5
  | .map ks l => .tup (.str "map" :: keyM ks l)
  | .tup l => .tup (.str "tuple" :: keyL l)
  | .bl b => .tup [.str "bool", .bl b]
  | .int i => .tup [.str "integer", .int i]
  | .non => .tup [.str "other", .non]
  | .str s => .tup [.str "other", .str s]
  | .ob o => .tup [.str "other", .ob o]
  | .lst l => .tup [.str "other", .lst l]
def keyL : List D5 → List D5
  | [] => []
  | x :: l => keyD x :: keyL l
def keyM (ks : List Str) : List D5 → List D5
  | [] => []
  | x :: l => .tup [.str (ks.headD Str.empty), keyD x] :: keyM ks.tail l
end
theorem keyL_map : ∀ l : List D5, keyL l = l.map keyD
  | [] => rfl
  | x :: l => by rw [keyL, keyL_map l]; rfl
theorem keyM_get : ∀ (ks : List Str) (l : List D5), ks.length = l.length → keyM ks l = (List.range ks.length).map fun i => .tup [.str (ks.getD i Str.empty), keyD (l.getD i .non)]
  | [], [], _ => rfl
  | k :: ks, x :: l, h => by
    rw [keyM, List.tail_cons, keyM_get ks l (by simpa using h), List.length_cons, List.range_succ_eq_map, List.map_cons, List.map_map]
    rfl
/-- values that have a key: so many layers, maps with sorted keys -/
def lyk : Nat → D5 → Bool
  | 0, _ => false
  | n + 1, .tup l => l.all (lyk n) && (nolL l && decide (l.length ≤ 1000))
  | n + 1, .map ks l => l.all (lyk n) && (nolL l && (sortedS ks && decide (ks.length < 64)))
  | _ + 1, _ => true
mutual
theorem key_nol : ∀ d : D5, nol d = true → nol (keyD d) = true
  | .non, _ => rfl
  | .bl _, _ => rfl
  | .int _, _ => rfl
  | .str _, _ => rfl
  | .ob _, _ => rfl
  | .lst _, h => by cases h
  | .tup l, h => by rw [nol] at h; rw [keyD, nol, nolL, keyL_nol l h]; rfl
  | .map ks l, h => by rw [nol] at h; rw [keyD, nol, nolL, keyM_nol ks l h]; rfl
theorem keyL_nol : ∀ l : List D5, nolL l = true → nolL (keyL l) = true
  | [], _ => by simp [keyL, nolL]
  | x :: l, h => by
    rw [nolL, Bool.and_eq_true] at h
    rw [keyL, nolL, key_nol x h.1, keyL_nol l h.2]
    rfl
theorem keyM_nol (ks : List Str) : ∀ l : List D5, nolL l = true → nolL (keyM ks l) = true
  | [], _ => by simp [keyM, nolL]
  | x :: l, h => by
    rw [nolL, Bool.and_eq_true] at h
    rw [keyM, nolL, nol, nolL, nolL, nolL, key_nol x h.1, keyM_nol ks.tail l h.2]
    rfl
end
theorem nolL_mem : ∀ {l : List D5}, nolL l = true → ∀ x ∈ l, nol x = true
  | y :: l, h, x, hx => by
    rw [nolL, Bool.and_eq_true] at h
    rcases List.mem_cons.mp hx with rfl | hx
    · exact h.1
    · exact nolL_mem h.2 x hx
def spKey (K : PySem.W.Frag) (n : Nat) : Sp := fun vs H Q _ => ∃ v d, vs = [v] ∧ Dv (O5 K) H d v ∧ lyk n d = true ∧ ∀ v' H', Same H H' → Dv (O5 K) H' (keyD d) v' → Q v' H'
section
variable {P : Program} {w : World} {K : PySem.W.Frag} {mg : Str → Option Value} {base : Heap}
theorem ok_key1 {f : Addr} {fd : FuncData} {n j : Nat} (F : Fun K "_law_key" "_law_key" sKey f fd) (T : TxtV mg) (DF : Def P w K mg base j "_law_key" f fd ["_law_value"] (spKey K n)) : FnOk P w K mg base CX0 (j + 1) f fd ["_law_value"] (spKey K (n + 1)) := by
  refine F.ok scKey (fun vs H Q E h => ?_) (fun cdv A outer s H vs Q E hr h => ?_)
  · obtain ⟨v, d, rfl, _⟩ := h
    rfl
  · obtain ⟨v, d, rfl, hd, ok, q⟩ := h
    refine ⟨_, pss_cons (ps_if (pt_val (pe_callB (call_is6 (T := "dict") (by simp)) (by rfl) T.isi (by decide +kernel) (pa_cons (pv 0) (pa_cons (pe_bltn (v := .ty "dict") (by rfl) T.dict (by decide +kernel) rfl) pa_nil))))
        (pss_one (ps_ret (pe_op op_catT (pe_tup (pa_cons pe_str pa_nil)) (pe_callTy call_tuple_of (by rfl) T.tuple (by decide +kernel) (pa_cons (pe_lc (own := [("_law_name", 1)]) (g := gName 1) (tt := tYes) rfl scKey.nd (pi_list (pe_callB (call_sortedD rfl) (by rfl) T.sorted (by decide +kernel) (pa_cons (pv 0) pa_nil))) (blkOk_by (N := NKey) (sc := defScope sKey) (by decide +kernel)) (fun _ _ _ _ _ => pg_name (i := 1) scKey.nd rfl (Or.inl rfl)) (fun _ _ _ _ _ => pts_nil)
          (fun _ _ _ _ _ => pe_tup (pa_cons (pv 1) (pa_cons (pe_call DF.ok hr rfl DF.g DF.kp DF.b .nil pass0 (pa_cons (pe_dget (hu_of hr) (pv 0) (pv 1) (fun _ _ => rfl)) pa_nil)) pa_nil)))) pa_nil))))) pss_nil)
      (pss_cons (ps_if (pt_val (pe_callB (call_is6 (T := "tuple") (by simp)) (by rfl) T.isi (by decide +kernel) (pa_cons (pv 0) (pa_cons (pe_bltn (v := .ty "tuple") (by rfl) T.tuple (by decide +kernel) rfl) pa_nil))))
        (pss_one (ps_ret (pe_op op_catT (pe_tup (pa_cons pe_str pa_nil)) (pe_callTy call_tuple_of (by rfl) T.tuple (by decide +kernel) (pa_cons (pe_lc (own := [("_law_part", 2)]) (g := gName 2) (tt := tYes) rfl scKey.nd (pi_tup (pv 0)) (blkOk_by (N := NKey) (sc := defScope sKey) (by decide +kernel)) (fun _ _ _ _ _ => pg_name (i := 2) scKey.nd rfl (Or.inl rfl)) (fun _ _ _ _ _ => pts_nil)
          (fun _ _ _ _ _ => pe_call DF.ok hr rfl DF.g DF.kp DF.b .nil pass0 (pa_cons (pv 2) pa_nil))) pa_nil))))) pss_nil)
      (pss_one (ps_ret (pe_tup (pa_cons (pe_ifExp (pt_val (pe_callB (call_is6 (T := "bool") (by simp)) (by rfl) T.isi (by decide +kernel) (pa_cons (pv 0) (pa_cons (pe_bltn (v := .ty "bool") (by rfl) T.bool (by decide +kernel) rfl) pa_nil)))) pe_str
        (pe_ifExp (pt_val (pe_callB (call_is6 (T := "int") (by simp)) (by rfl) T.isi (by decide +kernel) (pa_cons (pv 0) (pa_cons (pe_bltn (v := .ty "int") (by rfl) T.int (by decide +kernel) rfl) pa_nil)))) pe_str pe_str)) (pa_cons (pv 0) pa_nil)))))), ?_⟩
    have P := kps5 (K := K)
    have h0 : ∀ {σ : L2.St} {H' : Hp}, σ[0]? = some (some v) → Same H H' → ED (O5 K) (tVar 0) σ H' d := fun e s => ed_pv P e (P.dv s hd)
    refine ET.ite (et_b (eb_is6 (h0 rfl (Same.refl H)))) (fun et H1 s1 => ?_) fun et H1 s1 => ?_
    · obtain ⟨ks, l, rfl⟩ : ∃ ks l, d = .map ks l := by
        cases d with
        | map ks l => exact ⟨ks, l, rfl⟩
        | bl b => simp [isT6] at et
        | _ => cases et
      simp only [lyk, Bool.and_eq_true, decide_eq_true_eq] at ok
      obtain ⟨ok1, ok2, ok3, ok4⟩ := ok
      obtain ⟨a, kvs, rfl, ha, nd, hk, hl⟩ := P.dv s1 hd
      have lk : kvs.length = ks.length := by have := congrArg List.length hk; rwa [List.length_map, List.length_map] at this
      have ll : ks.length = l.length := by have := hl.len; rw [List.length_map] at this; omega
      have ndk : (kvs.map (·.1)).Nodup := by rw [hk]; exact List.pairwise_map.mpr (List.Pairwise.imp (fun n e => n (Sum.inr.inj e)) nd)
      have es : EP _ [some (V.ref a), none, none] H1 (fun v H => ∃ p, v = .ref p ∧ H p = some (.lst (ks.map V.str))) := show EP (tCB (fun xs H Q => ∃ (a : Addr) (kvs : List (Key × V)) (ks : List Str), xs = [.ref a] ∧ Rd H a (.dK kvs) ∧ kvs.map (·.1) = ks.map Sum.inr ∧ ks.length < 64 ∧ ∀ ys p, ys.Perm ks → sortedS ys = true → H p = none → Q (.ref p) (upd H p (.lst (ys.map V.str)))) (tCons (tVar 0) tNil)) _ _ _ from fun H2 s2 Q2 q2 =>
        ⟨_, rfl, a, kvs, ks, rfl, .inl (s2 _ _ ha), hk, ok4, fun ys p hp hs np => by
          have e : ys = ks := sorted_eq2 hp hs (List.Perm.refl ks) ok3
          subst e
          exact q2 _ _ (sm_upd np) ⟨p, rfl, upd_same⟩⟩
      have em := ed_lcV (K := K) (te := tTup (tCons (tVar 1) (tCons (tCall (spKey K n) [] E0 (tCons (tDGet (tVar 0) (tVar 1)) tNil)) tNil))) (i := 1) (vs := ks.map V.str) (f := fun i => .tup [.str (ks.getD i Str.empty), keyD (l.getD i .non)]) es (by rw [List.length_map]; omega)
        (fun j hj => by
          rw [List.length_map] at hj
          rw [nol, nolL, nolL, nolL, key_nol _ (nolL_mem ok2 _ (by rw [List.getD_eq_getElem?_getD, List.getElem?_eq_getElem (by omega)]; exact List.getElem_mem _))]
          rfl) (fun u => rfl) fun j u H2 eu s2 => by
          obtain ⟨z, ez⟩ : ∃ z, ks[j]? = some z := by
            rw [List.getElem?_map] at eu
            cases q : ks[j]? with
            | none => rw [q] at eu; cases eu
            | some z => exact ⟨z, rfl⟩
          rw [List.getElem?_map, ez] at eu
          cases eu
          have hj : j < kvs.length := by
            rcases Nat.lt_or_ge j ks.length with q | q
            · omega
            · rw [List.getElem?_eq_none q] at ez; cases ez
          obtain ⟨k, v1, ek⟩ : ∃ k v1, kvs[j]? = some (k, v1) := ⟨kvs[j].1, kvs[j].2, List.getElem?_eq_getElem hj⟩
          have ekz : k = Sum.inr z := by
            have := congrArg (fun m => m[j]?) hk
            simp only [List.getElem?_map, ek, ez, Option.map_some, Option.some.injEq] at this
            exact this
          subst ekz
          obtain ⟨x, ex, hx⟩ := rowAt hl (i := j) (u := v1) (by rw [List.getElem?_map, ek]; rfl)
          have mx := List.mem_of_getElem? ex
          rw [show ks.getD j Str.empty = z by rw [List.getD_eq_getElem?_getD, ez]; rfl, show l.getD j .non = x by rw [List.getD_eq_getElem?_getD, ex]; rfl]
          exact ed_tup P (ea_cons P (ed_pv (i := 1) P rfl rfl) (ea_cons P (fun H3 s3 Q3 q3 => ⟨_, rfl, _, rfl, a, v1, rfl, (find_at ndk ek) ▸ DGet.k (k := Sum.inr z) (s3 _ _ (s2 _ _ ha)), v1, x, rfl, P.dv s3 (P.dv s2 hx), List.all_eq_true.mp ok1 x mx, fun v' H' s' hd' => q3 v' H' s' hd'⟩) ea_nil)) (by simp)
      rw [List.length_map, ← keyM_get ks l ll] at em
      have lm : (keyM ks l).length = ks.length := by rw [keyM_get ks l ll, List.length_map, List.length_range]
      exact ED.ret (ed_catT P (ed_tup P (ea_cons P ed_str ea_nil) (by simp)) (ed_tupL P em) (by simp) (by rw [lm]; simp; omega)) fun v' H' s' hd' => q v' H' (Same.trans s1 s') hd'
    · refine ET.ite (et_b (eb_is6 (h0 rfl s1))) (fun et2 H2 s2 => ?_) fun et2 H2 s2 => ?_
      · obtain ⟨l, rfl⟩ : ∃ l, d = .tup l := by
          cases d with
          | tup l => exact ⟨l, rfl⟩
          | bl b => simp [isT6] at et2
          | _ => cases et2
        simp only [lyk, Bool.and_eq_true, decide_eq_true_eq] at ok
        obtain ⟨ok1, ok2, ok3⟩ := ok
        have e1 := ed_tupL P (ed_lcT (K := K) (te := tCall (spKey K n) [] E0 (tCons (tVar 2) tNil)) (i := 2) (f := keyD) (h0 (σ := [some v, none, none]) rfl (Same.trans s1 s2)) (by omega) (fun x hx => key_nol x (nolL_mem ok2 x hx)) (fun u => rfl) fun x u H2 hx s2 hxu H3 s3 Q3 q3 => ⟨_, rfl, u, x, rfl, P.dv s3 hxu, List.all_eq_true.mp ok1 x hx, fun v' H' s' hd' => q3 v' H' s' hd'⟩)
        rw [← keyL_map] at e1
        exact ED.ret (ed_catT P (ed_tup P (ea_cons P ed_str ea_nil) (by simp)) e1 (by simp) (by rw [keyL_map]; simp; omega)) fun v' H' s' hd' => q v' H' (Same.trans s1 (Same.trans s2 s')) hd'
      · have s12 := Same.trans s1 s2
        have en : ∀ {w1 : Str}, ED (O5 K) (tIf (tB (tCB (fun xs H Q => ∃ v x, xs = [v, .ty "bool"] ∧ Dv (O5 K) H x v ∧ Q (.bl (isT6 "bool" x)) H) (tCons (tVar 0) (tCons (tC (.ty "bool")) tNil)))) (tC (.str "bool")) (tIf (tB (tCB (fun xs H Q => ∃ v x, xs = [v, .ty "int"] ∧ Dv (O5 K) H x v ∧ Q (.bl (isT6 "int" x)) H) (tCons (tVar 0) (tCons (tC (.ty "int")) tNil)))) (tC (.str "integer")) (tC (.str "other")))) [some v, none, none] H2 (if isT6 "bool" d = true then .str "bool" else if isT6 "int" d = true then .str "integer" else .str "other") := fun {w1} =>
          ed_ifD (et_b (eb_is6 (h0 rfl s12))) ed_str (ed_ifD (et_b (eb_is6 (h0 rfl s12))) ed_str ed_str)
        refine ED.ret (ed_tup P (ea_cons P (en (w1 := Str.empty)) (ea_cons P (h0 rfl s12) ea_nil)) (by simp)) fun v' H' s' hd' => q v' H' (Same.trans s12 s') ?_
        cases d with
        | map ks l => cases et
        | tup l => cases et2
        | _ => exact hd'
theorem ok_key {f : Addr} {fd : FuncData} (F : Fun K "_law_key" "_law_key" sKey f fd) (T : TxtV mg) (g : mg "_law_key" = some (.ref f)) (b : Binds K fd ["_law_value"] []) : ∀ n, FnOk P w K mg base CX0 (n + 1) f fd ["_law_value"] (spKey K n)
  | 0 => F.ok (k := 0) scKey (fun vs H Q E ⟨_, _, _, _, h, _⟩ => nomatch h) (fun cdv A outer s H vs Q E hr ⟨_, _, _, _, h, _⟩ => nomatch h)
  | n + 1 => ok_key1 F T ⟨ok_key F T g b n, g, F.kp, b⟩
end
end Kd

set_option Elab.async false
set_option linter.all false
set_option maxRecDepth 100000
set_option maxHeartbeats 4000000
/-! == of tuples that ends at the first unlike pair -/
namespace Tq
open PySem PySem.SeqAt
open AutoSeq1 (wpAny_loadPart')
open MeetsSeq MeetsSeq2 MeetsSeq3 SeqRoads2
/-- what == of two tuples tells, by what their pairs tell -/
def tell (e : Nat → Bool) (a b : Array Value) : Bool := (List.range (min a.size b.size)).all e && a.size == b.size
/-- the pairs are known as far as they are asked -/
def Asked (A : Around) (s : Shared) (a b : Array Value) (e : Nat → Bool) : Prop := ∀ j (h1 : j < a.size) (h2 : j < b.size), (∀ i, i < j → e i = true) → EqAt A s a[j] b[j] (e j)
theorem tup_eq (x y : Addr) (a b : Array Value) (na nb : Nat) (da db : Option Addr) (sa sb : Array (Option Value)) (e : Nat → Bool) :
    Meets (Builtin.«tuple.__eq__» ⟨[.ref x, .ref y], []⟩) (fun A R s => s.heap.get? x = some ⟨.type "tuple", da, .seq a na, sa⟩ ∧ s.heap.get? y = some ⟨.type "tuple", db, .seq b nb, sb⟩ ∧ Asked A.in1 s a b e ∧ R (.ok (.ret (.bool (tell e a b)))) s) :=
  .of_wp fun prog w A R s hyp => by
    obtain ⟨hp, g, d, tk, os⟩ := s
    obtain ⟨hx, hy, ask, fin⟩ := hyp
    have su := AutoSeq1.sub_tuple_tuple
    have zl : (a.toList.zip b.toList).length = min a.size b.size := by simp
    wp_walk using wpAny_loadPart' hx, wpAny_loadPart' hy, wpAny_forIn_list _ (fun rest st s' => st.1 = none ∧ s' = ⟨hp, g, d, tk, os⟩ ∧ ∃ i, rest = (a.toList.zip b.toList).drop i ∧ (∀ k, k < i → e k = true) ∧
      R (.ok (.ret (.bool (((List.range (min a.size b.size)).drop i).all e && a.size == b.size)))) ⟨hp, g, d, tk, os⟩) _
    case turn =>
      rintro ⟨u, v⟩ rest st s' ⟨_, rfl, i, er, bef, goal⟩
      have li : i < (a.toList.zip b.toList).length := Nat.lt_of_not_le fun ge => by
        rw [List.drop_of_length_le ge] at er
        cases er
      have lm : i < min a.size b.size := zl ▸ li
      have la : i < a.size := Nat.lt_of_lt_of_le lm (Nat.min_le_left _ _)
      have lb : i < b.size := Nat.lt_of_lt_of_le lm (Nat.min_le_right _ _)
      rw [List.drop_eq_getElem_cons li] at er
      injection er with euv etl
      obtain rfl : u = a[i] := by simpa using congrArg Prod.fst euv
      obtain rfl : v = b[i] := by simpa using congrArg Prod.snd euv
      rw [show (List.range (min a.size b.size)).drop i = i :: (List.range (min a.size b.size)).drop (i + 1) by simp [List.drop_eq_getElem_cons, lm], List.all_cons] at goal
      refine wpAny_bind (ask i la lb bef prog w _ _ ?_)
      cases ei : e i with
      | false =>
        rw [ei] at goal
        wp_walk
        exact ⟨_, rfl, by simpa using goal⟩
      | true =>
        rw [ei] at goal
        wp_walk
        refine ⟨rfl, rfl, i + 1, etl, fun k hk => ?_, by simpa using goal⟩
        rcases Nat.lt_succ_iff_lt_or_eq.mp hk with q | rfl
        · exact bef k q
        · exact ei
    case fin =>
      rintro ⟨r, u⟩ s' ⟨er, rfl, i, ed, _, goal⟩
      simp only at er
      subst er
      have ge : min a.size b.size ≤ i := Nat.le_of_not_lt fun lt => by
        rw [List.drop_eq_getElem_cons (by rw [zl]; exact lt)] at ed
        cases ed
      rw [List.drop_of_length_le (by simpa using ge)] at goal
      wp_walk
      exact ⟨_, rfl, by simpa [Builtin.Tuple.tupleCompareSizes] using goal⟩
    case h =>
      exact ⟨rfl, rfl, 0, rfl, fun k hk => absurd hk (Nat.not_lt_zero _), by simpa [tell] using fin⟩
section
variable {A : Around} {s : Shared} {x y : Addr} {a b : Array Value} {e : Nat → Bool}
theorem rc_tuples (hx : s.heap.IsTuple x a) (hy : s.heap.IsTuple y b) (hu : A.units < cLine) (ask : Asked A.in1 s a b e) : RcAt A s (.ref x) (.ref y) (tell e a b) := fun prog w E Q h => by
  obtain ⟨⟨c1, d1, dt1, s1⟩, o1, e1, n1, f1⟩ := id hx
  obtain ⟨⟨c2, d2, dt2, s2⟩, o2, e2, n2, f2⟩ := id hy
  simp only at e1 f1 e2 f2
  subst e1 f1 e2 f2
  refine richCompare_meets_room (op := .Eq) ⟨_, o1, rfl⟩ ⟨_, o2, rfl⟩ F.slot_tuple_eq F.entry_tuple_eq (F.args_tuple_eq_2 _ _) (tup_eq x y a b n1 n2 d1 d2 s1 s2 e) ⟨o1, o2, ask, ?_⟩ hu
  exact (⟨(fun z => nomatch z), h⟩ : Value.bool (tell e a b) ≠ Value.notImplemented ∧ Q (.bool (tell e a b)) s)
end
end Tq

set_option Elab.async false
set_option linter.all false
set_option maxRecDepth 100000
set_option maxHeartbeats 4000000
/-! == and != of data, asked as far as the first unlike pair -/
namespace Kd
open PySem PySem.Spec PyProof.Rows L2 Dq Vl Pf Ed
def strE (a : Str) : D5 → Option Bool
  | .str b => some (a == b)
  | .tup _ => some false
  | .int _ => some false
  | .non => some false
  | _ => none
def intE (a : Int) : D5 → Option Bool
  | .int b => some (a == b)
  | .tup _ => some false
  | .str _ => some false
  | .non => some false
  | _ => none
def blE (a : Bool) : D5 → Option Bool
  | .bl b => some (a == b)
  | _ => none
def nonE : D5 → Option Bool
  | .non => some true
  | .tup _ => some false
  | .str _ => some false
  | .int _ => some false
  | _ => none
mutual
def eqv5 : D5 → D5 → Option Bool
  | .str a, e => strE a e
  | .int a, e => intE a e
  | .bl a, e => blE a e
  | .non, e => nonE e
  | .tup l, e => match e with
    | .tup m => eqvL5 l m
    | .str _ => some false
    | .int _ => some false
    | .non => some false
    | _ => none
  | .ob _, _ => none
  | .lst _, _ => none
  | .map _ _, _ => none
def eqvL5 : List D5 → List D5 → Option Bool
  | [], m => some m.isEmpty
  | x :: l, m => match m with
    | [] => some false
    | y :: m => if eqv5 x y = some true then eqvL5 l m else eqv5 x y
end
theorem e5L_nn : eqvL5 [] [] = some true := rfl
theorem e5L_nc {y : D5} {m : List D5} : eqvL5 [] (y :: m) = some false := rfl
theorem e5L_cn {y : D5} {m : List D5} : eqvL5 (y :: m) [] = some false := by rw [eqvL5]
theorem e5L_cc {x y : D5} {l m : List D5} : eqvL5 (x :: l) (y :: m) = if eqv5 x y = some true then eqvL5 l m else eqv5 x y := by rw [eqvL5]
theorem e5_tt {l m : List D5} : eqv5 (.tup l) (.tup m) = eqvL5 l m := by rw [eqv5]
theorem e5_ts {l : List D5} {z : Str} : eqv5 (.tup l) (.str z) = some false := by rw [eqv5]
theorem e5_ti {l : List D5} {z : Int} : eqv5 (.tup l) (.int z) = some false := by rw [eqv5]
theorem e5_tn {l : List D5} : eqv5 (.tup l) .non = some false := by rw [eqv5]
theorem e5_str {z : Str} {e : D5} : eqv5 (.str z) e = strE z e := by rw [eqv5]
theorem e5_int {z : Int} {e : D5} : eqv5 (.int z) e = intE z e := by rw [eqv5]
theorem e5_bl {z : Bool} {e : D5} : eqv5 (.bl z) e = blE z e := by rw [eqv5]
theorem e5_non {e : D5} : eqv5 .non e = nonE e := by rw [eqv5]
mutual
def dp : D5 → Nat
  | .tup l => dpL l + 1
  | _ => 0
def dpL : List D5 → Nat
  | [] => 0
  | x :: l => max (dp x) (dpL l)
end
theorem dpL_mem : ∀ {l : List D5} {x : D5}, x ∈ l → dp x ≤ dpL l
  | y :: l, x, h => by
    rw [dpL]
    rcases List.mem_cons.mp h with rfl | h
    · exact Nat.le_max_left _ _
    · exact Nat.le_trans (dpL_mem h) (Nat.le_max_right _ _)
def eAt (l m : List D5) (j : Nat) : Bool := decide (eqv5 (l.getD j .non) (m.getD j .non) = some true)
theorem eqvL_ask : ∀ (l m : List D5) (b : Bool), eqvL5 l m = some b → ∀ j, j < l.length → j < m.length → (∀ i, i < j → eAt l m i = true) → ∃ c, eqv5 (l.getD j .non) (m.getD j .non) = some c
  | [], _, _, _, _, h, _, _ => absurd h (Nat.not_lt_zero _)
  | _ :: _, [], _, _, _, _, h, _ => absurd h (Nat.not_lt_zero _)
  | x :: l, y :: m, b, h, 0, _, _, _ => by
    rw [e5L_cc] at h
    by_cases e : eqv5 x y = some true
    · exact ⟨true, e⟩
    · rw [if_neg e] at h
      exact ⟨b, h⟩
  | x :: l, y :: m, b, h, j + 1, h1, h2, k => by
    have k0 : eqv5 x y = some true := of_decide_eq_true (k 0 (Nat.zero_lt_succ j))
    rw [e5L_cc, if_pos k0] at h
    exact eqvL_ask l m b h j (Nat.lt_of_succ_lt_succ h1) (Nat.lt_of_succ_lt_succ h2) fun i hi => k (i + 1) (Nat.succ_lt_succ hi)
theorem eqvL_tell : ∀ (l m : List D5) (b : Bool), eqvL5 l m = some b → ((List.range (min l.length m.length)).all (eAt l m) && l.length == m.length) = b
  | [], [], b, h => by rw [e5L_nn] at h; cases h; rfl
  | [], _ :: _, b, h => by rw [e5L_nc] at h; cases h; rfl
  | _ :: _, [], b, h => by rw [e5L_cn] at h; cases h; rfl
  | x :: l, y :: m, b, h => by
    rw [e5L_cc] at h
    have e0 : (List.range (min (x :: l).length (y :: m).length)) = 0 :: (List.range (min l.length m.length)).map Nat.succ := by
      rw [List.length_cons, List.length_cons, Nat.add_min_add_right, List.range_succ_eq_map]
    have ec : (eAt (x :: l) (y :: m)) ∘ Nat.succ = eAt l m := rfl
    rw [e0, List.all_cons, List.all_map, ec]
    by_cases e : eqv5 x y = some true
    · rw [if_pos e] at h
      rw [show eAt (x :: l) (y :: m) 0 = true from decide_eq_true e, Bool.true_and, List.length_cons, List.length_cons]
      rw [show (l.length + 1 == m.length + 1) = (l.length == m.length) by rw [Bool.eq_iff_iff]; simp]
      exact eqvL_tell l m b h
    · rw [if_neg e] at h
      have eb : b = false := by
        cases b with
        | false => rfl
        | true => exact absurd h e
      rw [show eAt (x :: l) (y :: m) 0 = false from decide_eq_false e, eb]
      rfl
section
variable {X : Cx} {pins : List (Addr × Obj)} {σ : L2.St} {H : Hp} {s : Shared}
theorem leaf_one {d e : D5} {v : V} {b : Bool} (h : Dv (O5 X.K) H d v) (k : Dv (O5 X.K) H e v) (q : eqv5 d e = some b) (nd : ∀ l, d ≠ .tup l) (ne : ∀ l, e ≠ .tup l) : b = true := by
  cases d with
  | str x =>
    cases h
    rw [e5_str] at q
    cases e with
    | str y => cases k; simp only [strE, beq_self_eq_true, Option.some.injEq] at q; exact q.symm
    | int y => cases k
    | non => cases k
    | tup l => exact absurd rfl (ne l)
    | bl y => cases q
    | ob y => cases q
    | lst y => cases q
    | map y z => cases q
  | int x =>
    cases h
    rw [e5_int] at q
    cases e with
    | int y => cases k; simp only [intE, beq_self_eq_true, Option.some.injEq] at q; exact q.symm
    | str y => cases k
    | non => cases k
    | tup l => exact absurd rfl (ne l)
    | bl y => cases q
    | ob y => cases q
    | lst y => cases q
    | map y z => cases q
  | bl x =>
    cases h
    rw [e5_bl] at q
    cases e with
    | bl y => cases k; simp only [blE, beq_self_eq_true, Option.some.injEq] at q; exact q.symm
    | _ => cases q
  | non =>
    cases h
    rw [e5_non] at q
    cases e with
    | non => cases q; rfl
    | str y => cases k
    | int y => cases k
    | tup l => exact absurd rfl (ne l)
    | bl y => cases q
    | ob y => cases q
    | lst y => cases q
    | map y z => cases q
  | tup l => exact absurd rfl (nd l)
  | ob y => cases q
  | lst y => cases q
  | map y z => cases q
theorem istup (d : D5) : (∃ l, d = .tup l) ∨ ∀ l, d ≠ .tup l := by
  cases d with
  | tup l => exact .inl ⟨l, rfl⟩
  | _ => exact .inr fun l e => nomatch e
/-- a value that is a tuple and no tuple -/
theorem tup_not {e : D5} {l : List D5} {v : V} {b : Bool} (h : Dv (O5 X.K) H (.tup l) v) (k : Dv (O5 X.K) H e v) (ne : ∀ l, e ≠ .tup l) : (eqv5 (.tup l) e = some b → b = true) ∧ (eqv5 e (.tup l) = some b → b = true) := by
  obtain ⟨a, us, rfl, ha, pa⟩ := h
  cases e with
  | str y => cases k
  | int y => cases k
  | non => cases k
  | tup m => exact absurd rfl (ne m)
  | bl y => cases k
  | ob y => exact ⟨fun q => (nomatch (show (none : Option Bool) = some b from q)), fun q => (nomatch (show (none : Option Bool) = some b from q))⟩
  | lst y => exact ⟨fun q => (nomatch (show (none : Option Bool) = some b from q)), fun q => (nomatch (show (none : Option Bool) = some b from q))⟩
  | map y z => exact ⟨fun q => (nomatch (show (none : Option Bool) = some b from q)), fun q => (nomatch (show (none : Option Bool) = some b from q))⟩
/-- one value by two descriptions is told to be itself -/
theorem eqv_one (I : Inv X pins σ H s) (n : Nat) : ∀ (d e : D5) (v : V) (b : Bool), dp d < n → Dv (O5 X.K) H d v → Dv (O5 X.K) H e v → eqv5 d e = some b → b = true := by
  induction n with
  | zero => intro d e v b hn; exact absurd hn (Nat.not_lt_zero _)
  | succ n ih =>
    intro d e v b hn h k q
    rcases istup d with ⟨l, rfl⟩ | nd
    · rcases istup e with ⟨m, rfl⟩ | ne
      · obtain ⟨a, us, e1, h, p⟩ := h
        obtain ⟨a', us', e2, h', p'⟩ := k
        rw [e1] at e2
        cases e2
        have := I.tuple_inj h h'
        subst this
        rw [e5_tt] at q
        rw [dp] at hn
        have go : ∀ (l m : List D5) (us : List V), dpL l < n → DvL (O5 X.K) H l us → DvL (O5 X.K) H m us → eqvL5 l m = some b → b = true := by
          intro l
          induction l with
          | nil =>
            intro m us _ p p' q
            cases m with
            | nil => rw [e5L_nn] at q; cases q; rfl
            | cons y m =>
              cases p
              obtain ⟨_, _, e, _⟩ := p'
              cases e
          | cons x l ih2 =>
            intro m us hl p p' q
            obtain ⟨u, r, e, hx, p⟩ := p
            subst e
            cases m with
            | nil => cases p'
            | cons y m =>
              obtain ⟨u', r', e', hy, p'⟩ := p'
              cases e'
              rw [e5L_cc] at q
              rw [dpL] at hl
              by_cases c : eqv5 x y = some true
              · rw [if_pos c] at q
                exact ih2 m r (by omega) p p' q
              · rw [if_neg c] at q
                exact ih x y u b (by omega) hx hy q
        exact go l m us (by omega) p p' q
      · exact (tup_not h k ne).1 q
    · rcases istup e with ⟨m, rfl⟩ | ne
      · exact (tup_not k h nd).2 q
      · exact leaf_one h k q nd ne
theorem eqAt_leafs {A : Around} {d e : D5} {v u : V} {v' u' : Value} {b : Bool} (h : Dv (O5 X.K) H d v) (k : Dv (O5 X.K) H e u) (r : RelV v v') (r' : RelV u u') (q : eqv5 d e = some b) (nt : (∀ l, d ≠ .tup l) ∧ ∀ l, e ≠ .tup l) : SeqAt.EqAt A s v' u' b := by
  cases d with
  | str x =>
    rw [e5_str] at q
    cases h
    obtain ⟨t, rfl⟩ := r
    cases e with
    | str y => cases k; obtain ⟨t', rfl⟩ := r'; cases q; exact SeqAt.EqAt.str_str x t y t'
    | int y => cases k; obtain ⟨t', rfl⟩ := r'; cases q; exact SeqAt.EqAt.str_int x t y t'
    | non => cases k; cases r'; cases q; exact SeqAt.EqAt.str_none x t
    | tup l => exact absurd rfl (nt.2 l)
    | bl y => cases q
    | ob y => cases q
    | lst y => cases q
    | map y z => cases q
  | int x =>
    rw [e5_int] at q
    cases h
    obtain ⟨t, rfl⟩ := r
    cases e with
    | str y => cases k; obtain ⟨t', rfl⟩ := r'; cases q; exact SeqAt.EqAt.int_str x t y t'
    | int y => cases k; obtain ⟨t', rfl⟩ := r'; cases q; exact SeqAt.EqAt.int_int x t y t'
    | non => cases k; cases r'; cases q; exact SeqAt.EqAt.int_none x t
    | tup l => exact absurd rfl (nt.2 l)
    | bl y => cases q
    | ob y => cases q
    | lst y => cases q
    | map y z => cases q
  | bl x =>
    rw [e5_bl] at q
    cases h
    cases r
    cases e with
    | bl y => cases k; cases r'; cases q; exact SeqAt.EqAt.bool_bool x y
    | tup l => exact absurd rfl (nt.2 l)
    | _ => cases q
  | non =>
    rw [e5_non] at q
    cases h
    cases r
    cases e with
    | str y => cases k; obtain ⟨t', rfl⟩ := r'; cases q; exact SeqAt.EqAt.none_str y t'
    | int y => cases k; obtain ⟨t', rfl⟩ := r'; cases q; exact SeqAt.EqAt.none_int y t'
    | non => cases k; cases r'; cases q; exact SeqAt.EqAt.same _
    | tup l => exact absurd rfl (nt.2 l)
    | _ => cases q
  | tup l => exact absurd rfl (nt.1 l)
  | ob y => cases q
  | lst y => cases q
  | map y z => cases q
theorem eqAt_tl {A : Around} {l : List D5} {e : D5} {v u : V} {v' u' : Value} {b : Bool} (I : Inv X pins σ H s) (h : Dv (O5 X.K) H (.tup l) v) (k : Dv (O5 X.K) H e u) (r : RelV v v') (r' : RelV u u') (nt : ∀ m, e ≠ .tup m) (hu : A.units < cLine) :
    (eqv5 (.tup l) e = some b → SeqAt.EqAt A s v' u' b) ∧ (eqv5 e (.tup l) = some b → SeqAt.EqAt A s u' v' b) := by
  obtain ⟨a, us, rfl, ha, pa⟩ := h
  cases r
  obtain ⟨its, r1, t1, _⟩ := I.tuple ha
  cases e with
  | str y =>
    cases k
    obtain ⟨t, rfl⟩ := r'
    refine ⟨fun q => ?_, fun q => ?_⟩
    · cases q
      exact SeqAt.EqAt.tuple_str y t t1 hu
    · cases q
      exact SeqAt.EqAt.str_tuple y t t1 hu
  | int y =>
    cases k
    obtain ⟨t, rfl⟩ := r'
    refine ⟨fun q => ?_, fun q => ?_⟩
    · cases q
      exact SeqAt.EqAt.tuple_int y t t1 hu
    · cases q
      exact SeqAt.EqAt.int_tuple y t t1 hu
  | non =>
    cases k
    cases r'
    refine ⟨fun q => ?_, fun q => ?_⟩
    · cases q
      exact SeqAt.EqAt.tuple_none t1 hu
    · cases q
      exact SeqAt.EqAt.none_tuple t1 hu
  | tup m => exact absurd rfl (nt m)
  | bl y => exact ⟨fun q => (nomatch (show (none : Option Bool) = some b from q)), fun q => (nomatch (show (none : Option Bool) = some b from q))⟩
  | ob y => exact ⟨fun q => (nomatch (show (none : Option Bool) = some b from q)), fun q => (nomatch (show (none : Option Bool) = some b from q))⟩
  | lst y => exact ⟨fun q => (nomatch (show (none : Option Bool) = some b from q)), fun q => (nomatch (show (none : Option Bool) = some b from q))⟩
  | map y z => exact ⟨fun q => (nomatch (show (none : Option Bool) = some b from q)), fun q => (nomatch (show (none : Option Bool) = some b from q))⟩
theorem eqAt5 (I : Inv X pins σ H s) (n : Nat) : ∀ (d e : D5) (v u : V) (v' u' : Value) (b : Bool) (A : Around), dp d < n → Dv (O5 X.K) H d v → Dv (O5 X.K) H e u → RelV v v' → RelV u u' → eqv5 d e = some b → A.units + dp d + 1 < cLine → SeqAt.EqAt A s v' u' b := by
  induction n with
  | zero => intro d e v u v' u' b A hn; exact absurd hn (Nat.not_lt_zero _)
  | succ n ih =>
    intro d e v u v' u' b A hn hd he r r' q hu
    rcases istup d with ⟨l, rfl⟩ | nd
    · rcases istup e with ⟨m, rfl⟩ | ne
      · obtain ⟨a, us, rfl, ha, pa⟩ := hd
        obtain ⟨c, ws, rfl, hc, pc⟩ := he
        cases r
        cases r'
        by_cases eac : a = c
        · subst eac
          obtain rfl := eqv_one I (dp (.tup l) + 1) (.tup l) (.tup m) (.ref a) b (Nat.lt_succ_self _) ⟨a, us, rfl, ha, pa⟩ ⟨a, ws, rfl, hc, pc⟩ q
          exact SeqAt.EqAt.same _
        · obtain ⟨its, r1, t1, _⟩ := I.tuple ha
          obtain ⟨its2, r2, t2, _⟩ := I.tuple hc
          rw [e5_tt] at q
          rw [dp] at hn hu
          have z1 : its.length = l.length := by rw [← r1.length]; exact pa.len
          have z2 : its2.length = m.length := by rw [← r2.length]; exact pc.len
          refine SeqAt.EqAt.of_refs eac ?_
          have tl : Tq.tell (eAt l m) its.toArray its2.toArray = b := by
            unfold Tq.tell
            rw [List.size_toArray, List.size_toArray, z1, z2]
            exact eqvL_tell l m b q
          rw [← tl]
          refine Tq.rc_tuples t1 t2 (by omega) fun j h1 h2 bef => ?_
          have j1 : j < l.length := by rw [← z1]; simpa using h1
          have j2 : j < m.length := by rw [← z2]; simpa using h2
          obtain ⟨x, hx⟩ : ∃ x, l[j]? = some x := ⟨_, List.getElem?_eq_getElem j1⟩
          obtain ⟨y, hy⟩ : ∃ y, m[j]? = some y := ⟨_, List.getElem?_eq_getElem j2⟩
          obtain ⟨w1, g1, k1⟩ := at_dv pa hx
          obtain ⟨w2, g2, k2⟩ := at_dv pc hy
          obtain ⟨i1, f1, rr1⟩ := r1.get g1
          obtain ⟨i2, f2, rr2⟩ := r2.get g2
          obtain ⟨c2, ec⟩ := eqvL_ask l m b q j j1 j2 bef
          rw [show l.getD j .non = x by rw [List.getD_eq_getElem?_getD, hx]; rfl, show m.getD j .non = y by rw [List.getD_eq_getElem?_getD, hy]; rfl] at ec
          have ee : eAt l m j = c2 := by
            unfold eAt
            rw [show l.getD j .non = x by rw [List.getD_eq_getElem?_getD, hx]; rfl, show m.getD j .non = y by rw [List.getD_eq_getElem?_getD, hy]; rfl, ec]
            cases c2 <;> simp
          have v1 : its.toArray[j] = i1 := by rw [List.getElem?_eq_getElem (by simpa using h1)] at f1; simpa using f1
          have v2 : its2.toArray[j] = i2 := by rw [List.getElem?_eq_getElem (by simpa using h2)] at f2; simpa using f2
          rw [v1, v2, ee]
          have hdx := dpL_mem (List.mem_of_getElem? hx)
          exact ih x y w1 w2 i1 i2 c2 A.in1 (by omega) k1 k2 rr1 rr2 ec (by show A.units + 1 + dp x + 1 < cLine; omega)
      · exact (eqAt_tl I hd he r r' ne (by omega)).1 q
    · rcases istup e with ⟨m, rfl⟩ | ne
      · exact (eqAt_tl I he hd r' r nd (by omega)).2 q
      · exact eqAt_leafs hd he r r' q ⟨nd, ne⟩
end
end Kd

set_option Elab.async false
set_option linter.all false
set_option maxRecDepth 100000
set_option maxHeartbeats 4000000
/-! the rules for == and != of tuples of data -/
namespace Kd
open PySem PySem.Spec PyProof.Rows L2 Dq Vl Pf Ed
def rEq5 (K : PySem.W.Frag) : R2 := fun x y H Q => ∃ l m b, Dv (O5 K) H (.tup l) x ∧ Dv (O5 K) H (.tup m) y ∧ eqvL5 l m = some b ∧ dpL l ≤ 30 ∧ Q (.bl b) H
def rNe5 (K : PySem.W.Frag) : R2 := fun x y H Q => ∃ l m b, Dv (O5 K) H (.tup l) x ∧ Dv (O5 K) H (.tup m) y ∧ eqvL5 l m = some b ∧ (∀ j, j < l.length → j < m.length → (eqv5 (l.getD j .non) (m.getD j .non)).isSome = true) ∧ dpL l ≤ 30 ∧ Q (.bl (!b)) H
/-- items that are the same values, or equal data -/
def Twin (K : PySem.W.Frag) (H : Hp) (x y : V) : Prop := (x = y ∧ noF x = true) ∨ ∃ d e, Dv (O5 K) H d x ∧ Dv (O5 K) H e y ∧ eqv5 d e = some true ∧ dp d ≤ 30
def rNeT (K : PySem.W.Frag) : R2 := fun x y H Q => ∃ a c us ws, x = .ref a ∧ y = .ref c ∧ SqT K H a us ∧ SqT K H c ws ∧ us.length = ws.length ∧ (∀ (j : Nat) (u w : V), us[j]? = some u → ws[j]? = some w → Twin K H u w) ∧ Q (.bl false) H
section
variable {X : Cx}
theorem getV {pins : List (Addr × Obj)} {σ : L2.St} {H : Hp} {s : Shared} (I : Inv X pins σ H s) {a : Addr} {us : List V} {l : List D5} {its : List Value} (pa : DvL (O5 X.K) H l us) (r1 : Vals us its) {j : Nat} (h1 : j < its.toArray.size) :
    ∃ w1, Dv (O5 X.K) H (l.getD j .non) w1 ∧ RelV w1 its.toArray[j] ∧ j < l.length ∧ l.getD j .non ∈ l := by
  have z1 : its.length = l.length := by rw [← r1.length]; exact pa.len
  have j1 : j < l.length := by rw [← z1]; simpa using h1
  obtain ⟨x, hx⟩ : ∃ x, l[j]? = some x := ⟨_, List.getElem?_eq_getElem j1⟩
  obtain ⟨w1, g1, k1⟩ := at_dv pa hx
  obtain ⟨i1, f1, rr1⟩ := r1.get g1
  have v1 : its.toArray[j] = i1 := by rw [List.getElem?_eq_getElem (by simpa using h1)] at f1; simpa using f1
  have ex : l.getD j .non = x := by rw [List.getD_eq_getElem?_getD, hx]; rfl
  rw [ex, v1]
  exact ⟨w1, k1, rr1, j1, List.mem_of_getElem? hx⟩
theorem op_eq5 (hu : X.A.units + 64 < cLine) : OpR X (compareOp .Eq) (rEq5 X.K) := by
  intro pins s σ H x y v u Q I rx ry h
  obtain ⟨l, m, b, ⟨a, us, rfl, ha, pa⟩, ⟨c, ws, rfl, hc, pc⟩, q, hd, k⟩ := h
  cases rx
  cases ry
  obtain ⟨its, r1, t1, _⟩ := I.tuple ha
  obtain ⟨its2, r2, t2, _⟩ := I.tuple hc
  have z1 : its.length = l.length := by rw [← r1.length]; exact pa.len
  have z2 : its2.length = m.length := by rw [← r2.length]; exact pc.len
  have tl : Tq.tell (eAt l m) its.toArray its2.toArray = b := by
    unfold Tq.tell
    rw [List.size_toArray, List.size_toArray, z1, z2]
    exact eqvL_tell l m b q
  have z := Tq.rc_tuples (A := X.A) t1 t2 (by omega) (e := eAt l m) fun j h1 h2 bef => by
    obtain ⟨w1, k1, rr1, j1, m1⟩ := getV (a := a) I pa r1 h1
    obtain ⟨w2, k2, rr2, j2, _⟩ := getV (a := c) I pc r2 h2
    obtain ⟨c2, ec⟩ := eqvL_ask l m b q j j1 j2 bef
    have ee : eAt l m j = c2 := by
      unfold eAt
      rw [ec]
      cases c2 <;> simp
    rw [ee]
    have := dpL_mem m1
    exact eqAt5 I (dp (l.getD j .non) + 1) _ _ w1 w2 _ _ c2 X.A.in1 (Nat.lt_succ_self _) k1 k2 rr1 rr2 ec (by show X.A.units + 1 + _ + 1 < cLine; omega)
  rw [tl] at z
  exact z X.prog X.w X.xe _ ⟨.bl b, H, I, rfl, k⟩
theorem op_ne5 (hu : X.A.units + 64 < cLine) : OpR X (compareOp .NotEq) (rNe5 X.K) := by
  intro pins s σ H x y v u Q I rx ry h
  obtain ⟨l, m, b, ⟨a, us, rfl, ha, pa⟩, ⟨c, ws, rfl, hc, pc⟩, q, kn, hd, k⟩ := h
  cases rx
  cases ry
  obtain ⟨its, r1, t1, _⟩ := I.tuple ha
  obtain ⟨its2, r2, t2, _⟩ := I.tuple hc
  have z1 : its.length = l.length := by rw [← r1.length]; exact pa.len
  have z2 : its2.length = m.length := by rw [← r2.length]; exact pc.len
  have z := SeqAt.RcNeAt.tuples (A := X.A) t1 t2 (by omega) (e := eAt l m) fun j h1 h2 => by
    obtain ⟨w1, k1, rr1, j1, m1⟩ := getV (a := a) I pa r1 h1
    obtain ⟨w2, k2, rr2, j2, _⟩ := getV (a := c) I pc r2 h2
    obtain ⟨c2, ec⟩ := Option.isSome_iff_exists.mp (kn j j1 j2)
    have ee : eAt l m j = c2 := by
      unfold eAt
      rw [ec]
      cases c2 <;> simp
    rw [ee]
    have := dpL_mem m1
    exact eqAt5 I (dp (l.getD j .non) + 1) _ _ w1 w2 _ _ c2 X.A.in1 (Nat.lt_succ_self _) k1 k2 rr1 rr2 ec (by show X.A.units + 1 + _ + 1 < cLine; omega)
  rw [List.size_toArray, List.size_toArray, z1, z2, eqvL_tell l m b q] at z
  exact z X.prog X.w X.xe _ ⟨.bl (!b), H, I, rfl, k⟩
theorem op_neT (hu : X.A.units + 64 < cLine) : OpR X (compareOp .NotEq) (rNeT X.K) := by
  intro pins s σ H x y v u Q I rx ry h
  obtain ⟨a, c, us, ws, rfl, rfl, ha, hc, hl, tw, k⟩ := h
  cases rx
  cases ry
  obtain ⟨its, r1, t1, _⟩ := I.tuple ha
  obtain ⟨its2, r2, t2, _⟩ := I.tuple hc
  have z1 : its.length = us.length := r1.length.symm
  have z2 : its2.length = ws.length := r2.length.symm
  have z := SeqAt.RcNeAt.tuples (A := X.A) t1 t2 (by omega) (e := fun _ => true) fun j h1 h2 => by
    have j1 : j < us.length := by rw [← z1]; simpa using h1
    have j2 : j < ws.length := by rw [← z2]; simpa using h2
    obtain ⟨i1, f1, rr1⟩ := r1.get (i := j) (List.getElem?_eq_getElem j1)
    obtain ⟨i2, f2, rr2⟩ := r2.get (i := j) (List.getElem?_eq_getElem j2)
    have v1 : its.toArray[j] = i1 := by rw [List.getElem?_eq_getElem (by simpa using h1)] at f1; simpa using f1
    have v2 : its2.toArray[j] = i2 := by rw [List.getElem?_eq_getElem (by simpa using h2)] at f2; simpa using f2
    rw [v1, v2]
    rcases tw j _ _ (List.getElem?_eq_getElem j1) (List.getElem?_eq_getElem j2) with ⟨e, nf⟩ | ⟨d, e, k1, k2, q, dd⟩
    · rw [← e] at rr2
      exact eqAt_self nf rr1 rr2
    · exact eqAt5 I (dp d + 1) d e _ _ _ _ true X.A.in1 (Nat.lt_succ_self _) k1 k2 rr1 rr2 q (by show X.A.units + 1 + dp d + 1 < cLine; omega)
  have e0 : ((List.range (min its.toArray.size its2.toArray.size)).all (fun _ => true) && its.toArray.size == its2.toArray.size) = true := by
    rw [List.size_toArray, List.size_toArray, z1, z2, hl]
    simp
  rw [e0] at z
  exact z X.prog X.w X.xe _ ⟨.bl false, H, I, rfl, k⟩
end
mutual
/-- plain data: leaves and tuples, by itself equal -/
def pln : D5 → Bool
  | .str _ => true
  | .int _ => true
  | .bl _ => true
  | .non => true
  | .tup l => plnL l
  | _ => false
def plnL : List D5 → Bool
  | [] => true
  | x :: l => pln x && plnL l
end
mutual
theorem eqv_self : ∀ d : D5, pln d = true → eqv5 d d = some true
  | .str x, _ => by rw [e5_str, strE, beq_self_eq_true]
  | .int x, _ => by rw [e5_int, intE, beq_self_eq_true]
  | .bl x, _ => by rw [e5_bl, blE, beq_self_eq_true]
  | .non, _ => by rw [e5_non, nonE]
  | .tup l, h => by rw [pln] at h; rw [e5_tt]; exact eqvL_self l h
theorem eqvL_self : ∀ l : List D5, plnL l = true → eqvL5 l l = some true
  | [], _ => e5L_nn
  | x :: l, h => by
    rw [plnL, Bool.and_eq_true] at h
    rw [e5L_cc, if_pos (eqv_self x h.1)]
    exact eqvL_self l h.2
end
theorem plnL_mem : ∀ {l : List D5}, plnL l = true → ∀ x ∈ l, pln x = true
  | y :: l, h, x, hx => by
    rw [plnL, Bool.and_eq_true] at h
    rcases List.mem_cons.mp hx with rfl | hx
    · exact h.1
    · exact plnL_mem h.2 x hx
mutual
theorem key_pln {Ks : List Str → Bool} : ∀ d : D5, nol d = true → kpt Ks d = true → pln (keyD d) = true
  | .non, _, _ => rfl
  | .bl _, _, _ => rfl
  | .int _, _, _ => rfl
  | .str _, _, _ => rfl
  | .ob _, _, h => nomatch h
  | .lst _, h, _ => by cases h
  | .tup l, h, k => by rw [nol] at h; rw [kpt] at k; rw [keyD, pln, plnL, keyL_pln l h k]; rfl
  | .map ks l, h, k => by rw [nol] at h; rw [kpt, Bool.and_eq_true] at k; rw [keyD, pln, plnL, keyM_pln ks l h k.2]; rfl
theorem keyL_pln {Ks : List Str → Bool} : ∀ l : List D5, nolL l = true → kptL Ks l = true → plnL (keyL l) = true
  | [], _, _ => by simp [keyL, plnL]
  | x :: l, h, k => by
    rw [nolL, Bool.and_eq_true] at h
    rw [kptL, Bool.and_eq_true] at k
    rw [keyL, plnL, key_pln x h.1 k.1, keyL_pln l h.2 k.2]
    rfl
theorem keyM_pln {Ks : List Str → Bool} (ks : List Str) : ∀ l : List D5, nolL l = true → kptL Ks l = true → plnL (keyM ks l) = true
  | [], _, _ => by simp [keyM, plnL]
  | x :: l, h, k => by
    rw [nolL, Bool.and_eq_true] at h
    rw [kptL, Bool.and_eq_true] at k
    rw [keyM, plnL, pln, plnL, plnL, plnL, pln, key_pln x h.1 k.1, keyM_pln ks.tail l h.2 k.2]
    rfl
end
end Kd
namespace Ed
open PySem PySem.Spec PyProof.Rows L2 Dq Vl Kd
variable {K : PySem.W.Frag} {σ : L2.St} {H : Hp} {ta tb : TE}
theorem et_eq5 {l m : List D5} {b : Bool} (h : ED (O5 K) ta σ H (.tup l)) (h2 : ED (O5 K) tb σ H (.tup m)) (q : eqvL5 l m = some b) (hd : dpL l ≤ 30) : ET (tTest (tOp (rEq5 K) ta tb)) σ H b := fun H1 s Q k =>
  h H1 s _ fun v H2 s2 hv => h2 H2 (Same.trans s s2) _ fun u H3 s3 hu => ⟨l, m, b, (kps5 (K := K)).dv s3 hv, hu, q, hd, b, rfl, k H3 (Same.trans s2 s3)⟩
theorem et_ne5 {l m : List D5} {b : Bool} (h : ED (O5 K) ta σ H (.tup l)) (h2 : ED (O5 K) tb σ H (.tup m)) (q : eqvL5 l m = some b) (kn : ∀ j, j < l.length → j < m.length → (eqv5 (l.getD j .non) (m.getD j .non)).isSome = true) (hd : dpL l ≤ 30) : ET (tTest (tOp (rNe5 K) ta tb)) σ H (!b) := fun H1 s Q k =>
  h H1 s _ fun v H2 s2 hv => h2 H2 (Same.trans s s2) _ fun u H3 s3 hu => ⟨l, m, b, (kps5 (K := K)).dv s3 hv, hu, q, kn, hd, !b, rfl, k H3 (Same.trans s2 s3)⟩
/-- plain data that is equal -/
theorem et_neP {l : List D5} (h : ED (O5 K) ta σ H (.tup l)) (h2 : ED (O5 K) tb σ H (.tup l)) (p : plnL l = true) (hd : dpL l ≤ 30) : ET (tTest (tOp (rNe5 K) ta tb)) σ H false :=
  et_ne5 (b := true) h h2 (eqvL_self l p) (fun j h1 h2 => by
    rw [eqv_self _ (plnL_mem p _ (by rw [List.getD_eq_getElem?_getD, List.getElem?_eq_getElem h1]; exact List.getElem_mem h1))]
    rfl) hd
end Ed

set_option Elab.async false
set_option linter.all false
set_option maxRecDepth 100000
set_option maxHeartbeats 4000000
/-! dicts by texts, as lists of parts; kinds as tables; rows -/
namespace Kd
open PySem PySem.Spec PyProof.Rows L2 Dq Vl Pf Ed
abbrev Prt := List (Str × D5)
/-- the parts of a dict by texts -/
def PtsD (K : PySem.W.Frag) (H : Hp) : Prt → List (Key × V) → Prop
  | [], kvs => kvs = []
  | p :: ps, kvs => ∃ v kvs', kvs = (.inr p.1, v) :: kvs' ∧ Dv (O5 K) H p.2 v ∧ PtsD K H ps kvs'
/-- what stands there by a name -/
def getS (ps : Prt) (s : Str) : Option D5 := (ps.find? fun p => decide (p.1 = s)).map (·.2)
/-- in its place, or at the end -/
def putS : Prt → Str → D5 → Prt
  | [], s, x => [(s, x)]
  | p :: ps, s, x => if p.1 = s then (p.1, x) :: ps else p :: putS ps s x
theorem getS_pos {p : Str × D5} {r : Prt} {k : Str} (e : p.1 = k) : getS (p :: r) k = some p.2 := by simp [getS, List.find?_cons, e]
theorem getS_neg {p : Str × D5} {r : Prt} {k : Str} (e : ¬ p.1 = k) : getS (p :: r) k = getS r k := by simp [getS, List.find?_cons, e]
theorem getS_mem {ps : Prt} {s : Str} {x : D5} (h : getS ps s = some x) : (s, x) ∈ ps := by
  induction ps with
  | nil => cases h
  | cons p ps ih =>
    by_cases e : p.1 = s
    · rw [getS_pos e] at h
      cases h
      rw [← e]
      exact List.mem_cons_self
    · rw [getS_neg e] at h
      exact List.mem_cons_of_mem _ (ih h)
theorem getS_none {ps : Prt} {s : Str} : getS ps s = none ↔ s ∉ ps.map (·.1) := by
  induction ps with
  | nil => simp [getS]
  | cons p ps ih =>
    by_cases e : p.1 = s
    · rw [getS_pos e]; simp [e]
    · rw [getS_neg e, ih, List.map_cons, List.mem_cons]
      exact ⟨fun h q => q.elim (fun z => e z.symm) h, fun h q => h (.inr q)⟩
theorem getS_some {ps : Prt} {s : Str} (h : s ∈ ps.map (·.1)) : ∃ x, getS ps s = some x := by
  cases e : getS ps s with
  | none => exact absurd h (getS_none.mp e)
  | some x => exact ⟨x, rfl⟩
theorem getS_put {ps : Prt} {s t : Str} {x : D5} : getS (putS ps s x) t = if t = s then some x else getS ps t := by
  induction ps with
  | nil =>
    show getS [(s, x)] t = _
    by_cases e : s = t
    · rw [getS_pos e, if_pos e.symm]
    · rw [getS_neg e, if_neg fun z => e z.symm]
  | cons p ps ih =>
    unfold putS
    by_cases e : p.1 = s
    · rw [if_pos e]
      by_cases e2 : p.1 = t
      · rw [getS_pos (p := (p.1, x)) e2, if_pos (e2.symm.trans e)]
      · rw [getS_neg (p := (p.1, x)) e2, if_neg fun z => e2 (e.trans z.symm), getS_neg e2]
    · rw [if_neg e]
      by_cases e2 : p.1 = t
      · rw [getS_pos e2, if_neg fun z => e (e2.trans z), getS_pos e2]
      · rw [getS_neg e2, ih, getS_neg e2]
theorem put_keys {ps : Prt} {s : Str} {x : D5} (h : s ∈ ps.map (·.1)) : (putS ps s x).map (·.1) = ps.map (·.1) := by
  induction ps with
  | nil => cases h
  | cons p ps ih =>
    unfold putS
    by_cases e : p.1 = s
    · rw [if_pos e]; rfl
    · rw [if_neg e, List.map_cons, List.map_cons, ih]
      rcases List.mem_cons.mp h with q | q
      · exact absurd q.symm e
      · exact q
theorem put_new {ps : Prt} {s : Str} {x : D5} (h : s ∉ ps.map (·.1)) : putS ps s x = ps ++ [(s, x)] := by
  induction ps with
  | nil => rfl
  | cons p ps ih =>
    rw [List.map_cons, List.mem_cons, not_or] at h
    unfold putS
    rw [if_neg fun e => h.1 e.symm, ih h.2]
    rfl
theorem put_mem {ps : Prt} {s : Str} {x : D5} {p : Str × D5} (h : p ∈ putS ps s x) : p ∈ ps ∨ p = (s, x) := by
  induction ps with
  | nil => exact .inr (List.mem_singleton.mp h)
  | cons q ps ih =>
    unfold putS at h
    by_cases e : q.1 = s
    · rw [if_pos e] at h
      rcases List.mem_cons.mp h with h | h
      · exact .inr (by rw [h, e])
      · exact .inl (List.mem_cons_of_mem _ h)
    · rw [if_neg e] at h
      rcases List.mem_cons.mp h with h | h
      · exact .inl (by rw [h]; exact List.mem_cons_self)
      · rcases ih h with h | h
        · exact .inl (List.mem_cons_of_mem _ h)
        · exact .inr h
section
variable {K : PySem.W.Frag} {H H' : Hp} {S : List Addr} {Ks : List Str → Bool}
theorem PtsD.len : ∀ {ps : Prt} {kvs : List (Key × V)}, PtsD K H ps kvs → kvs.length = ps.length
  | [], _, h => by cases h; rfl
  | _ :: _, _, ⟨_, _, e, _, p⟩ => by subst e; exact congrArg (· + 1) p.len
theorem PtsD.keys : ∀ {ps : Prt} {kvs : List (Key × V)}, PtsD K H ps kvs → kvs.map (·.1) = (ps.map (·.1)).map Sum.inr
  | [], _, h => by cases h; rfl
  | _ :: _, _, ⟨_, _, e, _, p⟩ => by subst e; rw [List.map_cons, List.map_cons, List.map_cons, p.keys]
theorem PtsD.imp : ∀ {ps : Prt} {kvs : List (Key × V)}, (∀ p ∈ ps, ∀ v, Dv (O5 K) H p.2 v → Dv (O5 K) H' p.2 v) → PtsD K H ps kvs → PtsD K H' ps kvs
  | [], _, _, h => h
  | p :: ps, _, f, ⟨v, kvs, e, h, r⟩ => ⟨v, kvs, e, f p List.mem_cons_self v h, r.imp fun q hq => f q (List.mem_cons_of_mem _ hq)⟩
theorem PtsD.same {ps : Prt} {kvs : List (Key × V)} (s : Same H H') (h : PtsD K H ps kvs) : PtsD K H' ps kvs := h.imp fun p _ v hv => (kps5 (K := K)).dv s hv
theorem PtsD.ch {ps : Prt} {kvs : List (Key × V)} (k : Ch S H H') (al : ∀ a ∈ S, ∀ o, H a = some o → Alien Ks o) (kp : ∀ p ∈ ps, kpt Ks p.2 = true) (h : PtsD K H ps kvs) : PtsD K H' ps kvs := h.imp fun p hp v hv => Dv.ch k al _ _ (kp p hp) hv
theorem PtsD.get : ∀ {ps : Prt} {kvs : List (Key × V)} (s : Str), PtsD K H ps kvs → (getS ps s = none → valV kvs (.inr s : Key) = none) ∧ ∀ x, getS ps s = some x → ∃ v, valV kvs (.inr s : Key) = some v ∧ Dv (O5 K) H x v
  | [], _, s, h => by cases h; exact ⟨fun _ => rfl, fun x h => nomatch h⟩
  | p :: ps, _, s, ⟨v, kvs, e, h, r⟩ => by
    subst e
    obtain ⟨i1, i2⟩ := r.get s
    by_cases e : p.1 = s
    · rw [getS_pos e, valV_pos (p := ((Sum.inr p.1 : Key), v)) (congrArg Sum.inr e)]
      exact ⟨fun h => (nomatch h), fun x h => by cases h; exact ⟨v, rfl, ‹_›⟩⟩
    · rw [getS_neg e, valV_neg (p := ((Sum.inr p.1 : Key), v)) fun z => e (Sum.inr.inj z)]
      exact ⟨i1, i2⟩
theorem putK_cons {κ : Type} [DecidableEq κ] {p : κ × V} {r : List (κ × V)} {k : κ} {v : V} (nd : p.1 = k → k ∉ r.map (·.1)) : putK (p :: r) k v = if p.1 = k then (p.1, v) :: r else p :: putK r k v := by
  by_cases e : p.1 = k
  · rw [if_pos e]
    unfold putK
    rw [List.any_cons, decide_eq_true e, Bool.true_or, if_pos rfl, List.map_cons, if_pos e]
    congr 1
    have : r.map (fun kv => if kv.1 = k then (kv.1, v) else kv) = r.map id := List.map_congr_left fun q hq => if_neg fun z => nd e (by rw [← z]; exact List.mem_map_of_mem (f := (·.1)) hq)
    rw [this, List.map_id]
  · rw [if_neg e]
    unfold putK
    rw [List.any_cons, decide_eq_false e, Bool.false_or]
    by_cases a : (r.any fun kv => decide (kv.1 = k)) = true
    · rw [if_pos a, if_pos a, List.map_cons, if_neg e]
    · rw [if_neg a, if_neg a]; rfl
theorem PtsD.put {s : Str} {x : D5} {v : V} (hv : Dv (O5 K) H x v) : ∀ {ps : Prt} {kvs : List (Key × V)}, (ps.map (·.1)).Nodup → PtsD K H ps kvs → PtsD K H (putS ps s x) (putK kvs (.inr s : Key) v)
  | [], _, _, h => by cases h; exact ⟨v, [], rfl, hv, rfl⟩
  | p :: ps, _, nd, ⟨u, kvs, e, h, r⟩ => by
    subst e
    rw [List.map_cons, List.nodup_cons] at nd
    rw [putK_cons fun e => by
      rw [r.keys]
      intro m
      obtain ⟨y, hy, q⟩ := List.mem_map.mp m
      refine nd.1 ?_
      rw [Sum.inr.inj (e.trans q.symm)]
      exact hy]
    unfold putS
    by_cases e : p.1 = s
    · rw [if_pos e, if_pos (congrArg Sum.inr e)]
      exact ⟨v, kvs, rfl, hv, r⟩
    · rw [if_neg e, if_neg fun z => e (Sum.inr.inj z)]
      exact ⟨u, _, rfl, h, PtsD.put hv nd.2 r⟩
theorem PtsD.dvl : ∀ {ps : Prt} {kvs : List (Key × V)}, PtsD K H ps kvs → DvL (O5 K) H (ps.map (·.2)) (kvs.map (·.2))
  | [], _, h => by cases h; rfl
  | _ :: _, _, ⟨v, kvs, e, h, r⟩ => by subst e; exact ⟨v, _, rfl, h, r.dvl⟩
theorem PtsD.of : ∀ {ps : Prt} {kvs : List (Key × V)}, kvs.map (·.1) = (ps.map (·.1)).map Sum.inr → DvL (O5 K) H (ps.map (·.2)) (kvs.map (·.2)) → PtsD K H ps kvs
  | [], [], _, _ => rfl
  | [], _ :: _, e, _ => nomatch e
  | _ :: _, [], e, _ => nomatch e
  | p :: ps, q :: kvs, e, ⟨u, us, e2, h, r⟩ => by
    rw [List.map_cons, List.map_cons, List.map_cons] at e
    injection e with e1 e3
    injection e2 with e4 e5
    refine ⟨q.2, kvs, ?_, by rw [show q.2 = u from e4]; exact h, PtsD.of e3 (by rw [show kvs.map (·.2) = us from e5]; exact r)⟩
    rw [← e1]
end
/-- a dict by texts, as data -/
def mapP (ps : Prt) : D5 := .map (ps.map (·.1)) (ps.map (·.2))
/-- a dict with these parts stands at d -/
def PD (K : PySem.W.Frag) (H : Hp) (ps : Prt) (d : Addr) : Prop := ∃ kvs, H d = some (.dK kvs) ∧ PtsD K H ps kvs
section
variable {K : PySem.W.Frag} {H H' : Hp} {S : List Addr} {Ks : List Str → Bool} {ps : Prt} {d : Addr}
theorem PD.dv (h : PD K H ps d) (nd : (ps.map (·.1)).Nodup) : Dv (O5 K) H (mapP ps) (.ref d) := by
  obtain ⟨kvs, e, p⟩ := h
  exact ⟨d, kvs, rfl, e, nd, p.keys, p.dvl⟩
theorem PD.of {v : V} (h : Dv (O5 K) H (mapP ps) v) : ∃ d, v = .ref d ∧ PD K H ps d ∧ (ps.map (·.1)).Nodup := by
  obtain ⟨d, kvs, rfl, e, nd, hk, hl⟩ := h
  exact ⟨d, rfl, ⟨kvs, e, PtsD.of hk hl⟩, nd⟩
theorem PD.same (h : PD K H ps d) (s : Same H H') : PD K H' ps d := by
  obtain ⟨kvs, e, p⟩ := h
  exact ⟨kvs, s _ _ e, p.same s⟩
theorem PD.ch (h : PD K H ps d) (k : Ch S H H') (al : ∀ a ∈ S, ∀ o, H a = some o → Alien Ks o) (kp : ∀ p ∈ ps, kpt Ks p.2 = true) (nd : d ∉ S) : PD K H' ps d := by
  obtain ⟨kvs, e, p⟩ := h
  exact ⟨kvs, k _ _ e nd, p.ch k al kp⟩
end
/-- no a, no tables begins the keys; not empty -/
def Kval : List Str → Bool
  | [] => false
  | k :: _ => !(decide (k = "a") || decide (k = "tables"))
/-- the same, or empty -/
def Kkin : List Str → Bool
  | [] => true
  | k :: _ => !(decide (k = "a") || decide (k = "tables"))
theorem kpt_mono {Ks Ls : List Str → Bool} (h : ∀ k, Ks k = true → Ls k = true) : ∀ d : D5, kpt Ks d = true → kpt Ls d = true := by
  have main : ∀ (n : Nat) (d : D5), sizeOf d ≤ n → kpt Ks d = true → kpt Ls d = true := by
    intro n
    induction n with
    | zero => intro d hn; cases d <;> simp at hn
    | succ n ih =>
      have go : ∀ l : List D5, sizeOf l ≤ n → kptL Ks l = true → kptL Ls l = true := by
        intro l
        induction l with
        | nil => intro _ _; simp [kptL]
        | cons x l ih2 =>
          intro hn k
          simp only [List.cons.sizeOf_spec] at hn
          rw [kptL, Bool.and_eq_true] at k
          rw [kptL, ih x (by omega) k.1, ih2 (by omega) k.2]
          rfl
      intro d hn k
      cases d with
      | tup l => rw [kpt] at k ⊢; exact go l (by simp at hn; omega) k
      | map ks l =>
        rw [kpt, Bool.and_eq_true] at k
        rw [kpt, h _ k.1, go l (by simp at hn; omega) k.2]
        rfl
      | lst l => cases k
      | ob o => cases k
      | _ => rfl
  exact fun d => main _ d (Nat.le_refl _)
theorem kval_kin : ∀ k, Kval k = true → Kkin k = true
  | [], h => nomatch h
  | _ :: _, h => h
/-! ### kinds as tables -/
structure Gv where
  nm : Str
  so : Str
  fo : Bool
  rd : Option (List (Str × Str))
inductive Ru where
  | id
  | mark
  | ar (src pre post : Str)
  deriving DecidableEq
structure Tb where
  name : Str
  gv : List Gv
  md : List (Str × Ru)
  si : Option Str
  ho : List Str
def rdgD : Option (List (Str × Str)) → D5
  | none => .non
  | some l => .map (l.map (·.1)) (l.map fun p => .str p.2)
def gvrD (g : Gv) : D5 := .tup [.str g.nm, .str g.so, .bl g.fo, rdgD g.rd]
def ruD : Ru → D5
  | .id => .tup [.str "id"]
  | .mark => .tup [.str "mark"]
  | .ar s p q => .tup [.str "around", .str s, .str p, .str q]
def mdrD (p : Str × Ru) : D5 := .tup [.str p.1, ruD p.2]
def siD : Option Str → D5
  | none => .non
  | some s => .str s
def gvsT (t : Tb) : D5 := .tup (t.gv.map gvrD)
def mdsT (t : Tb) : D5 := .tup (t.md.map mdrD)
def hosT (t : Tb) : D5 := .tup (t.ho.map .str)
def kindD (t : Tb) : Kp Unit := ⟨.str t.name, gvsT t, mdsT t, siD t.si, hosT t⟩
abbrev tabK : List Str := ["name", "given", "made", "single", "holds"]
def tabD (t : Tb) : D5 := .map tabK [.str t.name, gvsT t, mdsT t, siD t.si, hosT t]
def tabsD (ts : List Tb) : D5 := .map (ts.map (·.name)) (ts.map tabD)
/-- readings whose keys are no a, no tables -/
def okRd (t : Tb) : Bool := t.gv.all fun g => match g.rd with
  | none => true
  | some l => Kkin (l.map (·.1))
theorem rdg_kpt {l : List (Str × Str)} (h : Kkin (l.map (·.1)) = true) : kpt Kkin (rdgD (some l)) = true := by
  have e : kptL Kkin (l.map fun p => (DV.str p.2 : D5)) = true := kptL_all fun x hx => by obtain ⟨p, _, rfl⟩ := List.mem_map.mp hx; rfl
  rw [rdgD, kpt, h, e]
  rfl
theorem gvs_kpt {t : Tb} (h : okRd t = true) : kpt Kkin (gvsT t) = true := by
  rw [gvsT, kpt]
  refine kptL_all fun x hx => ?_
  obtain ⟨g, hg, rfl⟩ := List.mem_map.mp hx
  have := List.all_eq_true.mp h g hg
  cases e : g.rd with
  | none => simp [gvrD, kpt, kptL, e, rdgD]
  | some l =>
    rw [e] at this
    have q := rdg_kpt this
    simp only [gvrD, kpt, kptL, e, q, Bool.and_true]
theorem ru_kpt {P : List Str → Bool} (r : Ru) : kpt P (ruD r) = true := by cases r <;> simp [ruD, kpt, kptL]
theorem mds_kpt {P : List Str → Bool} {t : Tb} : kpt P (mdsT t) = true := by
  rw [mdsT, kpt]
  refine kptL_all fun x hx => ?_
  obtain ⟨g, hg, rfl⟩ := List.mem_map.mp hx
  simp only [mdrD, kpt, kptL, ru_kpt, Bool.and_true]
theorem hos_kpt {P : List Str → Bool} {t : Tb} : kpt P (hosT t) = true := by
  rw [hosT, kpt]
  refine kptL_all fun x hx => ?_
  obtain ⟨g, hg, rfl⟩ := List.mem_map.mp hx
  rfl
theorem si_kpt {P : List Str → Bool} (o : Option Str) : kpt P (siD o) = true := by cases o <;> rfl
theorem tab_kpt {t : Tb} (h : okRd t = true) : kpt Kkin (tabD t) = true := by
  have d1 : Kkin tabK = true := by decide +kernel
  simp only [tabD, kpt, kptL, d1, gvs_kpt h, mds_kpt, hos_kpt, si_kpt, Bool.and_true]
theorem tabs_kpt {ts : List Tb} (h : ∀ t ∈ ts, okRd t = true) (hk : Kkin (ts.map (·.name)) = true) : kpt Kkin (tabsD ts) = true := by
  rw [tabsD, kpt, hk, kptL_all fun x hx => ?_]
  · rfl
  · obtain ⟨t, ht, rfl⟩ := List.mem_map.mp hx
    exact tab_kpt (h t ht)
/-! ### Tags, rows -/
def tagOf (k : Str) (n : Nat) : D5 := .tup [.str "#", .str k, .int (n : Int)]
def keyT (k : Str) (n : Nat) : List Key := [.inr "#", .inr k, .inl (n : Int)]
theorem keyT_eq {k k' : Str} {n n' : Nat} : keyT k n = keyT k' n' ↔ k = k' ∧ n = n' := by
  constructor
  · intro h
    simp [keyT] at h
    exact ⟨h.1, by omega⟩
  · rintro ⟨rfl, rfl⟩
    rfl
structure Ro where
  kind : Str
  n : Nat
  ps : Prt
def tagR (r : Ro) : D5 := tagOf r.kind r.n
def keyR (r : Ro) : List Key := keyT r.kind r.n
def isRow (k : Str) (n : Nat) (r : Ro) : Bool := decide (r.kind = k) && decide (r.n = n)
theorem isRow_iff {k : Str} {n : Nat} {r : Ro} : isRow k n r = true ↔ r.kind = k ∧ r.n = n := by simp [isRow]
theorem isRow_key {k : Str} {n : Nat} {r : Ro} : decide (keyR r = keyT k n) = isRow k n r := by
  rw [Bool.eq_iff_iff, decide_eq_true_eq, isRow_iff]
  exact keyT_eq
/-- where the row stands -/
def idxR (rows : List Ro) (k : Str) (n : Nat) : Option Nat := rows.findIdx? (isRow k n)
/-- a value that may stand in a row -/
def okV (d : D5) : Bool := okTag d && (lay 4 d && (lyk 4 d && (kpt Kval d && decide (dp (keyD d) ≤ 8))))
structure OkV (d : D5) : Prop where
  tg : okTag d = true
  ly : lay 4 d = true
  lk : lyk 4 d = true
  kp : kpt Kval d = true
  dk : dp (keyD d) ≤ 8
theorem okV_iff {d : D5} : okV d = true ↔ OkV d := by
  simp only [okV, Bool.and_eq_true, decide_eq_true_eq]
  exact ⟨fun ⟨a, b, c, d, e⟩ => ⟨a, b, c, d, e⟩, fun ⟨a, b, c, d, e⟩ => ⟨a, b, c, d, e⟩⟩
theorem OkV.nl {d : D5} (h : OkV d) : nol d = true := lay_nol 4 _ h.ly
/-- a row as it may stand -/
structure OkR (r : Ro) : Prop where
  vs : ∀ p ∈ r.ps, OkV p.2
  nd : (r.ps.map (·.1)).Nodup
  hd : (r.ps.map (·.1)).head? = some "a"
  k : nmS r.kind = true
  n : 1 ≤ r.n
/-- a row whose key is told -/
structure OkS (r : Ro) : Prop where
  so : sortedS (r.ps.map (·.1)) = true
  ln : r.ps.length < 64
theorem put_head {ps : Prt} {s k : Str} {x : D5} (h : (ps.map (·.1)).head? = some k) : ((putS ps s x).map (·.1)).head? = some k := by
  cases ps with
  | nil => cases h
  | cons p ps =>
    unfold putS
    by_cases e : p.1 = s
    · rw [if_pos e]; exact h
    · rw [if_neg e]; exact h
theorem put_nodup {ps : Prt} {s : Str} {x : D5} (h : (ps.map (·.1)).Nodup) : ((putS ps s x).map (·.1)).Nodup := by
  by_cases m : s ∈ ps.map (·.1)
  · rw [put_keys m]; exact h
  · rw [put_new m, List.map_append]
    refine List.nodup_append.mpr ⟨h, by simp, fun a ha b hb e => ?_⟩
    rw [List.map_cons, List.map_nil, List.mem_singleton] at hb
    exact m (by rw [show b = s from hb] at e; rw [← e]; exact ha)
theorem put_len {ps : Prt} {s : Str} {x : D5} : (putS ps s x).length ≤ ps.length + 1 := by
  induction ps with
  | nil => exact Nat.le_refl _
  | cons p ps ih =>
    unfold putS
    by_cases e : p.1 = s
    · rw [if_pos e]; simp
    · rw [if_neg e]; simp only [List.length_cons]; omega
theorem put_sub {ps : Prt} {s t : Str} {x : D5} (h : t ∈ ps.map (·.1)) : t ∈ (putS ps s x).map (·.1) := by
  by_cases m : s ∈ ps.map (·.1)
  · rw [put_keys m]; exact h
  · rw [put_new m, List.map_append]; exact List.mem_append_left _ h
theorem OkR.put {r : Ro} {s : Str} {x : D5} (h : OkR r) (hx : OkV x) : OkR { r with ps := putS r.ps s x } :=
  ⟨fun p hp => (put_mem hp).elim (h.vs p) fun e => by rw [e]; exact hx, put_nodup h.nd, put_head h.hd, h.k, h.n⟩
theorem nm_sh {k : Str} (h : nmS k = true) : shD (.str k : D5) = true := by
  simp only [nmS, Bool.and_eq_true, decide_eq_true_eq] at h
  show decide (k.length ≤ 1000) = true
  exact decide_eq_true (by omega)
theorem okV_tag {k : Str} {n : Nat} (h : nmS k = true) : OkV (tagOf k n) where
  tg := nm_sh h
  ly := by simp [lay, tagOf]
  lk := by simp [lyk, tagOf, nolL, nol]
  kp := by simp [tagOf, kpt, kptL]
  dk := by simp [tagOf, keyD, keyL, dp, dpL]
theorem okV_str (s : Str) : OkV (.str s) := ⟨rfl, rfl, rfl, rfl, by simp [keyD, dp, dpL]⟩
theorem OkR.kp {r : Ro} (h : OkR r) : ∀ p ∈ r.ps, kpt Kval p.2 = true := fun p hp => (h.vs p hp).kp
end Kd

set_option Elab.async false
set_option linter.all false
set_option maxRecDepth 100000
set_option maxHeartbeats 4000000
/-! joined, surrounded -/
namespace Kd
open PySem PySem.Spec PyProof.Rows L2 Dq Vl Pf Ed
/-- xs[i], by values -/
theorem pget_list {X : Cx} : PGet X (rIxL X.K) := by
  intro pins s σ H o i0 ov iv Q I rx ry h
  obtain ⟨p, xs, i, z, rfl, rfl, hq, he, q⟩ := h
  cases rx
  obtain ⟨t, rfl⟩ := ry
  obtain ⟨its, r, pl, hz⟩ := I.list hq
  obtain ⟨j, h1, h2, h3, h4, h5⟩ := atI_get he
  obtain ⟨w, ew, rw'⟩ := r.get h2
  have hl := r.length
  have hn := line63
  have fin : EP X pins σ Q w s := ⟨z, H, I, rw', q⟩
  by_cases h0 : 0 ≤ i
  · have hj : i.toNat = j := by
      rw [seqIndex_of h0 h5] at h1
      exact Option.some.inj h1
    exact wpAny_getItem_list pl.isList h0 (by omega) (by rw [hj]; simpa using ew) fin
  · have hj : (i + (its.toArray.size : Int)).toNat = j := by
      rw [seqIndex_neg (by omega) h4] at h1
      rw [List.size_toArray, ← hl]
      exact Option.some.inj h1
    exact wpAny_getItem_list_neg pl.isList (by omega) (by rw [List.size_toArray] <;> omega) (by omega) (by rw [hj]; simpa using ew) fin
theorem call_strB {X : Cx} : CallR X (.type "str") (fun xs H Q => (∃ i, xs = [.int i] ∧ i.natAbs.log2 < 1920 ∧ Q (.str (toString i)) H) ∨ ∃ a, xs = [.str a] ∧ Q (.str a) H) := fun pins s σ H xs us Q I r h =>
  h.elim (fun q => call_str_int pins s σ H xs us Q I r q) fun q => SkE.call_str_str pins s σ H xs us Q I r q
theorem num_tab : ∀ n : Fin 1101, ((toString ((n.val : Int) - 101) : String) : Str).length ≤ 4 := by decide +kernel
theorem num_ok {i : Int} (h : -100 ≤ i) (k : i ≤ 999) : ((toString i : String) : Str).length ≤ 4 := by
  have := num_tab ⟨(i + 101).toNat, by omega⟩
  have e : (((i + 101).toNat : Nat) : Int) - 101 = i := by omega
  rw [show ((⟨(i + 101).toNat, by omega⟩ : Fin 1101).val : Int) - 101 = i from e] at this
  exact this
/-- a part as it is written -/
def showD : D5 → Option Str
  | .str s => some s
  | .int i => some ((toString i : String) : Str)
  | _ => none
/-- short texts, small numbers -/
def smlD : D5 → Bool
  | .str s => decide (s.length ≤ 300)
  | .int i => decide (-100 ≤ i) && decide (i ≤ 999)
  | _ => true
def catD : List D5 → Str
  | [] => Str.empty
  | x :: l => (showD x).getD "" ++ catD l
theorem catD_snoc : ∀ (l : List D5) (x : D5), catD (l ++ [x]) = catD l ++ ((showD x).getD "")
  | [], x => by
    show (showD x).getD "" ++ Str.empty = Str.empty ++ (showD x).getD ""
    rw [Str.append_empty, Str.empty_append]
  | y :: l, x => by
    rw [List.cons_append, catD, catD_snoc l x, catD, Str.append_assoc]
theorem show_ok {K : PySem.W.Frag} {H : Hp} {x : D5} {v : V} (hs : smlD x = true) (h : (showD x).isSome = true) (hx : Dv (O5 K) H x v) : ∃ s, showD x = some s ∧ s.length ≤ 300 ∧ ((∃ i, v = .int i ∧ s = ((toString i : String) : Str) ∧ i.natAbs.log2 < 1920) ∨ v = .str s) := by
  cases x with
  | str z => cases hx; exact ⟨z, rfl, of_decide_eq_true hs, .inr rfl⟩
  | int i =>
    cases hx
    rw [smlD, Bool.and_eq_true, decide_eq_true_eq, decide_eq_true_eq] at hs
    refine ⟨_, rfl, Nat.le_trans (num_ok hs.1 hs.2) (by decide), .inl ⟨i, rfl, rfl, ?_⟩⟩
    by_cases e : i.natAbs = 0
    · rw [e]; decide
    · exact Nat.lt_of_lt_of_le ((Nat.log2_lt e).mpr (show i.natAbs < 2 ^ 10 from by have : (2 : Nat) ^ 10 = 1024 := rfl; omega)) (by decide)
  | _ => cases h
theorem catD_len : ∀ {l : List D5}, (∀ x ∈ l, ∀ s, showD x = some s → s.length ≤ 300) → (catD l).length ≤ l.length * 300
  | [], _ => by rw [catD]; exact Nat.zero_le _
  | x :: l, h => by
    have a := catD_len (l := l) fun y hy => h y (List.mem_cons_of_mem _ hy)
    have c : ((showD x).getD "").length ≤ 300 := by
      cases e : showD x with
      | none => exact Nat.zero_le _
      | some s => exact h x List.mem_cons_self s e
    rw [catD, Str.length_append, List.length_cons, Nat.succ_mul]
    omega
theorem show_len {x : D5} (hs : smlD x = true) : ∀ s, showD x = some s → s.length ≤ 300 := fun s e => by
  cases x with
  | str z => cases e; exact of_decide_eq_true hs
  | int i =>
    cases e
    rw [smlD, Bool.and_eq_true, decide_eq_true_eq, decide_eq_true_eq] at hs
    exact Nat.le_trans (num_ok hs.1 hs.2) (by decide)
  | _ => cases e
/-- the class Touched, as it stands to the values -/
structure TouD (K : PySem.W.Frag) (mg : Str → Option Value) (D : Addr) : Prop where
  kT : ∀ T, T ∈ ["NoneType", "bool", "int", "str", "tuple", "list", "dict"] → PySem.W.kitOne K (.type T) (.ref D) = some false
  g : mg "Touched" = some (.ref D)
def noOb : D5 → Bool
  | .ob _ => false
  | _ => true
def tyN5 : D5 → String
  | .non => "NoneType"
  | .bl _ => "bool"
  | .int _ => "int"
  | .str _ => "str"
  | .tup _ => "tuple"
  | .lst _ => "list"
  | .map _ _ => "dict"
  | .ob _ => ""
theorem ty5 {K : PySem.W.Frag} {H : Hp} {d : D5} {v : V} (n : noOb d = true) (h : Dv (O5 K) H d v) : TyX K H v (.type (tyN5 d)) := by
  cases d with
  | non => cases h; exact .base .non
  | bl b => cases h; exact .base (.bl b)
  | int i => cases h; exact .base (.int i)
  | str s => cases h; exact .base (.str s)
  | ob o => cases n
  | tup l => obtain ⟨a, us, rfl, e, _⟩ := h; exact SqT.tyx e
  | lst l => obtain ⟨a, us, rfl, e, _⟩ := h; exact .base (.lst e)
  | map ks l => obtain ⟨a, us, rfl, e, _⟩ := h; exact .base (.dK e)
theorem kit_tou {K : PySem.W.Frag} {mg : Str → Option Value} {D : Addr} (O : TouD K mg D) {d : D5} (n : noOb d = true) : PySem.W.kitOne K (.type (tyN5 d)) (.ref D) = some false := by
  cases d with
  | ob o => cases n
  | _ => exact O.kT _ (by simp [tyN5])
theorem kit_str5 {K : PySem.W.Frag} {d : D5} (n : noOb d = true) : PySem.W.kitOne K (.type (tyN5 d)) (.type "str") = some (isT6 "str" d) := by
  cases d with
  | ob o => cases n
  | str s => exact (kit_ty (a := "str") (b := "str") (r := true) (by decide +kernel)).trans (by simp [isT6])
  | non => exact (kit_ty (a := "NoneType") (b := "str") (r := false) (by decide +kernel)).trans (by simp [isT6])
  | bl b => exact (kit_ty (a := "bool") (b := "str") (r := false) (by decide +kernel)).trans (by simp [isT6])
  | int b => exact (kit_ty (a := "int") (b := "str") (r := false) (by decide +kernel)).trans (by simp [isT6])
  | tup b => exact (kit_ty (a := "tuple") (b := "str") (r := false) (by decide +kernel)).trans (by simp [isT6])
  | lst b => exact (kit_ty (a := "list") (b := "str") (r := false) (by decide +kernel)).trans (by simp [isT6])
  | map k b => exact (kit_ty (a := "dict") (b := "str") (r := false) (by decide +kernel)).trans (by simp [isT6])
def rTouD (K : PySem.W.Frag) (D : Addr) : List V → Hp → VK → Prop := fun xs H Q => ∃ v x, xs = [v, .ref D] ∧ Dv (O5 K) H x v ∧ noOb x = true ∧ Q (.bl false) H
theorem call_isTou {X : Cx} {D : Addr} (O : TouD X.K X.mg D) : CallR X (.builtin "isinstance") (rTouD X.K D) := fun pins s σ H xs us Q I r ⟨v, x, e, h, n, q⟩ =>
  call_isi pins s σ H xs us Q I r ⟨v, .ref D, _, .ref D, false, e, .own D, ty5 n h, kit_tou O n, q⟩
def rSTou (K : PySem.W.Frag) (D : Addr) : List V → Hp → VK → Prop := fun xs H Q => ∃ v x tp, xs = [v, .ref tp] ∧ H tp = some (.tup [.ty "str", .ref D]) ∧ Dv (O5 K) H x v ∧ noOb x = true ∧ Q (.bl (isT6 "str" x)) H
theorem call_isSTou {X : Cx} {D : Addr} (O : TouD X.K X.mg D) : CallR X (.builtin "isinstance") (rSTou X.K D) := fun pins s σ H xs us Q I r ⟨v, x, tp, e, ht, h, n, q⟩ =>
  call_isiT pins s σ H xs us Q I r ⟨v, tp, [.ty "str", .ref D], _, [.type "str", .ref D], isT6 "str" x, e, ht, .cons (.ty "str") (.cons (.own D) .nil), ty5 n h, kitAny_cons (kit_str5 n) (fun e => by
    rw [e]
    exact kitAny_cons (kit_tou O n) (fun _ => rfl) fun z => nomatch z) fun e => e, q⟩
abbrev sJd : Stmt := tp 13
abbrev NJd : List Str := ["parts", "fixed", "met", "part", "text"]
theorem scJd : FnScope NJd ["parts"] (defScope sJd) := ⟨rfl, rfl, rfl, by decide +kernel, rfl, by decide +kernel, by decide +kernel⟩
def spJd (K : PySem.W.Frag) : Sp := fun vs H Q _ => ∃ (l : Addr) (us : List V) (xs : List D5), vs = [.ref l] ∧ H l = some (.lst us) ∧ DvL (O5 K) H xs us ∧ xs.length ≤ 3 ∧ (∀ x ∈ xs, (showD x).isSome = true ∧ smlD x = true) ∧ ∀ H', Same H H' → Q (.str (catD xs)) H'
section
variable {P : Program} {w : World} {K : PySem.W.Frag} {mg : Str → Option Value} {base : Heap} {CT : Addr}
theorem ok_jd {f : Addr} {fd : FuncData} (F : Fun K "joined" "joined" sJd f fd) (T : TxtV mg) (O : TouD K mg CT) : FnOk P w K mg base CX0 1 f fd ["parts"] (spJd K) := by
  refine F.ok scJd (fun vs H Q E h => ?_) (fun cdv A outer s H vs Q E hr h => ?_)
  · obtain ⟨l, us, xs, rfl, _⟩ := h
    rfl
  · obtain ⟨l, us, xs, rfl, hl, hp, l3, ok, k⟩ := h
    refine ⟨_, (pss_cons (ps_set (i := 1) scJd.nd rfl (Or.inl rfl) (pe_lst (pa_cons pe_str pa_nil)))
        (pss_cons (ps_set (i := 2) scJd.nd rfl (Or.inl rfl) pe_non)
        (pss_cons (ps_for PassesOwn.never rfl (pi_list (pv 0)) (pg_name (i := 3) scJd.nd rfl (Or.inl rfl)) (pss_one (ps_if (pt_val (pe_callB (call_isTou O) (by rfl) T.isi (by decide +kernel) (pa_cons (pv 3) (pa_cons (pe_glob (v := .ref CT) rfl O.g rfl) pa_nil)))) Ow.pss_nv (pss_one (ps_augS (pv 1) (pe_un un_neg pe_int) pget_list (pe_callTy call_strB (by rfl) T.str (by decide +kernel) (pa_cons (pv 3) pa_nil)) in_addS set_list)))))
        (pss_cons (ps_if (pt_cmpR op_isN (pv 2) pe_non (nomark _)) (pss_one (ps_ret (pe_ix (show IxR _ (rIxL K) from ix_list) (pv 1) pe_int (fun _ _ => rfl)))) pss_nil)
        Ow.pss_nv)))), ?_⟩
    have P := kps5 (K := K)
    have lu : us.length = xs.length := hp.len
    refine ⟨by show 1 ≤ sizeLine; decide, fun F0 nF => ?_⟩
    have s0 := sm_upd (o := .lst [.str ""]) nF
    have ln : l ≠ F0 := fun z => by rw [z, nF] at hl; cases hl
    refine ⟨_, rfl, l, rfl, ⟨us, SqL.of (s0 _ _ hl)⟩, ?_⟩
    refine for_it (walk_list (xs := us)) (fun i σ' H' => (∃ w3, σ' = [some (.ref l), some (.ref F0), some .non, w3, none]) ∧ Same H H' ∧ H' F0 = some (.lst [.str (catD (xs.take i))])) ⟨⟨none, rfl⟩, s0, by rw [upd_same]; rfl⟩ (fun i σ' H' _ ⟨_, s, _⟩ => SqL.of (s _ _ hl)) (fun i x σ' H2 H3 hi p y => ?_) (fun σ' H' p => ?_)
    · obtain ⟨rfl, ex⟩ := y
      obtain ⟨⟨w3, rfl⟩, s2, hF⟩ := p
      obtain ⟨z, ez, hz⟩ := rowAt (P.dvl s2 hp) ex
      obtain ⟨o1, o2⟩ := ok z (List.mem_of_getElem? ez)
      obtain ⟨sx, e1, e2, e4⟩ := show_ok o2 o1 hz
      have hc := catD_len (l := xs.take i) fun y hy => show_len (ok y (List.mem_of_mem_take hy)).2
      have ht : (xs.take i).length ≤ 3 := by rw [List.length_take]; omega
      have hc1 : (catD (xs.take i)).length ≤ 900 := Nat.le_trans hc (by omega)
      have es : xs.take (i + 1) = xs.take i ++ [z] := by
        rw [List.take_succ, ez]
        rfl
      have nz : noOb z = true := by cases z <;> first | rfl | cases o1
      refine ⟨_, rfl, x, z, rfl, hz, nz, _, rfl, Vl.iteN rfl ?_⟩
      refine ⟨_, rfl, 1, rfl, F0, _, (-1 : Int), _, rfl, rfl, SqL.of hF, rfl, ?_⟩
      refine ⟨_, rfl, ?_⟩
      have last : Same H (upd H3 F0 (.lst ([V.str (catD (xs.take i))].set 0 (.str (catD (xs.take i) ++ sx))))) ∧ (upd H3 F0 (.lst ([V.str (catD (xs.take i))].set 0 (.str (catD (xs.take i) ++ sx))))) F0 = some (.lst [.str (catD (xs.take (i + 1)))]) := by
        refine ⟨fun b o e => ?_, ?_⟩
        · have nb : b ≠ F0 := fun q => by rw [q, nF] at e; cases e
          rw [upd_ne nb]
          exact s2 _ _ e
        · rw [upd_same, es, catD_snoc, e1]
          rfl
      have fits : (catD (xs.take i)).length + sx.length ≤ sizeLine := Nat.le_trans (show _ ≤ 1300 by omega) (by decide)
      rcases e4 with ⟨j, rfl, e5, e6⟩ | rfl
      · exact .inl ⟨j, rfl, e6, (by rw [← e5]; exact ⟨_, sx, rfl, rfl, fits, F0, _, (-1 : Int), 0, rfl, rfl, hF, rfl, ⟨_, rfl⟩, last.1, last.2⟩)⟩
      · exact .inr ⟨sx, rfl, ⟨_, sx, rfl, rfl, fits, F0, _, (-1 : Int), 0, rfl, rfl, hF, rfl, ⟨_, rfl⟩, last.1, last.2⟩⟩
    · obtain ⟨⟨w3, rfl⟩, s2, hF⟩ := p
      refine ⟨_, rfl, rfl, _, rfl, Vl.iteC (by decide) ⟨_, rfl, F0, _, (0 : Int), _, rfl, rfl, SqL.of hF, rfl, ?_⟩⟩
      rw [lu, List.take_length]
      exact k _ s2
abbrev sSur : Stmt := tp 25
abbrev NSur : List Str := ["rule", "value", "middle"]
theorem scSur : FnScope NSur ["rule", "value"] (defScope sSur) := ⟨rfl, rfl, rfl, by decide +kernel, rfl, by decide +kernel, by decide +kernel⟩
/-- what goes between -/
def midS : D5 → Str
  | .str s => s
  | .int i => ((toString i : String) : Str)
  | _ => Str.empty
def midD : D5 → D5
  | .str s => .str s
  | .int i => .int i
  | _ => .str Str.empty
def spSur (K : PySem.W.Frag) : Sp := fun vs H Q _ => ∃ (rv v : V) (s p q : Str) (d : D5), vs = [rv, v] ∧ Dv (O5 K) H (ruD (.ar s p q)) rv ∧ Dv (O5 K) H d v ∧ noOb d = true ∧ smlD d = true ∧ p.length ≤ 300 ∧ q.length ≤ 300 ∧ ∀ H', Same H H' → Q (.str (p ++ midS d ++ q)) H'
theorem ok_sur {f fI fJ : Addr} {fd fdI fdJ : FuncData} (F : Fun K "surrounded" "surrounded" sSur f fd) (T : TxtV mg) (O : TouD K mg CT) (DI : Def P w K mg base 1 "is_integer" fI fdI ["thing"] (spV K (fun _ => true) intD)) (DJ : Def P w K mg base 1 "joined" fJ fdJ ["parts"] (spJd K)) :
    FnOk P w K mg base CX0 2 f fd ["rule", "value"] (spSur K) := by
  refine F.ok scSur (fun vs H Q E h => ?_) (fun cdv A outer s H vs Q E hr h => ?_)
  · obtain ⟨rv, v, s, p, q, d, rfl, _⟩ := h
    rfl
  · obtain ⟨rv, v, s, p, q, d, rfl, hru, hd, nd, sd, lp, lq, k⟩ := h
    refine ⟨_, pss_cons (ps_set (i := 2) scSur.nd rfl (Or.inl rfl) (pe_ifExp (PW.pt (pw_or (pt_val (pe_callB (call_isSTou O) (by rfl) T.isi (by decide +kernel) (pa_cons (pv 1) (pa_cons (pe_tup (pa_cons (pe_bltn (v := .ty "str") (by rfl) T.str (by decide +kernel) rfl) (pa_cons (pe_glob (v := .ref CT) rfl O.g rfl) pa_nil))) pa_nil))))
        (pw_or1 (pt_val (pe_call DI.ok (hr.mono (by decide)) rfl DI.g DI.kp DI.b .nil pass0 (pa_cons (pv 1) pa_nil)))))) (pv 1) pe_str))
      (pss_one (ps_ret (pe_call DJ.ok (hr.mono (by decide)) rfl DJ.g DJ.kp DJ.b .nil pass0 (pa_cons (pe_lst (pa_cons (pe_ix (show IxR _ (rIxT K) from ix_tup) (pv 0) pe_int (fun _ _ => rfl)) (pa_cons (pv 2) (pa_cons (pe_ix (show IxR _ (rIxT K) from ix_tup) (pv 0) pe_int (fun _ _ => rfl)) pa_nil)))) pa_nil)))), ?_⟩
    have P := kps5 (K := K)
    have h1 : ∀ {σ : L2.St} {H' : Hp}, σ[1]? = some (some v) → Same H H' → ED (O5 K) (tVar 1) σ H' d := fun e s => ed_pv P e (P.dv s hd)
    have mid : ED (O5 K) (tIf (tOr (tTest (tCB (rSTou K CT) (tCons (tVar 1) (tCons (tTup (tCons (tC (.ty "str")) (tCons (tC (.ref CT)) tNil))) tNil)))) (tB (tCall (spV K (fun _ => true) intD) [] E0 (tCons (tVar 1) tNil)))) (tVar 1) (tC (.str ""))) [some rv, some v, none] H (midD d) := by
      have t1 : ET (tTest (tCB (rSTou K CT) (tCons (tVar 1) (tCons (tTup (tCons (tC (.ty "str")) (tCons (tC (.ref CT)) tNil))) tNil)))) [some rv, some v, none] H (isT6 "str" d) := fun H1 s1 Q1 q1 => ⟨_, rfl, by show 2 ≤ sizeLine; decide, fun t nt => ⟨v, d, t, rfl, upd_same, P.dv (Same.upd s1 nt) hd, nd, _, rfl, q1 _ (sm_upd nt)⟩⟩
      have t2 : ET (tB (tCall (spV K (fun _ => true) intD) [] E0 (tCons (tVar 1) tNil))) [some rv, some v, none] H (intD d) := fun H1 s1 Q1 q1 => ⟨_, rfl, v, d, rfl, P.dv s1 hd, rfl, fun H2 s2 => ⟨_, rfl, q1 H2 s2⟩⟩
      refine ep_if (et_orI (c := intD d) t1 fun _ => t2) (fun e => ?_) fun e => ?_
      · have : midD d = d := by cases d <;> first | rfl | (revert e; simp [isT6, intD])
        rw [this]
        exact h1 rfl (Same.refl _)
      · have : midD d = .str Str.empty := by cases d <;> first | rfl | (revert e; simp [isT6, intD])
        rw [this]
        exact ed_str
    refine ED.seq mid fun m H1 s1 hm => ?_
    show tRet _ _ [some rv, some v, some m] H1
    have i2 : ED (O5 K) (tOp (rIxT K) (tVar 0) (tC (.int 2))) [some rv, some v, some m] H1 (.str p) := ed_ixT P (i := 2) (l := [.str "around", .str s, .str p, .str q]) (ed_pv P rfl (P.dv s1 hru)) rfl
    have i3 : ED (O5 K) (tOp (rIxT K) (tVar 0) (tC (.int 3))) [some rv, some v, some m] H1 (.str q) := ed_ixT P (i := 3) (l := [.str "around", .str s, .str p, .str q]) (ed_pv P rfl (P.dv s1 hru)) rfl
    show tCall (spJd K) [] E0 (tCons (tLst (tCons (tOp (rIxT K) (tVar 0) (tC (.int 2))) (tCons (tVar 2) (tCons (tOp (rIxT K) (tVar 0) (tC (.int 3))) tNil)))) tNil) [some rv, some v, some m] H1 _
    refine EA.call (ea_cons P (ed_lst P (ea_cons P i2 (ea_cons P (ed_pv P (i := 2) rfl hm) (ea_cons P i3 ea_nil))) (by simp)) ea_nil) fun vs H2 s2 ⟨v2, r2, e, ⟨a, us, e2, ha, hl⟩, e3⟩ => ?_
    cases (show r2 = [] from e3)
    subst e e2
    refine ⟨a, us, _, rfl, ha, hl, by simp, fun x hx => ?_, fun H3 s3 => ?_⟩
    · simp only [List.mem_cons, List.not_mem_nil, or_false] at hx
      rcases hx with rfl | rfl | rfl
      · exact ⟨rfl, decide_eq_true lp⟩
      · cases d <;> first | exact ⟨rfl, sd⟩ | exact ⟨rfl, by decide +kernel⟩
      · exact ⟨rfl, decide_eq_true lq⟩
    · have e : catD [.str p, midD d, .str q] = p ++ midS d ++ q := by
        have e0 : ((showD (midD d)).getD "") = midS d := by cases d <;> rfl
        rw [catD, catD, catD, catD, e0, Str.append_empty]
        show p ++ (midS d ++ q) = _
        rw [Str.append_assoc]
      rw [e]
      exact k H3 (Same.trans s1 (Same.trans s2 s3))
end
end Kd

set_option Elab.async false
set_option linter.all false
set_option maxRecDepth 100000
set_option maxHeartbeats 4000000
/-! d.get(y), where y may be None; _as_chosen, _tags_in -/
namespace L2
open PySem PySem.Spec PyProof.Rows
/-- d.get(None) on a dict without None -/
def tDGetN (td ty : TE) : TE := fun σ H Q => td σ H fun x H1 => ∃ a, x = .ref a ∧ IsD H1 a ∧ ty σ H1 fun y H2 => ∃ kvs, y = .non ∧ Rd H2 a (.dK kvs) ∧ Q .non H2
section
variable {X : Cx} {pins : List (Addr × Obj)} {σ : St} {H : Hp} {s : Shared} {a : Addr} {kvs : List (Key × V)} {A : Around} {E : Value → Shared → Prop}
theorem d_getNone {Q : Value → Shared → Prop} (I : Inv X pins σ H s) (e : Rd H a (.dK kvs)) (h : ∀ s', Inv X pins σ H s' → Q .none s') : wpAny (model X.prog X.w) A (call (.builtin "dict.get") [.ref a, .none]) Q E s := by
  obtain ⟨z, hd, vs, rel, dd⟩ := dk_rd I.hok e
  obtain ⟨f, hm, hf⟩ := none_map dd
  refine call_meetsIn PySem.F.slot_dict_get dd.typeIs PySem.F.entry_dict_get (PySem.F.args_dict_get_2 _ _) (meets_dict_get (noneKind X.prog X.w) (d := a) (k := none) (key := .none) rfl hd) ⟨f, hm, ?_⟩
  rw [hf]
  exact h _ (I.tok _)
end
section
variable {X : Cx} {o e f : Expr} {apos cpos : Pos} {td ty tx : TE}
theorem pe_dgetN (ho : PE X o td) (he : PE X e ty) (m : M1 X o "get" apos e cpos) : PE X (.Call (.Attribute o "get" apos) [e] [] cpos) (tDGetN td ty) := by
  refine ⟨fun pins s σ H Q I h => ?_⟩
  refine wpAny_Call_method m.base m.few m.line PySem.F.plainAttrs_dict PySem.F.slot_dict_get PySem.F.type_dict_get (thn (ho.run pins s σ H _ I h) fun u s1 ⟨x, H1, I1, rx, a, ex, d, q1⟩ => ?_)
  subst ex
  obtain rfl : u = Value.ref a := rx
  obtain ⟨t1, t2, _⟩ := isD_at I1 d
  refine ⟨t1, t2, ?_⟩
  rw [m.trees]
  refine Calls.callWith_builtin rfl (Calls.evalArgs_plain (Calls.spliced_cons (thn (he.run pins s1 σ H1 _ I1 q1) fun iv s2 ⟨y, H2, I2, ry, kvs, ey, g, q2⟩ => Calls.spliced_nil ?_)))
  subst ey
  obtain rfl : iv = Value.none := ry
  exact d_getNone I2 g fun s3 I3 => ⟨.non, H2, I3, rfl, q2⟩
end
end L2
namespace Ed
open PySem PySem.Spec PyProof.Rows L2 Dq Vl Kd
variable {K : PySem.W.Frag} {σ : L2.St} {H : Hp} {te ta tb : TE}
theorem EB.ed {b : Bool} (h : EB te σ H b) : ED (O5 K) te σ H (.bl b) := fun H1 s Q k => h H1 s Q fun v H2 s2 e => k v H2 s2 e
theorem dvl_bls {H : Hp} : ∀ {l : List D5} {us : List V} {p : D5 → Bool}, DvL (O5 K) H (l.map fun x => .bl (p x)) us → us = (l.map p).map V.bl
  | [], _, _, h => h
  | x :: l, _, p, ⟨u, us, e, h, r⟩ => by
    rw [e, dvl_bls r, show u = V.bl (p x) from h]
    rfl
/-- all([..]) of truth values -/
theorem eb_all {l : List D5} {p : D5 → Bool} (h : ED (O5 K) te σ H (.lst (l.map fun x => .bl (p x)))) : EB (tCB (rAll K) (tCons te tNil)) σ H (l.all p) := fun H1 s Q k =>
  h H1 s _ fun v H2 s2 ⟨a, us, e, ha, hu⟩ => ⟨a, l.map p, by rw [e], SqL.of (by rw [← dvl_bls hu]; exact ha), k _ H2 s2 (by rw [List.all_map]; rfl)⟩
end Ed
namespace Ed
open PySem PySem.Spec PyProof.Rows L2 Dq Vl Kd
variable {K : PySem.W.Frag} {σ : L2.St} {H : Hp} {te ta tb : TE}
theorem EP.mono {R : V → Hp → Prop} {H' : Hp} (h : EP te σ H R) (s : Same H H') : EP te σ H' R := fun H1 s1 Q k => h H1 (Same.trans s s1) Q k
/-- what a field holds -/
theorem ep_fld {f : Str} {R : V → Hp → Prop} (h : EP te σ H fun v H2 => ∃ a C dx fs u, v = .ref a ∧ H2 a = some (.ins C dx fs) ∧ Cls K C ∧ NoAttr K C f ∧ fs.lookup f = some u ∧ R u H2) : EP (tFld K te f) σ H R := fun H1 s Q k =>
  h H1 s _ fun v H2 s2 ⟨a, C, dx, fs, u, e, ha, hc, hn, hl, r⟩ => ⟨a, C, dx, fs, u, e, ha, hc, hn, hl, k u H2 s2 r⟩
/-- d[k] by a text -/
theorem ep_dK {k : Str} {R : V → Hp → Prop} (h : EP ta σ H fun v H2 => ∃ a kvs u, v = .ref a ∧ H2 a = some (.dK kvs) ∧ valV kvs (.inr k : Key) = some u ∧ (∀ H3, Same H2 H3 → R u H3)) (h2 : EP tb σ H fun v _ => v = .str k) : EP (tDGet ta tb) σ H R := fun H1 s Q q =>
  h H1 s _ fun v H2 s2 ⟨a, kvs, u, e, ha, hu, r⟩ => h2 H2 (Same.trans s s2) _ fun y H3 s3 ey => ⟨a, u, e, .inl ⟨kvs, .inr k, .inl (s3 _ _ ha), ey, hu.symm⟩, q u H3 (Same.trans s2 s3) (r H3 s3)⟩
end Ed

namespace Kd
open PySem PySem.Spec PyProof.Rows L2 Dq Vl Pf Ed ClX LamX
/-- an object that may change -/
structure Apt (CK : Addr) (o : HO) : Prop where
  al : Alien Kkin o
  ins : ∀ dx fs, o ≠ .ins CK dx fs
/-- what is kept alive -/
structure Calm (CK : Addr) (H H' : Hp) : Prop where
  t : ∀ b xs, H b = some (.tup xs) → H' b = some (.tup xs)
  f : ∀ b o xs, H b = some (.frz o (.tup xs)) → H' b = some (.frz o (.tup xs))
  d : ∀ b kvs ks, Kkin ks = true → H b = some (.dK kvs) → kvs.map (·.1) = ks.map Sum.inr → H' b = some (.dK kvs)
  i : ∀ b dx fs, H b = some (.ins CK dx fs) → H' b = some (.ins CK dx fs)
theorem Alien.mono {Ks Ls : List Str → Bool} {o : HO} (h : Alien Ls o) (m : ∀ k, Ks k = true → Ls k = true) : Alien Ks o := ⟨h.1, h.2.1, fun kvs ks e hk => h.2.2 kvs ks e (m _ hk)⟩
theorem alien_ins {Ks : List Str → Bool} {C dx : Addr} {fs : List (Str × V)} : Alien Ks (.ins C dx fs) := ⟨fun xs e => (nomatch e), fun o xs e => (nomatch e), fun kvs' ks e hk => (nomatch e)⟩
theorem alien_dT {Ks : List Str → Bool} {kvs : List (List Key × V)} : Alien Ks (.dT kvs) := ⟨fun xs e => (nomatch e), fun o xs e => (nomatch e), fun kvs' ks e hk => (nomatch e)⟩
theorem alien_lst {Ks : List Str → Bool} {xs : List V} : Alien Ks (.lst xs) := ⟨fun xs e => (nomatch e), fun o xs e => (nomatch e), fun kvs' ks e hk => (nomatch e)⟩
theorem alien_frzT {Ks : List Str → Bool} {q : Obj} {kvs : List (List Key × V)} : Alien Ks (.frz q (.dT kvs)) := ⟨fun xs e => (nomatch e), fun o xs e => (by cases e), fun kvs' ks e hk => (nomatch e)⟩
/-- a dict whose first key is a -/
theorem alien_a {kvs : List (Key × V)} (h : (kvs.map (·.1)).head? = some (.inr "a" : Key)) : Alien Kkin (.dK kvs) := alien_dk fun ks hk e => by
  rw [e] at h
  cases ks with
  | nil => cases h
  | cons k ks =>
    have : k = "a" := by
      have h : (some (Sum.inr k) : Option Key) = some (Sum.inr ("a" : Str)) := h
      injection h with h
      exact Sum.inr.inj h
    rw [this] at hk
    simp [Kkin] at hk
theorem apt_a {CK : Addr} {kvs : List (Key × V)} (h : (kvs.map (·.1)).head? = some (.inr "a" : Key)) : Apt CK (.dK kvs) := ⟨alien_a h, fun _ _ e => nomatch e⟩
theorem apt_dT {CK : Addr} {kvs : List (List Key × V)} : Apt CK (.dT kvs) := ⟨alien_dT, fun _ _ e => nomatch e⟩
theorem apt_frzT {CK : Addr} {q : Obj} {kvs : List (List Key × V)} : Apt CK (.frz q (.dT kvs)) := ⟨alien_frzT, fun _ _ e => nomatch e⟩
theorem apt_lst {CK : Addr} {xs : List V} : Apt CK (.lst xs) := ⟨alien_lst, fun _ _ e => nomatch e⟩
theorem apt_ins {CK C dx : Addr} {fs : List (Str × V)} (n : C ≠ CK) : Apt CK (.ins C dx fs) := ⟨alien_ins, fun _ _ e => by cases e; exact n rfl⟩
section
variable {K : PySem.W.Frag} {CW CK : Addr} {H H' H2 : Hp} {S : List Addr}
theorem Calm.same (s : Same H H') : Calm CK H H' := ⟨fun _ _ e => s _ _ e, fun _ _ _ e => s _ _ e, fun _ _ _ _ e _ => s _ _ e, fun _ _ _ e => s _ _ e⟩
theorem Calm.refl (H : Hp) : Calm CK H H := .same (Same.refl H)
theorem Calm.trans (a : Calm CK H H') (b : Calm CK H' H2) : Calm CK H H2 := ⟨fun _ _ e => b.t _ _ (a.t _ _ e), fun _ _ _ e => b.f _ _ _ (a.f _ _ _ e), fun _ _ ks m e k => b.d _ _ ks m (a.d _ _ ks m e k) k, fun _ _ _ e => b.i _ _ _ (a.i _ _ _ e)⟩
theorem Calm.ext (e : ExtN H H') : Calm CK H H' := ⟨fun _ _ h => e _ _ h fun _ z => (nomatch z), fun _ _ _ h => e _ _ h fun _ z => (nomatch z), fun _ _ _ _ h _ => e _ _ h fun _ z => (nomatch z), fun _ _ _ h => e _ _ h fun _ z => (nomatch z)⟩
theorem Calm.ch (c : Ch S H H') (al : ∀ a ∈ S, ∀ o, H a = some o → Apt CK o) : Calm CK H H' :=
  ⟨fun b xs h => c _ _ h fun m => (al b m _ h).al.1 _ rfl, fun b o xs h => c _ _ h fun m => (al b m _ h).al.2.1 _ _ rfl, fun b kvs ks m h k => c _ _ h fun m2 => (al b m2 _ h).al.2.2 _ _ rfl m k, fun b dx fs h => c _ _ h fun m => (al b m _ h).ins _ _ rfl⟩
theorem Calm.upd {a : Addr} {o o' : HO} (e : H a = some o) (h : Apt CK o) : Calm CK H (L2.upd H a o') := .ch (S := [a]) (Ch.upd (by simp)) fun b m q eq => by
  rw [List.mem_singleton.mp m, e] at eq
  cases eq
  exact h
theorem sqt_calm {b : Addr} {us : List V} (h : SqT K H b us) (c : Calm CK H H') : SqT K H' b us := by
  rcases h with (h | ⟨o, h⟩) | h
  · exact .inl (.inl (c.t _ _ h))
  · exact .inl (.inr ⟨o, c.f _ _ _ h⟩)
  · exact .inr h
mutual
theorem Dv.calm (c : Calm CK H H') : ∀ (x : D5) (v : V), kpt Kkin x = true → Dv (O5 K) H x v → Dv (O5 K) H' x v
  | .non, _, _, h => h
  | .bl _, _, _, h => h
  | .int _, _, _, h => h
  | .str _, _, _, h => h
  | .ob _, _, n, _ => nomatch n
  | .tup l, _, n, ⟨b, us, e, h, p⟩ => by
    rw [kpt] at n
    exact ⟨b, us, e, sqt_calm h c, DvL.calm c l us n p⟩
  | .lst l, _, n, _ => by rw [kpt] at n; cases n
  | .map ks l, _, n, ⟨b, kvs, e, h, nd, hk, p⟩ => by
    rw [kpt, Bool.and_eq_true] at n
    exact ⟨b, kvs, e, c.d _ _ ks n.1 h hk, nd, hk, DvL.calm c l _ n.2 p⟩
theorem DvL.calm (c : Calm CK H H') : ∀ (l : List D5) (us : List V), kptL Kkin l = true → DvL (O5 K) H l us → DvL (O5 K) H' l us
  | [], _, _, h => h
  | x :: l, _, n, ⟨u, us, e, h, p⟩ => by
    rw [kptL, Bool.and_eq_true] at n
    exact ⟨u, us, e, Dv.calm c x u n.1 h, DvL.calm c l us n.2 p⟩
end
theorem kv_kin {d : D5} (h : kpt Kval d = true) : kpt Kkin d = true := kpt_mono kval_kin d h
theorem kptL_mem {Ks : List Str → Bool} : ∀ {l : List D5}, kptL Ks l = true → ∀ x ∈ l, kpt Ks x = true
  | y :: l, h, x, hx => by
    rw [kptL, Bool.and_eq_true] at h
    rcases List.mem_cons.mp hx with rfl | hx
    · exact h.1
    · exact kptL_mem h.2 x hx
theorem PD.calm {ps : Prt} {d : Addr} (h : PD K H ps d) (c : Calm CK H H') (kp : ∀ p ∈ ps, kpt Kval p.2 = true) (e : ∀ o, H d = some o → H' d = some o) : PD K H' ps d := by
  obtain ⟨kvs, e1, p⟩ := h
  exact ⟨kvs, e _ e1, p.imp fun q hq v hv => Dv.calm c _ _ (kv_kin (kp q hq)) hv⟩
end
/-! ### kinds -/
structure TsOk (ts : List Tb) : Prop where
  rd : ∀ t ∈ ts, okRd t = true
  nk : Kkin (ts.map (·.name)) = true
/-- the kinds stand -/
def KAt (K : PySem.W.Frag) (CK : Addr) (H : Hp) (kd : Addr) (ts : List Tb) : Prop := ∃ kvs, H kd = some (.dK kvs) ∧ kvs.map (·.1) = (ts.map (·.name)).map Sum.inr ∧ ∀ t ∈ ts, ∃ ak, valV kvs (.inr t.name : Key) = some (.ref ak) ∧ KdAt (O5 K) CK H ak (kindD t)
section
variable {K : PySem.W.Frag} {CW CK : Addr} {H H' H2 : Hp} {kd : Addr} {ts : List Tb}
theorem KdAt.calm {a : Addr} {t : Tb} (o : okRd t = true) (c : Calm CK H H') : KdAt (O5 K) CK H a (kindD t) → KdAt (O5 K) CK H' a (kindD t) :=
  fun ⟨dx, v1, v2, v3, v4, v5, e, w1, w2, w3, w4, w5, e2, h1, h2, h3, h4, h5⟩ =>
    ⟨dx, v1, v2, v3, v4, v5, c.i _ _ _ e, w1, w2, w3, w4, w5, e2, h1, Dv.calm c _ _ (gvs_kpt o) h2, Dv.calm c _ _ mds_kpt h3, Dv.calm c _ _ (si_kpt _) h4, Dv.calm c _ _ hos_kpt h5⟩
theorem KAt.calm (O : TsOk ts) (c : Calm CK H H') (h : KAt K CK H kd ts) : KAt K CK H' kd ts := by
  obtain ⟨kvs, e, ek, f⟩ := h
  refine ⟨kvs, c.d _ _ _ O.nk e ek, ek, fun t ht => ?_⟩
  obtain ⟨ak, e1, h1⟩ := f t ht
  exact ⟨ak, e1, h1.calm (O.rd t ht) c⟩
theorem KdAt.same5 {C a : Addr} {k : Kp Unit} (s : Same H H') : KdAt (O5 K) C H a k → KdAt (O5 K) C H' a k := fun ⟨dx, v1, v2, v3, v4, v5, e, w1, w2, w3, w4, w5, e2, h1, h2, h3, h4, h5⟩ =>
  have P := kps5 (K := K)
  ⟨dx, v1, v2, v3, v4, v5, s _ _ e, w1, w2, w3, w4, w5, e2, P.dv s h1, P.dv s h2, P.dv s h3, P.dv s h4, P.dv s h5⟩
theorem KAt.same (s : Same H H') (h : KAt K CK H kd ts) : KAt K CK H' kd ts := by
  obtain ⟨kvs, e, ek, f⟩ := h
  refine ⟨kvs, s _ _ e, ek, fun t ht => ?_⟩
  obtain ⟨ak, e1, h1⟩ := f t ht
  exact ⟨ak, e1, h1.same5 s⟩
end
/-! ### a world -/
abbrev wfl (kd sd : Addr) (last : Int) : List (Str × V) := [("_kinds", .ref kd), ("_standing", .ref sd), ("_last", .int last)]
theorem wf2 (a b : V) : putF "_standing" b (putF "_kinds" a []) = ([("_kinds", a), ("_standing", b)] : List (Str × V)) := by rw [putF_nil, putF_tl (by decide +kernel), putF_nil]
theorem wf3 (a b c : V) : putF "_last" c [("_kinds", a), ("_standing", b)] = ([("_kinds", a), ("_standing", b), ("_last", c)] : List (Str × V)) := by rw [putF_tl (by decide +kernel), putF_tl (by decide +kernel), putF_nil]
theorem wl1 {kd sd : Addr} {n : Int} : (wfl kd sd n).lookup ("_kinds" : Str) = some (.ref kd) := lk_hd
theorem wl2 {kd sd : Addr} {n : Int} : (wfl kd sd n).lookup ("_standing" : Str) = some (.ref sd) := (lk_tl (by decide +kernel)).trans lk_hd
theorem wl3 {kd sd : Addr} {n : Int} : (wfl kd sd n).lookup ("_last" : Str) = some (.int n) := (lk_tl (by decide +kernel)).trans ((lk_tl (by decide +kernel)).trans lk_hd)
structure TxtW (K : PySem.W.Frag) (mg : Str → Option Value) (CW : Addr) : Prop where
  cl : Cls K CW
  n1 : NoAttr K CW "_kinds"
  n2 : NoAttr K CW "_standing"
  n3 : NoAttr K CW "_last"
  g : mg "World" = some (.ref CW)

abbrev Rs := List (Ro × Addr)
def wkv (p : Ro × Addr) : List Key × V := (keyR p.1, .ref p.2)
def findW (rs : Rs) (k : Str) (n : Nat) : Option (Ro × Addr) := rs.find? fun p => isRow k n p.1
theorem w_get (rs : Rs) (k : Str) (n : Nat) : valV (rs.map wkv) (keyT k n) = (findW rs k n).map fun p => .ref p.2 := by
  induction rs with
  | nil => rfl
  | cons p rs ih =>
    unfold findW at *
    rw [List.map_cons, List.find?_cons]
    by_cases e : keyR p.1 = keyT k n
    · rw [valV_pos (p := wkv p) e, show isRow k n p.1 = true by rw [← isRow_key]; exact decide_eq_true e]
      rfl
    · rw [valV_neg (p := wkv p) e, show isRow k n p.1 = false by rw [← isRow_key]; exact decide_eq_false e]
      exact ih
/-- a world stands -/
structure WAt (K : PySem.W.Frag) (CW : Addr) (H : Hp) (aw kd sd : Addr) (rs : Rs) (last : Nat) : Prop where
  w : ∃ dx, H aw = some (.ins CW dx (wfl kd sd (last : Int)))
  s : H sd = some (.dT (rs.map wkv))
  r : ∀ p ∈ rs, PD K H p.1.ps p.2
theorem WAt.same {K : PySem.W.Frag} {CW : Addr} {H H' : Hp} {aw kd sd : Addr} {rs : Rs} {last : Nat} (h : WAt K CW H aw kd sd rs last) (s : Same H H') : WAt K CW H' aw kd sd rs last := by
  obtain ⟨dx, e⟩ := h.w
  exact ⟨⟨dx, s _ _ e⟩, s _ _ h.s, fun p hp => (h.r p hp).same s⟩
/-- rows as they may stand -/
structure WOk (ts : List Tb) (rs : Rs) (last : Nat) : Prop where
  ok : ∀ p ∈ rs, OkR p.1
  nk : (rs.map fun p => keyR p.1).Nodup
  nd : (rs.map (·.2)).Nodup
  le : ∀ p ∈ rs, p.1.n ≤ last
  ln : rs.length ≤ 1000
  kd : ∀ p ∈ rs, ∃ t ∈ ts, t.name = p.1.kind
section
variable {K : PySem.W.Frag} {CW CK : Addr} {H H' : Hp} {aw kd sd : Addr} {rs : Rs} {last : Nat} {ts : List Tb}
/-- all that a world may change -/
abbrev own (aw sd : Addr) (rs : Rs) : List Addr := aw :: sd :: rs.map (·.2)
theorem PD.apt {ps : Prt} {d : Addr} {o : HO} (h : PD K H ps d) (hd : (ps.map (·.1)).head? = some "a") (e : H d = some o) : Apt CK o := by
  obtain ⟨kvs, e1, p⟩ := h
  rw [e1] at e
  cases e
  refine apt_a ?_
  rw [p.keys, List.head?_map, hd]
  rfl
theorem WAt.apt (ne : CW ≠ CK) (h : WAt K CW H aw kd sd rs last) (W : WOk ts rs last) : ∀ a ∈ own aw sd rs, ∀ o, H a = some o → Apt CK o := by
  intro a m o e
  obtain ⟨dx, ew⟩ := h.w
  rcases List.mem_cons.mp m with rfl | m
  · rw [ew] at e; cases e; exact apt_ins ne
  rcases List.mem_cons.mp m with rfl | m
  · rw [h.s] at e; cases e; exact apt_dT
  · obtain ⟨p, hp, rfl⟩ := List.mem_map.mp m
    exact (h.r p hp).apt (W.ok p hp).hd e
theorem WAt.calm (h : WAt K CW H aw kd sd rs last) (W : WOk ts rs last) (c : Calm CK H H') (e : ∀ a ∈ own aw sd rs, ∀ o, H a = some o → H' a = some o) : WAt K CW H' aw kd sd rs last := by
  obtain ⟨dx, ew⟩ := h.w
  exact ⟨⟨dx, e _ (by simp) _ ew⟩, e _ (by simp) _ h.s, fun p hp => (h.r p hp).calm c (W.ok p hp).kp (e _ (by simp only [List.mem_cons]; exact .inr (.inr (List.mem_map_of_mem (f := (·.2)) hp))))⟩
theorem find_row (W : WOk ts rs last) {p : Ro × Addr} (hp : p ∈ rs) : findW rs p.1.kind p.1.n = some p := by
  have nk := W.nk
  clear W
  induction rs with
  | nil => cases hp
  | cons q rs ih =>
    unfold findW at *
    rw [List.map_cons, List.nodup_cons] at nk
    rw [List.find?_cons]
    by_cases e : keyR q.1 = keyR p.1
    · rcases List.mem_cons.mp hp with rfl | hp
      · rw [show isRow p.1.kind p.1.n p.1 = true by rw [← isRow_key]; exact decide_eq_true rfl]
      · exact absurd (by rw [e]; exact List.mem_map_of_mem (f := fun p : Ro × Addr => keyR p.1) hp) nk.1
    · rw [show isRow p.1.kind p.1.n q.1 = false by rw [← isRow_key]; exact decide_eq_false e]
      rcases List.mem_cons.mp hp with rfl | hp
      · exact absurd rfl e
      · exact ih hp nk.2
theorem findW_mem {k : Str} {n : Nat} {p : Ro × Addr} (h : findW rs k n = some p) : p ∈ rs ∧ p.1.kind = k ∧ p.1.n = n := ⟨List.mem_of_find?_eq_some h, isRow_iff.mp (List.find?_some (p := fun p : Ro × Addr => isRow k n p.1) h)⟩
end
abbrev sWI : Stmt := inClass (tp 35) 0
abbrev NWI : List Str := ["self", "kinds", "name"]
theorem scWI : FnScope NWI ["self", "kinds"] (defScope sWI) := ⟨rfl, rfl, rfl, by decide +kernel, rfl, by decide +kernel, by decide +kernel⟩
def spWI (K : PySem.W.Frag) (CW : Addr) : Sp := fun vs H Q _ => ∃ (aw dx kk : Addr) (kvs : List (Key × V)), vs = [.ref aw, .ref kk] ∧ H aw = some (.ins CW dx []) ∧ H kk = some (.dK kvs) ∧ (kvs.map (·.1)).Nodup ∧ kvs.length ≤ 1000 ∧
  ∀ (kd sd : Addr) (H' : Hp), H kd = none → H sd = none → Ch [aw] H H' → H' kd = some (.dK kvs) → WAt K CW H' aw kd sd [] 0 → Q .non H'
/-- what is_tag tells, and a Tag that stands -/
structure TArg (K : PySem.W.Frag) (H : Hp) (d : D5) (v : V) : Prop where
  dv : Dv (O5 K) H d v
  ok : okTag d = true
  tg : tagD d = true → ∃ b k n, v = .ref b ∧ H b = some (.tup [.str "#", .str k, .int ((n : Nat) : Int)]) ∧ d = tagOf k n
theorem TArg.same {K : PySem.W.Frag} {H H' : Hp} {d : D5} {v : V} (h : TArg K H d v) (s : Same H H') : TArg K H' d v := ⟨(kps5 (K := K)).dv s h.dv, h.ok, fun e => by
  obtain ⟨b, k, n, e1, e2, e3⟩ := h.tg e
  exact ⟨b, k, n, e1, s _ _ e2, e3⟩⟩

/-- the row that a thing names -/
def rowD (rs : Rs) : D5 → Option (Ro × Addr)
  | .tup [.str _, .str k, .int n] => if 0 ≤ n then findW rs k n.toNat else none
  | _ => none
def hasD (rs : Rs) (d : D5) : Bool := tagD d && (rowD rs d).isSome
theorem rowD_tag {rs : Rs} {k : Str} {n : Nat} : rowD rs (tagOf k n) = findW rs k n := by
  show (if (0 : Int) ≤ (n : Int) then findW rs k (n : Int).toNat else none) = _
  rw [if_pos (by omega), Int.toNat_natCast]
abbrev sHas : Stmt := inClass (tp 35) 8
theorem scHas : FnScope ["self", "tag"] ["self", "tag"] (defScope sHas) := ⟨rfl, rfl, rfl, by decide +kernel, rfl, by decide +kernel, by decide +kernel⟩
def spHas (K : PySem.W.Frag) (CW : Addr) : Sp := fun vs H Q _ => ∃ (aw kd sd : Addr) (v : V) (d : D5) (rs : Rs) (last : Nat), vs = [.ref aw, v] ∧ WAt K CW H aw kd sd rs last ∧ TArg K H d v ∧ ∀ H', Same H H' → Q (.bl (hasD rs d)) H'
abbrev sRG : Stmt := inClass (tp 35) 9
theorem scRG : FnScope ["self", "tag"] ["self", "tag"] (defScope sRG) := ⟨rfl, rfl, rfl, by decide +kernel, rfl, by decide +kernel, by decide +kernel⟩
def spRG (K : PySem.W.Frag) (CW : Addr) : Sp := fun vs H Q _ => ∃ (aw kd sd : Addr) (v : V) (d : D5) (rs : Rs) (last : Nat), vs = [.ref aw, v] ∧ WAt K CW H aw kd sd rs last ∧ TArg K H d v ∧ hasD rs d = true ∧ ∀ H', Same H H' → Q .non H'
theorem eb_has {ty td : TE} {σ : L2.St} {H : Hp} {rs : Rs} {sd b : Addr} {k : Str} {n : Nat} (h : EP ty σ H fun v H => v = .ref b ∧ H b = some (.tup [.str "#", .str k, .int (n : Int)])) (h2 : EP td σ H fun v H => v = .ref sd ∧ H sd = some (.dT (rs.map wkv))) :
    EB (tDIn ty td) σ H (findW rs k n).isSome := fun H1 s Q q => h H1 s _ fun v H2 s2 ⟨ev, eb⟩ => h2 H2 (Same.trans s s2) _ fun u H3 s3 ⟨eu, es⟩ => by
  subst ev eu
  refine ⟨sd, _, rfl, DGet.t (k := keyT k n) es (s3 _ _ eb), ?_⟩
  rw [w_get, Option.isSome_map]
  exact q _ H3 (Same.trans s2 s3) rfl
section
variable {P : Program} {w : World} {K : PySem.W.Frag} {mg : Str → Option Value} {base : Heap} {CW : Addr}
theorem ok_wi {f : Addr} {fd : FuncData} (F : Fun K "__init__" "World.__init__" sWI f fd) (T : TxtW K mg CW) : FnOk P w K mg base CX0 1 f fd ["self", "kinds"] (spWI K CW) := by
  refine F.ok scWI (fun vs H Q E h => ?_) (fun cdv A outer s H vs Q E hr h => ?_)
  · obtain ⟨aw, dx, kk, kvs, rfl, _⟩ := h
    rfl
  · obtain ⟨aw, dx, kk, kvs, rfl, hw, hk, nd, hl, q⟩ := h
    refine ⟨_, pss_cons (ps_fld (pv 0) (pe_lock (pe_dc (own := [("name", 2)]) (g := gName 2) (tt := tYes) rfl scWI.nd (pi_keys (pv 1)) (blkOk_by (N := NWI) (sc := defScope sWI) (by decide +kernel)) (fun _ _ _ _ _ => pg_name (i := 2) scWI.nd rfl (Or.inl rfl)) (fun _ _ _ _ _ => pts_nil) (fun _ _ _ _ _ => pv 2)
          (fun _ _ _ _ _ => pe_dget (hu_of hr) (pv 1) (pv 2) (fun _ _ => rfl)))) rfl)
      (pss_cons (ps_fld (pv 0) pe_dnewT rfl) (pss_one (ps_fld (pv 0) pe_int rfl))), ?_⟩
    refine ⟨kk, .dK kvs, hk, True.intro, fun od => ⟨_, rfl, kk, od, rfl, .inl ⟨kvs, upd_same, fun D hD => ?_⟩⟩⟩
    have nDk : D ≠ kk := fun e => by rw [e, upd_same] at hD; cases hD
    have hD0 : H D = none := by rwa [upd_ne nDk] at hD
    have nwk : aw ≠ kk := fun e => by rw [e, hk] at hw; cases hw
    refine Sd.dc_it (walk_keys (d := kk) (o := od) (kvs := kvs)) (fun i H' => (H' kk = some (.frz od (.dK kvs)) ∧ Ch [kk] H H') ∧ H' D = some (.dK (kvs.take i)))
      ⟨⟨(upd_ne (Ne.symm nDk)).trans upd_same, Ch.updNew (Ch.upd (by simp)) hD0⟩, upd_same⟩ (fun i H' _ h => h.1.1) (fun i x H2 H3 hlt h y => ?_) (fun H2 h => ?_)
    · obtain ⟨⟨e1, e2⟩, e3⟩ := h
      obtain ⟨rfl, k, v, e6, rfl⟩ := y
      refine ⟨rfl, _, rfl, _, rfl, _, rfl, kk, v, rfl, .inl ⟨kvs, k, .inr ⟨od, e1⟩, rfl, (find_at nd e6).symm⟩, kvs.take i, k, rfl, e3, Nat.lt_of_le_of_lt (Nat.le_trans (List.length_take_le' _ _) hl) (show 1000 < sizeLine by decide), ⟨(upd_ne (Ne.symm nDk)).trans e1, Ch.updNew e2 hD0⟩, ?_⟩
      rw [upd_same]
      have nz : valV (kvs.take i) k = none := by
        unfold valV
        rw [Option.map_eq_none_iff, List.find?_eq_none]
        intro p hp
        simp only [decide_eq_true_eq]
        intro q2
        have hi : i < kvs.length := (List.getElem?_eq_some_iff.mp e6).1
        have nn := nd
        rw [← List.take_append_drop i kvs, List.map_append] at nn
        refine (List.nodup_append.mp nn).2.2 p.1 (List.mem_map_of_mem (f := (·.1)) hp) k ?_ q2
        rw [List.drop_eq_getElem_cons hi, (List.getElem?_eq_some_iff.mp e6).2]
        exact List.mem_cons_self
      rw [putK_new v nz, take_succ' e6]
    · obtain ⟨⟨e1, e2⟩, e3⟩ := h
      rw [List.take_length] at e3
      have c3 : Ch [] H (upd H2 kk (.dK kvs)) := fun c o e _ => by
        by_cases n : c = kk
        · subst n
          rw [hk] at e
          cases e
          exact upd_same
        · exact (upd_ne n).trans (e2 c o e (by simpa using n))
      have hw3 := c3 _ _ hw (by simp)
      have hD3 : (upd H2 kk (.dK kvs)) D = some (.dK kvs) := (upd_ne nDk).trans e3
      refine ⟨e1, ?_⟩
      generalize upd H2 kk (.dK kvs) = H3 at c3 hw3 hD3
      refine ⟨_, rfl, aw, CW, dx, [], rfl, hw3, T.cl, T.n1, by show 0 < 1000; decide, fun S nS => ⟨_, rfl, aw, CW, dx, [("_kinds", .ref D)], rfl, ?_, T.cl, T.n2, by show 1 < 1000; decide, ?_⟩⟩
      · exact (upd_ne fun e => by rw [← e, upd_same] at nS; cases nS).trans upd_same
      rw [show putF "_standing" (V.ref S) [(("_kinds" : Str), V.ref D)] = [(("_kinds" : Str), V.ref D), ("_standing", V.ref S)] from wf2 _ _]
      refine ⟨_, rfl, aw, CW, dx, _, rfl, upd_same, T.cl, T.n3, by show 2 < 1000; decide, ?_⟩
      rw [wf3]
      have nSw : S ≠ aw := fun e => by rw [e, upd_same] at nS; cases nS
      have nDw : D ≠ aw := fun e => by rw [e, hw] at hD0; cases hD0
      have nDS : D ≠ S := fun e => by rw [← e, upd_ne nDw, hD3] at nS; cases nS
      have hS : H S = none := by
        cases e : H S with
        | none => rfl
        | some o => rw [upd_ne nSw, c3 _ _ e (by simp)] at nS; cases nS
      refine q D S _ hD0 hS (fun c o e n => ?_) ?_ ⟨⟨dx, upd_same⟩, ?_, fun p hp => nomatch hp⟩
      · have nc : c ≠ aw := by simpa using n
        rw [upd_ne nc, upd_ne nc, upd_ne (ne_of_none e hS), upd_ne nc]
        exact c3 c o e (by simp)
      · rw [upd_ne nDw, upd_ne nDw, upd_ne nDS, upd_ne nDw]
        exact hD3
      · rw [upd_ne nSw, upd_ne nSw, upd_same]
        rfl

theorem ok_has {f fT : Addr} {fd fdT : FuncData} (F : Fun K "_has" "World._has" sHas f fd) (T : TxtW K mg CW) (DT : Def P w K mg base 2 "is_tag" fT fdT ["thing"] (spV K okTag tagD)) : FnOk P w K mg base CX0 3 f fd ["self", "tag"] (spHas K CW) := by
  refine F.ok scHas (fun vs H Q E h => ?_) (fun cdv A outer s H vs Q E hr h => ?_)
  · obtain ⟨aw, kd, sd, v, d, rs, last, rfl, _⟩ := h
    rfl
  · obtain ⟨aw, kd, sd, v, d, rs, last, rfl, hw, hv, q⟩ := h
    refine ⟨_, pss_one (ps_ret (pe_and (pe_call DT.ok hr rfl DT.g DT.kp DT.b .nil pass0 (pa_cons (pv 1) pa_nil)) (pe_one (pe_cmp (pc_din (hu_of hr) (pv 1) (pe_fld (pv 0) rfl)) rfl)))), ?_⟩
    have P := kps5 (K := K)
    obtain ⟨dx, ew⟩ := hw.w
    refine EP.ret (eb_and (b := tagD d) (c := (rowD rs d).isSome) (fun H1 s1 Q1 q1 => ⟨_, rfl, v, d, rfl, P.dv s1 hv.dv, hv.ok, fun H2 s2 => q1 _ H2 s2 rfl⟩) fun et => ?_) fun u H1 s1 e => ?_
    · obtain ⟨b, k, n, e1, e2, e3⟩ := hv.tg et
      rw [e3, rowD_tag]
      exact eb_has (sd := sd) (b := b) (fun H1 s1 Q1 q1 => ⟨_, rfl, q1 v H1 (Same.refl _) ⟨e1, s1 _ _ e2⟩⟩) (fun H1 s1 Q1 q1 => ⟨_, rfl, aw, CW, dx, _, _, rfl, s1 _ _ ew, T.cl, T.n2, wl2, q1 _ H1 (Same.refl _) ⟨rfl, s1 _ _ hw.s⟩⟩)
    · rw [e]
      exact q H1 s1
theorem ok_rg {f fH : Addr} {fd fdH : FuncData} (F : Fun K "_refuse_gone" "World._refuse_gone" sRG f fd) (T : TxtW K mg CW) (M : Meth K CW "_has" fH) (GH : FnOk P w K mg base CX0 3 fH fdH ["self", "tag"] (spHas K CW)) (bH : Binds K fdH ["self", "tag"] []) :
    FnOk P w K mg base CX0 4 f fd ["self", "tag"] (spRG K CW) := by
  refine F.ok scRG (fun vs H Q E h => ?_) (fun cdv A outer s H vs Q E hr h => ?_)
  · obtain ⟨aw, kd, sd, v, d, rs, last, rfl, _⟩ := h
    rfl
  · obtain ⟨aw, kd, sd, v, d, rs, last, rfl, hw, hv, eh, q1⟩ := h
    obtain ⟨dx, ew⟩ := hw.w
    refine ⟨_, pss_one (ps_if (pt_not (pt_val (pe_meth (pv 0) T.cl M GH (hr.mono (by decide)) bH .nil pass0 (pa_cons (pv 1) pa_nil)))) Ow.pss_nv pss_nil), ?_⟩
    have lkn : (wfl kd sd (last : Int)).lookup ("_has" : Str) = none := (lk_tl (by decide +kernel)).trans ((lk_tl (by decide +kernel)).trans ((lk_tl (by decide +kernel)).trans rfl))
    refine ⟨_, rfl, aw, dx, _, rfl, ew, lkn, _, rfl, aw, kd, sd, v, d, rs, last, rfl, hw, hv, fun H1 s1 => ⟨_, rfl, ?_⟩⟩
    rw [eh]
    exact Vl.iteN rfl (q1 H1 s1)
end
end Kd
namespace Ed
open PySem PySem.Spec PyProof.Rows L2 Dq Vl Kd
variable {K : PySem.W.Frag} {σ : L2.St} {H : Hp} {te ta tb : TE} {CK : Addr}
/-- for over a tuple of kept data, other things changing -/
theorem for_tupC {l : List D5} {g : TG} {t : TS} {D : Ends} (h : ED (O5 K) ta σ H (.tup l)) (kp : kpt Kkin (.tup l) = true)
    (k : ∀ H1, Same H H1 → ∃ Pv : Nat → L2.St → Hp → Prop, Pv 0 σ H1 ∧ (∀ i σ' H', i ≤ l.length → Pv i σ' H' → Calm CK H1 H') ∧
      (∀ i d u σ' H', l[i]? = some d → Pv i σ' H' → Dv (O5 K) H' d u → g u σ' H' fun σ2 H2 => t { D with nx := Pv (i + 1), ct := Pv (i + 1), bk := D.nx } σ2 H2) ∧ ∀ σ' H', Pv l.length σ' H' → D.nx σ' H') :
    tFor (iTup K ta) g t D σ H := h.run fun v H1 s1 ⟨a, us, e, ha, hl⟩ => by
  subst e
  obtain ⟨Pv, p0, pc, ps, pe⟩ := k H1 s1
  have el := hl.len
  have ha : SqT K H1 a us := ha
  refine ⟨a, rfl, ⟨us, ha⟩, ?_⟩
  refine for_it (walk_tup (xs := us)) Pv p0 (fun i σ' H' hi p => sqt_calm ha (pc i σ' H' (by omega) p)) (fun i x σ' H2 H3 hi p y => ?_) (fun σ' H' p => pe σ' H' (by rw [← el]; exact p))
  obtain ⟨rfl, ex⟩ := y
  obtain ⟨d, ed, hd⟩ := rowAt hl ex
  rw [kpt] at kp
  exact ps i d x σ' H3 ed p (Dv.calm (pc i σ' H3 (by omega) p) d x (kptL_mem kp d (List.mem_of_getElem? ed)) hd)
/-- a, b = a pair -/
theorem g_pair {d e : D5} {u : V} {H : Hp} {i j : Nat} {Q : L2.St → Hp → Prop} (h : Dv (O5 K) H (.tup [d, e]) u) (k : ∀ v w, Dv (O5 K) H d v → Dv (O5 K) H e w → Q ((σ.set i (some v)).set j (some w)) H) :
    gTup K 2 (gCons (gName i) (gCons (gName j) gNil)) u σ H Q := by
  obtain ⟨a, us, rfl, ha, u1, r1, rfl, h1, u2, r2, rfl, h2, e3⟩ := h
  cases (show r2 = [] from e3)
  exact ⟨a, _, rfl, ha, rfl, _, _, rfl, _, _, rfl, rfl, k u1 u2 h1 h2⟩

end Ed
namespace Kd
open PySem PySem.Spec PyProof.Rows L2 Dq Vl Pf Ed ClX
section
variable {K : PySem.W.Frag} {mg : Str → Option Value} {σ : L2.St} {H : Hp} {CW CK aw kd sd : Addr} {rs : Rs} {last : Nat} {ts : List Tb} {t : Tb} {i : Nat} {tk : TE}
theorem ep_kinds (T : TxtW K mg CW) (hw : WAt K CW H aw kd sd rs last) (e : σ[i]? = some (some (.ref aw))) : EP (tFld K (tVar i) "_kinds") σ H fun v _ => v = .ref kd := ep_fld (K := K) fun H1 s Q k => by
  obtain ⟨dx, ew⟩ := hw.w
  exact ⟨_, e, k _ H1 (Same.refl _) ⟨aw, CW, dx, _, _, rfl, s _ _ ew, T.cl, T.n1, wl1, rfl⟩⟩
theorem ep_stand (T : TxtW K mg CW) (hw : WAt K CW H aw kd sd rs last) (e : σ[i]? = some (some (.ref aw))) : EP (tFld K (tVar i) "_standing") σ H fun v _ => v = .ref sd := ep_fld (K := K) fun H1 s Q k => by
  obtain ⟨dx, ew⟩ := hw.w
  exact ⟨_, e, k _ H1 (Same.refl _) ⟨aw, CW, dx, _, _, rfl, s _ _ ew, T.cl, T.n2, wl2, rfl⟩⟩
/-- self._kinds[kind] -/
theorem ep_kind (T : TxtW K mg CW) (hw : WAt K CW H aw kd sd rs last) (hk : KAt K CK H kd ts) (ht : t ∈ ts) (e : σ[i]? = some (some (.ref aw))) (h : EP tk σ H fun v _ => v = .str t.name) :
    EP (tDGet (tFld K (tVar i) "_kinds") tk) σ H fun v H2 => ∃ a, v = .ref a ∧ KdAt (O5 K) CK H2 a (kindD t) := ep_dK (fun H1 s Q q => ep_kinds T hw e H1 s _ fun v H2 s2 ev => by
  obtain ⟨kvs, ek, _, f⟩ := hk.same (Same.trans s s2)
  obtain ⟨ak, e1, h1⟩ := f t ht
  exact q v H2 s2 ⟨kd, _, _, ev, ek, e1, fun H3 s3 => ⟨_, rfl, h1.same5 s3⟩⟩) h
/-- self._standing[tag] -/
theorem ep_row (T : TxtW K mg CW) (hw : WAt K CW H aw kd sd rs last) {b : Addr} {k : Str} {n : Nat} {p : Ro × Addr} (e : σ[i]? = some (some (.ref aw))) (h : EP tk σ H fun v H => v = .ref b ∧ H b = some (.tup [.str "#", .str k, .int (n : Int)])) (ef : findW rs k n = some p) :
    EP (tDGet (tFld K (tVar i) "_standing") tk) σ H fun v H2 => v = .ref p.2 := fun H1 s Q q => ep_stand T hw e H1 s _ fun v H2 s2 ev => h H2 (Same.trans s s2) _ fun y H3 s3 ⟨ey, eb⟩ => by
  subst ev ey
  have hs := (hw.same (Same.trans s (Same.trans s2 s3))).s
  exact ⟨sd, _, rfl, .inr ⟨_, keyT k n, b, .inl hs, rfl, eb, by rw [w_get, ef]; rfl⟩, q _ H3 (Same.trans s2 s3) rfl⟩
variable {te : TE} {k : Kp Unit}
theorem ed_made (T : TxtKi K mg CK) (h : EP te σ H fun v H2 => ∃ a, v = .ref a ∧ KdAt (O5 K) CK H2 a k) : ED (O5 K) (tFld K te "made") σ H k.m := ep_fld (K := K) fun H1 s Q q => h H1 s _ fun v H2 s2 ⟨a, e, dx, v1, v2, v3, v4, v5, ha, w1, w2, w3, w4, w5, e2, h1, h2, h3, h4, h5⟩ => by
  cases e2
  exact q v H2 s2 ⟨a, CK, dx, _, _, e, ha, T.cl, T.n3, (lk_tl (by decide +kernel)).trans ((lk_tl (by decide +kernel)).trans lk_hd), h3⟩
theorem ed_given (T : TxtKi K mg CK) (h : EP te σ H fun v H2 => ∃ a, v = .ref a ∧ KdAt (O5 K) CK H2 a k) : ED (O5 K) (tFld K te "given") σ H k.g := ep_fld (K := K) fun H1 s Q q => h H1 s _ fun v H2 s2 ⟨a, e, dx, v1, v2, v3, v4, v5, ha, w1, w2, w3, w4, w5, e2, h1, h2, h3, h4, h5⟩ => by
  cases e2
  exact q v H2 s2 ⟨a, CK, dx, _, _, e, ha, T.cl, T.n2, (lk_tl (by decide +kernel)).trans lk_hd, h2⟩
theorem ed_single (T : TxtKi K mg CK) (h : EP te σ H fun v H2 => ∃ a, v = .ref a ∧ KdAt (O5 K) CK H2 a k) : ED (O5 K) (tFld K te "single") σ H k.s := ep_fld (K := K) fun H1 s Q q => h H1 s _ fun v H2 s2 ⟨a, e, dx, v1, v2, v3, v4, v5, ha, w1, w2, w3, w4, w5, e2, h1, h2, h3, h4, h5⟩ => by
  cases e2
  exact q v H2 s2 ⟨a, CK, dx, _, _, e, ha, T.cl, T.n4, (lk_tl (by decide +kernel)).trans ((lk_tl (by decide +kernel)).trans ((lk_tl (by decide +kernel)).trans lk_hd)), h4⟩
theorem ed_holds (T : TxtKi K mg CK) (h : EP te σ H fun v H2 => ∃ a, v = .ref a ∧ KdAt (O5 K) CK H2 a k) : ED (O5 K) (tFld K te "holds") σ H k.h := ep_fld (K := K) fun H1 s Q q => h H1 s _ fun v H2 s2 ⟨a, e, dx, v1, v2, v3, v4, v5, ha, w1, w2, w3, w4, w5, e2, h1, h2, h3, h4, h5⟩ => by
  cases e2
  exact q v H2 s2 ⟨a, CK, dx, _, _, e, ha, T.cl, T.n5, (lk_tl (by decide +kernel)).trans ((lk_tl (by decide +kernel)).trans ((lk_tl (by decide +kernel)).trans ((lk_tl (by decide +kernel)).trans lk_hd))), h5⟩
end
end Kd

set_option Elab.async false
set_option linter.all false
set_option maxRecDepth 100000
set_option maxHeartbeats 4000000
/-! World: a row is changed; _as_chosen, _as_told, _refuse_taken, _next_tag, _mark, _surround -/
namespace Kd
open PySem PySem.Spec PyProof.Rows L2 Dq Vl Pf Ed ClX
/-- the row at d has these parts -/
def setW (rs : Rs) (d : Addr) (ps : Prt) : Rs := rs.map fun p => if p.2 = d then ({ p.1 with ps := ps }, p.2) else p
theorem setW_wkv {rs : Rs} {d : Addr} {ps : Prt} : (setW rs d ps).map wkv = rs.map wkv := by
  unfold setW
  rw [List.map_map]
  refine List.map_congr_left fun p _ => ?_
  show wkv (if p.2 = d then _ else p) = wkv p
  split <;> rfl
theorem setW_key {rs : Rs} {d : Addr} {ps : Prt} : (setW rs d ps).map (fun p => keyR p.1) = rs.map fun p => keyR p.1 := by
  unfold setW
  rw [List.map_map]
  refine List.map_congr_left fun p _ => ?_
  show keyR (if p.2 = d then _ else p).1 = keyR p.1
  split <;> rfl
theorem setW_snd {rs : Rs} {d : Addr} {ps : Prt} : (setW rs d ps).map (·.2) = rs.map (·.2) := by
  unfold setW
  rw [List.map_map]
  refine List.map_congr_left fun p _ => ?_
  show (if p.2 = d then _ else p).2 = p.2
  split <;> rfl
theorem setW_two {rs : Rs} {d : Addr} {ps qs : Prt} : setW (setW rs d ps) d qs = setW rs d qs := by
  unfold setW
  rw [List.map_map]
  refine List.map_congr_left fun p _ => ?_
  show (if (if p.2 = d then _ else p).2 = d then _ else _) = _
  by_cases e : p.2 = d
  · simp only [e, if_true]
  · simp only [e, if_false]
theorem setW_id {rs : Rs} {p : Ro × Addr} (nd : (rs.map (·.2)).Nodup) (hp : p ∈ rs) : setW rs p.2 p.1.ps = rs := by
  have : ∀ q ∈ rs, (if q.2 = p.2 then (({ q.1 with ps := p.1.ps } : Ro), q.2) else q) = q := fun q hq => by
    by_cases e : q.2 = p.2
    · rw [if_pos e]
      obtain ⟨i, hi, ei⟩ := List.getElem_of_mem hq
      obtain ⟨j, hj, ej⟩ := List.getElem_of_mem hp
      have : q = p := by
        have h := (List.getElem_inj (i := i) (j := j) (h₀ := by simpa using hi) (h₁ := by simpa using hj) nd).mp (by simp [ei, ej, e])
        subst h
        rw [← ei, ← ej]
      rw [this]
    · rw [if_neg e]
  unfold setW
  rw [List.map_congr_left this, List.map_id']
theorem inj_snd {rs : Rs} {p q : Ro × Addr} (nd : (rs.map (·.2)).Nodup) (hp : p ∈ rs) (hq : q ∈ rs) (e : q.2 = p.2) : q = p := by
  obtain ⟨i, hi, ei⟩ := List.getElem_of_mem hq
  obtain ⟨j, hj, ej⟩ := List.getElem_of_mem hp
  have h := (List.getElem_inj (i := i) (j := j) (h₀ := by simpa using hi) (h₁ := by simpa using hj) nd).mp (by simp [ei, ej, e])
  subst h
  rw [← ei, ← ej]
theorem setW_mem {rs : Rs} {d : Addr} {ps : Prt} {q : Ro × Addr} (h : q ∈ setW rs d ps) : (q ∈ rs ∧ q.2 ≠ d) ∨ ∃ p ∈ rs, p.2 = d ∧ q = ({ p.1 with ps := ps }, d) := by
  obtain ⟨p, hp, e⟩ := List.mem_map.mp h
  by_cases z : p.2 = d
  · rw [if_pos z] at e
    exact .inr ⟨p, hp, z, by rw [← e, z]⟩
  · rw [if_neg z] at e
    rw [← e]
    exact .inl ⟨hp, z⟩
theorem mem_setW {rs : Rs} {ps : Prt} {p : Ro × Addr} (h : p ∈ rs) : ({ p.1 with ps := ps }, p.2) ∈ setW rs p.2 ps := List.mem_map.mpr ⟨p, h, if_pos rfl⟩
theorem setW_find {rs : Rs} {ps : Prt} {k : Str} {n : Nat} {p : Ro × Addr} (nd : (rs.map (·.2)).Nodup) (h : findW rs k n = some p) : findW (setW rs p.2 ps) k n = some ({ p.1 with ps := ps }, p.2) := by
  have key : ∀ l : Rs, (∀ q ∈ l, q ∈ rs) → l.find? (fun q => isRow k n q.1) = some p → (l.map fun q => if q.2 = p.2 then (({ q.1 with ps := ps } : Ro), q.2) else q).find? (fun q => isRow k n q.1) = some ({ p.1 with ps := ps }, p.2) := by
    have mp := (findW_mem h).1
    intro l
    induction l with
    | nil => intro _ e; cases e
    | cons q l ih =>
      intro sub e
      rw [List.find?_cons] at e
      rw [List.map_cons, List.find?_cons]
      have hi : isRow k n (if q.2 = p.2 then (({ q.1 with ps := ps } : Ro), q.2) else q).1 = isRow k n q.1 := by split <;> rfl
      rw [hi]
      cases ei : isRow k n q.1 with
      | true =>
        rw [ei] at e
        cases e
        rw [if_pos rfl]
      | false =>
        rw [ei] at e
        exact ih (fun q hq => sub q (List.mem_cons_of_mem _ hq)) e
  exact key rs (fun q h => h) h
section
variable {K : PySem.W.Frag} {CW CK : Addr} {H H' : Hp} {aw kd sd : Addr} {rs : Rs} {last : Nat} {ts : List Tb} {p : Ro × Addr}
theorem WOk.set {ps : Prt} (W : WOk ts rs last) (o : ∀ p ∈ rs, p.2 = d → OkR { p.1 with ps := ps }) : WOk ts (setW rs d ps) last where
  ok := fun q hq => by
    rcases setW_mem hq with ⟨h, _⟩ | ⟨p, hp, e, rfl⟩
    · exact W.ok q h
    · exact o p hp e
  nk := by rw [setW_key]; exact W.nk
  nd := by rw [setW_snd]; exact W.nd
  le := fun q hq => by
    rcases setW_mem hq with ⟨h, _⟩ | ⟨p, hp, e, rfl⟩
    · exact W.le q h
    · exact W.le p hp
  ln := by unfold setW; rw [List.length_map]; exact W.ln
  kd := fun q hq => by
    rcases setW_mem hq with ⟨h, _⟩ | ⟨p, hp, e, rfl⟩
    · exact W.kd q h
    · exact W.kd p hp
theorem WOk.setP {ps : Prt} (W : WOk ts rs last) (m : p ∈ rs) (o : OkR { p.1 with ps := ps }) : WOk ts (setW rs p.2 ps) last := W.set fun q hq e => by rw [inj_snd W.nd m hq e]; exact o
theorem WOk.mono {n : Nat} (W : WOk ts rs last) (h : last ≤ n) : WOk ts rs n := ⟨W.ok, W.nk, W.nd, fun p hp => Nat.le_trans (W.le p hp) h, W.ln, W.kd⟩
/-- a part is put into a row -/
theorem WAt.put (h : WAt K CW H aw kd sd rs last) (W : WOk ts rs last) (m : p ∈ rs) {s : Str} {x : D5} {v : V} (hv : Dv (O5 K) H x v) (kx : kpt Kval x = true) {kvs : List (Key × V)} (e : H p.2 = some (.dK kvs)) :
    WAt K CW (upd H p.2 (.dK (putK kvs (.inr s : Key) v))) aw kd sd (setW rs p.2 (putS p.1.ps s x)) last ∧ Calm CK H (upd H p.2 (.dK (putK kvs (.inr s : Key) v))) ∧ p.2 ≠ aw ∧ p.2 ≠ sd := by
  obtain ⟨dx, ew⟩ := h.w
  have na : p.2 ≠ aw := fun q => by rw [q, ew] at e; cases e
  have ns : p.2 ≠ sd := fun q => by rw [q, h.s] at e; cases e
  obtain ⟨kvs', e', pts⟩ := h.r p m
  rw [e] at e'
  cases e'
  have okp := W.ok p m
  have cm : Calm CK H (upd H p.2 (.dK (putK kvs (.inr s : Key) v))) := .upd e (apt_a (by rw [pts.keys, List.head?_map, okp.hd]; rfl))
  refine ⟨⟨⟨dx, (upd_ne (Ne.symm na)).trans ew⟩, by rw [setW_wkv]; exact (upd_ne (Ne.symm ns)).trans h.s, fun q hq => ?_⟩, cm, na, ns⟩
  rcases setW_mem hq with ⟨hq, nq⟩ | ⟨p', hp', ep, rfl⟩
  · exact (h.r q hq).calm cm (W.ok q hq).kp fun o eo => (upd_ne nq).trans eo
  · have : p' = p := inj_snd W.nd m hp' ep
    subst this
    refine ⟨_, upd_same, (PtsD.put hv okp.nd pts).imp fun q hq u hu => Dv.calm cm _ _ (kv_kin ?_) hu⟩
    rcases put_mem hq with hq | rfl
    · exact okp.kp q hq
    · exact kx
end
/-! ### what the world's small functions do -/
def chosenD (so : Str) : D5 → D5
  | .non => if so = "filled" then .str "filled" else .non
  | d => d
theorem chosen_no {so : Str} {d : D5} (h : so ≠ "filled" ∨ d ≠ .non) : chosenD so d = d := by
  cases d with
  | non => exact if_neg (h.resolve_right fun z => z rfl)
  | _ => rfl
abbrev sAC : Stmt := tp 36
theorem scAC : FnScope ["value", "sort"] ["value", "sort"] (defScope sAC) := ⟨rfl, rfl, rfl, by decide +kernel, rfl, by decide +kernel, by decide +kernel⟩
def spAC (K : PySem.W.Frag) : Sp := fun vs H Q _ => ∃ v d so, vs = [v, .str so] ∧ Dv (O5 K) H d v ∧ ∀ v' H', Same H H' → Dv (O5 K) H' (chosenD so d) v' → Q v' H'
theorem non_iff {K : PySem.W.Frag} {H : Hp} {d : D5} {v : V} (h : Dv (O5 K) H d v) : v = .non ↔ d = .non := by
  cases d with
  | non => cases h; simp
  | bl b => cases h; simp
  | int b => cases h; simp
  | str b => cases h; simp
  | ob o => obtain ⟨a, _, _, _, rfl, _⟩ := h; simp
  | tup l => obtain ⟨a, _, rfl, _⟩ := h; simp
  | lst l => obtain ⟨a, _, rfl, _⟩ := h; simp
  | map k l => obtain ⟨a, _, rfl, _⟩ := h; simp
/-- what a reading tells for a text -/
def rdS (l : List (Str × Str)) (s : Str) : Str := ((l.find? fun p => decide (p.1 = s)).map (·.2)).getD s
def toldD (r : Option (List (Str × Str))) (d : D5) : D5 := match r, d with
  | some l, .str s => .str (rdS l s)
  | _, d => d
abbrev sAT : Stmt := tp 37
theorem scAT : FnScope ["value", "reading"] ["value", "reading"] (defScope sAT) := ⟨rfl, rfl, rfl, by decide +kernel, rfl, by decide +kernel, by decide +kernel⟩
def spAT (K : PySem.W.Frag) : Sp := fun vs H Q _ => ∃ v d u r, vs = [v, u] ∧ Dv (O5 K) H d v ∧ Dv (O5 K) H (rdgD r) u ∧ ∀ v' H', Same H H' → Dv (O5 K) H' (toldD r d) v' → Q v' H'
theorem rd_get {K : PySem.W.Frag} {H : Hp} {l : List (Str × Str)} {s : Str} : ∀ {kvs : List (Key × V)}, kvs.map (·.1) = (l.map (·.1)).map Sum.inr → DvL (O5 K) H (l.map fun p => .str p.2) (kvs.map (·.2)) → (valV kvs (.inr s : Key)).getD (.str s) = .str (rdS l s) := by
  unfold rdS
  induction l with
  | nil => intro kvs e _; cases kvs with
    | nil => rfl
    | cons q r => cases e
  | cons p l ih =>
    intro kvs e h
    cases kvs with
    | nil => cases e
    | cons q kvs =>
      obtain ⟨u, us, e2, h1, h2⟩ := h
      rw [List.map_cons] at e2
      injection e2 with e3 e4
      rw [List.map_cons, List.map_cons, List.map_cons] at e
      injection e with e5 e6
      have e3 : q.2 = V.str p.2 := e3.trans h1
      rw [List.find?_cons]
      by_cases z : p.1 = s
      · rw [decide_eq_true z, valV_pos (p := q) (by rw [e5, z]), e3]
        rfl
      · rw [decide_eq_false z, valV_neg (p := q) (by rw [e5]; exact fun w => z (Sum.inr.inj w))]
        exact ih e6 (by rw [e4]; exact h2)
section
variable {P : Program} {w : World} {K : PySem.W.Frag} {mg : Str → Option Value} {base : Heap} {CW CK CT : Addr}
theorem ok_ac {f : Addr} {fd : FuncData} (F : Fun K "_as_chosen" "_as_chosen" sAC f fd) : FnOk P w K mg base CX0 1 f fd ["value", "sort"] (spAC K) := by
  refine F.ok scAC (fun vs H Q E h => ?_) (fun cdv A outer s H vs Q E hr h => ?_)
  · obtain ⟨v, d, so, rfl, _⟩ := h
    rfl
  · obtain ⟨v, d, so, rfl, hd, q⟩ := h
    refine ⟨_, pss_one (ps_ret (pe_ifExp (PW.pt (pw_and (pt_cmpR op_eq (pv 1) pe_str (nomark _)) (pw_and1 (pt_cmp (pc_isN (pv 0)))))) pe_str (pv 0))), ?_⟩
    refine ⟨_, rfl, rfl, _, rfl, ?_⟩
    by_cases e : so = "filled"
    · refine Vl.iteC (by rw [e]; exact decide_eq_true rfl) ⟨_, rfl, _, rfl, ?_⟩
      by_cases e2 : d = .non
      · have e3 := (non_iff hd).mpr e2
        refine Vl.iteC (decide_eq_true e3) (q _ H (Same.refl H) ?_)
        rw [e2, chosenD, if_pos e]
        rfl
      · refine Vl.iteN (decide_eq_false fun z => e2 ((non_iff hd).mp z)) ⟨_, rfl, q _ H (Same.refl H) ?_⟩
        rw [chosen_no (.inr e2)]
        exact hd
    · refine Vl.iteN (decide_eq_false fun z => e (V.str.inj z)) (Vl.iteN rfl ⟨_, rfl, q _ H (Same.refl H) ?_⟩)
      rw [chosen_no (.inl e)]
      exact hd
theorem ok_at {f : Addr} {fd : FuncData} (F : Fun K "_as_told" "_as_told" sAT f fd) (T : TxtV mg) : FnOk P w K mg base CX0 1 f fd ["value", "reading"] (spAT K) := by
  refine F.ok scAT (fun vs H Q E h => ?_) (fun cdv A outer s H vs Q E hr h => ?_)
  · obtain ⟨v, d, u, r, rfl, _⟩ := h
    rfl
  · obtain ⟨v, d, u, r, rfl, hd, hu, q⟩ := h
    refine ⟨_, pss_cons (ps_if (PW.pt (pw_and (pt_cmpR op_notN (pv 1) pe_non (nomark _)) (pw_and1 (pt_val (pe_callB (call_is6 (T := "str") (by simp)) (by rfl) T.isi (by decide +kernel) (pa_cons (pv 0) (pa_cons (pe_bltn (v := .ty "str") (by rfl) T.str (by decide +kernel) rfl) pa_nil)))))))
        (pss_one (ps_ret (pe_dget2 (hu_of hr) (pv 1) (pv 0) (pv 0) ⟨rfl, rfl, rfl, rfl⟩))) pss_nil) (pss_one (ps_ret (pv 0))), ?_⟩
    have P := kps5 (K := K)
    cases r with
    | none =>
      cases (show u = .non from hu)
      refine ⟨_, rfl, rfl, _, rfl, Vl.iteN rfl (Vl.iteN rfl ⟨_, rfl, q _ H (Same.refl H) ?_⟩)⟩
      cases d <;> exact hd
    | some l =>
      obtain ⟨a, kvs, rfl, ha, nd, hk, hl⟩ := id hu
      refine ⟨_, rfl, rfl, _, rfl, Vl.iteC rfl ⟨_, rfl, v, d, rfl, hd, _, rfl, ?_⟩⟩
      cases es : isT6 "str" d with
      | false =>
        refine Vl.iteN rfl ⟨_, rfl, q _ H (Same.refl H) ?_⟩
        cases d with
        | str s => simp [isT6] at es
        | _ => exact hd
      | true =>
        obtain ⟨s, rfl⟩ : ∃ s, d = .str s := by
          cases d with
          | str s => exact ⟨s, rfl⟩
          | bl b => simp [isT6] at es
          | _ => cases es
        cases (show v = .str s from hd)
        refine Vl.iteC rfl ⟨_, rfl, a, rfl, .inl ⟨kvs, .inl ha⟩, _, rfl, _, rfl, _, .inl ⟨kvs, .inr s, .inl ha, rfl, rfl⟩, ?_⟩
        have e := rd_get (K := K) (s := s) hk hl
        exact q _ H (Same.refl H) e
end
end Kd

set_option Elab.async false
set_option linter.all false
set_option maxRecDepth 100000
set_option maxHeartbeats 4000000
/-! World: _refuse_taken, _next_tag, _mark, _surround -/
namespace Kd
open PySem PySem.Spec PyProof.Rows L2 Dq Vl Pf Ed ClX
abbrev sRT : Stmt := inClass (tp 35) 10
abbrev NRT : List Str := ["self", "kind", "given", "tag", "single", "value", "other"]
abbrev PRT : List Str := ["self", "kind", "given", "tag"]
theorem scRT : FnScope NRT PRT (defScope sRT) := ⟨rfl, rfl, rfl, by decide +kernel, rfl, by decide +kernel, by decide +kernel⟩
def spRT (K : PySem.W.Frag) (CW CK : Addr) : Sp := fun vs H Q _ => ∃ (aw kd sd g : Addr) (rs : Rs) (last : Nat) (ts : List Tb) (t : Tb) (kvs : List (Key × V)) (u : V), vs = [.ref aw, .str t.name, .ref g, u] ∧ WAt K CW H aw kd sd rs last ∧ KAt K CK H kd ts ∧ t ∈ ts ∧ t.si = none ∧ H g = some (.dK kvs) ∧ ∀ H', Same H H' → Q .non H'
abbrev sNT : Stmt := inClass (tp 35) 11
theorem scNT : FnScope ["self", "kind"] ["self", "kind"] (defScope sNT) := ⟨rfl, rfl, rfl, by decide +kernel, rfl, by decide +kernel, by decide +kernel⟩
def spNT (K : PySem.W.Frag) (CW : Addr) : Sp := fun vs H Q _ => ∃ (aw kd sd dx : Addr) (s : Str) (n : Nat), vs = [.ref aw, .str s] ∧ H aw = some (.ins CW dx (wfl kd sd (n : Int))) ∧
  ∀ (b : Addr) H', Ch [aw] H H' → H b = none → H' aw = some (.ins CW dx (wfl kd sd ((n + 1 : Nat) : Int))) → H' b = some (.tup [.str "#", .str s, .int ((n + 1 : Nat) : Int)]) → Q (.ref b) H'
abbrev sMk : Stmt := inClass (tp 35) 12
abbrev NMk : List Str := ["self", "tag", "attribute", "rule"]
theorem scMk : FnScope NMk ["self", "tag"] (defScope sMk) := ⟨rfl, rfl, rfl, by decide +kernel, rfl, by decide +kernel, by decide +kernel⟩
abbrev sSu : Stmt := inClass (tp 35) 13
abbrev NSu : List Str := ["self", "tag", "attributes", "attribute", "rule"]
theorem scSu : FnScope NSu ["self", "tag"] (defScope sSu) := ⟨rfl, rfl, rfl, by decide +kernel, rfl, by decide +kernel, by decide +kernel⟩
/-- new marks -/
def markS (k : Str) (a : Prt × Nat) (p : Str × Ru) : Prt × Nat := if p.2 = .mark then (putS a.1 p.1 (tagOf k (a.2 + 1)), a.2 + 1) else a
def markF (k : Str) (md : List (Str × Ru)) (a : Prt × Nat) : Prt × Nat := md.foldl (markS k) a
/-- texts around -/
def arS (a : Prt) (p : Str × Ru) : Prt := match p.2 with
  | .ar s pre post => putS a p.1 (.str (pre ++ midS ((getS a s).getD .non) ++ post))
  | _ => a
def arF (md : List (Str × Ru)) (a : Prt) : Prt := md.foldl arS a
theorem markF_succ {k : Str} {md : List (Str × Ru)} {a : Prt × Nat} {i : Nat} {p : Str × Ru} (e : md[i]? = some p) : markF k (md.take (i + 1)) a = markS k (markF k (md.take i) a) p := by
  unfold markF
  rw [List.take_succ, e, List.foldl_append]
  rfl
theorem arF_succ {md : List (Str × Ru)} {a : Prt} {i : Nat} {p : Str × Ru} (e : md[i]? = some p) : arF (md.take (i + 1)) a = arS (arF (md.take i) a) p := by
  unfold arF
  rw [List.take_succ, e, List.foldl_append]
  rfl
theorem markS_ok {k : Str} {a : Prt × Nat} {p : Str × Ru} {r : Ro} (hk : nmS k = true) (h : OkR { r with ps := a.1 }) : OkR { r with ps := (markS k a p).1 } := by
  unfold markS
  split
  · exact h.put (okV_tag hk)
  · exact h
theorem markF_ok {k : Str} {r : Ro} (hk : nmS k = true) : ∀ (md : List (Str × Ru)) (a : Prt × Nat), OkR { r with ps := a.1 } → OkR { r with ps := (markF k md a).1 }
  | [], _, h => h
  | p :: md, a, h => markF_ok hk md (markS k a p) (markS_ok hk h)
theorem markF_len {k : Str} : ∀ (md : List (Str × Ru)) (a : Prt × Nat), (markF k md a).1.length ≤ a.1.length + md.length
  | [], _ => Nat.le_refl _
  | p :: md, a => by
    have h := markF_len (k := k) md (markS k a p)
    have h2 : (markS k a p).1.length ≤ a.1.length + 1 := by
      unfold markS
      split
      · exact put_len
      · exact Nat.le_succ _
    show (markF k md (markS k a p)).1.length ≤ _
    rw [List.length_cons]
    omega
theorem markF_le {k : Str} : ∀ (md : List (Str × Ru)) (a : Prt × Nat), a.2 ≤ (markF k md a).2 ∧ (markF k md a).2 ≤ a.2 + md.length
  | [], _ => ⟨Nat.le_refl _, Nat.le_refl _⟩
  | p :: md, a => by
    have h := markF_le (k := k) md (markS k a p)
    have h2 : a.2 ≤ (markS k a p).2 ∧ (markS k a p).2 ≤ a.2 + 1 := by
      unfold markS
      split
      · exact ⟨Nat.le_succ _, Nat.le_refl _⟩
      · exact ⟨Nat.le_refl _, Nat.le_succ _⟩
    show a.2 ≤ (markF k md (markS k a p)).2 ∧ (markF k md (markS k a p)).2 ≤ _
    rw [List.length_cons]
    omega
theorem markF_get {k : Str} {s : Str} : ∀ (md : List (Str × Ru)) (a : Prt × Nat), s ∉ md.map (·.1) → getS (markF k md a).1 s = getS a.1 s
  | [], _, _ => rfl
  | p :: md, a, h => by
    rw [List.map_cons, List.mem_cons, not_or] at h
    show getS (markF k md (markS k a p)).1 s = _
    rw [markF_get md _ h.2]
    unfold markS
    split
    · rw [getS_put, if_neg h.1]
    · rfl
theorem arS_ok {a : Prt} {p : Str × Ru} {r : Ro} (h : OkR { r with ps := a }) : OkR { r with ps := arS a p } := by
  unfold arS
  split
  · exact h.put (okV_str _)
  · exact h
theorem arF_ok {r : Ro} : ∀ (md : List (Str × Ru)) (a : Prt), OkR { r with ps := a } → OkR { r with ps := arF md a }
  | [], _, h => h
  | p :: md, a, h => arF_ok md (arS a p) (arS_ok h)
theorem arF_len : ∀ (md : List (Str × Ru)) (a : Prt), (arF md a).length ≤ a.length + md.length
  | [], _ => Nat.le_refl _
  | p :: md, a => by
    have h := arF_len md (arS a p)
    have h2 : (arS a p).length ≤ a.length + 1 := by
      unfold arS
      split
      · exact put_len
      · exact Nat.le_succ _
    show (arF md (arS a p)).length ≤ _
    rw [List.length_cons]
    omega
theorem arF_get {s : Str} : ∀ (md : List (Str × Ru)) (a : Prt), s ∉ md.map (·.1) → getS (arF md a) s = getS a s
  | [], _, _ => rfl
  | p :: md, a, h => by
    rw [List.map_cons, List.mem_cons, not_or] at h
    show getS (arF md (arS a p)) s = _
    rw [arF_get md _ h.2]
    unfold arS
    split
    · rw [getS_put, if_neg h.1]
    · rfl
/-- what texts go around stands, and is short -/
def SrcOk (md : List (Str × Ru)) (ps : Prt) : Prop := ∀ q ∈ md, ∀ s pre post, q.2 = .ar s pre post → (∃ x, getS ps s = some x ∧ smlD x = true) ∧ pre.length ≤ 300 ∧ post.length ≤ 300 ∧ s ∉ md.map (·.1)
theorem SrcOk.mark {k : Str} {md : List (Str × Ru)} {a : Prt × Nat} (h : SrcOk md a.1) : SrcOk md (markF k md a).1 := fun q hq s pre post e => by
  obtain ⟨⟨x, h1, h2⟩, h3, h4, h5⟩ := h q hq s pre post e
  exact ⟨⟨x, by rw [markF_get md a h5]; exact h1, h2⟩, h3, h4, h5⟩
theorem ed_tag1 {K : PySem.W.Frag} {σ : L2.St} {H : Hp} {i : Nat} {t : Addr} {z s : Str} {n : Int} (e : σ[i]? = some (some (.ref t))) (ht : H t = some (.tup [.str z, .str s, .int n])) : ED (O5 K) (tOp (rIxT K) (tVar i) (tC (.int 1))) σ H (.str s) :=
  ed_ixT (kps5 (K := K)) (i := 1) (l := [.str z, .str s, .int n]) (ed_pv (kps5 (K := K)) e ⟨t, _, rfl, .inl (.inl ht), _, _, rfl, rfl, _, _, rfl, rfl, _, _, rfl, rfl, rfl⟩) rfl
theorem pe_ixT {X : Cx} {a b : Expr} {ta tb : TE} {pos : Pos} (ha : PE X a ta) (hb : PE X b tb) (hs : PlainIx b) : PE X (.Subscript a b pos) (tOp (rIxT X.K) ta tb) := pe_ix ix_tup ha hb hs
/-- the first word of a rule -/
def ruW : Ru → Str
  | .id => "id"
  | .mark => "mark"
  | .ar _ _ _ => "around"
def ruT : Ru → List D5
  | .id => []
  | .mark => []
  | .ar s p q => [.str s, .str p, .str q]
theorem ruD_eq (r : Ru) : ruD r = .tup (.str (ruW r) :: ruT r) := by cases r <;> rfl
theorem ruW_mark (r : Ru) : decide (V.str (ruW r) = V.str "mark") = decide (r = .mark) := by
  cases r with
  | ar a b c => exact (show decide (V.str "around" = V.str "mark") = false by decide +kernel).trans (decide_eq_false (fun e => nomatch e)).symm
  | _ => decide +kernel
theorem ruW_ar (r : Ru) : decide (V.str (ruW r) = V.str "around") = match r with
  | .ar _ _ _ => true
  | _ => false := by
  cases r with
  | ar a b c => exact (show decide (V.str "around" = V.str "around") = true by decide +kernel)
  | _ => decide +kernel
/-- the number of the given rule is kept under what stays -/
def spMk (K : PySem.W.Frag) (CW CK : Addr) : Sp := fun vs H Q _ => ∃ (aw kd sd b : Addr) (rs : Rs) (last : Nat) (ts : List Tb) (t : Tb) (p : Ro × Addr), vs = [.ref aw, .ref b] ∧ WAt K CW H aw kd sd rs last ∧ WOk ts rs last ∧ TsOk ts ∧ KAt K CK H kd ts ∧ t ∈ ts ∧
  H b = some (.tup [.str "#", .str t.name, .int (p.1.n : Int)]) ∧ p ∈ rs ∧ p.1.kind = t.name ∧ p.1.ps.length + t.md.length ≤ 1000 ∧
  ∀ H', Ch [aw, p.2] H H' → Calm CK H H' → WAt K CW H' aw kd sd (setW rs p.2 (markF t.name t.md (p.1.ps, last)).1) (markF t.name t.md (p.1.ps, last)).2 → Q .non H'
def spSu (K : PySem.W.Frag) (CW CK : Addr) : Sp := fun vs H Q _ => ∃ (aw kd sd b : Addr) (rs : Rs) (last : Nat) (ts : List Tb) (t : Tb) (p : Ro × Addr), vs = [.ref aw, .ref b] ∧ WAt K CW H aw kd sd rs last ∧ WOk ts rs last ∧ TsOk ts ∧ KAt K CK H kd ts ∧ t ∈ ts ∧
  H b = some (.tup [.str "#", .str t.name, .int (p.1.n : Int)]) ∧ p ∈ rs ∧ p.1.kind = t.name ∧ p.1.ps.length + t.md.length ≤ 1000 ∧ SrcOk t.md p.1.ps ∧
  ∀ H', Ch [p.2] H H' → Calm CK H H' → WAt K CW H' aw kd sd (setW rs p.2 (arF t.md p.1.ps)) last → Q .non H'
theorem mds_at {t : Tb} {i : Nat} {d : D5} (h : (t.md.map mdrD)[i]? = some d) : ∃ q, t.md[i]? = some q ∧ d = mdrD q := by
  rw [List.getElem?_map] at h
  cases e : t.md[i]? with
  | none => rw [e] at h; cases h
  | some q => rw [e] at h; cases h; exact ⟨q, rfl, rfl⟩
theorem mds_kptT {t : Tb} : kpt Kkin (.tup (t.md.map mdrD) : D5) = true := mds_kpt (t := t)
section
variable {P : Program} {w : World} {K : PySem.W.Frag} {mg : Str → Option Value} {base : Heap} {CW CK : Addr}
theorem ok_rt {f : Addr} {fd : FuncData} (F : Fun K "_refuse_taken" "World._refuse_taken" sRT f fd) (T : TxtW K mg CW) (TK : TxtKi K mg CK) : FnOk P w K mg base CX0 1 f fd PRT (spRT K CW CK) := by
  refine F.ok scRT (fun vs H Q E h => ?_) (fun cdv A outer s H vs Q E hr h => ?_)
  · obtain ⟨aw, kd, sd, g, rs, last, ts, t, kvs, u, rfl, _⟩ := h
    rfl
  · obtain ⟨aw, kd, sd, g, rs, last, ts, t, kvs, u, rfl, hw, hk, ht, es, hg, q⟩ := h
    refine ⟨_, pss_cons (ps_set (i := 4) scRT.nd rfl (Or.inl rfl) (pe_fld (pe_dget (hu_of hr) (pe_fld (pv 0) rfl) (pv 1) (fun _ _ => rfl)) rfl))
      (pss_cons (ps_set (i := 5) scRT.nd rfl (Or.inl rfl) (pe_dgetN (pv 2) (pv 4) ⟨rfl, rfl, rfl, rfl⟩))
      (pss_cons (ps_if (pt_cmp (pc_isN (pv 5))) (pss_one ps_retN) pss_nil) Ow.pss_nv)), ?_⟩
    refine EP.seq (ed_single TK (ep_kind (t := t) T hw hk ht rfl (ep_v rfl))).ep fun v H1 s1 hv => ?_
    have hv : Dv (O5 K) H1 (siD t.si) v := hv
    rw [es] at hv
    cases (show v = .non from hv)
    refine ⟨_, rfl, g, rfl, .inl ⟨kvs, .inl (s1 _ _ hg)⟩, _, rfl, kvs, rfl, .inl (s1 _ _ hg), ?_⟩
    exact ⟨_, rfl, _, rfl, Vl.iteC rfl (q H1 s1)⟩
theorem ok_nt {f : Addr} {fd : FuncData} (F : Fun K "_next_tag" "World._next_tag" sNT f fd) (T : TxtW K mg CW) : FnOk P w K mg base CX0 1 f fd ["self", "kind"] (spNT K CW) := by
  refine F.ok scNT (fun vs H Q E h => ?_) (fun cdv A outer s H vs Q E hr h => ?_)
  · obtain ⟨aw, kd, sd, dx, s, n, rfl, _⟩ := h
    rfl
  · obtain ⟨aw, kd, sd, dx, s, n, rfl, hw, q⟩ := h
    refine ⟨_, pss_cons (ps_fldaug (pv 0) pe_int in_add) (pss_one (ps_ret (pe_tup (pa_cons pe_str (pa_cons (pv 1) (pa_cons (pe_fld (pv 0) rfl) pa_nil)))))), ?_⟩
    refine ⟨_, rfl, aw, CW, dx, _, _, rfl, hw, T.cl, T.n3, wl3, (n : Int), 1, rfl, rfl, dx, _, hw, by show 3 < 1000; decide, ?_⟩
    rw [show putF "_last" (V.int ((n : Int) + 1)) (wfl kd sd (n : Int)) = wfl kd sd ((n + 1 : Nat) : Int) by rw [putF_tl (by decide +kernel), putF_tl (by decide +kernel)]; exact congrArg _ (congrArg _ (if_pos rfl))]
    refine ⟨_, rfl, _, rfl, aw, CW, dx, _, _, rfl, upd_same, T.cl, T.n3, wl3, by show 3 ≤ sizeLine; decide, fun b nb => ?_⟩
    have nbw : b ≠ aw := fun e => by rw [e, upd_same] at nb; cases nb
    refine q b _ (Ch.updNew (Ch.upd (by simp)) (by rwa [upd_ne nbw] at nb)) (by rwa [upd_ne nbw] at nb) ((upd_ne (Ne.symm nbw)).trans upd_same) upd_same
theorem ok_mk {f fN : Addr} {fd fdN : FuncData} (F : Fun K "_mark" "World._mark" sMk f fd) (T : TxtW K mg CW) (TK : TxtKi K mg CK) (ne : CW ≠ CK) (M : Meth K CW "_next_tag" fN) (GN : FnOk P w K mg base CX0 1 fN fdN ["self", "kind"] (spNT K CW)) (bN : Binds K fdN ["self", "kind"] []) :
    FnOk P w K mg base CX0 2 f fd ["self", "tag"] (spMk K CW CK) := by
  refine F.ok scMk (fun vs H Q E h => ?_) (fun cdv A outer s H vs Q E hr h => ?_)
  · obtain ⟨aw, kd, sd, b, rs, last, ts, t, p, rfl, _⟩ := h
    rfl
  · obtain ⟨aw, kd, sd, b, rs, last, ts, t, p, rfl, hw, W, TO, hk, ht, hb, mp, ek, ml, q⟩ := h
    refine ⟨_, pss_one (ps_for PassesOwn.never rfl (pi_tup (pe_fld (pe_dget (hu_of hr) (pe_fld (pv 0) rfl) (pe_ixT (pv 1) pe_int (fun _ _ => rfl)) (fun _ _ => rfl)) rfl)) (pg_tup rfl (pgs_cons (pg_name (i := 2) scMk.nd rfl (Or.inl rfl)) (pgs_cons (pg_name (i := 3) scMk.nd rfl (Or.inl rfl)) pgs_nil)))
      (pss_one (ps_if (pt_cmpR op_eq (pe_ixT (pv 3) pe_int (fun _ _ => rfl)) pe_str (nomark _)) (pss_one (ps_dput (hu_of hr) (pe_dget (hu_of hr) (pe_fld (pv 0) rfl) (pv 1) (fun _ _ => rfl)) (pv 2) (pe_meth (pv 0) T.cl M GN (hr.mono (by decide)) bN .nil pass0 (pa_cons (pe_ixT (pv 1) pe_int (fun _ _ => rfl)) pa_nil)) (by rfl))) pss_nil))), ?_⟩
    have P := kps5 (K := K)
    have nk : nmS t.name = true := by rw [← ek]; exact (W.ok p mp).k
    have kn := ed_made TK (ep_kind (σ := [some (.ref aw), some (.ref b), none, none]) (i := 0) T hw hk ht rfl (ed_tag1 (K := K) (i := 1) rfl hb).ep)
    refine for_tupC (CK := CK) (l := t.md.map mdrD) kn mds_kptT fun H1 s1 => ⟨fun i σ' H' => (∃ w0 w1, σ' = [some (.ref aw), some (.ref b), w0, w1]) ∧ Ch [aw, p.2] H1 H' ∧ Calm CK H1 H' ∧ WAt K CW H' aw kd sd (setW rs p.2 (markF t.name (t.md.take i) (p.1.ps, last)).1) (markF t.name (t.md.take i) (p.1.ps, last)).2,
      ⟨⟨_, _, rfl⟩, Ch.refl _ _, Calm.refl _, ?_⟩, fun i σ' H' _ pv => pv.2.2.1, fun i d u σ' H' e pv hd => ?_, fun σ' H' pv => ?_⟩
    · rw [List.take_zero]
      show WAt K CW H1 aw kd sd (setW rs p.2 p.1.ps) last
      rw [setW_id W.nd mp]
      exact hw.same s1
    · obtain ⟨⟨w0, w1, rfl⟩, c2, cm2, hw2⟩ := pv
      obtain ⟨z, ez, rfl⟩ := mds_at e
      have sc := markF_succ (k := t.name) (a := (p.1.ps, last)) ez
      have hb2 : H' b = some (.tup [.str "#", .str t.name, .int (p.1.n : Int)]) := cm2.t _ _ (s1 _ _ hb)
      obtain ⟨L1, L2⟩ := markF_le (k := t.name) (t.md.take i) (p.1.ps, last)
      have L3 := markF_len (k := t.name) (t.md.take i) (p.1.ps, last)
      have L4 : (t.md.take i).length ≤ t.md.length := by rw [List.length_take]; omega
      have okp := markF_ok nk (r := p.1) (t.md.take i) (p.1.ps, last) (W.ok p mp)
      generalize hA : markF t.name (t.md.take i) (p.1.ps, last) = A2 at *
      obtain ⟨psi, li⟩ := A2
      have W2 : WOk ts (setW rs p.2 psi) li := (W.setP mp okp).mono L1
      have mp2 := mem_setW (ps := psi) mp
      refine g_pair hd fun v1 v2 h1 h2 => ?_
      have h2 : Dv (O5 K) H' (ruD z.2) v2 := h2
      rw [ruD_eq] at h2
      cases (show v1 = .str z.1 from h1)
      have e0 : EP (tOp (rIxT K) (tVar 3) (tC (.int 0))) [some (.ref aw), some (.ref b), some (.str z.1), some v2] H' fun v _ => v = .str (ruW z.2) := ed_ixT P (i := 0) (l := .str (ruW z.2) :: ruT z.2) (ed_pv P rfl h2) rfl
      have te := et_t (eb_eq (y := .str "mark") e0 ep_str rfl)
      rw [ruW_mark] at te
      refine te.run fun H3 s3 => ?_
      unfold markS at sc
      by_cases em : z.2 = .mark
      · rw [if_pos em] at sc
        refine Vl.iteC (decide_eq_true em) ?_
        obtain ⟨dx, ew3⟩ := (hw2.same s3).w
        have lkn : (wfl kd sd (li : Int)).lookup ("_next_tag" : Str) = none := (lk_tl (by decide +kernel)).trans ((lk_tl (by decide +kernel)).trans ((lk_tl (by decide +kernel)).trans rfl))
        refine ⟨_, rfl, aw, dx, _, rfl, ew3, lkn, ?_⟩
        refine (ed_tag1 (i := 1) rfl (s3 _ _ hb2)).run fun v H4 s5 hv1 => ?_
        cases (show v = .str t.name from hv1)
        have s6 := Same.trans s3 s5
        have hw4 := hw2.same s6
        have ew4 := s5 _ _ ew3
        refine ⟨aw, kd, sd, dx, t.name, li, rfl, ew4, fun b2 H5 c5 nb e1 e2 => ?_⟩
        have cm5 : Calm CK H4 H5 := .ch c5 fun a m o eo => by
          rw [List.mem_singleton.mp m, ew4] at eo
          cases eo
          exact apt_ins ne
        have nsw : sd ≠ aw := fun e => by have h := hw4.s; rw [e, ew4] at h; cases h
        have out : ∀ q ∈ setW rs p.2 psi, q.2 ≠ aw := fun q hq e => by
          obtain ⟨kv, eq, _⟩ := hw4.r q hq
          rw [e, ew4] at eq
          cases eq
        have hw5 : WAt K CW H5 aw kd sd (setW rs p.2 psi) (li + 1) := ⟨⟨dx, e1⟩, c5 _ _ hw4.s (by simpa using nsw), fun q hq => (hw4.r q hq).calm cm5 (W2.ok q hq).kp fun o eo => c5 _ _ eo (by simpa using out q hq)⟩
        have hb5 : H5 b = some (.tup [.str "#", .str t.name, .int (p.1.n : Int)]) := cm5.t _ _ (s6 _ _ hb2)
        have ef : findW (setW rs p.2 psi) t.name p.1.n = some ({ p.1 with ps := psi }, p.2) := by
          have := find_row W2 mp2
          rw [show ({ p.1 with ps := psi } : Ro).kind = t.name from ek] at this
          exact this
        refine (ep_row (K := K) (tk := tVar 1) (i := 0) (σ := [some (.ref aw), some (.ref b), some (.str z.1), some v2]) T hw5 rfl (ep_pv rfl fun H2 s2 => ⟨rfl, s2 _ _ hb5⟩) ef).run fun v6 H6 s7 ev6 => ?_
        subst ev6
        have hw6 := hw5.same s7
        obtain ⟨kv, ekv, pts⟩ := hw6.r _ mp2
        have hvt : Dv (O5 K) H6 (tagOf t.name (li + 1)) (.ref b2) := ⟨b2, _, rfl, .inl (.inl (s7 _ _ e2)), _, _, rfl, rfl, _, _, rfl, rfl, _, _, rfl, rfl, rfl⟩
        obtain ⟨hw7, cm7, na, ns⟩ := hw6.put (W2.mono (Nat.le_succ li)) mp2 (s := z.1) hvt (okV_tag nk).kp ekv
        rw [setW_two] at hw7
        refine ⟨_, rfl, p.2, _, rfl, DPut.k (k := .inr z.1) ekv (Nat.lt_of_le_of_lt (show kv.length ≤ 1000 by rw [pts.len]; simp only at L3 ⊢; omega) (by decide)), ⟨_, _, rfl⟩, ?_, ?_, by rw [sc]; exact hw7⟩
        · exact Ch.trans c2 (Ch.trans (Ch.same s6) (Ch.trans (Ch.mono c5 (by simp)) (Ch.trans (Ch.same s7) (Ch.upd (by simp)))))
        · exact cm2.trans ((Calm.same s6).trans (cm5.trans ((Calm.same s7).trans cm7)))
      · rw [if_neg em] at sc
        exact Vl.iteN (decide_eq_false em) ⟨⟨_, _, rfl⟩, Ch.trans c2 (Ch.same s3), cm2.trans (Calm.same s3), by rw [sc]; exact hw2.same s3⟩
    · obtain ⟨_, c2, cm2, hw2⟩ := pv
      rw [List.length_map, List.take_length] at hw2
      exact q H' (Ch.trans (Ch.same s1) c2) ((Calm.same s1).trans cm2) hw2
theorem ok_su {f fS : Addr} {fd fdS : FuncData} (F : Fun K "_surround" "World._surround" sSu f fd) (T : TxtW K mg CW) (TK : TxtKi K mg CK) (DS : Def P w K mg base 2 "surrounded" fS fdS ["rule", "value"] (spSur K)) : FnOk P w K mg base CX0 3 f fd ["self", "tag"] (spSu K CW CK) := by
  refine F.ok scSu (fun vs H Q E h => ?_) (fun cdv A outer s H vs Q E hr h => ?_)
  · obtain ⟨aw, kd, sd, b, rs, last, ts, t, p, rfl, _⟩ := h
    rfl
  · obtain ⟨aw, kd, sd, b, rs, last, ts, t, p, rfl, hw, W, TO, hk, ht, hb, mp, ek, ml, so, q⟩ := h
    refine ⟨_, pss_cons (ps_set (i := 2) scSu.nd rfl (Or.inl rfl) (pe_dget (hu_of hr) (pe_fld (pv 0) rfl) (pv 1) (fun _ _ => rfl)))
      (pss_one (ps_for PassesOwn.never rfl (pi_tup (pe_fld (pe_dget (hu_of hr) (pe_fld (pv 0) rfl) (pe_ixT (pv 1) pe_int (fun _ _ => rfl)) (fun _ _ => rfl)) rfl)) (pg_tup rfl (pgs_cons (pg_name (i := 3) scSu.nd rfl (Or.inl rfl)) (pgs_cons (pg_name (i := 4) scSu.nd rfl (Or.inl rfl)) pgs_nil)))
      (pss_one (ps_if (pt_cmpR op_eq (pe_ixT (pv 4) pe_int (fun _ _ => rfl)) pe_str (nomark _))
        (pss_one (ps_dput (hu_of hr) (pv 2) (pv 3) (pe_call DS.ok (hr.mono (by decide)) rfl DS.g DS.kp DS.b .nil pass0 (pa_cons (pv 4) (pa_cons (pe_dget (hu_of hr) (pv 2) (pe_ixT (pv 4) pe_int (fun _ _ => rfl)) (fun _ _ => rfl)) pa_nil))) (by rfl))) pss_nil)))), ?_⟩
    have P := kps5 (K := K)
    have nk : nmS t.name = true := by rw [← ek]; exact (W.ok p mp).k
    have ef : findW rs t.name p.1.n = some p := by
      have := find_row W mp
      rwa [ek] at this
    refine (ep_row (K := K) (tk := tVar 1) (i := 0) (σ := [some (.ref aw), some (.ref b), none, none, none]) T hw rfl (ep_pv rfl fun H2 s2 => ⟨rfl, s2 _ _ hb⟩) ef).seq fun v0 H0 s0 ev0 => ?_
    subst ev0
    show tFor _ _ _ _ [some (.ref aw), some (.ref b), some (.ref p.2), none, none] H0
    have hw0 := hw.same s0
    have kn := ed_made TK (ep_kind (σ := [some (.ref aw), some (.ref b), some (.ref p.2), none, none]) (i := 0) T hw0 (hk.same s0) ht rfl (ed_tag1 (K := K) (i := 1) rfl (s0 _ _ hb)).ep)
    refine for_tupC (CK := CK) (l := t.md.map mdrD) kn mds_kptT fun H1 s1 => ⟨fun i σ' H' => (∃ w0 w1, σ' = [some (.ref aw), some (.ref b), some (.ref p.2), w0, w1]) ∧ Ch [p.2] H1 H' ∧ Calm CK H1 H' ∧ WAt K CW H' aw kd sd (setW rs p.2 (arF (t.md.take i) p.1.ps)) last,
      ⟨⟨_, _, rfl⟩, Ch.refl _ _, Calm.refl _, ?_⟩, fun i σ' H' _ pv => pv.2.2.1, fun i d u σ' H' e pv hd => ?_, fun σ' H' pv => ?_⟩
    · rw [List.take_zero]
      show WAt K CW H1 aw kd sd (setW rs p.2 p.1.ps) last
      rw [setW_id W.nd mp]
      exact hw0.same s1
    · obtain ⟨⟨w0, w1, rfl⟩, c2, cm2, hw2⟩ := pv
      obtain ⟨z, ez, rfl⟩ := mds_at e
      have sc := arF_succ (a := p.1.ps) ez
      have mz := List.mem_of_getElem? ez
      have L3 := arF_len (t.md.take i) p.1.ps
      have L4 : (t.md.take i).length ≤ t.md.length := by rw [List.length_take]; omega
      have okp := arF_ok (r := p.1) (t.md.take i) p.1.ps (W.ok p mp)
      have gets : ∀ s, s ∉ t.md.map (·.1) → getS (arF (t.md.take i) p.1.ps) s = getS p.1.ps s := fun s h => arF_get _ _ fun m => h (by
        obtain ⟨y, hy, e⟩ := List.mem_map.mp m
        exact List.mem_map.mpr ⟨y, List.mem_of_mem_take hy, e⟩)
      generalize hA : arF (t.md.take i) p.1.ps = psi at *
      have W2 : WOk ts (setW rs p.2 psi) last := W.setP mp okp
      have mp2 := mem_setW (ps := psi) mp
      refine g_pair hd fun v1 v2 h1 h2 => ?_
      have h2 : Dv (O5 K) H' (ruD z.2) v2 := h2
      have h2' := h2
      rw [ruD_eq] at h2
      cases (show v1 = .str z.1 from h1)
      have e0 : EP (tOp (rIxT K) (tVar 4) (tC (.int 0))) [some (.ref aw), some (.ref b), some (.ref p.2), some (.str z.1), some v2] H' fun v _ => v = .str (ruW z.2) := ed_ixT P (i := 0) (l := .str (ruW z.2) :: ruT z.2) (ed_pv P rfl h2) rfl
      have te := et_t (eb_eq (y := .str "around") e0 ep_str rfl)
      rw [ruW_ar] at te
      refine te.run fun H3 s3 => ?_
      cases er : z.2 with
      | id =>
        rw [show arS psi z = psi by unfold arS; rw [er]] at sc
        exact Vl.iteN rfl ⟨⟨_, _, rfl⟩, Ch.trans c2 (Ch.same s3), cm2.trans (Calm.same s3), by rw [sc]; exact hw2.same s3⟩
      | mark =>
        rw [show arS psi z = psi by unfold arS; rw [er]] at sc
        exact Vl.iteN rfl ⟨⟨_, _, rfl⟩, Ch.trans c2 (Ch.same s3), cm2.trans (Calm.same s3), by rw [sc]; exact hw2.same s3⟩
      | ar sn pre post =>
        obtain ⟨⟨x, ex, sx⟩, lp, lq, nsn⟩ := so z mz sn pre post er
        rw [er] at h2'
        have ex2 : getS psi sn = some x := by rw [gets sn nsn]; exact ex
        have hw3 := hw2.same s3
        obtain ⟨kv3, ekv3, pts3⟩ := hw3.r _ mp2
        obtain ⟨xv, exv, hxv⟩ := (pts3.get sn).2 x ex2
        have okx := okp.vs _ (getS_mem ex2)
        have nox : noOb x = true := by
          have := okx.kp
          cases x <;> first | rfl | cases this
        refine Vl.iteC rfl ⟨v2, rfl, _, rfl, ?_⟩
        have i1 : ED (O5 K) (tOp (rIxT K) (tVar 4) (tC (.int 1))) [some (.ref aw), some (.ref b), some (.ref p.2), some (.str z.1), some v2] H3 (.str sn) := ed_ixT P (i := 1) (l := [.str "around", .str sn, .str pre, .str post]) (ed_pv P rfl (P.dv s3 h2')) rfl
        refine i1.run fun y H4 s4 ey => ?_
        cases (show y = .str sn from ey)
        refine ⟨p.2, xv, rfl, .inl ⟨kv3, .inr sn, .inl (s4 _ _ ekv3), rfl, exv.symm⟩, ?_⟩
        refine ⟨v2, xv, sn, pre, post, x, rfl, P.dv (Same.trans s3 s4) h2', P.dv s4 hxv, nox, sx, lp, lq, fun H5 s5 => ?_⟩
        have s45 := Same.trans s4 s5
        have hw5 := hw3.same s45
        obtain ⟨hw7, cm7, na, ns⟩ := hw5.put W2 mp2 (s := z.1) (x := .str (pre ++ midS x ++ post)) (v := .str (pre ++ midS x ++ post)) rfl (okV_str _).kp (s45 _ _ ekv3)
        rw [setW_two] at hw7
        rw [show arS psi z = putS psi z.1 (.str (pre ++ midS x ++ post)) by unfold arS; rw [er]; simp only; rw [ex2]; rfl] at sc
        refine ⟨_, rfl, _, rfl, p.2, _, rfl, DPut.k (k := .inr z.1) (s45 _ _ ekv3) (Nat.lt_of_le_of_lt (show kv3.length ≤ 1000 by rw [pts3.len]; simp only at L3 ⊢; omega) (by decide)), ⟨_, _, rfl⟩, ?_, ?_, by rw [sc]; exact hw7⟩
        · exact Ch.trans c2 (Ch.trans (Ch.same (Same.trans s3 s45)) (Ch.upd (by simp)))
        · exact cm2.trans ((Calm.same (Same.trans s3 s45)).trans cm7)
    · obtain ⟨_, c2, cm2, hw2⟩ := pv
      rw [List.length_map, List.take_length] at hw2
      exact q H' (Ch.trans (Ch.same (Same.trans s0 s1)) c2) ((Calm.same (Same.trans s0 s1)).trans cm2) hw2
end
end Kd

set_option Elab.async false
set_option linter.all false
set_option maxRecDepth 100000
set_option maxHeartbeats 4000000
/-! World: make -/
namespace Kd
open PySem PySem.Spec PyProof.Rows L2 Dq Vl Pf Ed ClX
abbrev gvN (t : Tb) : List Str := t.gv.map (·.nm)
/-- a table as it may be -/
structure TbOk (t : Tb) : Prop where
  hd : (gvN t).head? = some "a"
  nd : (gvN t).Nodup
  id : ("id" : Str) ∉ gvN t
  ap : ∀ s ∈ gvN t, s ∉ t.md.map (·.1)
  ml : t.gv.length + t.md.length ≤ 200
  nm : nmS t.name = true
  ar : ∀ q ∈ t.md, ∀ s pre post, q.2 = .ar s pre post → s ∈ gvN t ∧ pre.length ≤ 300 ∧ post.length ≤ 300
/-- the given values are short -/
def GvS (t : Tb) (ps : Prt) : Prop := ∀ s ∈ gvN t, ∃ x, getS ps s = some x ∧ smlD x = true
theorem GvS.src {t : Tb} {ps : Prt} (T : TbOk t) (g : GvS t ps) : SrcOk t.md ps := fun q hq s pre post e => by
  obtain ⟨h1, h2, h3⟩ := T.ar q hq s pre post e
  exact ⟨g s h1, h2, h3, T.ap s h1⟩
theorem GvS.mark {t : Tb} {k : Str} {a : Prt × Nat} (T : TbOk t) (g : GvS t a.1) : GvS t (markF k t.md a).1 := fun s hs => by rw [markF_get _ _ (T.ap s hs)]; exact g s hs
theorem GvS.ar {t : Tb} {a : Prt} (T : TbOk t) (g : GvS t a) : GvS t (arF t.md a) := fun s hs => by rw [arF_get _ _ (T.ap s hs)]; exact g s hs
/-- what an object is made with -/
def givP (t : Tb) (g : Prt) : Prt := t.gv.map fun r => (r.nm, chosenD r.so ((getS g r.nm).getD .non))
def mk0P (t : Tb) (g : Prt) (n : Nat) : Prt := putS (givP t g) "id" (tagOf t.name n)
def mkP (t : Tb) (g : Prt) (n : Nat) : Prt := arF t.md (markF t.name t.md (mk0P t g n, n)).1
def mkL (t : Tb) (g : Prt) (n : Nat) : Nat := (markF t.name t.md (mk0P t g n, n)).2
def mkRo (t : Tb) (g : Prt) (n : Nat) : Ro := ⟨t.name, n, mkP t g n⟩
/-- values that may be given -/
structure GvOk (g : Prt) : Prop where
  v : ∀ p ∈ g, OkV p.2 ∧ smlD p.2 = true
theorem chosen_ok {so : Str} {d : D5} (h : OkV d ∧ smlD d = true) : OkV (chosenD so d) ∧ smlD (chosenD so d) = true := by
  cases d with
  | non =>
    by_cases e : so = "filled"
    · rw [chosenD, if_pos e]; exact ⟨okV_str _, by decide +kernel⟩
    · rw [chosenD, if_neg e]; exact h
  | _ => exact h
theorem okV_non : OkV (.non : D5) := ⟨rfl, rfl, rfl, rfl, by simp [keyD, dp, dpL]⟩
theorem get_ok {g : Prt} (G : GvOk g) (s : Str) : OkV ((getS g s).getD .non) ∧ smlD ((getS g s).getD .non) = true := by
  cases e : getS g s with
  | none => exact ⟨okV_non, rfl⟩
  | some x => exact G.v _ (getS_mem e)
theorem givP_keys {t : Tb} {g : Prt} : (givP t g).map (·.1) = gvN t := by
  unfold givP
  rw [List.map_map]
  rfl
theorem givP_ok {t : Tb} {g : Prt} (G : GvOk g) : ∀ p ∈ givP t g, OkV p.2 ∧ smlD p.2 = true := fun p hp => by
  obtain ⟨r, hr, rfl⟩ := List.mem_map.mp hp
  exact chosen_ok (get_ok G _)
theorem givP_gs {t : Tb} {g : Prt} (G : GvOk g) : GvS t (givP t g) := fun s hs => by
  obtain ⟨x, hx⟩ := getS_some (ps := givP t g) (s := s) (by rw [givP_keys]; exact hs)
  exact ⟨x, hx, (givP_ok G _ (getS_mem hx)).2⟩
theorem mk0_gs {t : Tb} {g : Prt} {n : Nat} (T : TbOk t) (G : GvOk g) : GvS t (mk0P t g n) := fun s hs => by
  unfold mk0P
  rw [getS_put, if_neg fun e => T.id (by rw [← e]; exact hs)]
  exact givP_gs G s hs
theorem mk0_ok {t : Tb} {g : Prt} {n : Nat} (T : TbOk t) (G : GvOk g) (hn : 1 ≤ n) : OkR ⟨t.name, n, mk0P t g n⟩ :=
  OkR.put (r := ⟨t.name, n, givP t g⟩) ⟨fun p hp => (givP_ok G p hp).1, by rw [givP_keys]; exact T.nd, by rw [givP_keys]; exact T.hd, T.nm, hn⟩ (okV_tag T.nm)
theorem mk0_len {t : Tb} {g : Prt} {n : Nat} : (mk0P t g n).length ≤ t.gv.length + 1 := by
  unfold mk0P
  refine Nat.le_trans put_len ?_
  unfold givP
  rw [List.length_map]
  exact Nat.le_refl _
theorem mkP_ok {t : Tb} {g : Prt} {n : Nat} (T : TbOk t) (G : GvOk g) (hn : 1 ≤ n) : OkR (mkRo t g n) := arF_ok (r := mkRo t g n) _ _ (markF_ok (r := mkRo t g n) T.nm _ _ (mk0_ok T G hn))
theorem mkP_gs {t : Tb} {g : Prt} {n : Nat} (T : TbOk t) (G : GvOk g) : GvS t (mkP t g n) := GvS.ar T (GvS.mark T (mk0_gs T G))
theorem alienV {kvs : List (Key × V)} (h : ∀ k, (kvs.map (·.1)).head? = some k → k = .inr "a") : Alien Kval (.dK kvs) := alien_dk fun ks hk e => by
  cases ks with
  | nil => cases hk
  | cons k ks =>
    have := h (.inr k) (by rw [e]; rfl)
    rw [Sum.inr.inj this] at hk
    simp [Kval] at hk
theorem PtsD.app {K : PySem.W.Frag} {H : Hp} {s : Str} {x : D5} {v : V} (hv : Dv (O5 K) H x v) : ∀ {ps : Prt} {kvs : List (Key × V)}, PtsD K H ps kvs → PtsD K H (ps ++ [(s, x)]) (kvs ++ [(.inr s, v)])
  | [], _, h => by cases h; exact ⟨v, [], rfl, hv, rfl⟩
  | p :: ps, _, ⟨u, kvs, e, h, r⟩ => by subst e; exact ⟨u, _, rfl, h, r.app hv⟩
theorem pts_none {K : PySem.W.Frag} {H : Hp} {ps : Prt} {kvs : List (Key × V)} {s : Str} (p : PtsD K H ps kvs) (h : s ∉ ps.map (·.1)) : valV kvs (.inr s : Key) = none := (p.get s).1 (getS_none.mpr h)
abbrev sMake : Stmt := inClass (tp 35) 4
abbrev NMake : List Str := ["self", "kind", "given", "attributes", "tag", "row"]
theorem scMake : FnScope NMake ["self", "kind", "given"] (defScope sMake) := ⟨rfl, rfl, rfl, by decide +kernel, rfl, by decide +kernel, by decide +kernel⟩
def spMake (K : PySem.W.Frag) (CW CK : Addr) : Sp := fun vs H Q _ => ∃ (aw kd sd gd : Addr) (rs : Rs) (last : Nat) (ts : List Tb) (t : Tb) (g : Prt), vs = [.ref aw, .str t.name, .ref gd] ∧ WAt K CW H aw kd sd rs last ∧ WOk ts rs last ∧ TsOk ts ∧ KAt K CK H kd ts ∧ t ∈ ts ∧ TbOk t ∧ t.si = none ∧
  PD K H g gd ∧ GvOk g ∧ rs.length < 1000 ∧
  ∀ (b d : Addr) H', Ch [aw, sd] H H' → Calm CK H H' → H d = none → WAt K CW H' aw kd sd (rs ++ [(mkRo t g (last + 1), d)]) (mkL t g (last + 1)) → H' b = some (.tup [.str "#", .str t.name, .int ((last + 1 : Nat) : Int)]) → Q (.ref b) H'
theorem WOk.add {ts : List Tb} {rs : Rs} {last : Nat} {r : Ro} {d : Addr} {n : Nat} (W : WOk ts rs last) (o : OkR r) (hn : r.n = last + 1) (hl : last + 1 ≤ n) (nd : ∀ p ∈ rs, p.2 ≠ d) (rl : rs.length < 1000) (hk : ∃ t ∈ ts, t.name = r.kind) : WOk ts (rs ++ [(r, d)]) n where
  ok := fun p hp => by
    rcases List.mem_append.mp hp with h | h
    · exact W.ok p h
    · rw [List.mem_singleton.mp h]; exact o
  nk := by
    rw [List.map_append]
    refine List.nodup_append.mpr ⟨W.nk, by simp, fun a ha b hb e => ?_⟩
    rw [List.map_cons, List.map_nil, List.mem_singleton] at hb
    obtain ⟨p, hp, rfl⟩ := List.mem_map.mp ha
    have := (keyT_eq.mp (e.trans hb)).2
    have h2 := W.le p hp
    have h3 : p.1.n = r.n := this
    omega
  nd := by
    rw [List.map_append]
    refine List.nodup_append.mpr ⟨W.nd, by simp, fun a ha b hb e => ?_⟩
    rw [List.map_cons, List.map_nil, List.mem_singleton] at hb
    obtain ⟨p, hp, rfl⟩ := List.mem_map.mp ha
    exact nd p hp (e.trans hb)
  le := fun p hp => by
    rcases List.mem_append.mp hp with h | h
    · exact Nat.le_trans (W.le p h) (by omega)
    · rw [List.mem_singleton.mp h]; show r.n ≤ n; omega
  ln := by rw [List.length_append]; simp; omega
  kd := fun p hp => by
    rcases List.mem_append.mp hp with h | h
    · exact W.kd p h
    · rw [List.mem_singleton.mp h]; exact hk
theorem setW_last {rs : Rs} {r : Ro} {d : Addr} {ps : Prt} (nd : ∀ p ∈ rs, p.2 ≠ d) : setW (rs ++ [(r, d)]) d ps = rs ++ [({ r with ps := ps }, d)] := by
  unfold setW
  rw [List.map_append, List.map_cons, List.map_nil, if_pos rfl]
  congr 1
  have : rs.map (fun p => if p.2 = d then (({ p.1 with ps := ps } : Ro), p.2) else p) = rs.map id := List.map_congr_left fun p hp => if_neg (nd p hp)
  rw [this, List.map_id]
section
variable {P : Program} {w : World} {K : PySem.W.Frag} {mg : Str → Option Value} {base : Heap} {CW CK : Addr}
theorem ok_make {f fF fA fR fN fM fS : Addr} {fd fdF fdA fdR fdN fdM fdS : FuncData} (F : Fun K "make" "World.make" sMake f fd) (T : TxtW K mg CW) (TK : TxtKi K mg CK)
    (DF : Def P w K mg base 5 "fresh" fF fdF ["value"] (spFrs K 4)) (DA : Def P w K mg base 1 "_as_chosen" fA fdA ["value", "sort"] (spAC K))
    (MR : Meth K CW "_refuse_taken" fR) (GR : FnOk P w K mg base CX0 1 fR fdR PRT (spRT K CW CK)) (bR : Binds K fdR PRT [])
    (MN : Meth K CW "_next_tag" fN) (GN : FnOk P w K mg base CX0 1 fN fdN ["self", "kind"] (spNT K CW)) (bN : Binds K fdN ["self", "kind"] [])
    (MM : Meth K CW "_mark" fM) (GM : FnOk P w K mg base CX0 2 fM fdM ["self", "tag"] (spMk K CW CK)) (bM : Binds K fdM ["self", "tag"] [])
    (MS : Meth K CW "_surround" fS) (GS : FnOk P w K mg base CX0 3 fS fdS ["self", "tag"] (spSu K CW CK)) (bS : Binds K fdS ["self", "tag"] []) (neK : CW ≠ CK) :
    FnOk P w K mg base CX0 6 f fd ["self", "kind", "given"] (spMake K CW CK) := by
  refine F.ok scMake (fun vs H Q E h => ?_) (fun cdv A outer s H vs Q E hr h => ?_)
  · obtain ⟨aw, kd, sd, gd, rs, last, ts, t, g, rfl, _⟩ := h
    rfl
  · obtain ⟨aw, kd, sd, gd, rs, last, ts, t, g, rfl, hw, W, TO, hk, ht, TB, esi, hg, G, rl, q⟩ := h
    refine ⟨_, pss_cons (Sd.ps_setDc (i := 3) (own := [("row", 5)]) (g := gName 5) (tt := tYes) rfl scMake.nd rfl rfl (Sd.sw_trueD rfl rfl rfl (by decide +kernel)) (pi_tup (pe_fld (pe_dget (hu_of hr) (pe_fld (pv 0) rfl) (pv 1) (fun _ _ => rfl)) rfl)) (blkOk_by (N := NMake) (sc := defScope sMake) (by decide +kernel)) (fun _ _ _ _ _ => pg_name (i := 5) scMake.nd rfl (Or.inl rfl)) (fun _ _ _ _ _ => pts_nil)
        (fun _ _ _ _ _ => pe_ix (show IxR _ (rIxT K) from ix_tup) (pv 5) pe_int (fun _ _ => rfl))
        (fun _ _ _ _ _ => pe_call DA.ok (hr.mono (by decide)) rfl DA.g DA.kp DA.b .nil pass0 (pa_cons (pe_call DF.ok (hr.mono (by decide)) rfl DF.g DF.kp DF.b .nil pass0 (pa_cons (pe_dget1 (hu_of hr) (pv 2) (pe_ix (show IxR _ (rIxT K) from ix_tup) (pv 5) pe_int (fun _ _ => rfl)) ⟨rfl, rfl, rfl, rfl⟩) pa_nil)) (pa_cons (pe_ix (show IxR _ (rIxT K) from ix_tup) (pv 5) pe_int (fun _ _ => rfl)) pa_nil))))
      (pss_cons (ps_expr (pe_meth (pv 0) T.cl MR GR (hr.mono (by decide)) bR .nil pass0 (pa_cons (pv 1) (pa_cons (pv 3) (pa_cons pe_non pa_nil)))))
      (pss_cons (ps_set (i := 4) scMake.nd rfl (Or.inl rfl) (pe_meth (pv 0) T.cl MN GN (hr.mono (by decide)) bN .nil pass0 (pa_cons (pv 1) pa_nil)))
      (pss_cons (ps_dput (hu_of hr) (pv 3) pe_str (pv 4) (by rfl))
      (pss_cons (ps_dput (hu_of hr) (pe_fld (pv 0) rfl) (pv 4) (pv 3) (by rfl))
      (pss_cons (ps_expr (pe_meth (pv 0) T.cl MM GM (hr.mono (by decide)) bM .nil pass0 (pa_cons (pv 4) pa_nil)))
      (pss_cons (ps_expr (pe_meth (pv 0) T.cl MS GS (hr.mono (by decide)) bS .nil pass0 (pa_cons (pv 4) pa_nil)))
      (pss_one (ps_ret (pv 4))))))))), ?_⟩
    have P := kps5 (K := K)
    refine (ed_given TK (ep_kind (t := t) T hw hk ht rfl (ep_v rfl))).run fun gv' H1 s1 hv => ?_
    have hv : Dv (O5 K) H1 (gvsT t) gv' := hv
    obtain ⟨ga, us, rfl, ha, hl⟩ := hv
    refine ⟨ga, rfl, ⟨us, ha⟩, fun D nD => ?_⟩
    have nD0 : H D = none := by
      cases e : H D with
      | none => rfl
      | some o => rw [s1 _ _ e] at nD; cases nD
    have lu : us.length = t.gv.length := by rw [hl.len, List.length_map]
    have lg : (givP t g).length = t.gv.length := by unfold givP; rw [List.length_map]
    obtain ⟨gkv, egd, gp⟩ := hg
    have gmap : ∀ {i : Nat} {r : Gv}, t.gv[i]? = some r → (givP t g)[i]? = some (r.nm, chosenD r.so ((getS g r.nm).getD .non)) := fun e => by
      unfold givP
      rw [List.getElem?_map, e]
      rfl
    have hdA : ∀ i, ∀ k, (((givP t g).take i).map (·.1)).head? = some k → k = "a" := fun i k e => by
      rw [List.map_take, givP_keys] at e
      cases i with
      | zero => rw [List.take_zero] at e; cases e
      | succ i =>
        cases eg : gvN t with
        | nil => rw [eg] at e; cases e
        | cons x r =>
          have h1 := TB.hd
          rw [eg] at h1 e
          rw [List.take_succ_cons] at e
          exact Option.some.inj (e.symm.trans h1)
    refine Sd.dc_it (walk_tup (xs := us)) (fun i H' => Same H1 H' ∧ ∃ kv', H' D = some (.dK kv') ∧ PtsD K H' ((givP t g).take i) kv')
      ⟨sm_upd nD, [], upd_same, rfl⟩ (fun i H' _ h => SqT.same ha h.1) (fun i u H2 H2' hlt h y' => ?_) (fun H2 h => ?_)
    · obtain ⟨c2, kv', eD, ep⟩ := h
      obtain ⟨rfl, eu⟩ := y'
      have c0 : Same H H2' := Same.trans s1 c2
      obtain ⟨d, ed, hd⟩ := rowAt hl eu
      obtain ⟨r, er, rfl⟩ : ∃ r, t.gv[i]? = some r ∧ d = gvrD r := by
        rw [List.getElem?_map] at ed
        cases e : t.gv[i]? with
        | none => rw [e] at ed; cases ed
        | some r => rw [e] at ed; cases ed; exact ⟨r, rfl, rfl⟩
      have hd2 : Dv (O5 K) H2' (gvrD r) u := P.dv c2 hd
      have row0 : ∀ {H3 : Hp} {σ : L2.St}, Same H2' H3 → σ[5]? = some (some u) → ED (O5 K) (tOp (rIxT K) (tVar 5) (tC (.int 0))) σ H3 (.str r.nm) := fun s3 e => ed_ixT P (i := 0) (l := [.str r.nm, .str r.so, .bl r.fo, rdgD r.rd]) (ed_pv P e (P.dv s3 hd2)) rfl
      have row1 : ∀ {H3 : Hp} {σ : L2.St}, Same H2' H3 → σ[5]? = some (some u) → ED (O5 K) (tOp (rIxT K) (tVar 5) (tC (.int 1))) σ H3 (.str r.so) := fun s3 e => ed_ixT P (i := 1) (l := [.str r.nm, .str r.so, .bl r.fo, rdgD r.rd]) (ed_pv P e (P.dv s3 hd2)) rfl
      refine ⟨rfl, ?_⟩
      show tOp (rIxT K) (tVar 5) (tC (.int 0)) _ _ _
      refine (row0 (Same.refl _) rfl).run fun v1 H3 s3 hv1 => ?_
      cases (show v1 = .str r.nm from hv1)
      refine ⟨_, rfl, gd, rfl, .inl ⟨gkv, .inl (s3 _ _ (c0 _ _ egd))⟩, ?_⟩
      refine (row0 s3 rfl).run fun v1 H4 s4 hv1 => ?_
      cases (show v1 = .str r.nm from hv1)
      have s34 := Same.trans s3 s4
      obtain ⟨xv, exv, hxv⟩ : ∃ xv, valV gkv (.inr r.nm : Key) = xv ∧ Dv (O5 K) H ((getS g r.nm).getD .non) (xv.getD .non) := by
        obtain ⟨g1, g2⟩ := gp.get r.nm
        cases e : getS g r.nm with
        | none => exact ⟨none, g1 e, rfl⟩
        | some x =>
          obtain ⟨v, e1, e2⟩ := g2 x e
          exact ⟨some v, e1, e2⟩
      obtain ⟨okx, smx⟩ := get_ok G r.nm
      refine ⟨xv, .inl ⟨gkv, .inr r.nm, .inl (s34 _ _ (c0 _ _ egd)), rfl, exv.symm⟩, ?_⟩
      refine ⟨_, _, rfl, P.dv (Same.trans c0 s34) hxv, okx.ly, fun v' H5 s5 hv' _ => ?_⟩
      refine (row1 (Same.trans s34 s5) rfl).run fun v2 H6 s6 hv2 => ?_
      cases (show v2 = .str r.so from hv2)
      refine ⟨v', _, r.so, rfl, P.dv s6 hv', fun v3 H7 s7 hv3 => ?_⟩
      have s27 := Same.trans s34 (Same.trans s5 (Same.trans s6 s7))
      have gi := gmap er
      have kl : kv'.length ≤ 500 := by
        rw [ep.len, List.length_take, lg]
        have := TB.ml
        omega
      have nw : r.nm ∉ ((givP t g).take i).map (·.1) := fun m => by
        have nn := TB.nd
        rw [← givP_keys (g := g), ← List.take_append_drop i (givP t g), List.map_append] at nn
        have hi : i < (givP t g).length := (List.getElem?_eq_some_iff.mp gi).1
        refine (List.nodup_append.mp nn).2.2 _ m _ ?_ rfl
        rw [List.drop_eq_getElem_cons hi, (List.getElem?_eq_some_iff.mp gi).2]
        exact List.mem_cons_self
      have nz := pts_none ep nw
      refine ⟨kv', .inr r.nm, rfl, s27 _ _ eD, Nat.lt_of_le_of_lt kl (by decide), ?_, _, upd_same, ?_⟩
      · intro c o e
        have nc : c ≠ D := fun q => by rw [q, nD] at e; cases e
        rw [upd_ne nc]
        exact s27 _ _ (c2 _ _ e)
      · rw [putK_new _ nz, List.take_succ, gi]
        have cD : Ch [D] H7 (upd H7 D (.dK (kv' ++ [(Sum.inr r.nm, v3)]))) := Ch.upd (by simp)
        have al : ∀ b ∈ [D], ∀ o, H7 b = some o → Alien Kval o := fun b hb o e => by
          rw [List.mem_singleton.mp hb, s27 _ _ eD] at e
          cases e
          refine alienV fun k ek => ?_
          rw [ep.keys, List.head?_map] at ek
          cases eh : (((givP t g).take i).map (·.1)).head? with
          | none => rw [eh] at ek; cases ek
          | some z => rw [eh] at ek; cases ek; rw [hdA i z eh]
        exact PtsD.app (Dv.ch cD al _ _ (chosen_ok (so := r.so) ⟨okx, smx⟩).1.kp hv3) ((ep.same s27).ch cD al fun p hp => (givP_ok G p (List.mem_of_mem_take hp)).1.kp)
    · obtain ⟨c2, kv, eD, ep⟩ := h
      rw [lu, ← lg, List.take_length] at ep
      have c0 : Same H H2 := Same.trans s1 c2
      have hw2 := hw.same c0
      obtain ⟨dx, ew⟩ := hw2.w
      have lkn : ∀ {nm : Str} {n : Int}, (nm == "_kinds") = false → (nm == "_standing") = false → (nm == "_last") = false → (wfl kd sd n).lookup nm = none := fun a b c => (lk_tl a).trans ((lk_tl b).trans ((lk_tl c).trans rfl))
      have nDw : D ≠ aw := fun e => by rw [e, ew] at eD; cases eD
      have es2 := hw2.s
      have nDs : D ≠ sd := fun e => by rw [e, es2] at eD; cases eD
      have nws : aw ≠ sd := fun e => by rw [e, es2] at ew; cases ew
      have nDr : ∀ p ∈ rs, p.2 ≠ D := fun p hp e => by
        obtain ⟨kv9, e9, _⟩ := hw.r p hp
        rw [e, nD0] at e9
        cases e9
      have kl : kv.length ≤ 500 := by rw [ep.len, lg]; have := TB.ml; omega
      have hdD : (kv.map (·.1)).head? = some (.inr "a" : Key) := by rw [ep.keys, givP_keys, List.head?_map, TB.hd]; rfl
      refine ⟨_, rfl, aw, dx, _, rfl, ew, lkn (by decide +kernel) (by decide +kernel) (by decide +kernel), _, rfl, _, rfl, aw, kd, sd, D, rs, last, ts, t, kv, .non, rfl, hw2, hk.same c0, ht, esi, eD, fun H3 s3 => ?_⟩
      have ew3 := s3 _ _ ew
      refine ⟨_, rfl, aw, dx, _, rfl, ew3, lkn (by decide +kernel) (by decide +kernel) (by decide +kernel), _, rfl, aw, kd, sd, dx, t.name, last, rfl, ew3, fun b H4 c4 nb e1 e2 => ?_⟩
      have cm4 : Calm CK H3 H4 := .ch c4 fun a m o eo => by
        rw [List.mem_singleton.mp m, ew3] at eo
        cases eo
        exact apt_ins neK
      have eD4 := c4 _ _ (s3 _ _ eD) (by simpa using nDw)
      have es4 := c4 _ _ (s3 _ _ es2) (by simpa using Ne.symm nws)
      have nbD : b ≠ D := fun e => by rw [e, s3 _ _ eD] at nb; cases nb
      have nbs : b ≠ sd := fun e => by rw [e, s3 _ _ es2] at nb; cases nb
      refine ⟨_, rfl, _, rfl, D, _, rfl, DPut.k (k := .inr "id") eD4 (Nat.lt_of_le_of_lt kl (by decide)), ?_⟩
      have htag : Dv (O5 K) H4 (tagOf t.name (last + 1)) (.ref b) := ⟨b, _, rfl, .inl (.inl e2), _, _, rfl, rfl, _, _, rfl, rfl, _, _, rfl, rfl, rfl⟩
      have ep4 : PtsD K H4 (givP t g) kv := (ep.same s3).imp fun p hp v hv => Dv.calm cm4 _ _ (kv_kin (givP_ok G p hp).1.kp) hv
      have cm5 : Calm CK H4 (upd H4 D (.dK (putK kv (.inr "id" : Key) (.ref b)))) := .upd eD4 (apt_a hdD)
      have pts5 : PtsD K (upd H4 D (.dK (putK kv (.inr "id" : Key) (.ref b)))) (mk0P t g (last + 1)) (putK kv (.inr "id" : Key) (.ref b)) := (PtsD.put htag (by rw [givP_keys]; exact TB.nd) ep4).imp fun p hp v hv => Dv.calm cm5 _ _ (kv_kin ((mk0_ok (n := last + 1) TB G (Nat.le_add_left _ _)).kp p hp)) hv
      have c5 : Ch [aw, D] H2 (upd H4 D (.dK (putK kv (.inr "id" : Key) (.ref b)))) := Ch.trans (Ch.same s3) (Ch.trans (Ch.mono c4 (by simp)) (Ch.upd (by simp)))
      have e15 : (upd H4 D (.dK (putK kv (.inr "id" : Key) (.ref b)))) aw = some (.ins CW dx (wfl kd sd ((last + 1 : Nat) : Int))) := (upd_ne (Ne.symm nDw)).trans e1
      have e25 : (upd H4 D (.dK (putK kv (.inr "id" : Key) (.ref b)))) b = some (.tup [.str "#", .str t.name, .int ((last + 1 : Nat) : Int)]) := (upd_ne nbD).trans e2
      have eD5 : (upd H4 D (.dK (putK kv (.inr "id" : Key) (.ref b)))) D = some (.dK (putK kv (.inr "id" : Key) (.ref b))) := upd_same
      have es5 : (upd H4 D (.dK (putK kv (.inr "id" : Key) (.ref b)))) sd = some (.dT (rs.map wkv)) := (upd_ne (Ne.symm nDs)).trans es4
      have cm25 : Calm CK H2 (upd H4 D (.dK (putK kv (.inr "id" : Key) (.ref b)))) := (Calm.same s3).trans (cm4.trans cm5)
      generalize upd H4 D (.dK (putK kv (.inr "id" : Key) (.ref b))) = H5 at c5 e15 e25 eD5 es5 pts5 cm25
      have rlen : (rs.map wkv).length ≤ 1000 := by rw [List.length_map]; exact W.ln
      refine ⟨_, rfl, _, rfl, aw, CW, dx, _, _, rfl, e15, T.cl, T.n2, wl2, _, rfl, sd, _, rfl, DPut.t (k := keyT t.name (last + 1)) es5 e25 (Nat.lt_of_le_of_lt rlen (by decide)), ?_⟩
      have nkey : valV (rs.map wkv) (keyT t.name (last + 1)) = none := by
        rw [w_get, Option.map_eq_none_iff]
        unfold findW
        rw [List.find?_eq_none]
        intro p hp z
        have := (isRow_iff.mp z).2
        have h2 := W.le p hp
        omega
      rw [putK_new _ nkey]
      have ewk : rs.map wkv ++ [(keyT t.name (last + 1), V.ref D)] = (rs ++ [((⟨t.name, last + 1, mk0P t g (last + 1)⟩ : Ro), D)]).map wkv := by rw [List.map_append]; rfl
      have c6 : Ch [aw, D, sd] H2 (upd H5 sd (.dT (rs.map wkv ++ [(keyT t.name (last + 1), .ref D)]))) := Ch.trans (Ch.mono c5 (by simp)) (Ch.upd (by simp))
      have cm56 : Calm CK H5 (upd H5 sd (.dT (rs.map wkv ++ [(keyT t.name (last + 1), .ref D)]))) := .upd es5 apt_dT
      have hw6 : WAt K CW (upd H5 sd (.dT (rs.map wkv ++ [(keyT t.name (last + 1), .ref D)]))) aw kd sd (rs ++ [((⟨t.name, last + 1, mk0P t g (last + 1)⟩ : Ro), D)]) (last + 1) := by
        refine ⟨⟨dx, (upd_ne nws).trans e15⟩, by rw [← ewk]; exact upd_same, fun p hp => ?_⟩
        rcases List.mem_append.mp hp with hp | hp
        · have n1 : p.2 ≠ sd := fun e => by
            obtain ⟨kv9, e9, _⟩ := hw2.r p hp
            rw [e, es2] at e9
            cases e9
          have n2 : p.2 ≠ aw := fun e => by
            obtain ⟨kv9, e9, _⟩ := hw2.r p hp
            rw [e, ew] at e9
            cases e9
          exact (hw2.r p hp).calm (cm25.trans cm56) (W.ok p hp).kp fun o eo => c6 _ _ eo (by simp only [List.mem_cons, List.not_mem_nil, or_false, not_or]; exact ⟨n2, nDr p hp, n1⟩)
        · rw [List.mem_singleton.mp hp]
          exact ⟨_, (upd_ne nDs).trans eD5, pts5.imp fun p hp v hv => Dv.calm cm56 _ _ (kv_kin ((mk0_ok (n := last + 1) TB G (Nat.le_add_left _ _)).kp p hp)) hv⟩
      have e26 : (upd H5 sd (.dT (rs.map wkv ++ [(keyT t.name (last + 1), .ref D)]))) b = some (.tup [.str "#", .str t.name, .int ((last + 1 : Nat) : Int)]) := (upd_ne nbs).trans e25
      have cm26 := cm25.trans cm56
      generalize upd H5 sd (.dT (rs.map wkv ++ [(keyT t.name (last + 1), .ref D)])) = H6 at c6 hw6 e26 cm26
      have W6 : WOk ts (rs ++ [((⟨t.name, last + 1, mk0P t g (last + 1)⟩ : Ro), D)]) (last + 1) := W.add (mk0_ok TB G (Nat.le_add_left _ _)) rfl (Nat.le_refl _) nDr rl ⟨t, ht, rfl⟩
      have hk6 : KAt K CK H6 kd ts := (hk.same c0).calm TO cm26
      have mp6 : ((⟨t.name, last + 1, mk0P t g (last + 1)⟩ : Ro), D) ∈ rs ++ [((⟨t.name, last + 1, mk0P t g (last + 1)⟩ : Ro), D)] := List.mem_append_right _ (List.mem_singleton.mpr rfl)
      have l6 : (mk0P t g (last + 1)).length + t.md.length ≤ 1000 := by have h1 := mk0_len (t := t) (g := g) (n := last + 1); have h2 := TB.ml; omega
      obtain ⟨dx6, ew6⟩ := hw6.w
      refine ⟨_, rfl, aw, dx6, _, rfl, ew6, lkn (by decide +kernel) (by decide +kernel) (by decide +kernel), _, rfl, aw, kd, sd, b, _, last + 1, ts, t, (⟨t.name, last + 1, mk0P t g (last + 1)⟩, D), rfl, hw6, W6, TO, hk6, ht, e26, mp6, rfl, l6, fun H7 c7 cm7 hw7 => ?_⟩
      have hw7 : WAt K CW H7 aw kd sd (setW (rs ++ [((⟨t.name, last + 1, mk0P t g (last + 1)⟩ : Ro), D)]) D (markF t.name t.md (mk0P t g (last + 1), last + 1)).1) (mkL t g (last + 1)) := hw7
      rw [setW_last nDr] at hw7
      obtain ⟨dx7, ew7⟩ := hw7.w
      have lm := markF_le (k := t.name) t.md (mk0P t g (last + 1), last + 1)
      have ll := markF_len (k := t.name) t.md (mk0P t g (last + 1), last + 1)
      have ok7 : OkR ⟨t.name, last + 1, (markF t.name t.md (mk0P t g (last + 1), last + 1)).1⟩ := markF_ok (r := ⟨t.name, last + 1, []⟩) TB.nm _ _ (mk0_ok TB G (Nat.le_add_left _ _))
      have W7 : WOk ts (rs ++ [((⟨t.name, last + 1, (markF t.name t.md (mk0P t g (last + 1), last + 1)).1⟩ : Ro), D)]) (mkL t g (last + 1)) := W.add ok7 rfl lm.1 nDr rl ⟨t, ht, rfl⟩
      have l7 : (markF t.name t.md (mk0P t g (last + 1), last + 1)).1.length + t.md.length ≤ 1000 := by have h1 := mk0_len (t := t) (g := g) (n := last + 1); have h2 := TB.ml; simp only at ll; omega
      refine ⟨_, rfl, aw, dx7, _, rfl, ew7, lkn (by decide +kernel) (by decide +kernel) (by decide +kernel), _, rfl, aw, kd, sd, b, _, _, ts, t, (⟨t.name, last + 1, (markF t.name t.md (mk0P t g (last + 1), last + 1)).1⟩, D), rfl, hw7, W7, TO, hk6.calm TO cm7, ht, cm7.t _ _ e26, List.mem_append_right _ (List.mem_singleton.mpr rfl), rfl, l7, GvS.src TB (GvS.mark TB (mk0_gs TB G)), fun H8 c8 cm8 hw8 => ?_⟩
      have hw8 : WAt K CW H8 aw kd sd (setW (rs ++ [((⟨t.name, last + 1, (markF t.name t.md (mk0P t g (last + 1), last + 1)).1⟩ : Ro), D)]) D (mkP t g (last + 1))) (mkL t g (last + 1)) := hw8
      rw [setW_last nDr] at hw8
      refine ⟨_, rfl, q b D H8 ?_ ((Calm.same c0).trans (cm26.trans (cm7.trans cm8))) nD0 hw8 (cm8.t _ _ (cm7.t _ _ e26))⟩
      intro c o e n
      simp only [List.mem_cons, List.not_mem_nil, or_false, not_or] at n
      have nc : c ≠ D := fun q => by rw [q, nD0] at e; cases e
      refine c8 _ _ (c7 _ _ (c6 _ _ (c0 _ _ e) ?_) ?_) ?_
      · simp only [List.mem_cons, List.not_mem_nil, or_false, not_or]; exact ⟨n.1, nc, n.2⟩
      · simp only [List.mem_cons, List.not_mem_nil, or_false, not_or]; exact ⟨n.1, nc⟩
      · simp only [List.mem_cons, List.not_mem_nil, or_false]; exact nc
end
end Kd

set_option Elab.async false
set_option linter.all false
set_option maxRecDepth 100000
set_option maxHeartbeats 4000000
/-! World: alter, change; given_names -/
namespace Kd
open PySem PySem.Spec PyProof.Rows L2 Dq Vl Pf Ed ClX
section
variable {K : PySem.W.Frag} {H : Hp} {ts : List Tb} {rs : Rs} {last : Nat} {p : Ro × Addr}
theorem tagD_row (o : OkR p.1) : tagD (tagR p.1) = true := by
  show (decide (("#" : Str) = "#") && (nmS p.1.kind && decide ((1 : Int) ≤ (p.1.n : Int)))) = true
  rw [o.k, decide_eq_true rfl, decide_eq_true (by have := o.n; omega)]
  rfl
theorem has_row (W : WOk ts rs last) (m : p ∈ rs) : hasD rs (tagR p.1) = true := by
  unfold hasD
  rw [tagD_row (W.ok p m), show rowD rs (tagR p.1) = findW rs p.1.kind p.1.n from rowD_tag, find_row W m]
  rfl
theorem targ_row {b : Addr} (o : OkR p.1) (hb : H b = some (.tup [.str "#", .str p.1.kind, .int (p.1.n : Int)])) : TArg K H (tagR p.1) (.ref b) :=
  ⟨⟨b, _, rfl, .inl (.inl hb), _, _, rfl, rfl, _, _, rfl, rfl, _, _, rfl, rfl, rfl⟩, nm_sh o.k, fun _ => ⟨b, _, _, rfl, hb, rfl⟩⟩
end
abbrev sAlt : Stmt := inClass (tp 35) 7
abbrev NAlt : List Str := ["self", "tag", "attribute", "value"]
theorem scAlt : FnScope NAlt NAlt (defScope sAlt) := ⟨rfl, rfl, rfl, by decide +kernel, rfl, by decide +kernel, by decide +kernel⟩
def altP (t : Tb) (ps : Prt) (s : Str) (x : D5) : Prt := arF t.md (putS ps s x)
def spAlt (K : PySem.W.Frag) (CW CK : Addr) : Sp := fun vs H Q _ => ∃ (aw kd sd b : Addr) (rs : Rs) (last : Nat) (ts : List Tb) (t : Tb) (p : Ro × Addr) (s : Str) (u : V) (x : D5), vs = [.ref aw, .ref b, .str s, u] ∧ WAt K CW H aw kd sd rs last ∧ WOk ts rs last ∧ TsOk ts ∧ KAt K CK H kd ts ∧ t ∈ ts ∧ TbOk t ∧
  H b = some (.tup [.str "#", .str t.name, .int (p.1.n : Int)]) ∧ p ∈ rs ∧ p.1.kind = t.name ∧ p.1.ps.length ≤ 200 ∧ GvS t p.1.ps ∧ s ∈ gvN t ∧ Dv (O5 K) H x u ∧ OkV x ∧ smlD x = true ∧
  ∀ H', Ch [p.2] H H' → Calm CK H H' → WAt K CW H' aw kd sd (setW rs p.2 (altP t p.1.ps s x)) last → Q .non H'
theorem GvS.put {t : Tb} {ps : Prt} {s : Str} {x : D5} (g : GvS t ps) (h : smlD x = true) : GvS t (putS ps s x) := fun k hk => by
  rw [getS_put]
  split
  · exact ⟨x, rfl, h⟩
  · exact g k hk
abbrev sGN : Stmt := tp 24
theorem scGN : FnScope ["kind", "row"] ["kind"] (defScope sGN) := ⟨rfl, rfl, rfl, by decide +kernel, rfl, by decide +kernel, by decide +kernel⟩
def spGN (K : PySem.W.Frag) (CK : Addr) : Sp := fun vs H Q _ => ∃ (ak : Addr) (t : Tb), vs = [.ref ak] ∧ KdAt (O5 K) CK H ak (kindD t) ∧ t.gv.length ≤ 1000 ∧ ∀ l H', Same H H' → H' l = some (.lst ((gvN t).map V.str)) → Q (.ref l) H'
abbrev sChg : Stmt := inClass (tp 35) 5
abbrev NChg : List Str := ["self", "tag", "given", "name"]
theorem scChg : FnScope NChg ["self", "tag", "given"] (defScope sChg) := ⟨rfl, rfl, rfl, by decide +kernel, rfl, by decide +kernel, by decide +kernel⟩
/-- what is given is put -/
def chS (g : Prt) (ps : Prt) (s : Str) : Prt := match getS g s with
  | some x => putS ps s x
  | none => ps
def chF (g : Prt) (l : List Str) (ps : Prt) : Prt := l.foldl (chS g) ps
theorem chF_succ {g : Prt} {l : List Str} {ps : Prt} {i : Nat} {s : Str} (e : l[i]? = some s) : chF g (l.take (i + 1)) ps = chS g (chF g (l.take i) ps) s := by
  unfold chF
  rw [List.take_succ, e, List.foldl_append]
  rfl
theorem chS_ok {g : Prt} (G : GvOk g) {r : Ro} {ps : Prt} {s : Str} (h : OkR { r with ps := ps }) : OkR { r with ps := chS g ps s } := by
  unfold chS
  split
  · rename_i x e
    exact h.put (G.v _ (getS_mem e)).1
  · exact h
theorem chF_ok {g : Prt} (G : GvOk g) {r : Ro} : ∀ (l : List Str) (ps : Prt), OkR { r with ps := ps } → OkR { r with ps := chF g l ps }
  | [], _, h => h
  | s :: l, ps, h => chF_ok G l (chS g ps s) (chS_ok G h)
theorem chF_len {g : Prt} : ∀ (l : List Str) (ps : Prt), (chF g l ps).length ≤ ps.length + l.length
  | [], _ => Nat.le_refl _
  | s :: l, ps => by
    have h := chF_len (g := g) l (chS g ps s)
    have h2 : (chS g ps s).length ≤ ps.length + 1 := by
      unfold chS
      split
      · exact put_len
      · exact Nat.le_succ _
    show (chF g l (chS g ps s)).length ≤ _
    rw [List.length_cons]
    omega
theorem chF_gs {g : Prt} (G : GvOk g) {t : Tb} : ∀ (l : List Str) (ps : Prt), GvS t ps → GvS t (chF g l ps)
  | [], _, h => h
  | s :: l, ps, h => chF_gs G l (chS g ps s) (by
    unfold chS
    split
    · rename_i x e
      exact h.put (G.v _ (getS_mem e)).2
    · exact h)
def chgP (t : Tb) (ps g : Prt) (last : Nat) : Prt := arF t.md (markF t.name t.md (chF g (gvN t) ps, last)).1
def chgL (t : Tb) (ps g : Prt) (last : Nat) : Nat := (markF t.name t.md (chF g (gvN t) ps, last)).2
def spChg (K : PySem.W.Frag) (CW CK : Addr) : Sp := fun vs H Q _ => ∃ (aw kd sd b gd : Addr) (rs : Rs) (last : Nat) (ts : List Tb) (t : Tb) (p : Ro × Addr) (g : Prt), vs = [.ref aw, .ref b, .ref gd] ∧ WAt K CW H aw kd sd rs last ∧ WOk ts rs last ∧ TsOk ts ∧ KAt K CK H kd ts ∧ t ∈ ts ∧ TbOk t ∧ t.si = none ∧
  H b = some (.tup [.str "#", .str t.name, .int (p.1.n : Int)]) ∧ p ∈ rs ∧ p.1.kind = t.name ∧ p.1.ps.length ≤ 200 ∧ GvS t p.1.ps ∧ PD K H g gd ∧ GvOk g ∧ (∀ q ∈ rs, q.2 ≠ gd) ∧
  ∀ H', Ch [aw, p.2] H H' → Calm CK H H' → WAt K CW H' aw kd sd (setW rs p.2 (chgP t p.1.ps g last)) (chgL t p.1.ps g last) → Q .non H'
section
variable {P : Program} {w : World} {K : PySem.W.Frag} {mg : Str → Option Value} {base : Heap} {CW CK : Addr}
theorem ok_alt {f fF fG fS : Addr} {fd fdF fdG fdS : FuncData} (F : Fun K "alter" "World.alter" sAlt f fd) (T : TxtW K mg CW) (DF : Def P w K mg base 5 "fresh" fF fdF ["value"] (spFrs K 4))
    (MG : Meth K CW "_refuse_gone" fG) (GG : FnOk P w K mg base CX0 4 fG fdG ["self", "tag"] (spRG K CW)) (bG : Binds K fdG ["self", "tag"] [])
    (MS : Meth K CW "_surround" fS) (GS : FnOk P w K mg base CX0 3 fS fdS ["self", "tag"] (spSu K CW CK)) (bS : Binds K fdS ["self", "tag"] []) :
    FnOk P w K mg base CX0 6 f fd NAlt (spAlt K CW CK) := by
  refine F.ok scAlt (fun vs H Q E h => ?_) (fun cdv A outer s H vs Q E hr h => ?_)
  · obtain ⟨aw, kd, sd, b, rs, last, ts, t, p, sn, u, x, rfl, _⟩ := h
    rfl
  · obtain ⟨aw, kd, sd, b, rs, last, ts, t, p, sn, u, x, rfl, hw, W, TO, hk, ht, TB, hb, mp, ek, pl, gs, hs, hx, ox, sx, q⟩ := h
    refine ⟨_, pss_cons (ps_expr (pe_meth (pv 0) T.cl MG GG (hr.mono (by decide)) bG .nil pass0 (pa_cons (pv 1) pa_nil)))
      (pss_cons (ps_dput (hu_of hr) (pe_dget (hu_of hr) (pe_fld (pv 0) rfl) (pv 1) (fun _ _ => rfl)) (pv 2) (pe_call DF.ok (hr.mono (by decide)) rfl DF.g DF.kp DF.b .nil pass0 (pa_cons (pv 3) pa_nil)) (by rfl))
      (pss_one (ps_expr (pe_meth (pv 0) T.cl MS GS (hr.mono (by decide)) bS .nil pass0 (pa_cons (pv 1) pa_nil))))), ?_⟩
    have P := kps5 (K := K)
    have lkn : ∀ {nm : Str} {n : Int}, (nm == "_kinds") = false → (nm == "_standing") = false → (nm == "_last") = false → (wfl kd sd n).lookup nm = none := fun a b c => (lk_tl a).trans ((lk_tl b).trans ((lk_tl c).trans rfl))
    obtain ⟨dx, ew⟩ := hw.w
    have okp := W.ok p mp
    have hb' : H b = some (.tup [.str "#", .str p.1.kind, .int (p.1.n : Int)]) := by rw [ek]; exact hb
    refine ⟨_, rfl, aw, dx, _, rfl, ew, lkn (by decide +kernel) (by decide +kernel) (by decide +kernel), _, rfl, aw, kd, sd, .ref b, tagR p.1, rs, last, rfl, hw, targ_row okp hb', has_row W mp, fun H1 s1 => ?_⟩
    refine ⟨_, rfl, u, x, rfl, P.dv s1 hx, ox.ly, fun v' H2 s2 hv' _ => ?_⟩
    have s02 := Same.trans s1 s2
    have hw2 := hw.same s02
    have ef : findW rs t.name p.1.n = some p := by
      have := find_row W mp
      rwa [ek] at this
    show tDGet (tFld K (tVar 0) "_standing") (tVar 1) [some (.ref aw), some (.ref b), some (.str sn), some u] H2 _
    refine (ep_row (K := K) (tk := tVar 1) (i := 0) (σ := [some (.ref aw), some (.ref b), some (.str sn), some u]) T hw2 rfl (ep_pv rfl fun H3 s3 => ⟨rfl, s3 _ _ (s02 _ _ hb)⟩) ef).run fun v0 H3 s3 ev0 => ?_
    subst ev0
    have s03 := Same.trans s02 s3
    have hw3 := hw2.same s3
    obtain ⟨kv, ekv, pts⟩ := hw3.r p mp
    obtain ⟨hw4, cm4, na, ns⟩ := hw3.put W mp (s := sn) (P.dv s3 hv') ox.kp ekv
    refine ⟨_, rfl, p.2, _, rfl, DPut.k (k := .inr sn) ekv (Nat.lt_of_le_of_lt (show kv.length ≤ 1000 by rw [pts.len]; omega) (by decide)), ?_⟩
    obtain ⟨dx4, ew4⟩ := hw4.w
    have ok4 : OkR { p.1 with ps := putS p.1.ps sn x } := okp.put ox
    have W4 := W.setP mp ok4
    have l4 : (putS p.1.ps sn x).length ≤ 201 := Nat.le_trans put_len (by omega)
    have cH : Calm CK H _ := (Calm.same s03).trans cm4
    have c34 : Ch [p.2] H3 (upd H3 p.2 (.dK (putK kv (.inr sn : Key) v'))) := Ch.upd (by simp)
    generalize upd H3 p.2 (.dK (putK kv (.inr sn : Key) v')) = H4 at hw4 cm4 cH c34 ew4
    refine ⟨_, rfl, aw, dx4, _, rfl, ew4, lkn (by decide +kernel) (by decide +kernel) (by decide +kernel), _, rfl, aw, kd, sd, b, _, last, ts, t, ({ p.1 with ps := putS p.1.ps sn x }, p.2), rfl, hw4, W4, TO, hk.calm TO cH, ht, cH.t _ _ hb, mem_setW mp, ek, (by have := TB.ml; show (putS p.1.ps sn x).length + _ ≤ _; omega), GvS.src TB (gs.put sx), fun H5 c5 cm5 hw5 => ?_⟩
    have hw5 : WAt K CW H5 aw kd sd (setW (setW rs p.2 (putS p.1.ps sn x)) p.2 (altP t p.1.ps sn x)) last := hw5
    rw [setW_two] at hw5
    exact q H5 (Ch.trans (Ch.same s03) (Ch.trans c34 c5)) (cH.trans cm5) hw5
theorem ok_gn {f : Addr} {fd : FuncData} (F : Fun K "given_names" "given_names" sGN f fd) (TK : TxtKi K mg CK) : FnOk P w K mg base CX0 1 f fd ["kind"] (spGN K CK) := by
  refine F.ok scGN (fun vs H Q E h => ?_) (fun cdv A outer s H vs Q E hr h => ?_)
  · obtain ⟨ak, t, rfl, _⟩ := h
    rfl
  · obtain ⟨ak, t, rfl, hk, hl, q⟩ := h
    refine ⟨_, pss_one (ps_ret (pe_lc (own := [("row", 1)]) (g := gName 1) (tt := tYes) rfl scGN.nd (pi_tup (pe_fld (pv 0) rfl)) (blkOk_by (N := ["kind", "row"]) (sc := defScope sGN) (by decide +kernel)) (fun _ _ _ _ _ => pg_name (i := 1) scGN.nd rfl (Or.inl rfl)) (fun _ _ _ _ _ => pts_nil) (fun _ _ _ _ _ => pe_ix (show IxR _ (rIxT K) from ix_tup) (pv 1) pe_int (fun _ _ => rfl)))), ?_⟩
    have P := kps5 (K := K)
    have g0 : ED (O5 K) (tFld K (tVar 0) "given") [some (.ref ak), none] H (.tup (t.gv.map gvrD)) := ed_given TK (k := kindD t) (ep_pv rfl fun H2 s2 => ⟨ak, rfl, hk.same5 s2⟩)
    have e := ed_lcT (K := K) (te := tOp (rIxT K) (tVar 1) (tC (.int 0))) (i := 1) (f := fun d => .str (match d with | .tup (.str s :: _) => s | _ => Str.empty)) g0 (by rw [List.length_map]; omega) (fun x hx => rfl) (fun u => rfl) fun x u H2 hx s2 hxu => by
      obtain ⟨r, hr, rfl⟩ := List.mem_map.mp hx
      exact ed_ixT P (i := 0) (l := [.str r.nm, .str r.so, .bl r.fo, rdgD r.rd]) (ed_pv P rfl hxu) rfl
    refine ED.ret e fun v H2 s2 ⟨l, us, ev, hl2, hd⟩ => ?_
    subst ev
    have eu : us = (gvN t).map V.str := by
      rw [List.map_map] at hd
      have : ∀ (l : List Gv) (us : List V), DvL (O5 K) H2 (l.map ((fun d : D5 => .str (match d with | .tup (.str s :: _) => s | _ => Str.empty)) ∘ gvrD)) us → us = (l.map (·.nm)).map V.str := by
        intro l
        induction l with
        | nil => intro us h; exact h
        | cons r l ih => intro us ⟨u, us', e, h1, h2⟩; rw [e, ih us' h2, show u = V.str r.nm from h1]; rfl
      exact this _ _ hd
    rw [eu] at hl2
    exact q l H2 s2 hl2
theorem ok_chg {f fF fG fS fR fM fN : Addr} {fd fdF fdG fdS fdR fdM fdN : FuncData} (F : Fun K "change" "World.change" sChg f fd) (T : TxtW K mg CW) (TK : TxtKi K mg CK) (neK : CW ≠ CK) (DF : Def P w K mg base 5 "fresh" fF fdF ["value"] (spFrs K 4)) (DN : Def P w K mg base 1 "given_names" fN fdN ["kind"] (spGN K CK))
    (MG : Meth K CW "_refuse_gone" fG) (GG : FnOk P w K mg base CX0 4 fG fdG ["self", "tag"] (spRG K CW)) (bG : Binds K fdG ["self", "tag"] [])
    (MR : Meth K CW "_refuse_taken" fR) (GR : FnOk P w K mg base CX0 1 fR fdR PRT (spRT K CW CK)) (bR : Binds K fdR PRT [])
    (MM : Meth K CW "_mark" fM) (GM : FnOk P w K mg base CX0 2 fM fdM ["self", "tag"] (spMk K CW CK)) (bM : Binds K fdM ["self", "tag"] [])
    (MS : Meth K CW "_surround" fS) (GS : FnOk P w K mg base CX0 3 fS fdS ["self", "tag"] (spSu K CW CK)) (bS : Binds K fdS ["self", "tag"] []) :
    FnOk P w K mg base CX0 6 f fd ["self", "tag", "given"] (spChg K CW CK) := by
  refine F.ok scChg (fun vs H Q E h => ?_) (fun cdv A outer s H vs Q E hr h => ?_)
  · obtain ⟨aw, kd, sd, b, gd, rs, last, ts, t, p, g, rfl, _⟩ := h
    rfl
  · obtain ⟨aw, kd, sd, b, gd, rs, last, ts, t, p, g, rfl, hw, W, TO, hk, ht, TB, esi, hb, mp, ek, pl, gs, hg, G, ndg, q⟩ := h
    refine ⟨_, pss_cons (ps_expr (pe_meth (pv 0) T.cl MG GG (hr.mono (by decide)) bG .nil pass0 (pa_cons (pv 1) pa_nil)))
      (pss_cons (ps_expr (pe_meth (pv 0) T.cl MR GR (hr.mono (by decide)) bR .nil pass0 (pa_cons (pe_ixT (pv 1) pe_int (fun _ _ => rfl)) (pa_cons (pv 2) (pa_cons (pv 1) pa_nil)))))
      (pss_cons (ps_for PassesOwn.never rfl (pi_list (pe_call DN.ok (hr.mono (by decide)) rfl DN.g DN.kp DN.b .nil pass0 (pa_cons (pe_dget (hu_of hr) (pe_fld (pv 0) rfl) (pe_ixT (pv 1) pe_int (fun _ _ => rfl)) (fun _ _ => rfl)) pa_nil))) (pg_name (i := 3) scChg.nd rfl (Or.inl rfl))
        (pss_one (ps_if (pt_cmp (pc_din (hu_of hr) (pv 3) (pv 2))) (pss_one (ps_dput (hu_of hr) (pe_dget (hu_of hr) (pe_fld (pv 0) rfl) (pv 1) (fun _ _ => rfl)) (pv 3) (pe_call DF.ok (hr.mono (by decide)) rfl DF.g DF.kp DF.b .nil pass0 (pa_cons (pe_dget (hu_of hr) (pv 2) (pv 3) (fun _ _ => rfl)) pa_nil)) (by rfl))) pss_nil)))
      (pss_cons (ps_expr (pe_meth (pv 0) T.cl MM GM (hr.mono (by decide)) bM .nil pass0 (pa_cons (pv 1) pa_nil)))
      (pss_one (ps_expr (pe_meth (pv 0) T.cl MS GS (hr.mono (by decide)) bS .nil pass0 (pa_cons (pv 1) pa_nil))))))), ?_⟩
    have P := kps5 (K := K)
    have lkn : ∀ {nm : Str} {n : Int}, (nm == "_kinds") = false → (nm == "_standing") = false → (nm == "_last") = false → (wfl kd sd n).lookup nm = none := fun a b c => (lk_tl a).trans ((lk_tl b).trans ((lk_tl c).trans rfl))
    obtain ⟨dx, ew⟩ := hw.w
    have okp := W.ok p mp
    have hb' : H b = some (.tup [.str "#", .str p.1.kind, .int (p.1.n : Int)]) := by rw [ek]; exact hb
    have nk : nmS t.name = true := TB.nm
    obtain ⟨gkv, egd, gp⟩ := id hg
    refine ⟨_, rfl, aw, dx, _, rfl, ew, lkn (by decide +kernel) (by decide +kernel) (by decide +kernel), _, rfl, aw, kd, sd, .ref b, tagR p.1, rs, last, rfl, hw, targ_row okp hb', has_row W mp, fun H1 s1 => ?_⟩
    refine ⟨_, rfl, aw, dx, _, rfl, s1 _ _ ew, lkn (by decide +kernel) (by decide +kernel) (by decide +kernel), ?_⟩
    refine (ed_tag1 (i := 1) rfl (s1 _ _ hb)).run fun v H2 s2 hv1 => ?_
    cases (show v = .str t.name from hv1)
    have s02 := Same.trans s1 s2
    refine ⟨_, rfl, _, rfl, aw, kd, sd, gd, rs, last, ts, t, gkv, .ref b, rfl, hw.same s02, hk.same s02, ht, esi, s02 _ _ egd, fun H3 s3 => ?_⟩
    have s03 := Same.trans s02 s3
    have hw3 := hw.same s03
    have hk3 := hk.same s03
    have kn := ep_kind (K := K) (CK := CK) (tk := tOp (rIxT K) (tVar 1) (tC (.int 1))) (σ := [some (.ref aw), some (.ref b), some (.ref gd), none]) (i := 0) T hw3 hk3 ht rfl (ed_tag1 (K := K) (i := 1) rfl (s03 _ _ hb)).ep
    refine kn.run fun v4 H4 s4 ⟨ak, ev4, hak⟩ => ?_
    subst ev4
    refine ⟨ak, t, rfl, hak, (by have := TB.ml; omega), fun l H5 s5 hl5 => ?_⟩
    have s05 := Same.trans s03 (Same.trans s4 s5)
    have hw5 := hw.same s05
    have hk5 := hk.same s05
    have hb5 := s05 _ _ hb
    have hg5 := hg.same s05
    have ef : findW rs t.name p.1.n = some p := by
      have := find_row W mp
      rwa [ek] at this
    have nlp : l ≠ p.2 := fun e => by
      obtain ⟨kv9, e9, _⟩ := hw5.r p mp
      rw [← e, hl5] at e9
      cases e9
    have ngp : gd ≠ p.2 := fun e => ndg p mp e.symm
    refine ⟨l, rfl, ⟨_, SqL.of hl5⟩, ?_⟩
    refine for_it (walk_list (xs := (gvN t).map V.str)) (fun i σ' H' => (∃ w0, σ' = [some (.ref aw), some (.ref b), some (.ref gd), w0]) ∧ Ch [p.2] H5 H' ∧ Calm CK H5 H' ∧ WAt K CW H' aw kd sd (setW rs p.2 (chF g ((gvN t).take i) p.1.ps)) last)
      ⟨⟨_, rfl⟩, Ch.refl _ _, Calm.refl _, ?_⟩ (fun i σ' H' _ pv => SqL.of (pv.2.1 _ _ hl5 (by simpa using nlp))) (fun i u σ' H6 H6' hi pv y => ?_) (fun σ' H' pv => ?_)
    · rw [List.take_zero]
      show WAt K CW H5 aw kd sd (setW rs p.2 p.1.ps) last
      rw [setW_id W.nd mp]
      exact hw5
    · obtain ⟨rfl, eu⟩ := y
      obtain ⟨⟨w0, rfl⟩, c2, cm2, hw6⟩ := pv
      obtain ⟨nm, en, rfl⟩ : ∃ nm, (gvN t)[i]? = some nm ∧ u = .str nm := by
        rw [List.getElem?_map] at eu
        cases e : (gvN t)[i]? with
        | none => rw [e] at eu; cases eu
        | some z => rw [e] at eu; cases eu; exact ⟨z, rfl, rfl⟩
      have sc := chF_succ (g := g) (ps := p.1.ps) en
      have L3 := chF_len (g := g) ((gvN t).take i) p.1.ps
      have L4 : ((gvN t).take i).length ≤ 200 := by rw [List.length_take, List.length_map]; have := TB.ml; omega
      have okq := chF_ok G (r := p.1) ((gvN t).take i) p.1.ps okp
      generalize hA : chF g ((gvN t).take i) p.1.ps = psi at *
      have W2 := W.setP mp okq
      have mp2 := mem_setW (ps := psi) mp
      have eg6 : H6' gd = some (.dK gkv) := c2 _ _ (s05 _ _ egd) (by simpa using ngp)
      have hb6 : H6' b = some (.tup [.str "#", .str t.name, .int (p.1.n : Int)]) := cm2.t _ _ hb5
      have gp6 : PtsD K H6' g gkv := (gp.same s05).imp fun z hz v hv => Dv.calm cm2 _ _ (kv_kin (G.v z hz).1.kp) hv
      obtain ⟨g1, g2⟩ := gp6.get nm
      refine ⟨_, rfl, _, rfl, gd, valV gkv (.inr nm : Key), rfl, .inl ⟨gkv, .inr nm, .inl eg6, rfl, rfl⟩, _, rfl, ?_⟩
      unfold chS at sc
      cases e : getS g nm with
      | none =>
        rw [g1 e]
        rw [e] at sc
        exact Vl.iteN rfl ⟨⟨_, rfl⟩, c2, cm2, by rw [sc]; exact hw6⟩
      | some x =>
        obtain ⟨xv, exv, hxv⟩ := g2 x e
        rw [exv]
        rw [e] at sc
        obtain ⟨okx, smx⟩ := G.v _ (getS_mem e)
        refine Vl.iteC rfl ⟨_, rfl, _, rfl, gd, xv, rfl, .inl ⟨gkv, .inr nm, .inl eg6, rfl, exv.symm⟩, xv, x, rfl, hxv, okx.ly, fun v' H7 s7 hv' _ => ?_⟩
        have hw7 := hw6.same s7
        have ef2 : findW (setW rs p.2 psi) t.name p.1.n = some ({ p.1 with ps := psi }, p.2) := setW_find W.nd ef
        show tDGet (tFld K (tVar 0) "_standing") (tVar 1) [some (.ref aw), some (.ref b), some (.ref gd), some (.str nm)] H7 _
        refine (ep_row (K := K) (tk := tVar 1) (i := 0) (σ := [some (.ref aw), some (.ref b), some (.ref gd), some (.str nm)]) T hw7 rfl (ep_pv rfl fun H3 s3 => ⟨rfl, s3 _ _ (s7 _ _ hb6)⟩) ef2).run fun v0 H8 s8 ev0 => ?_
        subst ev0
        have hw8 := hw7.same s8
        obtain ⟨kv, ekv, pts⟩ := hw8.r _ mp2
        obtain ⟨hw9, cm9, na, ns⟩ := hw8.put W2 mp2 (s := nm) (P.dv s8 hv') okx.kp ekv
        rw [setW_two] at hw9
        refine ⟨_, rfl, p.2, _, rfl, DPut.k (k := .inr nm) ekv (Nat.lt_of_le_of_lt (show kv.length ≤ 1000 by rw [pts.len]; simp only at L3 ⊢; omega) (by decide)), ⟨_, rfl⟩, ?_, ?_, by rw [sc]; exact hw9⟩
        · exact Ch.trans c2 (Ch.trans (Ch.same (Same.trans s7 s8)) (Ch.upd (by simp)))
        · exact cm2.trans ((Calm.same (Same.trans s7 s8)).trans cm9)
    · obtain ⟨⟨w0, rfl⟩, c2, cm2, hw6⟩ := pv
      rw [List.length_map, List.take_length] at hw6
      have okq := chF_ok G (r := p.1) (gvN t) p.1.ps okp
      have L3 := chF_len (g := g) (gvN t) p.1.ps
      have gs6 := chF_gs G (gvN t) p.1.ps gs
      have L4 : (gvN t).length = t.gv.length := List.length_map _
      have ecg : chgP t p.1.ps g last = arF t.md (markF t.name t.md (chF g (gvN t) p.1.ps, last)).1 := rfl
      have ecl : chgL t p.1.ps g last = (markF t.name t.md (chF g (gvN t) p.1.ps, last)).2 := rfl
      rw [ecg, ecl] at q
      generalize hA : chF g (gvN t) p.1.ps = psi at *
      have W6 := W.setP mp okq
      have cm06 : Calm CK H H' := (Calm.same s05).trans cm2
      have c06 : Ch [p.2] H H' := Ch.trans (Ch.same s05) c2
      obtain ⟨dx6, ew6⟩ := hw6.w
      have TL := TB.ml
      refine ⟨_, rfl, aw, dx6, _, rfl, ew6, lkn (by decide +kernel) (by decide +kernel) (by decide +kernel), _, rfl, aw, kd, sd, b, _, last, ts, t, ({ p.1 with ps := psi }, p.2), rfl, hw6, W6, TO, hk.calm TO cm06, ht, cm06.t _ _ hb, mem_setW mp, ek, (by show psi.length + _ ≤ _; omega), fun H7 c7 cm7 hw7 => ?_⟩
      have hw7 : WAt K CW H7 aw kd sd (setW (setW rs p.2 psi) p.2 (markF t.name t.md (psi, last)).1) (markF t.name t.md (psi, last)).2 := hw7
      rw [setW_two] at hw7
      have lm := markF_le (k := t.name) t.md (psi, last)
      have ll := markF_len (k := t.name) t.md (psi, last)
      have ok7 := markF_ok nk (r := p.1) t.md (psi, last) okq
      have W7 := (W.setP mp ok7).mono lm.1
      obtain ⟨dx7, ew7⟩ := hw7.w
      have cm07 := cm06.trans cm7
      refine ⟨_, rfl, aw, dx7, _, rfl, ew7, lkn (by decide +kernel) (by decide +kernel) (by decide +kernel), _, rfl, aw, kd, sd, b, _, _, ts, t, ({ p.1 with ps := (markF t.name t.md (psi, last)).1 }, p.2), rfl, hw7, W7, TO, hk.calm TO cm07, ht, cm07.t _ _ hb, mem_setW mp, ek, (by show (markF t.name t.md (psi, last)).1.length + _ ≤ _; simp only at ll; omega), GvS.src TB (GvS.mark TB gs6), fun H8 c8 cm8 hw8 => ?_⟩
      have hw8 : WAt K CW H8 aw kd sd (setW (setW rs p.2 (markF t.name t.md (psi, last)).1) p.2 (arF t.md (markF t.name t.md (psi, last)).1)) (markF t.name t.md (psi, last)).2 := hw8
      rw [setW_two] at hw8
      exact q H8 (Ch.trans (Ch.mono c06 (by simp)) (Ch.trans c7 (Ch.mono c8 (by simp)))) (cm07.trans cm8) hw8
end
end Kd

set_option Elab.async false
set_option linter.all false
set_option maxRecDepth 100000
set_option maxHeartbeats 4000000
/-! {t: v for ..} where the keys are tuples -/
namespace Td
open PySem PySem.Spec PyProof.Rows L2
/-- the dict D takes z at the tuple y, then N -/
def PutT (D : Addr) (y z : V) (H : Hp) (N : Hp → Prop) : Prop :=
  ∃ (kvs : List (List Key × V)) (k : List Key) (b : Addr), y = .ref b ∧ H D = some (.dT kvs) ∧ H b = some (.tup (k.map kV)) ∧ kvs.length < sizeLine ∧ N (upd H D (.dT (putK kvs k z)))
section
variable {X : Cx} {pins : List (Addr × Obj)} {σ : L2.St} {H : Hp} {s : Shared}
theorem put_T {E : Value → Shared → Prop} {D : Addr} {y z : V} {u r : Value} {N : Hp → Prop} {Q : Unit → Shared → Prop} (hu : X.A.units < cLine) (I : Inv X pins σ H s) (ry : RelV y u) (rz : RelV z r) (p : PutT D y z H N)
    (h : ∀ s' H', Inv X pins σ H' s' → N H' → Q () s') : wpAny (model X.prog X.w) X.A (dictSet D u r) Q E s := by
  obtain ⟨kvs, k, b, ey, hD, hb, hl, n⟩ := p
  subst ey
  cases (show u = Value.ref b from ry)
  obtain ⟨zs, nd, xs, rel, dd⟩ := dt_of I.hok hD
  have hx : xs.length ≤ sizeLine := by rw [← Paired.length rel]; exact zs
  have ln : (putK kvs k z).length ≤ sizeLine := by have := length_putK kvs k z; omega
  refine wpAny_dictSet_heap (knd := tupleKind (mixKind X.prog X.w)) (hsz := hx) hu (key_of I.hok hb) dd fun h1 d1 sb => h _ _ ?_ n
  obtain ⟨q, es, ep, hq, a2, a3, a4, _, a5⟩ := d1
  exact d_write I (by rw [hD]; exact True.intro) sb ⟨q, hq⟩ ⟨ln, nd, _, (rel.put k hb rz).keeps fun c ys ec => (upd_ne (ne_of ec hD (fun z => nomatch z))).trans ec, q, es, ep, hq, a2, a3, a4, a5⟩
/-- the dict is filled by a walk -/
def tDcT (wi : TI) (g : TG) (tt : TT) (tk tv : TE) (vs : List Nat) : TE := fun σ H Q => wi σ H fun J H1 => ∀ D, H1 D = none →
  ∃ W : Nat → Nat → Hp → Prop, (∃ m, W 0 m (upd H1 D (.dT []))) ∧ ∀ i m H2, W i m H2 → (J.stop i H2 ∧ Q (.ref D) H2) ∨
    (J.go i H2 ∧ ∃ Nx : Hp → Prop, (∀ H', Nx H' → ∃ m', m' < m ∧ W (i + 1) m' H') ∧ ∀ x H', J.yld i H2 x H' → g x (wipe σ vs) H' fun σ2 H3 => wipe σ2 vs = wipe σ vs ∧
      tt σ2 H3 fun b H4 => if b = true then tk σ2 H4 fun y H5 => tv σ2 H5 fun z H6 => PutT D y z H6 Nx else Nx H4)
theorem pe_dcT {kx vx tg iter : Expr} {ifs : List Expr} {scope : Scope} {own : List (Str × Nat)} {pos : Pos} {wi : TI} {g : TG} {tt : TT} {tk tv : TE} (hu : X.A.units < cLine) (calm : X.calm = true) (nd : X.N.Nodup) (hi : PI X tg iter wi) (ok : BlkOk X.N X.env.scope scope own)
    (hg : ∀ s H C cl fp, PG (X.blk s H scope (compEnvC scope cl C X.env) fp) tg g) (ht : ∀ s H C cl fp, PTs (X.blk s H scope (compEnvC scope cl C X.env) fp) ifs tt)
    (hk : ∀ s H C cl fp, PE (X.blk s H scope (compEnvC scope cl C X.env) fp) kx tk) (hv : ∀ s H C cl fp, PE (X.blk s H scope (compEnvC scope cl C X.env) fp) vx tv)
    (plain : ∀ x, foldedSetIterable iter X.env x = pure x := by intro _; rfl) : PE X (.DictComp kx vx [⟨tg, iter, ifs, 0⟩] scope pos) (tDcT wi g tt tk tv (own.map (·.2))) := by
  constructor
  intro pins s σ H Q I h
  rw [arm_eval_DictComp]
  have has : ∀ y ∈ scope.names, y.2 = .free → ∃ c, X.env.cells.lookup y.1 = some c := fun y hy e => (ok.free y hy e).elim (fun k => I.ok.has _ (.inl k)) fun k => I.ok.has _ (.inr k)
  refine wpAny_comprehension_free (use := none) rfl plain (closure_ok has) ok.kind (fun y hy e => (ok.uniq y hy).trans (congrArg some e)) ?_
  refine thn (hi.run pins s σ H _ I h) fun xv sa ha => thn ha fun itv sb hb => ?_
  obtain ⟨it, fp, tn, J, H0, rfl, I0, T, t0, fps, walk⟩ := hb
  refine wpAny_newObj_type (newEnv_comp ?_)
  have Dn : H0 sb.heap.objs.size = none := I0.hok.fresh (Nat.le_refl _)
  obtain ⟨W, ⟨m0, w0⟩, turn⟩ := walk _ Dn
  generalize eD : sb.heap.objs.size = D at Dn turn w0 ⊢
  generalize esc : ({ sb with heap := sb.heap.push { cls := .type "dict", data := .dict #[] } } : Shared) = sc
  have hsc : sc.heap = sb.heap.push { cls := .type "dict", data := .dict #[] } := by rw [← esc]
  have I1 : Inv X pins σ (upd H0 D (.dT [])) sc := by
    rw [← esc, ← eD]
    exact I0.laid (t' := sb.toks) (fun b o e => Heap.get?_push_of_some _ e) (Nat.le_refl _) (dt_empty sb.heap I0.big)
  generalize eH1 : upd H0 D (.dT []) = H1 at I1 w0
  have low : ∀ b ∈ fp, b < sb.heap.objs.size := fun b hb => (T.obj _ _ t0 b hb).elim fun o z => Heap.lt_size z.1
  have fps1 : ∀ b ∈ fp, FpOk X pins H1 b ∧ b < sc.heap.objs.size := fun b hb => by
    refine ⟨⟨?_, (fps b hb).2⟩, ?_⟩
    · rw [← eH1, upd_ne (by rw [← eD]; exact Nat.ne_of_lt (low b hb))]
      exact (fps b hb).1
    · rw [hsc, Heap.size_push]
      exact Nat.lt_succ_of_lt (low b hb)
  have t1 : tn 0 sc.heap := T.keep _ _ _ t0 fun b _ o e => by rw [hsc]; exact Heap.get?_push_of_some _ e
  have I2 := block_start I1 ok nd fps1
  have pg := hg sc H1 sc.heap.objs.size (cellsFrom (sc.heap.objs.size + 1) scope.names (cloFrom X.env.cells scope.names [])) fp
  have pt := ht sc H1 sc.heap.objs.size (cellsFrom (sc.heap.objs.size + 1) scope.names (cloFrom X.env.cells scope.names [])) fp
  have pk := hk sc H1 sc.heap.objs.size (cellsFrom (sc.heap.objs.size + 1) scope.names (cloFrom X.env.cells scope.names [])) fp
  have pv := hv sc H1 sc.heap.objs.size (cellsFrom (sc.heap.objs.size + 1) scope.names (cloFrom X.env.cells scope.names [])) fp
  show codeAny (model X.prog X.w) X.A (.compStart (.DictComp kx vx [⟨tg, iter, ifs, 0⟩] scope pos) 0 (.ref it) (.ref D) (compEnvC scope (cellsFrom (sc.heap.objs.size + 1) scope.names (cloFrom X.env.cells scope.names [])) sc.heap.objs.size X.env))
    (compPost (model X.prog X.w) X.A X.xe none _ (.ref D) sc.heap.objs.size) { sc with heap := pushCells (sc.heap.push { cls := .type "dict", data := .dict #[] }) scope.names }
  generalize ece : compEnvC scope (cellsFrom (sc.heap.objs.size + 1) scope.names (cloFrom X.env.cells scope.names [])) sc.heap.objs.size X.env = ce at I2 pg pt pk pv ⊢
  have ceL : ce.locals = sc.heap.objs.size := by rw [← ece]; rfl
  generalize esd : ({ sc with heap := pushCells (sc.heap.push { cls := .type "dict", data := .dict #[] }) scope.names } : Shared) = sd at I2 ⊢
  have t2 : tn 0 sd.heap := T.keep _ _ _ t1 fun b _ o e => by rw [← esd]; exact pushCells_keeps _ _ _ _ (Heap.get?_push_of_some _ e)
  have n1 : ∀ b ∈ fp, H1 b = none := fun b hb => (fps1 b hb).1.1
  have foot : ∀ {σ' : L2.St} {H' : Hp} {s' : Shared}, Inv (X.blk sc H1 scope ce fp) [] σ' H' s' → (∀ b ∈ fp, H' b = none) → ∀ b ∈ fp, FpOk (X.blk sc H1 scope ce fp) [] H' b := fun J' no b hb =>
    ⟨no b hb, (J'.ok.exf b hb).1, J'.ok.exfs b hb, .inl hb, fun x c e => (J'.ok.exf b hb).2 x c e, fun p hp => nomatch (show p ∈ ([] : List (Addr × Obj)) from hp)⟩
  have all : codeAny (model X.prog X.w) X.A (.compLoop (.DictComp kx vx [⟨tg, iter, ifs, 0⟩] scope pos) 0 (.ref it) (.ref D) ce) (compPost (model X.prog X.w) X.A X.xe none
      (fun u s' => ∃ v H', Inv X pins σ H' s' ∧ RelV v u ∧ Q v H') (.ref D) sc.heap.objs.size) sd := by
    refine compLoop_anyD (fun m s' => ∃ i H', Inv (X.blk sc H1 scope ce fp) [] (wipe σ (own.map (·.2))) H' s' ∧ tn i s'.heap ∧ (∀ b ∈ fp, H' b = none) ∧ W i m H') ?_ m0 ⟨0, H1, I2, t2, n1, w0⟩
    rintro m se ⟨i, He, Ie, te, ne, we⟩
    rcases turn i m He we with ⟨stop, fin⟩ | ⟨go, Nx, hNx, step⟩
    · refine thnF (T.done (X.blk sc H1 scope ce fp) rfl rfl rfl calm i [] se _ He (fun _ _ => False) Ie (foot Ie ne) te stop) fun r sf ⟨er, If⟩ => ?_
      subst er
      have Ib : Inv X pins σ He sf := I1.call' (ch := fp) If.os If.base If.hok If.bare fun b hb => ⟨(fps1 b hb).1.2.2.2.1, (fps1 b hb).1.2.1, (fps1 b hb).1.2.2.2.2.1, (fps1 b hb).1.2.2.2.2.2⟩
      have nC : He sc.heap.objs.size = none := by
        rw [← ceL]
        exact If.free
      obtain ⟨ns, hns, _⟩ := If.loc
      rw [show (X.blk sc H1 scope ce fp).env.locals = sc.heap.objs.size from ceL] at hns
      obtain ⟨f0, f1, f2, f3, f4, f5⟩ := I1.fpOk (Nat.le_refl _) nC
      exact ⟨ns, hns, fun hh sbt => ⟨.ref D, He, Ib.turned (t' := sf.toks) (fun b o nb e => (sbt.2 b nb).trans e) f0 f1 f3 f4 f5, rfl, fin⟩⟩
    · refine thnF (T.item (X.blk sc H1 scope ce fp) rfl rfl rfl calm i [] se _ He (fun _ _ => False) Ie (foot Ie ne) te go) fun r sf ⟨u, er, hf⟩ => ?_
      subst er
      refine thnF hf fun _ sg ⟨x, Hg, Ig, rg, yg, tg', ng⟩ => ?_
      have Ip := Ig.pinned (foot Ig ng) (T.obj _ _ tg')
      refine thnF (pg.run _ sg _ Hg x u _ Ip rg (step x Hg yg)) fun _ sh ⟨σh, Hh, Ih, wh, qh⟩ => ?_
      refine thnF (pt.run _ sh σh Hh _ Ih qh) fun b si ⟨Hi, Ii, qi⟩ => ?_
      have back : ∀ {s' : Shared} {H' : Hp}, Inv (X.blk sc H1 scope ce fp) ([] ++ pinsAt fp sg.heap) σh H' s' → Nx H' →
          ∃ m', m' < m ∧ ∃ i H', Inv (X.blk sc H1 scope ce fp) [] (wipe σ (own.map (·.2))) H' s' ∧ tn i s'.heap ∧ (∀ b ∈ fp, H' b = none) ∧ W i m' H' := fun {s' H'} J' nx => by
        obtain ⟨m', lt, w'⟩ := hNx H' nx
        have pin : ∀ b ∈ fp, ∀ o, sg.heap.get? b = some o → s'.heap.get? b = some o ∧ H' b = none := fun b hb o e =>
          have z := J'.pin (b, o) (List.mem_append_right _ (List.mem_append_right _ (mem_pinsAt hb e)))
          ⟨z.1, z.2.1⟩
        have ln : (wipe σ (own.map (·.2))).length = σh.length := by rw [← wh, wipe_length]
        refine ⟨m', lt, i + 1, H', (J'.unpinned (pins := [])).weak ln (fun j v e => ?_), T.keep _ _ _ tg' (fun b hb o e => (pin b hb o e).1), (fun b hb => ?_), w'⟩
        · rw [← wh] at e
          exact (wipe_some e).1
        · obtain ⟨o, e, _⟩ := T.obj _ _ tg' b hb
          exact (pin b hb o e).2
      cases b with
      | false => exact back Ii (by simpa using qi)
      | true =>
        rw [if_pos rfl] at qi
        show if true = true then _ else _
        rw [if_pos rfl]
        refine thnF (pk.run _ si σh Hi _ Ii qi) fun yv sj ⟨y, Hj, Ij, rj, qj⟩ => ?_
        refine thnF (pv.run _ sj σh Hj _ Ij qj) fun zv sk ⟨z, Hk, Ik, rk, qk⟩ => ?_
        exact put_T (X := X.blk sc H1 scope ce fp) hu Ik rj rk qk fun s' H' J' nx => back J' nx
  exact codeAny_compStart_dict all (T.self X.A 0 _ _ _ t2 all)
end
/-- over anything that is walked -/
theorem dcT_it {J : It} {n : Nat} {G : Hp → Prop} {Y : Nat → Hp → V → Hp → Prop} (w : Walk J n G Y) {g : TG} {tt : TT} {tk tv : TE} {vs : List Nat} {σ : L2.St} {H1 : Hp} {D : Addr} {Qd : Hp → Prop} (Pv : Nat → Hp → Prop) (h0 : Pv 0 (upd H1 D (.dT []))) (hG : ∀ i H, i ≤ n → Pv i H → G H)
    (hs : ∀ i x H H', i < n → Pv i H → Y i H x H' → g x (wipe σ vs) H' fun σ2 H2 => wipe σ2 vs = wipe σ vs ∧ tt σ2 H2 fun b H3 => if b = true then tk σ2 H3 fun y H4 => tv σ2 H4 fun z H5 => PutT D y z H5 (Pv (i + 1)) else Pv (i + 1) H3)
    (hd : ∀ H, Pv n H → Qd H) :
    ∃ W : Nat → Nat → Hp → Prop, (∃ m, W 0 m (upd H1 D (.dT []))) ∧ ∀ i m H, W i m H → (J.stop i H ∧ Qd H) ∨
      (J.go i H ∧ ∃ Nx : Hp → Prop, (∀ H', Nx H' → ∃ m', m' < m ∧ W (i + 1) m' H') ∧ ∀ x H', J.yld i H x H' → g x (wipe σ vs) H' fun σ2 H2 => wipe σ2 vs = wipe σ vs ∧
        tt σ2 H2 fun b H3 => if b = true then tk σ2 H3 fun y H4 => tv σ2 H4 fun z H5 => PutT D y z H5 Nx else Nx H3) := by
  refine ⟨fun i m H => m + i = n ∧ Pv i H, ⟨n, rfl, h0⟩, ?_⟩
  rintro i m H ⟨e, p⟩
  rcases Nat.lt_or_ge i n with lt | ge
  · exact .inr ⟨w.goes i H lt (hG i H (by omega) p), Pv (i + 1), fun H' p' => ⟨m - 1, by omega, by omega, p'⟩, fun x H' y => hs i x H H' lt p (w.yields i H x H' lt (hG i H (by omega) p) y)⟩
  · obtain rfl : i = n := by omega
    exact .inl ⟨w.stops H (hG i H (Nat.le_refl _) p), hd H p⟩
end Td

set_option Elab.async false
set_option linter.all false
set_option maxRecDepth 100000
set_option maxHeartbeats 4000000
/-! World: read, things -/
namespace Kd
open PySem PySem.Spec PyProof.Rows L2 Dq Vl Pf Ed ClX Td
abbrev sRd : Stmt := inClass (tp 35) 2
abbrev NRd : List Str := ["self", "tag", "attributes", "row"]
theorem scRd : FnScope NRd ["self", "tag"] (defScope sRd) := ⟨rfl, rfl, rfl, by decide +kernel, rfl, by decide +kernel, by decide +kernel⟩
/-- what is read of kept values -/
def rdS1 (a : Prt) (r : Gv) : Prt := putS a r.nm (toldD r.rd ((getS a r.nm).getD .non))
def rdF (l : List Gv) (a : Prt) : Prt := l.foldl rdS1 a
theorem rdF_succ {l : List Gv} {a : Prt} {i : Nat} {r : Gv} (e : l[i]? = some r) : rdF (l.take (i + 1)) a = rdS1 (rdF (l.take i) a) r := by
  unfold rdF
  rw [List.take_succ, e, List.foldl_append]
  rfl
theorem told_ok {r : Option (List (Str × Str))} {d : D5} (h : OkV d) : OkV (toldD r d) := by
  cases r with
  | none => exact h
  | some l =>
    cases d with
    | str s => exact okV_str _
    | _ => exact h
theorem rdS1_keys {a : Prt} {r : Gv} (h : r.nm ∈ a.map (·.1)) : (rdS1 a r).map (·.1) = a.map (·.1) := put_keys h
theorem rdS1_ok {a : Prt} {r : Gv} {R : Ro} (h : OkR { R with ps := a }) : OkR { R with ps := rdS1 a r } := by
  unfold rdS1
  refine h.put (told_ok ?_)
  cases e : getS a r.nm with
  | none => exact okV_non
  | some x => exact h.vs _ (getS_mem e)
theorem rdF_ok {R : Ro} : ∀ (l : List Gv) (a : Prt), OkR { R with ps := a } → OkR { R with ps := rdF l a }
  | [], _, h => h
  | r :: l, a, h => rdF_ok l (rdS1 a r) (rdS1_ok h)
theorem rdF_keys : ∀ (l : List Gv) (a : Prt), (∀ r ∈ l, r.nm ∈ a.map (·.1)) → (rdF l a).map (·.1) = a.map (·.1)
  | [], _, _ => rfl
  | r :: l, a, h => by
    have h0 := rdS1_keys (h r List.mem_cons_self)
    show (rdF l (rdS1 a r)).map (·.1) = _
    rw [rdF_keys l (rdS1 a r) fun q hq => by rw [h0]; exact h q (List.mem_cons_of_mem _ hq), h0]
theorem hu64 {k : Nat} {A : Around} (hr : Room k A) : A.units + 64 < cLine := by have := hr.un; omega
/-- a row may be copied -/
theorem row_lay {R : Ro} (h : OkR R) (l : R.ps.length ≤ 1000) : lay 5 (mapP R.ps) = true := by
  have e1 : (R.ps.map (·.2)).all (lay 4) = true := List.all_eq_true.mpr fun x hx => by
    obtain ⟨p, hp, rfl⟩ := List.mem_map.mp hx
    exact (h.vs p hp).ly
  have e2 : (R.ps.map (·.2)).all (kpt (below (R.ps.map (·.1)))) = true := List.all_eq_true.mpr fun x hx => by
    obtain ⟨p, hp, rfl⟩ := List.mem_map.mp hx
    refine kpt_mono (fun z hz => ?_) _ (h.vs p hp).kp
    unfold below
    rw [Bool.not_eq_true', decide_eq_false_iff_not]
    intro e
    cases z with
    | nil => cases hz
    | cons k z =>
      have hd := h.hd
      cases eq : R.ps.map (·.1) with
      | nil => rw [eq] at hd; cases hd
      | cons k' r =>
        rw [eq] at hd e
        rw [List.length_cons, List.take_succ_cons] at e
        have : k = "a" := (List.cons.inj e).1.trans (Option.some.inj hd)
        rw [this] at hz
        simp [Kval] at hz
  simp only [mapP, lay, e1, e2, List.length_map, decide_eq_true l, Bool.and_true]
def spRd (K : PySem.W.Frag) (CW CK : Addr) : Sp := fun vs H Q _ => ∃ (aw kd sd : Addr) (v : V) (d : D5) (rs : Rs) (last : Nat) (ts : List Tb), vs = [.ref aw, v] ∧ WAt K CW H aw kd sd rs last ∧ WOk ts rs last ∧ KAt K CK H kd ts ∧ TsOk ts ∧ TArg K H d v ∧
  (hasD rs d = false → ∀ H', Same H H' → Q .non H') ∧
  (∀ p, hasD rs d = true → rowD rs d = some p → ∃ t ∈ ts, t.name = p.1.kind ∧ (∀ r ∈ t.gv, r.nm ∈ p.1.ps.map (·.1)) ∧ p.1.ps.length ≤ 1000 ∧ ∀ D H', H D = none → Same H H' → PD K H' (rdF t.gv p.1.ps) D → Q (.ref D) H')
/-! ### things -/
/-- rows by Tags, told by f -/
def RwF (K : PySem.W.Frag) (H : Hp) (f : Ro → D5) : List Ro → List (List Key × V) → Prop
  | [], kvs => kvs = []
  | r :: rs, kvs => ∃ v kvs', kvs = (keyR r, v) :: kvs' ∧ Dv (O5 K) H (f r) v ∧ RwF K H f rs kvs'
theorem RwF.len {K : PySem.W.Frag} {H : Hp} {f : Ro → D5} : ∀ {rows : List Ro} {kvs : List (List Key × V)}, RwF K H f rows kvs → kvs.length = rows.length
  | [], _, h => by cases h; rfl
  | r :: rs, _, ⟨v, kvs, e, _, p⟩ => by subst e; rw [List.length_cons, List.length_cons, p.len]
theorem RwF.app {K : PySem.W.Frag} {H : Hp} {f : Ro → D5} {r : Ro} {v : V} (hv : Dv (O5 K) H (f r) v) : ∀ {rows : List Ro} {kvs : List (List Key × V)}, RwF K H f rows kvs → RwF K H f (rows ++ [r]) (kvs ++ [(keyR r, v)])
  | [], _, h => by cases h; exact ⟨v, [], rfl, hv, rfl⟩
  | r' :: rs, _, ⟨v', kvs, e, h, p⟩ => by subst e; exact ⟨v', _, rfl, h, RwF.app hv p⟩
theorem RwF.mono {K : PySem.W.Frag} {H H' : Hp} {f : Ro → D5} : ∀ {rows : List Ro} {kvs : List (List Key × V)}, (∀ r ∈ rows, ∀ v, Dv (O5 K) H (f r) v → Dv (O5 K) H' (f r) v) → RwF K H f rows kvs → RwF K H' f rows kvs
  | [], _, _, h => h
  | r :: rs, _, o, ⟨v, kvs, e, h, p⟩ => ⟨v, kvs, e, o r List.mem_cons_self v h, RwF.mono (fun r' hr => o r' (List.mem_cons_of_mem _ hr)) p⟩
theorem RwF.same {K : PySem.W.Frag} {H H' : Hp} {f : Ro → D5} (s : Same H H') {rows : List Ro} {kvs : List (List Key × V)} (h : RwF K H f rows kvs) : RwF K H' f rows kvs := RwF.mono (fun r _ v hv => (kps5 (K := K)).dv s hv) h
theorem rwf_get {K : PySem.W.Frag} {H : Hp} {f : Ro → D5} : ∀ {rows : List Ro} {kvs : List (List Key × V)} (k : Str) (n : Nat), RwF K H f rows kvs →
    (rows.find? (isRow k n) = none → valV kvs (keyT k n) = none) ∧ ∀ r, rows.find? (isRow k n) = some r → ∃ v, valV kvs (keyT k n) = some v ∧ Dv (O5 K) H (f r) v
  | [], _, k, n, h => by cases h; exact ⟨fun _ => rfl, fun r h => nomatch h⟩
  | r :: rs, _, k, n, ⟨v, kvs, e, h, p⟩ => by
    subst e
    obtain ⟨i1, i2⟩ := rwf_get k n p
    rw [List.find?_cons]
    by_cases e : keyR r = keyT k n
    · rw [valV_pos (p := (keyR r, v)) e, show isRow k n r = true by rw [← isRow_key]; exact decide_eq_true e]
      exact ⟨fun h => (nomatch h), fun r' h => by cases h; exact ⟨v, rfl, ‹_›⟩⟩
    · rw [valV_neg (p := (keyR r, v)) e, show isRow k n r = false by rw [← isRow_key]; exact decide_eq_false e]
      exact ⟨i1, i2⟩
/-- what things tells of a row -/
def fTh (r : Ro) : D5 := .tup [.str r.kind, mapP r.ps]
abbrev Kany : List Str → Bool := fun _ => true
theorem kany {Ks : List Str → Bool} {d : D5} (h : kpt Ks d = true) : kpt Kany d = true := kpt_mono (fun _ _ => rfl) d h
theorem mapP_any {R : Ro} (o : OkR R) : kpt Kany (mapP R.ps) = true := by
  rw [mapP, kpt, kptL_all fun x hx => ?_]
  · rfl
  · obtain ⟨p, hp, rfl⟩ := List.mem_map.mp hx
    exact kany (o.vs p hp).kp
theorem fTh_any {R : Ro} (o : OkR R) : kpt Kany (fTh R) = true := by
  simp only [fTh, kpt, kptL, mapP_any o, Bool.and_true]
abbrev sTh : Stmt := inClass (tp 35) 1
abbrev NTh : List Str := ["self", "tag"]
theorem scTh : FnScope NTh ["self"] (defScope sTh) := ⟨rfl, rfl, rfl, by decide +kernel, rfl, by decide +kernel, by decide +kernel⟩
def spTh (K : PySem.W.Frag) (CW : Addr) : Sp := fun vs H Q _ => ∃ (aw kd sd : Addr) (rs : Rs) (last : Nat) (ts : List Tb), vs = [.ref aw] ∧ WAt K CW H aw kd sd rs last ∧ WOk ts rs last ∧ (∀ p ∈ rs, p.1.ps.length ≤ 1000) ∧
  ∀ (D : Addr) (kvs : List (List Key × V)) H', Same H H' → H D = none → H' D = some (.dT kvs) → RwF K H' fTh (rs.map (·.1)) kvs → Q (.ref D) H'
section
variable {P : Program} {w : World} {K : PySem.W.Frag} {mg : Str → Option Value} {base : Heap} {CW CK : Addr}
theorem ok_read {f fH fF fT : Addr} {fd fdH fdF fdT : FuncData} (F : Fun K "read" "World.read" sRd f fd) (T : TxtW K mg CW) (TK : TxtKi K mg CK) (M : Meth K CW "_has" fH) (GH : FnOk P w K mg base CX0 3 fH fdH ["self", "tag"] (spHas K CW)) (bH : Binds K fdH ["self", "tag"] [])
    (DF : Def P w K mg base 6 "fresh" fF fdF ["value"] (spFrs K 5)) (DT : Def P w K mg base 1 "_as_told" fT fdT ["value", "reading"] (spAT K)) : FnOk P w K mg base CX0 7 f fd ["self", "tag"] (spRd K CW CK) := by
  refine F.ok scRd (fun vs H Q E h => ?_) (fun cdv A outer s H vs Q E hr h => ?_)
  · obtain ⟨aw, kd, sd, v, d, rs, last, ts, rfl, _⟩ := h
    rfl
  · obtain ⟨aw, kd, sd, v, d, rs, last, ts, rfl, hw, W, hk, TO, hv, q1, q2⟩ := h
    refine ⟨_, pss_cons (ps_if (pt_not (pt_val (pe_meth (pv 0) T.cl M GH (hr.mono (by decide)) bH .nil pass0 (pa_cons (pv 1) pa_nil)))) (pss_one (ps_ret pe_non)) pss_nil)
      (pss_cons (ps_set (i := 2) scRd.nd rfl (Or.inl rfl) (pe_call DF.ok (hr.mono (by decide)) rfl DF.g DF.kp DF.b .nil pass0 (pa_cons (pe_dget (hu_of hr) (pe_fld (pv 0) rfl) (pv 1) (fun _ _ => rfl)) pa_nil)))
      (pss_cons (ps_for PassesOwn.never rfl (pi_tup (pe_fld (pe_dget (hu_of hr) (pe_fld (pv 0) rfl) (pe_ixT (pv 1) pe_int (fun _ _ => rfl)) (fun _ _ => rfl)) rfl)) (pg_name (i := 3) scRd.nd rfl (Or.inl rfl))
        (pss_one (ps_dput (hu_of hr) (pv 2) (pe_ixT (pv 3) pe_int (fun _ _ => rfl)) (pe_call DT.ok (hr.mono (by decide)) rfl DT.g DT.kp DT.b .nil pass0 (pa_cons (pe_dget (hu_of hr) (pv 2) (pe_ixT (pv 3) pe_int (fun _ _ => rfl)) (fun _ _ => rfl)) (pa_cons (pe_ixT (pv 3) pe_int (fun _ _ => rfl)) pa_nil))) (by rfl))))
      (pss_one (ps_ret (pv 2))))), ?_⟩
    have P := kps5 (K := K)
    obtain ⟨dx, ew⟩ := hw.w
    have lkn : (wfl kd sd (last : Int)).lookup ("_has" : Str) = none := (lk_tl (by decide +kernel)).trans ((lk_tl (by decide +kernel)).trans ((lk_tl (by decide +kernel)).trans rfl))
    refine ⟨_, rfl, aw, dx, _, rfl, ew, lkn, _, rfl, aw, kd, sd, v, d, rs, last, rfl, hw, hv, fun H1 s1 => ⟨_, rfl, ?_⟩⟩
    cases eh : hasD rs d with
    | false => exact Vl.iteC rfl (q1 eh H1 s1)
    | true =>
      refine Vl.iteN rfl ?_
      have eh2 := eh
      unfold hasD at eh2
      rw [Bool.and_eq_true] at eh2
      obtain ⟨p, ep⟩ := Option.isSome_iff_exists.mp eh2.2
      obtain ⟨t, ht, et, hn, pl, q⟩ := q2 p eh ep
      obtain ⟨b, k, n, rfl, hb, rfl⟩ := hv.tg eh2.1
      rw [rowD_tag] at ep
      obtain ⟨mp, ek, en⟩ := findW_mem ep
      have okp := W.ok p mp
      have hw1 := hw.same s1
      have row : ED (O5 K) (tDGet (tFld K (tVar 0) "_standing") (tVar 1)) [some (.ref aw), some (.ref b), none, none] H1 (mapP p.1.ps) := fun H2 s2 Q2 k2 =>
        (ep_row (K := K) (tk := tVar 1) (i := 0) (σ := [some (.ref aw), some (.ref b), none, none]) T hw1 rfl (ep_pv rfl fun H3 s3 => ⟨rfl, s3 _ _ (s1 _ _ hb)⟩) ep) H2 s2 _ fun v3 H3 s3 ev3 => k2 v3 H3 s3 (by rw [ev3]; exact ((hw1.same (Same.trans s2 s3)).r p mp).dv okp.nd)
      show tCall (spFrs K 5) [] E0 (tCons (tDGet (tFld K (tVar 0) "_standing") (tVar 1)) tNil) [some (.ref aw), some (.ref b), none, none] H1 _
      refine EA.call (ea_cons P row ea_nil) fun vs H2 s2 ⟨v2, r2, e2, hv2, e3⟩ => ?_
      cases (show r2 = [] from e3)
      subst e2
      refine ⟨v2, mapP p.1.ps, rfl, hv2, row_lay okp pl, fun v' H3 s3 hv' nm => ?_⟩
      obtain ⟨D, rfl, nD⟩ := nm _ _ rfl
      have s02 := Same.trans s1 s2
      have nD0 : H D = none := by
        cases e : H D with
        | none => rfl
        | some o => rw [s02 _ _ e] at nD; cases nD
      have s03 := Same.trans s02 s3
      obtain ⟨D', eD', hPD, ndp⟩ := PD.of hv'
      cases eD'
      show tSeq _ _ _ [some (.ref aw), some (.ref b), some (.ref D), none] H3
      have hw3 := hw.same s03
      have kn := ed_given TK (ep_kind (K := K) (CK := CK) (t := t) (tk := tOp (rIxT K) (tVar 1) (tC (.int 1))) (σ := [some (.ref aw), some (.ref b), some (.ref D), none]) (i := 0) T hw3 (hk.same s03) ht rfl (by
        have := (ed_tag1 (K := K) (σ := [some (.ref aw), some (.ref b), some (.ref D), none]) (i := 1) rfl (s03 _ _ hb)).ep
        rw [← ek, ← et] at this
        exact this))
      refine for_tupC (CK := CK) (l := t.gv.map gvrD) kn (gvs_kpt (TO.rd t ht)) fun H4 s4 => ⟨fun i σ' H' => (∃ w0, σ' = [some (.ref aw), some (.ref b), some (.ref D), w0]) ∧ Same H H' ∧ Calm CK H4 H' ∧ PD K H' (rdF (t.gv.take i) p.1.ps) D,
        ⟨⟨_, rfl⟩, Same.trans s03 s4, Calm.refl _, hPD.same s4⟩, fun i σ' H' _ pv => pv.2.2.1, fun i dd u σ' H' e pv hd => ?_, fun σ' H' pv => ?_⟩
      · obtain ⟨⟨w0, rfl⟩, sH, cm, hP⟩ := pv
        obtain ⟨r, er, rfl⟩ : ∃ r, t.gv[i]? = some r ∧ dd = gvrD r := by
          rw [List.getElem?_map] at e
          cases e' : t.gv[i]? with
          | none => rw [e'] at e; cases e
          | some r => rw [e'] at e; cases e; exact ⟨r, rfl, rfl⟩
        have sc := rdF_succ (a := p.1.ps) er
        have okq := rdF_ok (R := p.1) (t.gv.take i) p.1.ps okp
        have kq := rdF_keys (t.gv.take i) p.1.ps fun r hr => hn r (List.mem_of_mem_take hr)
        generalize hA : rdF (t.gv.take i) p.1.ps = psi at *
        have lq : psi.length ≤ 1000 := by have h := congrArg List.length kq; rw [List.length_map, List.length_map] at h; omega
        obtain ⟨kv, ekv, pts⟩ := hP
        obtain ⟨x, ex⟩ := getS_some (ps := psi) (s := r.nm) (by rw [kq]; exact hn r (List.mem_of_getElem? er))
        obtain ⟨xv, exv, hxv⟩ := (pts.get r.nm).2 x ex
        have okx := okq.vs _ (getS_mem ex)
        have row0 : ∀ {H5 : Hp}, Same H' H5 → ED (O5 K) (tOp (rIxT K) (tVar 3) (tC (.int 0))) [some (.ref aw), some (.ref b), some (.ref D), some u] H5 (.str r.nm) := fun s5 => ed_ixT P (i := 0) (l := [.str r.nm, .str r.so, .bl r.fo, rdgD r.rd]) (ed_pv P (i := 3) rfl (P.dv s5 hd)) rfl
        have row3 : ∀ {H5 : Hp}, Same H' H5 → ED (O5 K) (tOp (rIxT K) (tVar 3) (tC (.int 3))) [some (.ref aw), some (.ref b), some (.ref D), some u] H5 (rdgD r.rd) := fun s5 => ed_ixT P (i := 3) (l := [.str r.nm, .str r.so, .bl r.fo, rdgD r.rd]) (ed_pv P (i := 3) rfl (P.dv s5 hd)) rfl
        refine ⟨.ref D, rfl, ?_⟩
        refine (row0 (Same.refl _)).run fun y H5 s5 ey => ?_
        cases (show y = .str r.nm from ey)
        refine ⟨D, xv, rfl, .inl ⟨kv, .inr r.nm, .inl (s5 _ _ ekv), rfl, exv.symm⟩, ?_⟩
        refine (row3 s5).run fun y3 H6 s6 hy3 => ?_
        refine ⟨xv, x, y3, r.rd, rfl, P.dv (Same.trans s5 s6) hxv, hy3, fun v' H7 s7 hv' => ?_⟩
        have s57 := Same.trans s5 (Same.trans s6 s7)
        refine ⟨.ref D, rfl, ?_⟩
        refine (row0 s57).run fun y H8 s8 ey => ?_
        cases (show y = .str r.nm from ey)
        have s58 := Same.trans s57 s8
        have cmD : Calm CK H8 (upd H8 D (.dK (putK kv (.inr r.nm : Key) v'))) := .upd (s58 _ _ ekv) (apt_a (by rw [pts.keys, List.head?_map, okq.hd]; rfl))
        refine ⟨D, _, rfl, DPut.k (k := .inr r.nm) (s58 _ _ ekv) (Nat.lt_of_le_of_lt (show kv.length ≤ 1000 by rw [pts.len]; exact lq) (by decide)), ⟨_, rfl⟩, fun c o e => ?_, cm.trans ((Calm.same s58).trans cmD), ?_⟩
        · have nc : c ≠ D := fun q => by rw [q, nD0] at e; cases e
          rw [upd_ne nc]
          exact s58 _ _ (sH _ _ e)
        · rw [sc]
          unfold rdS1
          rw [ex]
          refine ⟨_, upd_same, (PtsD.put (P.dv s8 hv') okq.nd (pts.same s58)).imp fun z hz v hv => Dv.calm cmD _ _ (kv_kin ?_) hv⟩
          rcases put_mem hz with hz | rfl
          · exact okq.kp z hz
          · exact (told_ok okx).kp
      · obtain ⟨⟨w0, rfl⟩, sH, cm, hP⟩ := pv
        rw [List.length_map, List.take_length] at hP
        exact ⟨_, rfl, q D H' nD0 sH hP⟩
theorem ok_things {f fF : Addr} {fd fdF : FuncData} (F : Fun K "things" "World.things" sTh f fd) (T : TxtW K mg CW) (DF : Def P w K mg base 6 "fresh" fF fdF ["value"] (spFrs K 5)) : FnOk P w K mg base CX0 7 f fd ["self"] (spTh K CW) := by
  refine F.ok scTh (fun vs H Q E h => ?_) (fun cdv A outer s H vs Q E hr h => ?_)
  · obtain ⟨aw, kd, sd, rs, last, ts, rfl, _⟩ := h
    rfl
  · obtain ⟨aw, kd, sd, rs, last, ts, rfl, hw, W, pl, q⟩ := h
    refine ⟨_, pss_one (ps_ret (pe_lock (pe_dcT (own := [("tag", 1)]) (g := gName 1) (tt := tYes) (Nat.lt_of_le_of_lt (Nat.le_add_right _ 64) (hu64 hr)) rfl scTh.nd (pi_keys (pe_fld (pv 0) rfl)) (blkOk_by (N := NTh) (sc := defScope sTh) (by decide +kernel)) (fun _ _ _ _ _ => pg_name (i := 1) scTh.nd rfl (Or.inl rfl)) (fun _ _ _ _ _ => pts_nil) (fun _ _ _ _ _ => pv 1)
      (fun _ _ _ _ _ => pe_tup (pa_cons (pe_ix (show IxR _ (rIxT K) from ix_tup) (pv 1) pe_int (fun _ _ => rfl)) (pa_cons (pe_call DF.ok (hr.mono (by decide)) rfl DF.g DF.kp DF.b .nil pass0 (pa_cons (pe_dget (hu_of hr) (show PE _ _ (tFld K (tVar 0) "_standing") from pe_fld (pv 0) rfl) (pv 1) (fun _ _ => rfl)) pa_nil)) pa_nil)))))), ?_⟩
    have P := kps5 (K := K)
    obtain ⟨dx, ew⟩ := hw.w
    have es := hw.s
    have nws : aw ≠ sd := fun e => by rw [e, es] at ew; cases ew
    have alT : ∀ {H9 : Hp}, ∀ a ∈ [sd], ∀ o, H9 a = some o → (H9 sd = some (.dT (rs.map wkv)) ∨ ∃ q, H9 sd = some (.frz q (.dT (rs.map wkv)))) → Alien Kany o := fun a m o e h => by
      rw [List.mem_singleton.mp m] at e
      rcases h with h | ⟨q, h⟩ <;> rw [h] at e <;> cases e
      · exact alien_dT
      · exact alien_frzT
    refine ⟨sd, .dT (rs.map wkv), es, True.intro, fun od => ?_⟩
    have c0 : Ch [sd] H (upd H sd (.frz od (.dT (rs.map wkv)))) := Ch.upd (by simp)
    refine ⟨_, rfl, aw, CW, dx, _, _, rfl, c0 _ _ ew (by simpa using nws), T.cl, T.n2, wl2, sd, od, rfl, .inr ⟨rs.map wkv, upd_same, fun D hD => ?_⟩⟩
    have nDs : D ≠ sd := fun e => by rw [e, upd_same] at hD; cases hD
    have hD0 : H D = none := by rwa [upd_ne nDs] at hD
    refine dcT_it (walk_keysT (d := sd) (o := od) (kvs := rs.map wkv)) (fun i H' => (H' sd = some (.frz od (.dT (rs.map wkv))) ∧ Ch [sd] H H') ∧ ∃ kv', H' D = some (.dT kv') ∧ RwF K H' fTh ((rs.map (·.1)).take i) kv')
      ⟨⟨(upd_ne (Ne.symm nDs)).trans upd_same, Ch.updNew c0 hD0⟩, [], upd_same, rfl⟩ (fun i H' _ h => h.1.1) (fun i x H3 H4 hlt h y => ?_) (fun H3 h => ?_)
    · obtain ⟨⟨e1, e2⟩, kv', e3, e4⟩ := h
      obtain ⟨rfl, k, v1, qa, e6, rfl, hq⟩ := y
      rw [List.getElem?_map] at e6
      obtain ⟨p, er, e7⟩ := Option.map_eq_some_iff.mp e6
      cases e7
      have mr := List.mem_of_getElem? er
      have or := W.ok p mr
      have ew3 := e2 _ _ ew (by simpa using nws)
      have npd : p.2 ≠ sd := fun e => by
        obtain ⟨kv9, e9, _⟩ := hw.r p mr
        rw [e, es] at e9
        cases e9
      have hp4 : PD K H4 p.1.ps p.2 := (hw.r p mr).ch (Ks := Kany) e2 (fun a m o e => alT a m o e (.inl es)) (fun z hz => kany (or.kp z hz)) (by simpa using npd)
      have hq : H4 qa = some (.tup [.str "#", .str p.1.kind, .int (p.1.n : Int)]) := hq
      refine ⟨rfl, _, rfl, ?_⟩
      have ec : ED (O5 K) (tCall (spFrs K 5) [] E0 (tCons (tDGet (tFld K (tVar 0) "_standing") (tVar 1)) tNil)) [some (.ref aw), some (.ref qa)] H4 (mapP p.1.ps) := fun H5 s5 Q5 q5 =>
        ⟨_, rfl, aw, CW, dx, _, _, rfl, s5 _ _ ew3, T.cl, T.n2, wl2, _, rfl, sd, .ref p.2, rfl, .inr ⟨rs.map wkv, keyT p.1.kind p.1.n, qa, .inr ⟨od, s5 _ _ e1⟩, rfl, s5 _ _ hq, by rw [w_get, find_row W mr]; rfl⟩,
          .ref p.2, mapP p.1.ps, rfl, ((hp4.same s5).dv or.nd), row_lay or (pl p mr), fun v' H' s' hd' _ => q5 v' H' s' hd'⟩
      refine (ed_tup P (ea_cons P (ed_tag1 (i := 1) rfl hq) (ea_cons P ec ea_nil)) (by simp)).run fun v H5 s5 hv => ?_
      have kl : kv'.length ≤ 1000 := by
        rw [e4.len, List.length_take, List.length_map]
        have := W.ln
        omega
      have nz : valV kv' (keyR p.1) = none := (rwf_get _ _ e4).1 (by
        rw [List.find?_eq_none]
        intro x hx z
        have e : keyR x = keyR p.1 := of_decide_eq_true ((isRow_key (k := p.1.kind) (n := p.1.n) (r := x)).trans z)
        have nn := W.nk
        rw [show (rs.map fun p => keyR p.1) = (rs.map (·.1)).map keyR by rw [List.map_map]; rfl, ← List.take_append_drop i (rs.map (·.1)), List.map_append] at nn
        have hi : i < (rs.map (·.1)).length := by rw [List.length_map]; exact (List.getElem?_eq_some_iff.mp er).1
        refine (List.nodup_append.mp nn).2.2 _ (List.mem_map_of_mem (f := keyR) hx) _ (List.mem_map_of_mem (f := keyR) (a := p.1) ?_) e
        rw [List.drop_eq_getElem_cons hi]
        simp [(List.getElem?_eq_some_iff.mp er).2])
      refine ⟨kv', keyR p.1, qa, rfl, s5 _ _ e3, s5 _ _ hq, Nat.lt_of_le_of_lt kl (by decide), ⟨(upd_ne (Ne.symm nDs)).trans (s5 _ _ e1), Ch.updNew (Ch.trans e2 (Ch.same s5)) hD0⟩, _, upd_same, ?_⟩
      rw [putK_new v nz, List.take_succ, show (rs.map (·.1))[i]? = some p.1 by rw [List.getElem?_map, er]; rfl]
      have cD : Ch [D] H5 (upd H5 D (.dT (kv' ++ [(keyR p.1, v)]))) := Ch.upd (by simp)
      have al : ∀ b ∈ [D], ∀ o, H5 b = some o → Alien Kany o := fun b hb o e => by
        rw [List.mem_singleton.mp hb, s5 _ _ e3] at e
        cases e
        exact alien_dT
      refine RwF.app (Dv.ch cD al _ _ (fTh_any or) hv) (RwF.mono (fun r' hr' v' hv' => Dv.ch cD al _ _ (fTh_any ?_) (P.dv s5 hv')) e4)
      obtain ⟨p', hp', rfl⟩ := List.mem_map.mp (List.mem_of_mem_take hr')
      exact W.ok p' hp'
    · obtain ⟨⟨e1, e2⟩, kv', e3, e4⟩ := h
      rw [List.length_map, show rs.length = (rs.map (·.1)).length by rw [List.length_map], List.take_length] at e4
      have cS : Ch [sd] H3 (upd H3 sd (.dT (rs.map wkv))) := Ch.upd (by simp)
      refine ⟨e1, q D kv' _ (fun c o e => ?_) hD0 ((upd_ne nDs).trans e3) (RwF.mono (fun r hr v hv => Dv.ch cS (fun a m o e => alT a m o e (.inr ⟨od, e1⟩)) _ _ (fTh_any ?_) hv) e4)⟩
      · by_cases n : c = sd
        · subst n
          rw [es] at e
          cases e
          exact upd_same
        · exact (upd_ne n).trans (e2 c o e (by simpa using n))
      · obtain ⟨p', hp', rfl⟩ := List.mem_map.mp hr
        exact W.ok p' hp'
end
end Kd

set_option Elab.async false
set_option linter.all false
set_option maxRecDepth 100000
set_option maxHeartbeats 4000000
/-! the law's model: _law_model, _law_tag, _law_around, _law_marks -/
namespace Ed
open PySem PySem.Spec PyProof.Rows L2 Dq Vl Kd
variable {K : PySem.W.Frag} {σ : L2.St} {H : Hp} {te ta tb : TE}
/-- d[name] of data -/
theorem ed_get {ks : List Str} {l : List D5} {s : Str} {d : D5} {i : Nat} (h : ED (O5 K) ta σ H (.map ks l)) (h2 : EP tb σ H fun v _ => v = .str s) (e : ks[i]? = some s) (e2 : l[i]? = some d) : ED (O5 K) (tDGet ta tb) σ H d := fun H1 s1 Q q =>
  h H1 s1 _ fun v H2 s2 hv => h2 H2 (Same.trans s1 s2) _ fun y H3 s3 ey => by
    obtain ⟨b, kvs, rfl, hb, nd, hk, hl⟩ := (kps5 (K := K)).dv s3 hv
    obtain ⟨u, eu, hu⟩ := at_dv hl e2
    have ndk : (kvs.map (·.1)).Nodup := by rw [hk]; exact List.Pairwise.map _ (fun a b n e => n (Sum.inr.inj e)) nd
    have ekv : kvs[i]? = some (.inr s, u) := by
      have a1 := congrArg (fun m => m[i]?) hk
      simp only [List.getElem?_map, e, Option.map_some] at a1
      rw [List.getElem?_map] at eu
      cases ec : kvs[i]? with
      | none => rw [ec] at eu; cases eu
      | some p =>
        rw [ec] at a1 eu
        simp only [Option.map_some, Option.some.injEq] at a1 eu
        rw [← a1, ← eu]
    exact ⟨b, u, rfl, .inl ⟨kvs, .inr s, .inl hb, ey, (find_at ndk ekv).symm⟩, q u H3 (Same.trans s2 s3) hu⟩

abbrev rSS : R2 := fun x y H Q => ∃ i j, x = .str i ∧ y = .str j ∧ i.length + j.length ≤ sizeLine ∧ Q (.str (i ++ j)) H
end Ed
namespace Kd
open PySem PySem.Spec PyProof.Rows L2 Dq Vl Pf Ed ClX
abbrev mkv (tb rl : Addr) (last : Int) : List (Key × V) := [(.inr "tables", .ref tb), (.inr "rows", .ref rl), (.inr "told", .int last)]
theorem mkv1 {tb rl : Addr} {n : Int} : valV (mkv tb rl n) (.inr "tables" : Key) = some (.ref tb) := by simp [valV]
theorem mkv2 {tb rl : Addr} {n : Int} : valV (mkv tb rl n) (.inr "rows" : Key) = some (.ref rl) := by
  have : ¬ (("tables" : Str) = "rows") := by decide +kernel
  simp [valV, this]
theorem mkv3 {tb rl : Addr} {n : Int} : valV (mkv tb rl n) (.inr "told" : Key) = some (.int n) := by
  have h1 : ¬ (("tables" : Str) = "told") := by decide +kernel
  have h2 : ¬ (("rows" : Str) = "told") := by decide +kernel
  simp [valV, h1, h2]
theorem mkv3p {tb rl : Addr} {n m : Int} : putK (mkv tb rl n) (.inr "told" : Key) (.int m) = mkv tb rl m := by
  have h1 : ¬ (("tables" : Str) = "told") := by decide +kernel
  have h2 : ¬ (("rows" : Str) = "told") := by decide +kernel
  simp [putK, h1, h2]
theorem apt_mkv {CK tb rl : Addr} {n : Int} : Apt CK (.dK (mkv tb rl n)) := ⟨alien_dk fun ks hk e => by
  cases ks with
  | nil => cases e
  | cons k ks =>
    rw [List.map_cons, List.map_cons] at e
    have : k = "tables" := Sum.inr.inj (List.cons.inj e).1.symm
    rw [this] at hk
    revert hk
    show (!(decide (("tables" : Str) = "a") || decide (("tables" : Str) = "tables"))) = true → False
    decide +kernel, fun _ _ e => nomatch e⟩
structure Lr where
  r : Ro
  l : Addr
  t : Addr
  d : Addr
/-- a row of the model stands -/
structure LrAt (K : PySem.W.Frag) (H : Hp) (q : Lr) : Prop where
  l : H q.l = some (.lst [.ref q.t, .str q.r.kind, .ref q.d])
  t : H q.t = some (.tup [.str "#", .str q.r.kind, .int (q.r.n : Int)])
  p : PD K H q.r.ps q.d
structure MAt (K : PySem.W.Frag) (H : Hp) (am tb rl : Addr) (ts : List Tb) (ls : List Lr) (last : Nat) : Prop where
  m : H am = some (.dK (mkv tb rl (last : Int)))
  t : Dv (O5 K) H (tabsD ts) (.ref tb)
  r : H rl = some (.lst (ls.map fun q => .ref q.l))
  q : ∀ q ∈ ls, LrAt K H q
theorem MAt.same {K : PySem.W.Frag} {H H' : Hp} {am tb rl : Addr} {ts : List Tb} {ls : List Lr} {last : Nat} (h : MAt K H am tb rl ts ls last) (s : Same H H') : MAt K H' am tb rl ts ls last :=
  ⟨s _ _ h.m, (kps5 (K := K)).dv s h.t, s _ _ h.r, fun q hq => ⟨s _ _ (h.q q hq).l, s _ _ (h.q q hq).t, (h.q q hq).p.same s⟩⟩
/-- all that the model may change -/
abbrev ownM (am rl : Addr) (ls : List Lr) : List Addr := am :: rl :: ls.map (·.l)
structure LOk (ts : List Tb) (ls : List Lr) : Prop where
  ok : ∀ q ∈ ls, OkR q.r
  nk : (ls.map fun q => keyR q.r).Nodup
  nl : (ls.map (·.l)).Nodup
  ln : ls.length ≤ 1000
  kd : ∀ q ∈ ls, ∃ t ∈ ts, t.name = q.r.kind
section
variable {K : PySem.W.Frag} {CW CK : Addr} {H H' : Hp} {am tb rl : Addr} {ls : List Lr} {last : Nat} {ts : List Tb}
theorem MAt.apt (h : MAt K H am tb rl ts ls last) : ∀ a ∈ ownM am rl ls, ∀ o, H a = some o → Apt CK o := by
  intro a m o e
  rcases List.mem_cons.mp m with rfl | m
  · rw [h.m] at e; cases e; exact apt_mkv
  rcases List.mem_cons.mp m with rfl | m
  · rw [h.r] at e; cases e; exact apt_lst
  · obtain ⟨q, hq, rfl⟩ := List.mem_map.mp m
    rw [(h.q q hq).l] at e
    cases e
    exact apt_lst
theorem MAt.calm (O : TsOk ts) (h : MAt K H am tb rl ts ls last) (L : LOk ts ls) (c : Calm CK H H') (e : ∀ a ∈ ownM am rl ls, ∀ o, H a = some o → H' a = some o) (ed : ∀ q ∈ ls, ∀ o, H q.d = some o → H' q.d = some o) : MAt K H' am tb rl ts ls last :=
  ⟨e _ (by simp) _ h.m, Dv.calm c _ _ (tabs_kpt O.rd O.nk) h.t, e _ (by simp) _ h.r, fun q hq => ⟨e _ (by simp only [List.mem_cons]; exact .inr (.inr (List.mem_map_of_mem (f := (·.l)) hq))) _ (h.q q hq).l, c.t _ _ (h.q q hq).t, (h.q q hq).p.calm c (L.ok q hq).kp (ed q hq)⟩⟩
end
abbrev sLT : Stmt := tp 45
abbrev NLT : List Str := ["_law_m", "_law_kind"]
theorem scLT : FnScope NLT NLT (defScope sLT) := ⟨rfl, rfl, rfl, by decide +kernel, rfl, by decide +kernel, by decide +kernel⟩
def spLT : Sp := fun vs H Q _ => ∃ (am tb rl : Addr) (s : Str) (n : Nat), vs = [.ref am, .str s] ∧ H am = some (.dK (mkv tb rl (n : Int))) ∧
  ∀ (b : Addr) H', Ch [am] H H' → H b = none → H' am = some (.dK (mkv tb rl ((n + 1 : Nat) : Int))) → H' b = some (.tup [.str "#", .str s, .int ((n + 1 : Nat) : Int)]) → Q (.ref b) H'
abbrev sMo : Stmt := tp 44
theorem scMo : FnScope ["_law_tables"] ["_law_tables"] (defScope sMo) := ⟨rfl, rfl, rfl, by decide +kernel, rfl, by decide +kernel, by decide +kernel⟩
def spMo : Sp := fun vs H Q _ => ∃ (tb : Addr), vs = [.ref tb] ∧ ∀ (am rl : Addr) H', H am = none → H rl = none → Same H H' → H' am = some (.dK (mkv tb rl 0)) → H' rl = some (.lst []) → Q (.ref am) H'
abbrev sLA : Stmt := tp 46
abbrev NLA : List Str := ["_law_table", "_law_kept", "_law_name", "_law_rule", "_law_value", "_law_text"]
theorem scLA : FnScope NLA ["_law_table", "_law_kept"] (defScope sLA) := ⟨rfl, rfl, rfl, by decide +kernel, rfl, by decide +kernel, by decide +kernel⟩
/-- a dict of kept values, as it may stand -/
structure KpD (K : PySem.W.Frag) (H : Hp) (ps : Prt) (d : Addr) : Prop where
  p : PD K H ps d
  o : ∃ r : Ro, OkR { r with ps := ps }
def spLA (K : PySem.W.Frag) (CK : Addr) : Sp := fun vs H Q _ => ∃ (tv : V) (d : Addr) (t : Tb) (ps : Prt), vs = [tv, .ref d] ∧ Dv (O5 K) H (tabD t) tv ∧ KpD K H ps d ∧ SrcOk t.md ps ∧ ps.length + t.md.length ≤ 1000 ∧
  ∀ H', Ch [d] H H' → Calm CK H H' → KpD K H' (arF t.md ps) d → Q .non H'
abbrev sLM : Stmt := tp 47
abbrev NLM : List Str := ["_law_m", "_law_kind", "_law_kept", "_law_table", "_law_name", "_law_rule"]
theorem scLM : FnScope NLM ["_law_m", "_law_kind", "_law_kept"] (defScope sLM) := ⟨rfl, rfl, rfl, by decide +kernel, rfl, by decide +kernel, by decide +kernel⟩
def spLM (K : PySem.W.Frag) (CK : Addr) : Sp := fun vs H Q _ => ∃ (am tb rl d : Addr) (last : Nat) (ts : List Tb) (t : Tb) (ps : Prt), vs = [.ref am, .str t.name, .ref d] ∧ H am = some (.dK (mkv tb rl (last : Int))) ∧ Dv (O5 K) H (tabsD ts) (.ref tb) ∧ TsOk ts ∧ t ∈ ts ∧ (ts.map (·.name)).Nodup ∧ TbOk t ∧ KpD K H ps d ∧ GvS t ps ∧ ps.length ≤ 400 ∧
  ∀ H', Ch [am, d] H H' → Calm CK H H' → H' am = some (.dK (mkv tb rl ((markF t.name t.md (ps, last)).2 : Int))) → KpD K H' (arF t.md (markF t.name t.md (ps, last)).1) d → Q .non H'
section
variable {K : PySem.W.Frag} {CK : Addr} {H : Hp} {ps : Prt} {d : Addr}
theorem KpD.same {H' : Hp} (h : KpD K H ps d) (s : Same H H') : KpD K H' ps d := ⟨h.p.same s, h.o⟩
theorem KpD.calm {H' : Hp} (h : KpD K H ps d) (c : Calm CK H H') (e : ∀ o, H d = some o → H' d = some o) : KpD K H' ps d := by
  obtain ⟨r, o⟩ := h.o
  exact ⟨h.p.calm c o.kp e, r, o⟩
theorem KpD.apt {o : HO} (h : KpD K H ps d) (e : H d = some o) : Apt CK o := by
  obtain ⟨r, k⟩ := h.o
  exact h.p.apt k.hd e
theorem KpD.put (h : KpD K H ps d) {s : Str} {x : D5} {v : V} (hv : Dv (O5 K) H x v) (ox : OkV x) {kvs : List (Key × V)} (e : H d = some (.dK kvs)) : KpD K (upd H d (.dK (putK kvs (.inr s : Key) v))) (putS ps s x) d ∧ Calm CK H (upd H d (.dK (putK kvs (.inr s : Key) v))) := by
  obtain ⟨r, o⟩ := id h.o
  have cm : Calm CK H (upd H d (.dK (putK kvs (.inr s : Key) v))) := .upd e (h.apt e)
  obtain ⟨kvs', e', pts⟩ := h.p
  rw [e] at e'
  cases e'
  have o2 := o.put (s := s) ox
  exact ⟨⟨⟨_, upd_same, (PtsD.put hv o.nd pts).imp fun z hz u hu => Dv.calm cm _ _ (kv_kin (o2.kp z hz)) hu⟩, r, o2⟩, cm⟩
/-- tables[kind] -/
theorem ed_tabs {σ : L2.St} {ta tk : TE} {ts : List Tb} {t : Tb} (nd : (ts.map (·.name)).Nodup) (ht : t ∈ ts) (h : ED (O5 K) ta σ H (tabsD ts)) (h2 : EP tk σ H fun v _ => v = .str t.name) : ED (O5 K) (tDGet ta tk) σ H (tabD t) := by
  obtain ⟨i, hi, e⟩ := List.getElem_of_mem ht
  have ei : ts[i]? = some t := by rw [List.getElem?_eq_getElem hi, e]
  exact ed_get (i := i) h h2 (by rw [List.getElem?_map, ei]; rfl) (by rw [List.getElem?_map, ei]; rfl)
end
section
variable {P : Program} {w : World} {K : PySem.W.Frag} {mg : Str → Option Value} {base : Heap} {CW CK : Addr}
theorem ok_lt {f : Addr} {fd : FuncData} (F : Fun K "_law_tag" "_law_tag" sLT f fd) : FnOk P w K mg base CX0 1 f fd NLT spLT := by
  refine F.ok scLT (fun vs H Q E h => ?_) (fun cdv A outer s H vs Q E hr h => ?_)
  · obtain ⟨am, tb, rl, s, n, rfl, _⟩ := h
    rfl
  · obtain ⟨am, tb, rl, s, n, rfl, hm, q⟩ := h
    refine ⟨_, pss_cons (ps_dput (hu_of hr) (pv 0) pe_str (pe_op op_add (pe_dget (hu_of hr) (pv 0) pe_str (fun _ _ => rfl)) pe_int) (by rfl))
      (pss_one (ps_ret (pe_tup (pa_cons pe_str (pa_cons (pv 1) (pa_cons (pe_dget (hu_of hr) (pv 0) pe_str (fun _ _ => rfl)) pa_nil)))))), ?_⟩
    refine ⟨_, rfl, am, .int n, rfl, .inl ⟨_, .inr "told", .inl hm, rfl, mkv3.symm⟩, n, 1, rfl, rfl, _, rfl, am, _, rfl, DPut.k (k := .inr "told") hm (by show 3 < sizeLine; decide), ?_⟩
    rw [mkv3p]
    refine ⟨_, rfl, _, rfl, am, .int (n + 1), rfl, .inl ⟨_, .inr "told", .inl upd_same, rfl, mkv3.symm⟩, by show 3 ≤ sizeLine; decide, fun b nb => ?_⟩
    have nba : b ≠ am := fun e => by rw [e, upd_same] at nb; cases nb
    have nb0 : H b = none := by rwa [upd_ne nba] at nb
    exact q b _ (Ch.updNew (Ch.upd (by simp)) nb0) nb0 ((upd_ne (Ne.symm nba)).trans upd_same) upd_same
theorem ok_mo {f : Addr} {fd : FuncData} (F : Fun K "_law_model" "_law_model" sMo f fd) : FnOk P w K mg base CX0 1 f fd ["_law_tables"] spMo := by
  refine F.ok scMo (fun vs H Q E h => ?_) (fun cdv A outer s H vs Q E hr h => ?_)
  · obtain ⟨tb, rfl, _⟩ := h
    rfl
  · obtain ⟨tb, rfl, q⟩ := h
    refine ⟨_, pss_one (ps_ret (pe_disp (pps_cons pe_str (pv 0) (pps_cons pe_str (pe_lst pa_nil) (pps_cons pe_str pe_int pps_nil))) (by rfl) (by rfl) (fun z => by cases z) (by decide))), ?_⟩
    intro am na
    refine ⟨_, rfl, by show 0 ≤ sizeLine; decide, fun rl nr => ?_⟩
    have nar : am ≠ rl := fun e => by rw [← e, upd_same] at nr; cases nr
    refine ⟨(upd_ne nar).trans upd_same, mkv tb rl 0, rfl, by show 3 ≤ 15; decide, ?_⟩
    have em : mergeK [] (mkv tb rl 0) = mkv tb rl 0 := by
      have h1 : ¬ (("tables" : Str) = "rows") := by decide +kernel
      have h2 : ¬ (("tables" : Str) = "told") := by decide +kernel
      have h3 : ¬ (("rows" : Str) = "told") := by decide +kernel
      simp [mergeK, putK, h1, h2, h3]
    rw [em]
    refine q am rl _ na (by rwa [upd_ne (Ne.symm nar)] at nr) (fun c o e => ?_) upd_same ((upd_ne (Ne.symm nar)).trans upd_same)
    have nc : c ≠ am := ne_of_none e na
    rw [upd_ne nc, upd_ne (fun z => by rw [← z, upd_ne nc, e] at nr; cases nr), upd_ne nc]
    exact e
theorem ok_la {f : Addr} {fd : FuncData} (F : Fun K "_law_around" "_law_around" sLA f fd) (T : TxtV mg) : FnOk P w K mg base CX0 1 f fd ["_law_table", "_law_kept"] (spLA K CK) := by
  refine F.ok scLA (fun vs H Q E h => ?_) (fun cdv A outer s H vs Q E hr h => ?_)
  · obtain ⟨tv, d, t, ps, rfl, _⟩ := h
    rfl
  · obtain ⟨tv, d, t, ps, rfl, ht, hd, so, ml, q⟩ := h
    refine ⟨_, pss_one (ps_for PassesOwn.never rfl (pi_tup (pe_dget (hu_of hr) (pv 0) pe_str (fun _ _ => rfl))) (pg_tup rfl (pgs_cons (pg_name (i := 2) scLA.nd rfl (Or.inl rfl)) (pgs_cons (pg_name (i := 3) scLA.nd rfl (Or.inl rfl)) pgs_nil)))
      (pss_one (ps_if (pt_cmpR op_eq (pe_ixT (pv 3) pe_int (fun _ _ => rfl)) pe_str (nomark _))
        (pss_cons (ps_set (i := 4) scLA.nd rfl (Or.inl rfl) (pe_dget (hu_of hr) (pv 1) (pe_ixT (pv 3) pe_int (fun _ _ => rfl)) (fun _ _ => rfl)))
        (pss_cons (ps_set (i := 5) scLA.nd rfl (Or.inl rfl) (pe_ifExp (pt_val (pe_callB (call_is6 (T := "str") (by simp)) (by rfl) T.isi (by decide +kernel) (pa_cons (pv 4) (pa_cons (pe_bltn (v := .ty "str") (by rfl) T.str (by decide +kernel) rfl) pa_nil)))) (pv 4) pe_str))
        (pss_cons (ps_if (PW.pt (pw_and (pt_val (pe_callB (call_is6 (T := "int") (by simp)) (by rfl) T.isi (by decide +kernel) (pa_cons (pv 4) (pa_cons (pe_bltn (v := .ty "int") (by rfl) T.int (by decide +kernel) rfl) pa_nil)))) (pw_and1 (pt_not (pt_val (pe_callB (call_is6 (T := "bool") (by simp)) (by rfl) T.isi (by decide +kernel) (pa_cons (pv 4) (pa_cons (pe_bltn (v := .ty "bool") (by rfl) T.bool (by decide +kernel) rfl) pa_nil))))))))
          (pss_one (ps_set (i := 5) scLA.nd rfl (Or.inl rfl) (pe_callTy call_strB (by rfl) T.str (by decide +kernel) (pa_cons (pv 4) pa_nil)))) pss_nil)
        (pss_one (ps_dput (hu_of hr) (pv 1) (pv 2) (pe_op op_add_str (pe_op op_add_str (pe_ixT (pv 3) pe_int (fun _ _ => rfl)) (pv 5)) (pe_ixT (pv 3) pe_int (fun _ _ => rfl))) (by rfl)))))) pss_nil))), ?_⟩
    have P := kps5 (K := K)
    have ml0 : ED (O5 K) (tDGet (tVar 0) (tC (.str "made"))) [some tv, some (.ref d), none, none, none, none] H (.tup (t.md.map mdrD)) := ed_get (i := 2) (ed_pv P rfl ht) ep_str rfl rfl
    refine for_tupC (CK := CK) ml0 mds_kptT fun H1 s1 => ⟨fun i σ' H' => (∃ w0 w1 w2 w3, σ' = [some tv, some (.ref d), w0, w1, w2, w3]) ∧ Ch [d] H1 H' ∧ Calm CK H1 H' ∧ KpD K H' (arF (t.md.take i) ps) d,
      ⟨⟨_, _, _, _, rfl⟩, Ch.refl _ _, Calm.refl _, hd.same s1⟩, fun i σ' H' _ pv => pv.2.2.1, fun i dd u σ' H' e pv hdd => ?_, fun σ' H' pv => ?_⟩
    · obtain ⟨⟨w0, w1, w2, w3, rfl⟩, c2, cm2, hk2⟩ := pv
      obtain ⟨z, ez, rfl⟩ := mds_at e
      have sc := arF_succ (a := ps) ez
      have mz := List.mem_of_getElem? ez
      have L3 := arF_len (t.md.take i) ps
      have L4 : (t.md.take i).length ≤ t.md.length := by rw [List.length_take]; omega
      have gets : ∀ s, s ∉ t.md.map (·.1) → getS (arF (t.md.take i) ps) s = getS ps s := fun s h => arF_get _ _ fun m => h (by
        obtain ⟨y, hy, e⟩ := List.mem_map.mp m
        exact List.mem_map.mpr ⟨y, List.mem_of_mem_take hy, e⟩)
      generalize hA : arF (t.md.take i) ps = psi at *
      refine g_pair hdd fun v1 v2 h1 h2 => ?_
      have h2 : Dv (O5 K) H' (ruD z.2) v2 := h2
      have h2' := h2
      rw [ruD_eq] at h2
      cases (show v1 = .str z.1 from h1)
      have e0 : EP (tOp (rIxT K) (tVar 3) (tC (.int 0))) [some tv, some (.ref d), some (.str z.1), some v2, w2, w3] H' fun v _ => v = .str (ruW z.2) := ed_ixT P (i := 0) (l := .str (ruW z.2) :: ruT z.2) (ed_pv P rfl h2) rfl
      have te := et_t (eb_eq (y := .str "around") e0 ep_str rfl)
      rw [ruW_ar] at te
      refine te.run fun H3 s3 => ?_
      cases er : z.2 with
      | id =>
        rw [show arS psi z = psi by unfold arS; rw [er]] at sc
        exact Vl.iteN rfl ⟨⟨_, _, _, _, rfl⟩, Ch.trans c2 (Ch.same s3), cm2.trans (Calm.same s3), by rw [sc]; exact hk2.same s3⟩
      | mark =>
        rw [show arS psi z = psi by unfold arS; rw [er]] at sc
        exact Vl.iteN rfl ⟨⟨_, _, _, _, rfl⟩, Ch.trans c2 (Ch.same s3), cm2.trans (Calm.same s3), by rw [sc]; exact hk2.same s3⟩
      | ar sn pre post =>
        obtain ⟨⟨x, ex, sx⟩, lp, lq, nsn⟩ := so z mz sn pre post er
        rw [er] at h2'
        have ex2 : getS psi sn = some x := by rw [gets sn nsn]; exact ex
        have hk3 := hk2.same s3
        obtain ⟨kv3, ekv3, pts3⟩ := hk3.p
        obtain ⟨xv, exv, hxv⟩ := (pts3.get sn).2 x ex2
        refine Vl.iteC rfl ?_
        have i1 : ED (O5 K) (tOp (rIxT K) (tVar 3) (tC (.int 1))) [some tv, some (.ref d), some (.str z.1), some v2, w2, w3] H3 (.str sn) := ed_ixT P (i := 1) (l := [.str "around", .str sn, .str pre, .str post]) (ed_pv P rfl (P.dv s3 h2')) rfl
        have vx : ED (O5 K) (tDGet (tVar 1) (tOp (rIxT K) (tVar 3) (tC (.int 1)))) [some tv, some (.ref d), some (.str z.1), some v2, w2, w3] H3 x := fun H4 s4 Q4 q4 => ⟨_, rfl, i1 H4 s4 _ fun y H5 s5 ey => by
          cases (show y = .str sn from ey)
          exact ⟨d, xv, rfl, .inl ⟨kv3, .inr sn, .inl (s5 _ _ (s4 _ _ ekv3)), rfl, exv.symm⟩, q4 xv H5 s5 (P.dv (Same.trans s4 s5) hxv)⟩⟩
        refine vx.seq fun v4 H4 s4 hx4 => ?_
        show tSeq _ _ _ [some tv, some (.ref d), some (.str z.1), some v2, some v4, w3] H4
        have hvx : ∀ {σ : L2.St} {H5 : Hp}, σ[4]? = some (some v4) → Same H4 H5 → ED (O5 K) (tVar 4) σ H5 x := fun e s => ed_pv P e (P.dv s hx4)
        have tx : ED (O5 K) (tIf (tB (tCB (fun xs H Q => ∃ v x, xs = [v, .ty "str"] ∧ Dv (O5 K) H x v ∧ Q (.bl (isT6 "str" x)) H) (tCons (tVar 4) (tCons (tC (.ty "str")) tNil)))) (tVar 4) (tC (.str ""))) [some tv, some (.ref d), some (.str z.1), some v2, some v4, w3] H4 (if isT6 "str" x = true then x else .str "") := ed_ifD (et_b (eb_is6 (hvx rfl (Same.refl _)))) (hvx rfl (Same.refl _)) ed_str
        refine tx.seq fun v5 H5 s5 h5 => ?_
        show tSeq _ _ _ [some tv, some (.ref d), some (.str z.1), some v2, some v4, some v5] H5
        have lm : (midS x).length ≤ 300 := by
          cases x with
          | str z => exact show_len sx z rfl
          | int i => exact show_len sx _ rfl
          | _ => exact Nat.zero_le _
        have s35 := Same.trans s4 s5
        have fin : ∀ (v6 : V) (H6 : Hp) (D9 : Ends), Same H5 H6 → Dv (O5 K) H6 (.str (midS x)) v6 → (∀ H9, Ch [d] H1 H9 → Calm CK H1 H9 → KpD K H9 (arF (t.md.take (i + 1)) ps) d → D9.nx [some tv, some (.ref d), some (.str z.1), some v2, some v4, some v6] H9) → sDPut (tVar 1) (tVar 2) (tOp rSS (tOp rSS (tOp (rIxT K) (tVar 3) (tC (.int 2))) (tVar 5)) (tOp (rIxT K) (tVar 3) (tC (.int 3)))) D9 [some tv, some (.ref d), some (.str z.1), some v2, some v4, some v6] H6 := fun v6 H6 D9 s6 h6 k9 => by
          have s36 := Same.trans s35 s6
          have hr6 := P.dv (Same.trans s3 s36) h2'
          have i2 : ED (O5 K) (tOp (rIxT K) (tVar 3) (tC (.int 2))) [some tv, some (.ref d), some (.str z.1), some v2, some v4, some v6] H6 (.str pre) := ed_ixT P (i := 2) (l := [.str "around", .str sn, .str pre, .str post]) (ed_pv P (i := 3) rfl hr6) rfl
          have i3 : ED (O5 K) (tOp (rIxT K) (tVar 3) (tC (.int 3))) [some tv, some (.ref d), some (.str z.1), some v2, some v4, some v6] H6 (.str post) := ed_ixT P (i := 3) (l := [.str "around", .str sn, .str pre, .str post]) (ed_pv P (i := 3) rfl hr6) rfl
          refine (ed_addS (ed_addS i2 (ed_pv P (i := 5) rfl h6) (by omega)) i3 (by rw [Str.length_append]; omega)).run fun v7 H7 s7 h7 => ?_
          have s37 := Same.trans s36 s7
          obtain ⟨hk8, cm8⟩ := (hk3.same s37).put (s := z.1) h7 (okV_str _) (s37 _ _ ekv3)
          rw [show arS psi z = putS psi z.1 (.str (pre ++ midS x ++ post)) by unfold arS; rw [er]; simp only; rw [ex2]; rfl] at sc
          refine ⟨_, rfl, _, rfl, d, _, rfl, DPut.k (k := .inr z.1) (s37 _ _ ekv3) (Nat.lt_of_le_of_lt (show kv3.length ≤ 1000 by rw [pts3.len]; omega) (by decide)), k9 _ ?_ ?_ (by rw [sc]; exact hk8)⟩
          · exact Ch.trans c2 (Ch.trans (Ch.same (Same.trans s3 s37)) (Ch.upd (by simp)))
          · exact cm2.trans ((Calm.same (Same.trans s3 s37)).trans cm8)
        have tt2 := et_andI (c := !isT6 "bool" x) (et_t (eb_is6 (T := "int") (hvx (σ := [some tv, some (.ref d), some (.str z.1), some v2, some v4, some v5]) rfl s5))) fun _ => et_not (et_t (eb_is6 (T := "bool") (hvx (σ := [some tv, some (.ref d), some (.str z.1), some v2, some v4, some v5]) rfl s5)))
        rw [int_is] at tt2
        refine ET.ite tt2 (fun ei H6 s6 => ?_) fun ei H6 s6 => ?_
        · obtain ⟨n, rfl⟩ : ∃ n, x = .int n := by
            cases x with
            | int n => exact ⟨n, rfl⟩
            | _ => cases ei
          cases (show v4 = .int n from hx4)
          obtain ⟨s', e1, e2, e3 | e3⟩ := show_ok (K := K) (H := H6) (v := .int n) sx rfl rfl
          · obtain ⟨n', e4, e5, e6⟩ := e3
            cases e4
            exact ⟨_, rfl, .inl ⟨n, rfl, e6, fin _ H6 _ s6 rfl fun H9 a b c => ⟨⟨_, _, _, _, rfl⟩, a, b, c⟩⟩⟩
          · cases e3
        · refine fin v5 H6 _ s6 (P.dv s6 ?_) fun H9 a b c => ⟨⟨_, _, _, _, rfl⟩, a, b, c⟩
          cases x with
          | str z => exact h5
          | int n => cases ei
          | bl b => simp [isT6] at h5; exact h5
          | _ => exact h5
    · obtain ⟨_, c2, cm2, hk2⟩ := pv
      rw [List.length_map, List.take_length] at hk2
      exact q H' (Ch.trans (Ch.same s1) c2) ((Calm.same s1).trans cm2) hk2
theorem ok_lm {f fT fA : Addr} {fd fdT fdA : FuncData} (F : Fun K "_law_marks" "_law_marks" sLM f fd) (DT : Def P w K mg base 1 "_law_tag" fT fdT NLT spLT) (DA : Def P w K mg base 1 "_law_around" fA fdA ["_law_table", "_law_kept"] (spLA K CK)) : FnOk P w K mg base CX0 2 f fd ["_law_m", "_law_kind", "_law_kept"] (spLM K CK) := by
  refine F.ok scLM (fun vs H Q E h => ?_) (fun cdv A outer s H vs Q E hr h => ?_)
  · obtain ⟨am, tb, rl, d, last, ts, t, ps, rfl, _⟩ := h
    rfl
  · obtain ⟨am, tb, rl, d, last, ts, t, ps, rfl, hm, htb, TO, ht, nd, TB, hd, gs, pl, q⟩ := h
    refine ⟨_, pss_cons (ps_set (i := 3) scLM.nd rfl (Or.inl rfl) (pe_dget (hu_of hr) (pe_dget (hu_of hr) (pv 0) pe_str (fun _ _ => rfl)) (pv 1) (fun _ _ => rfl)))
      (pss_cons (ps_for PassesOwn.never rfl (pi_tup (pe_dget (hu_of hr) (pv 3) pe_str (fun _ _ => rfl))) (pg_tup rfl (pgs_cons (pg_name (i := 4) scLM.nd rfl (Or.inl rfl)) (pgs_cons (pg_name (i := 5) scLM.nd rfl (Or.inl rfl)) pgs_nil)))
        (pss_one (ps_if (pt_cmpR op_eq (pe_ixT (pv 5) pe_int (fun _ _ => rfl)) pe_str (nomark _)) (pss_one (ps_dput (hu_of hr) (pv 2) (pv 4) (pe_call DT.ok (hr.mono (by decide)) rfl DT.g DT.kp DT.b .nil pass0 (pa_cons (pv 0) (pa_cons (pv 1) pa_nil))) (by rfl))) pss_nil)))
      (pss_one (ps_expr (pe_call DA.ok (hr.mono (by decide)) rfl DA.g DA.kp DA.b .nil pass0 (pa_cons (pv 3) (pa_cons (pv 2) pa_nil)))))), ?_⟩
    have P := kps5 (K := K)
    have nk : nmS t.name = true := TB.nm
    have nda : d ≠ am := fun e => by
      obtain ⟨kv, e1, p1⟩ := hd.p
      obtain ⟨r, o⟩ := hd.o
      rw [e, hm] at e1
      injection e1 with e1
      injection e1 with e1
      have h1 := p1.keys
      rw [← e1] at h1
      have h4 : ((ps.map (·.1)).map (Sum.inr : Str → Key)).head? = some (.inr "a") := by rw [List.head?_map, show (ps.map (·.1)).head? = some "a" from o.hd]; rfl
      have h3 : (some (Sum.inr ("tables" : Str)) : Option Key) = some (Sum.inr ("a" : Str)) := (congrArg List.head? h1).trans h4
      exact absurd (Sum.inr.inj (Option.some.inj h3)) (by decide +kernel)
    have tE : ED (O5 K) (tDGet (tDGet (tVar 0) (tC (.str "tables"))) (tVar 1)) [some (.ref am), some (.str t.name), some (.ref d), none, none, none] H (tabD t) :=
      ed_tabs nd ht ((ep_dK (R := fun v H => Dv (O5 K) H (tabsD ts) v) (ep_pv rfl fun H2 s2 => ⟨am, _, _, rfl, s2 _ _ hm, mkv1, fun H3 s3 => P.dv (Same.trans s2 s3) htb⟩) ep_str).ed) (ep_v rfl)
    refine tE.seq fun tv H0 s0 htv => ?_
    show tSeq _ _ _ [some (.ref am), some (.str t.name), some (.ref d), some tv, none, none] H0
    have ml0 : ED (O5 K) (tDGet (tVar 3) (tC (.str "made"))) [some (.ref am), some (.str t.name), some (.ref d), some tv, none, none] H0 (.tup (t.md.map mdrD)) := ed_get (i := 2) (ed_pv P rfl htv) ep_str rfl rfl
    refine for_tupC (CK := CK) ml0 mds_kptT fun H1 s1 => ⟨fun i σ' H' => (∃ w0 w1, σ' = [some (.ref am), some (.str t.name), some (.ref d), some tv, w0, w1]) ∧ Ch [am, d] H1 H' ∧ Calm CK H1 H' ∧ H' am = some (.dK (mkv tb rl ((markF t.name (t.md.take i) (ps, last)).2 : Int))) ∧ KpD K H' (markF t.name (t.md.take i) (ps, last)).1 d,
      ⟨⟨_, _, rfl⟩, Ch.refl _ _, Calm.refl _, s1 _ _ (s0 _ _ hm), (hd.same s0).same s1⟩, fun i σ' H' _ pv => pv.2.2.1, fun i dd u σ' H' e pv hdd => ?_, fun σ' H' pv => ?_⟩
    · obtain ⟨⟨w0, w1, rfl⟩, c2, cm2, hm2, hk2⟩ := pv
      obtain ⟨z, ez, rfl⟩ := mds_at e
      have sc := markF_succ (k := t.name) (a := (ps, last)) ez
      have L3 := markF_len (k := t.name) (t.md.take i) (ps, last)
      have L4 : (t.md.take i).length ≤ t.md.length := by rw [List.length_take]; omega
      have TL := TB.ml
      generalize hA : markF t.name (t.md.take i) (ps, last) = A2 at *
      obtain ⟨psi, li⟩ := A2
      refine g_pair hdd fun v1 v2 h1 h2 => ?_
      have h2 : Dv (O5 K) H' (ruD z.2) v2 := h2
      rw [ruD_eq] at h2
      cases (show v1 = .str z.1 from h1)
      have e0 : EP (tOp (rIxT K) (tVar 5) (tC (.int 0))) [some (.ref am), some (.str t.name), some (.ref d), some tv, some (.str z.1), some v2] H' fun v _ => v = .str (ruW z.2) := ed_ixT P (i := 0) (l := .str (ruW z.2) :: ruT z.2) (ed_pv P rfl h2) rfl
      have te := et_t (eb_eq (y := .str "mark") e0 ep_str rfl)
      rw [ruW_mark] at te
      refine te.run fun H3 s3 => ?_
      unfold markS at sc
      by_cases em : z.2 = .mark
      · rw [if_pos em] at sc
        refine Vl.iteC (decide_eq_true em) ⟨_, rfl, _, rfl, am, tb, rl, t.name, li, rfl, s3 _ _ hm2, fun b H5 c5 nb e1 e2 => ?_⟩
        have cm5 : Calm CK H3 H5 := .ch c5 fun a m o eo => by
          rw [List.mem_singleton.mp m, s3 _ _ hm2] at eo
          cases eo
          exact apt_mkv
        have hk5 := (hk2.same s3).calm cm5 fun o eo => c5 _ _ eo (by simpa using nda)
        obtain ⟨kv, ekv, pts⟩ := hk5.p
        have hvt : Dv (O5 K) H5 (tagOf t.name (li + 1)) (.ref b) := ⟨b, _, rfl, .inl (.inl e2), _, _, rfl, rfl, _, _, rfl, rfl, _, _, rfl, rfl, rfl⟩
        obtain ⟨hk6, cm6⟩ := hk5.put (s := z.1) hvt (okV_tag nk) ekv
        refine ⟨_, rfl, _, rfl, d, _, rfl, DPut.k (k := .inr z.1) ekv (Nat.lt_of_le_of_lt (show kv.length ≤ 1000 by rw [pts.len]; simp only at L3 ⊢; omega) (by decide)), ⟨_, _, rfl⟩, ?_, ?_, ?_, by rw [sc]; exact hk6⟩
        · exact Ch.trans c2 (Ch.trans (Ch.same s3) (Ch.trans (Ch.mono c5 (by simp)) (Ch.upd (by simp))))
        · exact cm2.trans ((Calm.same s3).trans (cm5.trans cm6))
        · rw [sc]
          exact (upd_ne (Ne.symm nda)).trans e1
      · rw [if_neg em] at sc
        exact Vl.iteN (decide_eq_false em) ⟨⟨_, _, rfl⟩, Ch.trans c2 (Ch.same s3), cm2.trans (Calm.same s3), by rw [sc]; exact s3 _ _ hm2, by rw [sc]; exact hk2.same s3⟩
    · obtain ⟨⟨w0, w1, rfl⟩, c2, cm2, hm2, hk2⟩ := pv
      rw [List.length_map, List.take_length] at hm2 hk2
      have ll := markF_len (k := t.name) t.md (ps, last)
      have TL := TB.ml
      refine ⟨_, rfl, _, rfl, tv, d, t, _, rfl, Dv.calm ((Calm.same s1).trans cm2) _ _ (tab_kpt (TO.rd t ht)) htv, hk2, GvS.src TB (GvS.mark TB gs), (by simp only at ll; omega), fun H9 c9 cm9 hk9 => ?_⟩
      refine q H9 (Ch.trans (Ch.same (Same.trans s0 s1)) (Ch.trans c2 (Ch.mono c9 (by simp)))) ((Calm.same (Same.trans s0 s1)).trans (cm2.trans cm9)) (c9 _ _ hm2 (by simpa using Ne.symm nda)) hk9
end
end Kd

set_option Elab.async false
set_option linter.all false
set_option maxRecDepth 100000
set_option maxHeartbeats 4000000
/-! the model: _law_taken, _law_row -/
namespace Ed
open PySem PySem.Spec PyProof.Rows L2 Dq Vl Kd
variable {K : PySem.W.Frag} {σ : L2.St} {H : Hp} {te ta tb : TE} {tt : TT}
def selV (n : Nat) (p : Nat → Bool) (out : Nat → V) : List V := (List.range n).filterMap fun j => if p j = true then some (out j) else none
theorem selV_succ {n : Nat} {p : Nat → Bool} {out : Nat → V} : selV (n + 1) p out = selV n p out ++ (if p n = true then [out n] else []) := by
  unfold selV
  rw [List.range_succ, List.filterMap_append]
  congr 1
  by_cases h : p n = true
  · simp [h]
  · simp [h]
theorem selV_len {n : Nat} {p : Nat → Bool} {out : Nat → V} : (selV n p out).length ≤ n := by
  have := List.length_filterMap_le (fun j => if p j = true then some (out j) else none) (List.range n)
  rwa [List.length_range] at this
theorem selV_none {n : Nat} {p : Nat → Bool} {out : Nat → V} (h : ∀ j, j < n → p j = false) : selV n p out = [] := by
  unfold selV
  rw [List.filterMap_eq_nil_iff]
  intro j hj
  rw [h j (List.mem_range.mp hj)]
  rfl
theorem ep_lcL {i : Nat} {xs : List V} {p : Nat → Bool} {out : Nat → V} (h : EP ta σ H fun v H2 => ∃ a, v = .ref a ∧ SqL K H2 a xs) (hl : xs.length ≤ 10000) (hw : ∀ u, wipe ((wipe σ [i]).set i (some u)) [i] = wipe σ [i])
    (ht : ∀ j x H2, xs[j]? = some x → Same H H2 → ET tt ((wipe σ [i]).set i (some x)) H2 (p j))
    (he : ∀ j x H2, xs[j]? = some x → Same H H2 → p j = true → EP te ((wipe σ [i]).set i (some x)) H2 fun v _ => v = out j) :
    EP (tLc (iList K ta) (gName i) tt te [i]) σ H fun v H2 => ∃ D, v = .ref D ∧ H2 D = some (.lst (selV xs.length p out)) := fun H1 s Q k =>
  h H1 s _ fun v H2 s2 ⟨a, e, ha⟩ => by
    subst e
    refine ⟨a, rfl, ⟨xs, ha⟩, fun D nD => ?_⟩
    refine lc_it (walk_list (xs := xs)) (fun j H' => Same H2 H' ∧ H' D = some (.lst (selV j p out))) ⟨sm_upd nD, upd_same⟩ (fun j H' _ q => SqL.same ha q.1) (fun j x H3 H3' hj q y => ?_) (fun H3 q => k _ H3 (Same.trans s2 q.1) ⟨D, rfl, q.2⟩)
    obtain ⟨s3, eD⟩ := q
    obtain ⟨rfl, ex⟩ := y
    have s03 := Same.trans s (Same.trans s2 s3)
    refine ⟨hw x, (ht j x H3' ex s03).run fun H4 s4 => ?_⟩
    cases ep : p j with
    | false => exact Vl.iteN rfl ⟨Same.trans s3 s4, by rw [selV_succ, ep, s4 _ _ eD]; simp⟩
    | true =>
      refine Vl.iteC rfl ((he j x H4 ex (Same.trans s03 s4) ep).run fun v H5 s5 ev => ?_)
      subst ev
      refine ⟨_, s5 _ _ (s4 _ _ eD), Nat.lt_of_le_of_lt selV_len (Nat.lt_of_le_of_lt (show j ≤ 10000 by omega) (by decide)), fun c o e => ?_, by rw [upd_same, selV_succ, ep]; rfl⟩
      have nc : c ≠ D := fun z => by rw [z, nD] at e; cases e
      rw [upd_ne nc]
      exact s5 _ _ (s4 _ _ (s3 _ _ e))
theorem ep_ixL {i : Nat} {xs : List V} {u : V} (h : EP ta σ H fun v H2 => ∃ a, v = .ref a ∧ H2 a = some (.lst xs)) (e : xs[i]? = some u) : EP (tOp (rIxL K) ta (tC (.int (i : Int)))) σ H fun v _ => v = u := fun H1 s Q k =>
  h H1 s _ fun v H2 s2 ⟨a, ev, ha⟩ => ⟨a, xs, _, u, ev, rfl, SqL.of ha, atI_nat e, k u H2 s2 rfl⟩
theorem ep_cat {xs ys : List V} (h : EP ta σ H fun v H2 => ∃ a, v = .ref a ∧ H2 a = some (.lst xs)) (h2 : EP tb σ H fun v H2 => ∃ a, v = .ref a ∧ H2 a = some (.lst ys)) (hz : xs.length + ys.length ≤ 10000) : EP (tOp rCat ta tb) σ H fun v H2 => ∃ a, v = .ref a ∧ H2 a = some (.lst (xs ++ ys)) := fun H1 s Q k =>
  h H1 s _ fun v H2 s2 ⟨a, ev, ha⟩ => h2 H2 (Same.trans s s2) _ fun u H3 s3 ⟨b, eu, hb⟩ => ⟨a, b, xs, ys, ev, eu, s3 _ _ ha, hb, Nat.le_trans hz (by decide), fun p np => k _ _ (Same.upd (Same.trans s2 s3) np) ⟨p, rfl, upd_same⟩⟩
theorem ep_lstN : EP (tLst (tCons (tC .non) tNil)) σ H fun v H2 => ∃ a, v = .ref a ∧ H2 a = some (.lst [.non]) := fun H1 s Q k => ⟨by show 1 ≤ sizeLine; decide, fun p np => k _ _ (sm_upd np) ⟨p, rfl, upd_same⟩⟩
theorem selV_head (p : Nat → Bool) (out : Nat → V) : ∀ n : Nat, ∃ u, (selV n p out ++ [V.non])[0]? = some u ∧ (((∀ j, j < n → p j = false) ∧ u = .non) ∨ ∃ j, j < n ∧ p j = true ∧ u = out j)
  | 0 => ⟨.non, rfl, .inl ⟨fun j h => absurd h (Nat.not_lt_zero _), rfl⟩⟩
  | n + 1 => by
    obtain ⟨u, e, h⟩ := selV_head p out n
    rw [selV_succ]
    cases es : selV n p out with
    | nil =>
      have no : ∀ j, j < n → p j = false := fun j hj => by
        cases ep : p j with
        | false => rfl
        | true =>
          have m : out j ∈ selV n p out := by
            unfold selV
            exact List.mem_filterMap.mpr ⟨j, List.mem_range.mpr hj, by rw [ep]; rfl⟩
          rw [es] at m
          cases m
      cases ep : p n with
      | true => exact ⟨out n, rfl, .inr ⟨n, Nat.lt_succ_self n, ep, rfl⟩⟩
      | false =>
        refine ⟨.non, rfl, .inl ⟨fun j hj => ?_, rfl⟩⟩
        rcases Nat.lt_succ_iff_lt_or_eq.mp hj with h | rfl
        · exact no j h
        · exact ep
    | cons x r =>
      rw [es] at e
      cases e
      refine ⟨_, rfl, .inr ?_⟩
      rcases h with ⟨no, _⟩ | ⟨j, hj, h⟩
      · rw [selV_none no] at es; cases es
      · exact ⟨j, Nat.lt_succ_of_lt hj, h⟩
end Ed

namespace Kd
open PySem PySem.Spec PyProof.Rows L2 Dq Vl Pf Ed ClX
/-- the parts of a key -/
def kl (d : D5) : List D5 := match keyD d with
  | .tup l => l
  | _ => []
theorem keyD_tup (d : D5) : keyD d = .tup (kl d) := by
  unfold kl
  cases d <;> rw [keyD]
theorem kl_tag (k : Str) (n : Nat) : kl (tagOf k n) = [.str "tuple", .tup [.str "other", .str "#"], .tup [.str "other", .str k], .tup [.str "integer", .int (n : Int)]] := by
  simp [kl, tagOf, keyD, keyL]
theorem tag_lyk {k : Str} {n : Nat} : lyk 5 (tagOf k n) = true := by simp [lyk, tagOf, nolL, nol]
theorem kl_tag_dp (k : Str) (n : Nat) : dpL (kl (tagOf k n)) ≤ 30 := by rw [kl_tag]; simp [dpL, dp]
theorem e5_ss {s t : Str} : eqv5 (.str s : D5) (.str t) = some (s == t) := by rw [e5_str]; rfl

/-- two Tags by their keys -/
theorem key_tag_eqv (a b : Str) (m n : Nat) : eqvL5 (kl (tagOf a m)) (kl (tagOf b n)) = some (decide (a = b) && decide (m = n)) := by
  rw [kl_tag, kl_tag]
  have s1 : eqv5 (.str "tuple" : D5) (.str "tuple") = some true := by rw [e5_ss]; decide +kernel
  have s2 : eqv5 (.tup [.str "other", .str "#"] : D5) (.tup [.str "other", .str "#"]) = some true := eqv_self _ (by simp [pln, plnL])
  have so : eqv5 (.str "other" : D5) (.str "other") = some true := by rw [e5_ss]; decide +kernel
  have s3 : eqv5 (.tup [.str "other", .str a] : D5) (.tup [.str "other", .str b]) = some (decide (a = b)) := by
    rw [e5_tt, e5L_cc, if_pos so, e5L_cc, e5_ss]
    by_cases q : a = b
    · rw [show (a == b) = true by rw [q]; exact beq_self_eq_true b, if_pos rfl, e5L_nn, decide_eq_true q]
    · rw [show (a == b) = false from beq_eq_false_iff_ne.mpr q, if_neg (by simp), decide_eq_false q]
  have s0 : eqv5 (.str "integer" : D5) (.str "integer") = some true := by rw [e5_ss]; decide +kernel
  have s4 : eqv5 (.tup [.str "integer", .int (m : Int)] : D5) (.tup [.str "integer", .int (n : Int)]) = some (decide (m = n)) := by
    rw [e5_tt, e5L_cc, if_pos s0, e5L_cc, e5_int]
    have e : intE (m : Int) (.int (n : Int)) = some (decide (m = n)) := by
      show some ((m : Int) == (n : Int)) = _
      congr 1
      rw [Bool.eq_iff_iff, beq_iff_eq, decide_eq_true_eq]
      omega
    rw [e]
    by_cases q : m = n
    · rw [decide_eq_true q, if_pos rfl, e5L_nn]
    · rw [decide_eq_false q, if_neg (by simp)]
  rw [e5L_cc, if_pos s1, e5L_cc, if_pos s2, e5L_cc, s3]
  by_cases q : a = b
  · rw [decide_eq_true q, if_pos rfl, e5L_cc, s4]
    by_cases q2 : m = n
    · rw [decide_eq_true q2, if_pos rfl, e5L_nn]
      rfl
    · rw [decide_eq_false q2, if_neg (by simp)]
      rfl
  · rw [decide_eq_false q, if_neg (by simp)]
    rfl
theorem tag_shaped {k : Str} {n : Int} (h : nmS k = true) : SeqAt.shaped (.tuple [.str "#", .str k, .int n]) = true := by
  have e : PyData.strOk (("#" : Str)) = true := by decide +kernel
  unfold SeqAt.shaped
  simp only [PyData.canLay0, PyData.canLayAll0, PyData.depth, PyData.depthAll, nm_ok h, e]
  rfl
theorem pt_nv {X : Cx} {e : Expr} : PT X e (fun _ _ _ => False) := ⟨by intros; rename_i h; exact h.elim⟩
abbrev sTk : Stmt := tp 48
abbrev NTk : List Str := ["_law_m", "_law_kind", "_law_kept", "_law_tag_here", "_law_lone", "_law_value", "_law_lines", "_law_row_here"]
abbrev PTk : List Str := ["_law_m", "_law_kind", "_law_kept", "_law_tag_here"]
theorem scTk : FnScope NTk PTk (defScope sTk) := ⟨rfl, rfl, rfl, by decide +kernel, rfl, by decide +kernel, by decide +kernel⟩
def spTk (K : PySem.W.Frag) : Sp := fun vs H Q _ => ∃ (am tb rl : Addr) (ts : List Tb) (t : Tb) (ls : List Lr) (last : Nat) (k u : V) (du : PyData), vs = [.ref am, .str t.name, k, u] ∧ MAt K H am tb rl ts ls last ∧ LOk ts ls ∧ t ∈ ts ∧ (ts.map (·.name)).Nodup ∧ t.si = none ∧ (∀ H', Same H H' → Dp K H' u du) ∧ SeqAt.shaped du = true ∧ ∀ H', Same H H' → Q .non H'
abbrev sRow : Stmt := tp 49
abbrev NRow : List Str := ["_law_m", "_law_tag_here", "_law_row_here"]
theorem scRow : FnScope NRow ["_law_m", "_law_tag_here"] (defScope sRow) := ⟨rfl, rfl, rfl, by decide +kernel, rfl, by decide +kernel, by decide +kernel⟩
def spRow (K : PySem.W.Frag) : Sp := fun vs H Q _ => ∃ (am tb rl b : Addr) (ts : List Tb) (ls : List Lr) (last : Nat) (q : Lr), vs = [.ref am, .ref b] ∧ MAt K H am tb rl ts ls last ∧ LOk ts ls ∧ q ∈ ls ∧ H b = some (.tup [.str "#", .str q.r.kind, .int (q.r.n : Int)]) ∧ ∀ H', Same H H' → Q (.ref q.l) H'
section
variable {K : PySem.W.Frag} {σ : L2.St} {H : Hp} {am tb rl : Addr} {ts : List Tb} {t : Tb} {ls : List Lr} {last : Nat} {i j : Nat}
/-- m['tables'][kind] -/
theorem ed_tab (h : MAt K H am tb rl ts ls last) (nd : (ts.map (·.name)).Nodup) (ht : t ∈ ts) (e : σ[i]? = some (some (.ref am))) {tk : TE} (e2 : EP tk σ H fun v _ => v = .str t.name) : ED (O5 K) (tDGet (tDGet (tVar i) (tC (.str "tables"))) tk) σ H (tabD t) :=
  have P := kps5 (K := K)
  ed_tabs nd ht ((ep_dK (R := fun v H => Dv (O5 K) H (tabsD ts) v) (ep_pv e fun H2 s2 => ⟨am, _, _, rfl, s2 _ _ h.m, mkv1, fun H3 s3 => P.dv (Same.trans s2 s3) h.t⟩) ep_str).ed) e2
/-- m['rows'] -/
theorem ep_rows (h : MAt K H am tb rl ts ls last) (e : σ[i]? = some (some (.ref am))) : EP (tDGet (tVar i) (tC (.str "rows"))) σ H fun v _ => v = .ref rl :=
  ep_dK (ep_pv e fun H2 s2 => ⟨am, _, _, rfl, s2 _ _ h.m, mkv2, fun H3 s3 => rfl⟩) ep_str
theorem ls_at {x : V} (h : (ls.map fun q => V.ref q.l)[i]? = some x) : ∃ q, ls[i]? = some q ∧ x = .ref q.l := by
  rw [List.getElem?_map] at h
  cases e : ls[i]? with
  | none => rw [e] at h; cases h
  | some q => rw [e] at h; cases h; exact ⟨q, rfl, rfl⟩
theorem inj_key (L : LOk ts ls) {p q : Lr} (hp : p ∈ ls) (hq : q ∈ ls) (e : keyR q.r = keyR p.r) : q = p := by
  obtain ⟨i, hi, ei⟩ := List.getElem_of_mem hq
  obtain ⟨j, hj, ej⟩ := List.getElem_of_mem hp
  have h := (List.getElem_inj (i := i) (j := j) (h₀ := by simpa using hi) (h₁ := by simpa using hj) L.nk).mp (by simp [ei, ej, e])
  subst h
  rw [← ei, ← ej]
end
section
variable {P : Program} {w : World} {K : PySem.W.Frag} {mg : Str → Option Value} {base : Heap}
theorem ok_tk {f : Addr} {fd : FuncData} (F : Fun K "_law_taken" "_law_taken" sTk f fd) : FnOk P w K mg base CX0 1 f fd PTk (spTk K) := by
  refine F.ok scTk (fun vs H Q E h => ?_) (fun cdv A outer s H vs Q E hr h => ?_)
  · obtain ⟨am, tb, rl, ts, t, ls, last, k, u, du, rfl, _⟩ := h
    rfl
  · obtain ⟨am, tb, rl, ts, t, ls, last, k, u, du, rfl, hm, L, ht, nd, esi, hu, su, q⟩ := h
    refine ⟨_, pss_cons (ps_set (i := 4) scTk.nd rfl (Or.inr rfl) (pe_dget (hu_of hr) (pe_dget (hu_of hr) (pe_dget (hu_of hr) (pv 0) pe_str (fun _ _ => rfl)) (pv 1) (fun _ _ => rfl)) pe_str (fun _ _ => rfl)))
      (pss_cons (ps_set (i := 5) scTk.nd rfl (Or.inr rfl) (pe_ifExp (pt_cmp (pc_isN (pv 4))) pe_non (pe_dget (hu_of hr) (pv 2) (pv 4) (fun _ _ => rfl))))
      (pss_cons (ps_setLc (i := 6) (own := [("_law_row_here", 7)]) (g := gName 7) rfl scTk.nd rfl rfl (sw_true rfl rfl rfl (by decide +kernel)) (pi_list (pe_dget (hu_of hr) (pv 0) pe_str (fun _ _ => rfl))) (blkOk_by (N := NTk) (sc := defScope sTk) (by decide +kernel)) (fun _ _ _ _ _ => pg_name (i := 7) scTk.nd rfl (Or.inl rfl))
          (fun _ _ _ _ _ => pts_one (PW.pt (pw_and (pt_cmpR op_eq (pe_ix (show IxR _ (rIxL K) from ix_list) (pv 7) pe_int (fun _ _ => rfl)) (pv 1) (nomark _)) (pw_and (pt_cmpR (show OpR _ _ (rNeD K) from op_neD (hu64 hr)) (pe_ix (show IxR _ (rIxL K) from ix_list) (pv 7) pe_int (fun _ _ => rfl)) (pv 3) (nomark _)) (pw_and1 (pt_cmpR op_notN (pv 5) pe_non (nomark _))))))) (fun _ _ _ _ _ => pv 7))
      (pss_one (ps_ret (pe_ix ix_list (pe_op op_cat (pe_lc (own := [("_law_row_here", 7)]) (g := gName 7) rfl scTk.nd (pi_list (pv 6)) (blkOk_by (N := NTk) (sc := defScope sTk) (by decide +kernel)) (fun _ _ _ _ _ => pg_name (i := 7) scTk.nd rfl (Or.inl rfl))
          (fun _ _ _ _ _ => pts_one pt_nv) (fun _ _ _ _ _ => Ow.pe_nv)) (pe_lst (pa_cons pe_non pa_nil))) pe_int (fun _ _ => rfl)))))), ?_⟩
    have P := kps5 (K := K)
    refine (ed_get (i := 3) (ed_tab (t := t) hm nd ht rfl (ep_v rfl)) ep_str rfl rfl).seq fun v H1 s1 hv => ?_
    rw [esi] at hv
    cases (show v = .non from hv)
    refine ⟨_, rfl, _, rfl, Vl.iteC rfl ?_⟩
    have hm1 := hm.same s1
    refine (ep_lcL (K := K) (xs := ls.map fun q => .ref q.l) (p := fun _ => false) (out := fun _ => .non) ((ep_rows hm1 rfl).imp fun v H2 s e => ⟨rl, e, SqL.of (s _ _ hm1.r)⟩) (by rw [List.length_map]; have := L.ln; omega) (fun u => rfl) (fun j x H3 ex s3 => ?_) (fun j x H3 ex s3 e => nomatch e)).seq fun v H2 s2 ⟨D, ev, eD⟩ => ?_
    · obtain ⟨q1, er, rfl⟩ := ls_at ex
      have mq := List.mem_of_getElem? er
      obtain ⟨hl, htg, _⟩ := (hm1.same s3).q q1 mq
      have i1 : ∀ {σ : L2.St}, σ[7]? = some (some (.ref q1.l)) → EP (tOp (rIxL K) (tVar 7) (tC (.int 1))) σ H3 fun v _ => v = .str q1.r.kind := fun e => ep_ixL (i := 1) (xs := [.ref q1.t, .str q1.r.kind, .ref q1.d]) (ep_pv e fun H4 s4 => ⟨q1.l, rfl, s4 _ _ hl⟩) rfl
      have i0 : ∀ {σ : L2.St}, σ[7]? = some (some (.ref q1.l)) → EP (tOp (rIxL K) (tVar 7) (tC (.int 0))) σ H3 fun v _ => v = .ref q1.t := fun e => ep_ixL (i := 0) (xs := [.ref q1.t, .str q1.r.kind, .ref q1.d]) (ep_pv e fun H4 s4 => ⟨q1.l, rfl, s4 _ _ hl⟩) rfl
      have fin := et_andI (b := decide (V.str q1.r.kind = V.str t.name)) (c := (!PyData.eqv (.tuple [.str "#", .str q1.r.kind, .int (q1.r.n : Int)]) du && false)) (et_t (eb_eq (i1 (σ := (wipe [some (.ref am), some (.str t.name), some k, some u, some .non, some .non, none, none] [7]).set 7 (some (.ref q1.l))) rfl) (ep_v (i := 1) rfl) rfl)) fun _ => et_andI (b := !PyData.eqv (.tuple [.str "#", .str q1.r.kind, .int (q1.r.n : Int)]) du) (c := false) (tt := tTest (tOp (rNeD K) (tOp (rIxL K) (tVar 7) (tC (.int 0))) (tVar 3))) (fun H4 s4 Q4 k4 => i0 rfl H4 s4 _ fun u5 H5 s5 eu => by
        subst eu
        refine ⟨_, rfl, .tuple [.str "#", .str q1.r.kind, .int (q1.r.n : Int)], du, .tup (.inl (.inl (s5 _ _ (s4 _ _ htg)))) (.cons (.str _) (.cons (.str _) (.cons (.int _) .nil))), hu _ (Same.trans s1 (Same.trans s3 (Same.trans s4 s5))), tag_shaped (L.ok q1 mq).k, su, _, rfl, ?_⟩
        exact k4 H5 s5) fun _ => (show ET (tTest (tOp (fun x y H Q => y = .non ∧ Q (.bl (!decide (x = .non))) H) (tVar 5) (tC .non))) _ H3 false from fun H4 s4 Q4 k4 => ⟨_, rfl, rfl, _, rfl, k4 H4 (Same.refl _)⟩)
      rw [Bool.and_false, Bool.and_false] at fin
      exact fin
    · subst ev
      rw [selV_none (fun j _ => rfl)] at eD
      refine EP.ret (ep_ixL (i := 0) (xs := [] ++ [.non]) (ep_cat (ep_lcL (K := K) (xs := []) (p := fun _ => false) (out := fun _ => .non) (ep_pv rfl fun H3 s3 => ⟨D, rfl, SqL.of (s3 _ _ eD)⟩) (by simp) (fun u => rfl) (fun j x H3 ex => by simp at ex) (fun j x H3 ex => by simp at ex)) ep_lstN (by simp)) rfl) fun u H3 s3 eu => ?_
      rw [eu]
      exact q H3 (Same.trans s1 (Same.trans s2 s3))
theorem ok_row {f fK : Addr} {fd fdK : FuncData} (F : Fun K "_law_row" "_law_row" sRow f fd) (DK : Def P w K mg base 6 "_law_key" fK fdK ["_law_value"] (spKey K 5)) : FnOk P w K mg base CX0 7 f fd ["_law_m", "_law_tag_here"] (spRow K) := by
  refine F.ok scRow (fun vs H Q E h => ?_) (fun cdv A outer s H vs Q E hr h => ?_)
  · obtain ⟨am, tb, rl, b, ts, ls, last, q, rfl, _⟩ := h
    rfl
  · obtain ⟨am, tb, rl, b, ts, ls, last, q, rfl, hm, L, mq, hb, k1⟩ := h
    refine ⟨_, pss_one (ps_ret (pe_ix ix_list (pe_op op_cat (pe_lc (own := [("_law_row_here", 2)]) (g := gName 2) rfl scRow.nd (pi_list (pe_dget (hu_of hr) (pv 0) pe_str (fun _ _ => rfl))) (blkOk_by (N := NRow) (sc := defScope sRow) (by decide +kernel)) (fun _ _ _ _ _ => pg_name (i := 2) scRow.nd rfl (Or.inl rfl))
        (fun _ _ _ _ _ => pts_one (pt_cmpR (show OpR _ _ (rEq5 K) from op_eq5 (hu64 hr)) (pe_call DK.ok (hr.mono (by decide)) rfl DK.g DK.kp DK.b .nil pass0 (pa_cons (pe_ix (show IxR _ (rIxL K) from ix_list) (pv 2) pe_int (fun _ _ => rfl)) pa_nil)) (pe_call DK.ok (hr.mono (by decide)) rfl DK.g DK.kp DK.b .nil pass0 (pa_cons (pv 1) pa_nil)) (nomark _))) (fun _ _ _ _ _ => pv 2)) (pe_lst (pa_cons pe_non pa_nil))) pe_int (fun _ _ => rfl))), ?_⟩
    have P := kps5 (K := K)
    have tdv : ∀ {H9 : Hp} {a : Addr} {r : Ro}, H9 a = some (.tup [.str "#", .str r.kind, .int (r.n : Int)]) → Dv (O5 K) H9 (tagR r) (.ref a) := fun h => ⟨_, _, rfl, .inl (.inl h), _, _, rfl, rfl, _, _, rfl, rfl, _, _, rfl, rfl, rfl⟩
    have lc := ep_lcL (K := K) (σ := [some (.ref am), some (.ref b), none]) (H := H) (i := 2) (xs := ls.map fun q => .ref q.l) (p := fun j => (ls[j]?.map fun x => decide (keyR x.r = keyR q.r)).getD false) (out := fun j => (ls[j]?.map fun x => V.ref x.l).getD .non) (tt := tTest (tOp (rEq5 K) (tCall (spKey K 5) [] E0 (tCons (tOp (rIxL K) (tVar 2) (tC (.int 0))) tNil)) (tCall (spKey K 5) [] E0 (tCons (tVar 1) tNil)))) (te := tVar 2)
      ((ep_rows (i := 0) hm rfl).imp fun v H2 s e => ⟨rl, e, SqL.of (s _ _ hm.r)⟩) (by rw [List.length_map]; have := L.ln; omega) (fun u => rfl) (fun j x H3 ex s3 => by
        obtain ⟨q1, er, rfl⟩ := ls_at ex
        obtain ⟨hl, htg, _⟩ := (hm.same s3).q q1 (List.mem_of_getElem? er)
        rw [er]
        show ET _ _ _ (decide (keyR q1.r = keyR q.r))
        refine et_eq5 (l := kl (tagR q1.r)) (m := kl (tagR q.r)) (fun H4 s4 Q4 q4 => ?_) (fun H4 s4 Q4 q4 => ?_) ?_ (kl_tag_dp _ _)
        · refine ⟨_, rfl, q1.l, _, _, .ref q1.t, rfl, rfl, SqL.of (s4 _ _ hl), atI_nat (j := 0) rfl, .ref q1.t, tagR q1.r, rfl, tdv (s4 _ _ htg), tag_lyk, fun v' H' s' hd' => q4 v' H' s' (by rw [← keyD_tup]; exact hd')⟩
        · exact ⟨_, rfl, .ref b, tagR q.r, rfl, tdv (s4 _ _ (s3 _ _ hb)), tag_lyk, fun v' H' s' hd' => q4 v' H' s' (by rw [← keyD_tup]; exact hd')⟩
        · show eqvL5 (kl (tagOf _ _)) (kl (tagOf _ _)) = _
          rw [key_tag_eqv]
          exact congrArg some (isRow_key (k := q.r.kind) (n := q.r.n) (r := q1.r)).symm)
      (fun j x H3 ex s3 _ => ep_pv (v := x) rfl fun _ _ => by
        obtain ⟨q1, er, rfl⟩ := ls_at ex
        rw [er]
        rfl)
    obtain ⟨u, eu, hu⟩ := selV_head (fun j => (ls[j]?.map fun x => decide (keyR x.r = keyR q.r)).getD false) (fun j => (ls[j]?.map fun x => V.ref x.l).getD .non) (ls.map fun q => V.ref q.l).length
    refine EP.ret (ep_ixL (i := 0) (ep_cat lc ep_lstN (by have := selV_len (n := (ls.map fun q => V.ref q.l).length) (p := fun j => (ls[j]?.map fun x => decide (keyR x.r = keyR q.r)).getD false) (out := fun j => (ls[j]?.map fun x => V.ref x.l).getD .non); have := L.ln; rw [List.length_map] at *; simp only [List.length_singleton]; omega)) eu) fun u' H2 s2 e => ?_
    rw [e]
    rcases hu with ⟨no, rfl⟩ | ⟨j, hj, hp, rfl⟩
    · obtain ⟨j, hj, ej⟩ := List.getElem_of_mem mq
      have := no j (by rw [List.length_map]; exact hj)
      rw [List.getElem?_eq_getElem hj, ej] at this
      simp at this
    · rw [List.length_map] at hj
      rw [List.getElem?_eq_getElem hj] at hp ⊢
      have e2 : ls[j] = q := inj_key L mq (List.getElem_mem hj) (of_decide_eq_true hp)
      show Q (.ref ls[j].l) H2
      rw [e2]
      exact k1 H2 s2
end
end Kd

set_option Elab.async false
set_option linter.all false
set_option maxRecDepth 100000
set_option maxHeartbeats 4000000
/-! dict(d), d.update(d2): keys that are numbers or texts -/
namespace Dcp
open PySem PySem.Spec PyProof.Rows L2 Vl
section
variable {prog : Program} {w : World} {κ : Type} [DecidableEq κ] {knd : PySem.KeyKind prog w κ} {A : Around} {E : Value → Shared → Prop} {s : Shared}
theorem updateFrom_dictV {R : Result → Shared → Prop} {nm : String} {d o : Addr} {kvs more : List (κ × Value)} (res : Value) (hdo : d ≠ o) (hoS : (o == sysModules) = false)
    (hd : s.heap.DictOf knd d kvs) (ho : s.heap.DictOf knd o more) (hsz : kvs.length + more.length ≤ sizeLine)
    (hR : ∀ h', h'.DictOf knd d (merged kvs more) → h'.DictOf knd o more → Heap.SameBut d s.heap h' → R (.ok (.ret res)) { s with heap := h' }) :
    wpAny (model prog w) A.in1 (Builtin.Dict.updateFrom nm d (.ref o) [] res)
      (fun fin s' => match fin with | .done f => R (.ok f) s' | .again c' => c'.quiet = true ∧ codeAny (model prog w) A c' R s') (fun e s' => R (.error e) s') s := by
  unfold Builtin.Dict.updateFrom
  refine wpAny_bind (wpAny_typeOf ho.typeIs ?_)
  rw [if_neg (by decide)]
  refine wpAny_bind ?_
  unfold Builtin.Dict.merge
  refine wpAny_bind ?_
  · unfold Builtin.Dict.readDirectly
    refine wpAny_bind (wpAny_isInstance ho.typeIs isSubtype_dict_dict ?_)
    simp only [Bool.not_true, Bool.false_eq_true, if_false]
    refine wpAny_bind (wpAny_specialOf ho.typeIs PySem.F.slot_dict_iter.lookup (wpAny_pure ?_))
    simp only [beq_self_eq_true, if_true]
    refine wpAny_bind (wpAny_pure ?_)
    refine wpAny_mergeDict (hsz := hsz) hdo hoS hd ho fun h' hd' ho' hs' => ?_
    show wpAny _ _ (Builtin.Dict.addKeywords d [] >>= _) _ _ _
    exact wpAny_bind (wpAny_pure (wpAny_pure (hR h' hd' ho' hs')))
theorem call_dict_dictV {a : Addr} {kvs : List (κ × Value)} {Q : Value → Shared → Prop} (hoS : (a == sysModules) = false) (ho : s.heap.DictOf knd a kvs) (hsz : kvs.length ≤ sizeLine)
    (h : ∀ h', h'.DictOf knd s.heap.objs.size kvs → (∀ b o, s.heap.get? b = some o → h'.get? b = some o) → Q (.ref s.heap.objs.size) { s with heap := h' }) :
    wpAny (model prog w) A (call (.type "dict") [.ref a]) Q E s := by
  have lt : a < s.heap.objs.size := let ⟨_, _, _, e, _⟩ := ho; Heap.lt_size e
  have nd : (kvs.map (·.1)).Nodup := let ⟨_, _, _, _, _, _, _, _, n⟩ := ho; n
  refine callType_codes (Q₁ := fun obj s₁ => obj = .ref s.heap.objs.size ∧ s₁ = { s with heap := s.heap.push { cls := .type "dict", data := .dict #[] } }) PySem.F.kt_called_dict (PySem.F.kt_typeCall_dict_1 _) PySem.F.entry_dict_init (kt_code_dict_new _ ⟨rfl, rfl⟩) ?_
  rintro obj s₁ ⟨rfl, rfl⟩
  have hnew : (s.heap.push { cls := .type "dict", data := .dict #[] }).DictOf knd s.heap.objs.size [] := Heap.DictOf.new s.heap
  refine ⟨hnew.typeIs, PySem.F.args_dict_init_2 _ _, ?_⟩
  unfold Builtin.«dict.__init__»
  refine wpAny_bind ?_
  unfold Builtin.Dict.selfAndRest
  refine wpAny_bind (wpAny_notOrdered_dict hnew.typeIs ?_)
  show wpAny _ _ (pure (s.heap.objs.size, [Value.ref a])) _ _ _
  refine wpAny_pure ?_
  refine updateFrom_dictV (A := A.in1) (knd := knd) (kvs := []) .none (Nat.ne_of_gt lt) hoS hnew (ho.push _) (by simpa using hsz) fun h' hd' ho' hs' => ?_
  rw [merged_nil_of_nodup kvs nd] at hd'
  exact ⟨rfl, h h' hd' fun b o e => (hs'.2 b (Nat.ne_of_lt (Heap.lt_size e))).trans (Heap.get?_push_of_some _ e)⟩
end
section
variable {X : Cx} {pins : List (Addr × Obj)} {σ : L2.St} {H : Hp} {s : Shared}
/-- dict(d) -/
theorem call_dictV : CallR X (.type "dict") (fun xs H Q => ∃ (a : Addr) (kvs : List (Key × V)), xs = [.ref a] ∧ Rd H a (.dK kvs) ∧ ∀ p, H p = none → Q (.ref p) (upd H p (.dK kvs))) := by
  intro pins s σ H xs us Q I r q
  obtain ⟨a, kvs, ex, hq, q⟩ := q
  subst ex
  obtain ⟨u, eu, rx⟩ := vals1 r
  subst eu
  cases rx
  obtain ⟨z, hd, vs, rel, dd⟩ := dk_rd I.hok hq
  refine call_dict_dictV (knd := mixKind X.prog X.w) hd dd (by rw [← rel.length]; exact z) fun h' hd' hk => ?_
  have big : (s.heap.objs.size == sysModules) = false := beq_eq_false_iff_ne.mpr (Nat.ne_of_gt I.big)
  have new := I.hok.fresh (Nat.le_refl s.heap.objs.size)
  exact ⟨.ref s.heap.objs.size, upd H s.heap.objs.size (.dK kvs), I.laid (t' := s.toks) (fun b o e => hk b o e) (Nat.le_refl _) (show ObjOk X.prog X.w _ _ _ (.dK kvs) from ⟨z, big, vs, rel, hd'⟩), rfl, q _ new⟩
def rDUpd : V → List V → Hp → VK → Prop := fun x ys H Q => ∃ (d o : Addr) (kvs more : List (Key × V)), x = .ref d ∧ ys = [.ref o] ∧ H d = some (.dK kvs) ∧ Rd H o (.dK more) ∧ d ≠ o ∧ kvs.length + more.length ≤ sizeLine ∧ Q .non (upd H d (.dK (mergeK kvs more)))
theorem kv_merge : ∀ {more : List (Key × V)} {ms : List (Key × Value)} {kvs : List (Key × V)} {vs : List (Key × Value)}, KV more ms → KV kvs vs → KV (mergeK kvs more) (merged vs ms)
  | _, _, _, _, .nil, r => r
  | _ :: more, _ :: ms, kvs, vs, .cons (a := p) (b := q) h t, r => by
    obtain ⟨h1, h2⟩ := h
    show KV (mergeK (putK kvs p.1 p.2) more) (merged (stored vs q.1 q.2) ms)
    rw [h1]
    exact kv_merge t (r.put q.1 h2)
theorem mergeK_len : ∀ (more acc : List (Key × V)), (mergeK acc more).length ≤ acc.length + more.length
  | [], acc => Nat.le_refl _
  | p :: r, acc => by
    have h1 := mergeK_len r (putK acc p.1 p.2)
    have h2 := length_putK acc p.1 p.2
    show (mergeK (putK acc p.1 p.2) r).length ≤ _
    rw [List.length_cons]
    omega
/-- d.update(d2) -/
theorem mt_dupd : MtR X "dict.update" rDUpd := by
  intro pins s σ H x ys u us Q I rx ry q
  obtain ⟨d, o, kvs, more, ex, ey, hd, ho, ne, hl, q⟩ := q
  subst ex ey
  cases rx
  obtain ⟨v, ev, rv⟩ := vals1 ry
  subst ev
  cases rv
  obtain ⟨z, b1, vs, rel, dd⟩ := dk_of I.hok hd
  obtain ⟨z2, b2, ms, rel2, dd2⟩ := dk_rd I.hok ho
  have hsz : vs.length + ms.length ≤ sizeLine := by rw [← rel.length, ← rel2.length]; exact hl
  refine call_meetsIn PySem.F.slot_dict_update dd.typeIs PySem.F.entry_dict_update (PySem.F.args_dict_update_2 _ _) (meets_dict_update (mixKind X.prog X.w) d o ne b2) ⟨vs, ms, dd, dd2, hsz, fun h' hd' ho' hs' => ?_⟩
  have he : ∃ q, h'.get? d = some q := let ⟨q, _, _, hq, _⟩ := hd'; ⟨q, hq⟩
  exact ⟨.non, _, d_write (t' := s.toks) I (by rw [hd]; exact True.intro) hs' he (dk_new (Nat.le_trans (mergeK_len more kvs) hl) b1 (kv_merge rel2 rel) hd'), rfl, q⟩
end
end Dcp

set_option Elab.async false
set_option linter.all false
set_option maxRecDepth 100000
set_option maxHeartbeats 4000000
/-! the model: _law_make -/
namespace Ed
open PySem PySem.Spec PyProof.Rows L2 Dq Vl Kd
variable {K : PySem.W.Frag} {σ : L2.St} {H : Hp} {te ta tb : TE}
/-- a part of a map that stands -/
theorem map_at {ks : List Str} {l : List D5} {s : Str} {d : D5} {i : Nat} {v : V} (h : Dv (O5 K) H (.map ks l) v) (e : ks[i]? = some s) (e2 : l[i]? = some d) : ∃ b kvs u, v = .ref b ∧ H b = some (.dK kvs) ∧ valV kvs (.inr s : Key) = some u ∧ Dv (O5 K) H d u := by
  obtain ⟨b, kvs, rfl, hb, nd, hk, hl⟩ := h
  obtain ⟨u, eu, hu⟩ := at_dv hl e2
  have ndk : (kvs.map (·.1)).Nodup := by rw [hk]; exact List.Pairwise.map _ (fun a b n e => n (Sum.inr.inj e)) nd
  have ekv : kvs[i]? = some (.inr s, u) := by
    have a1 := congrArg (fun m => m[i]?) hk
    simp only [List.getElem?_map, e, Option.map_some] at a1
    rw [List.getElem?_map] at eu
    cases ec : kvs[i]? with
    | none => rw [ec] at eu; cases eu
    | some p =>
      rw [ec] at a1 eu
      simp only [Option.map_some, Option.some.injEq] at a1 eu
      rw [← a1, ← eu]
  exact ⟨b, kvs, u, rfl, hb, find_at ndk ekv, hu⟩
/-- for over a tuple of data that stood before -/
theorem for_tupS {l : List D5} {g : TG} {t : TS} {D : Ends} {H0 : Hp} {u : V} (hu : Dv (O5 K) H0 (.tup l) u) (h : EP ta σ H fun v _ => v = u) (s0 : Same H0 H)
    (k : ∀ H1, Same H H1 → ∃ Pv : Nat → L2.St → Hp → Prop, Pv 0 σ H1 ∧ (∀ i σ' H', i ≤ l.length → Pv i σ' H' → Same H0 H') ∧
      (∀ i d u σ' H', l[i]? = some d → Pv i σ' H' → Dv (O5 K) H' d u → g u σ' H' fun σ2 H2 => t { D with nx := Pv (i + 1), ct := Pv (i + 1), bk := D.nx } σ2 H2) ∧ ∀ σ' H', Pv l.length σ' H' → D.nx σ' H') :
    tFor (iTup K ta) g t D σ H := h.run fun v H1 s1 ev => by
  subst ev
  obtain ⟨a, us, e, ha, hl⟩ := hu
  subst e
  obtain ⟨Pv, p0, pc, ps, pe⟩ := k H1 s1
  have el := hl.len
  have ha : SqT K H0 a us := ha
  refine ⟨a, rfl, ⟨us, SqT.same ha (Same.trans s0 s1)⟩, ?_⟩
  refine for_it (walk_tup (xs := us)) Pv p0 (fun i σ' H' hi p => SqT.same ha (pc i σ' H' (by omega) p)) (fun i x σ' H2 H3 hi p y => ?_) (fun σ' H' p => pe σ' H' (by rw [← el]; exact p))
  obtain ⟨rfl, ex⟩ := y
  obtain ⟨d, ed, hd⟩ := rowAt hl ex
  exact ps i d x σ' H3 ed p ((kps5 (K := K)).dv (pc i σ' H3 (by omega) p) hd)
end Ed
namespace Kd
open PySem PySem.Spec PyProof.Rows L2 Dq Vl Pf Ed ClX
theorem put_two {ps : Prt} {s : Str} {x y : D5} : putS (putS ps s x) s y = putS ps s y := by
  induction ps with
  | nil =>
    show putS [(s, x)] s y = _
    unfold putS
    rw [if_pos rfl]
  | cons p ps ih =>
    by_cases e : p.1 = s
    · rw [putS, if_pos e, putS, if_pos e, putS, if_pos e]
    · rw [putS, if_neg e, putS, if_neg e, putS, if_neg e, ih]
theorem put_same {ps : Prt} {s : Str} {x : D5} (h : getS ps s = some x) : putS ps s x = ps := by
  induction ps with
  | nil => cases h
  | cons p ps ih =>
    by_cases e : p.1 = s
    · rw [getS_pos e] at h
      cases h
      rw [putS, if_pos e]
    · rw [getS_neg e] at h
      rw [putS, if_neg e, ih h]
section
variable {K : PySem.W.Frag} {CK : Addr} {H H' : Hp} {am tb rl : Addr} {ts : List Tb} {ls : List Lr} {last : Nat} {q : Lr}
theorem LrAt.keep (h : LrAt K H q) (o : OkR q.r) (c : Calm CK H H') (el : ∀ o, H q.l = some o → H' q.l = some o) (ed : ∀ o, H q.d = some o → H' q.d = some o) : LrAt K H' q := ⟨el _ h.l, c.t _ _ h.t, h.p.calm c o.kp ed⟩
/-- what lies apart -/
structure NeL (am rl : Addr) (ls : List Lr) (q : Lr) : Prop where
  la : q.l ≠ am
  lr : q.l ≠ rl
  da : q.d ≠ am
  dr : q.d ≠ rl
  dl : ∀ p ∈ ls, q.d ≠ p.l
theorem pd_dk {ps : Prt} {d : Addr} (h : PD K H ps d) : ∃ kvs, H d = some (.dK kvs) := by obtain ⟨kvs, e, _⟩ := h; exact ⟨kvs, e⟩
theorem head_am {kvs : List (Key × V)} {ps : Prt} {tb rl : Addr} {n : Int} (p : PtsD K H ps kvs) (h : (ps.map (·.1)).head? = some "a") : kvs ≠ mkv tb rl n := fun e => by
  have h1 := p.keys
  rw [e] at h1
  have h4 : ((ps.map (·.1)).map (Sum.inr : Str → Key)).head? = some (.inr "a") := by rw [List.head?_map, h]; rfl
  have h3 : (some (Sum.inr ("tables" : Str)) : Option Key) = some (Sum.inr ("a" : Str)) := (congrArg List.head? h1).trans h4
  exact absurd (Sum.inr.inj (Option.some.inj h3)) (by decide +kernel)
theorem MAt.ne (h : MAt K H am tb rl ts ls last) (L : LOk ts ls) (hq : q ∈ ls) : NeL am rl ls q := by
  obtain ⟨h1, h2, kvs, e, p⟩ := h.q q hq
  refine ⟨fun z => ?_, fun z => ?_, fun z => ?_, fun z => ?_, fun p' hp' z => ?_⟩
  · rw [z, h.m] at h1; cases h1
  · rw [z, h.r] at h1
    injection h1 with h1
    injection h1 with h1
    have h3 := congrArg (fun l => l[1]?) h1
    simp only [List.getElem?_map, List.getElem?_cons_succ, List.getElem?_cons_zero] at h3
    cases e4 : ls[1]? with
    | none => rw [e4] at h3; cases h3
    | some y => rw [e4] at h3; cases h3
  · rw [z, h.m] at e
    injection e with e
    injection e with e
    exact head_am p (L.ok q hq).hd e.symm
  · rw [z, h.r] at e; cases e
  · rw [z, (h.q p' hp').l] at e; cases e
theorem MAt.amrl (h : MAt K H am tb rl ts ls last) : am ≠ rl := fun e => by
  have := h.m
  rw [e, h.r] at this
  cases this
end
abbrev sLMk : Stmt := tp 50
abbrev NLMk : List Str := ["_law_m", "_law_kind", "_law_given", "_law_kept", "_law_name", "_law_sort", "_law_forces", "_law_reading", "_law_other", "_law_tag_here"]
abbrev PLMk : List Str := ["_law_m", "_law_kind", "_law_given"]
theorem scLMk : FnScope NLMk PLMk (defScope sLMk) := ⟨rfl, rfl, rfl, by decide +kernel, rfl, by decide +kernel, by decide +kernel⟩
def spLMk (K : PySem.W.Frag) (CK : Addr) : Sp := fun vs H Q _ => ∃ (am tb rl gd : Addr) (ts : List Tb) (t : Tb) (ls : List Lr) (last : Nat) (g : Prt), vs = [.ref am, .str t.name, .ref gd] ∧ MAt K H am tb rl ts ls last ∧ LOk ts ls ∧ TsOk ts ∧ t ∈ ts ∧ (ts.map (·.name)).Nodup ∧ TbOk t ∧ t.si = none ∧ PD K H g gd ∧ GvOk g ∧ ls.length < 1000 ∧
  ∀ (q' : Lr) (p : Addr) H', Ch [am, rl] H H' → Calm CK H H' → q'.r = mkRo t g (last + 1) → H q'.d = none → H q'.l = none → MAt K H' am tb rl ts (ls ++ [q']) (mkL t g (last + 1)) → H' p = some (.tup [.str "told", .ref q'.t]) → Q (.ref p) H'
section
variable {P : Program} {w : World} {K : PySem.W.Frag} {mg : Str → Option Value} {base : Heap} {CK : Addr}
theorem ok_lmk {f fK fT fM : Addr} {fd fdK fdT fdM : FuncData} (F : Fun K "_law_make" "_law_make" sLMk f fd) (DK : Def P w K mg base 1 "_law_taken" fK fdK PTk (spTk K)) (DT : Def P w K mg base 1 "_law_tag" fT fdT NLT spLT) (DM : Def P w K mg base 2 "_law_marks" fM fdM ["_law_m", "_law_kind", "_law_kept"] (spLM K CK)) :
    FnOk P w K mg base CX0 3 f fd PLMk (spLMk K CK) := by
  refine F.ok scLMk (fun vs H Q E h => ?_) (fun cdv A outer s H vs Q E hr h => ?_)
  · obtain ⟨am, tb, rl, gd, ts, t, ls, last, g, rfl, _⟩ := h
    rfl
  · obtain ⟨am, tb, rl, gd, ts, t, ls, last, g, rfl, hm, L, TO, ht, nd, TB, esi, hg, G, ll, q⟩ := h
    refine ⟨_, pss_cons (ps_set (i := 3) scLMk.nd rfl (Or.inl rfl) pe_dnewK)
      (pss_cons (ps_for PassesOwn.never rfl (pi_tup (pe_dget (hu_of hr) (pe_dget (hu_of hr) (pe_dget (hu_of hr) (pv 0) pe_str (fun _ _ => rfl)) (pv 1) (fun _ _ => rfl)) pe_str (fun _ _ => rfl)))
          (pg_tup rfl (pgs_cons (pg_name (i := 4) scLMk.nd rfl (Or.inl rfl)) (pgs_cons (pg_name (i := 5) scLMk.nd rfl (Or.inl rfl)) (pgs_cons (pg_name (i := 6) scLMk.nd rfl (Or.inl rfl)) (pgs_cons (pg_name (i := 7) scLMk.nd rfl (Or.inl rfl)) pgs_nil)))))
          (pss_cons (ps_dput (hu_of hr) (pv 3) (pv 4) (pe_dget1 (hu_of hr) (pv 2) (pv 4) ⟨rfl, rfl, rfl, rfl⟩) (by rfl))
          (pss_one (ps_if (PW.pt (pw_and (pt_cmp (pc_isN (pe_dget (hu_of hr) (pv 3) (pv 4) (fun _ _ => rfl)))) (pw_and1 (pt_cmpR op_eq (pv 5) pe_str (nomark _))))) (pss_one (ps_dput (hu_of hr) (pv 3) (pv 4) pe_str (by rfl))) pss_nil))))
      (pss_cons (ps_set (i := 8) scLMk.nd rfl (Or.inl rfl) (pe_call DK.ok (hr.mono (by decide)) rfl DK.g DK.kp DK.b .nil pass0 (pa_cons (pv 0) (pa_cons (pv 1) (pa_cons (pv 3) (pa_cons pe_non pa_nil))))))
      (pss_cons (ps_if (pt_cmpR op_notN (pv 8) pe_non (nomark _)) Ow.pss_nv pss_nil)
      (pss_cons (ps_set (i := 9) scLMk.nd rfl (Or.inl rfl) (pe_call DT.ok (hr.mono (by decide)) rfl DT.g DT.kp DT.b .nil pass0 (pa_cons (pv 0) (pa_cons (pv 1) pa_nil))))
      (pss_cons (ps_dput (hu_of hr) (pv 3) pe_str (pv 9) (by rfl))
      (pss_cons (ps_expr (pe_call DM.ok (hr.mono (by decide)) rfl DM.g DM.kp DM.b .nil pass0 (pa_cons (pv 0) (pa_cons (pv 1) (pa_cons (pv 3) pa_nil)))))
      (pss_cons (ps_expr (pe_bm PySem.F.plainAttrs_list PySem.F.slot_list_append PySem.F.type_list_append mt_append (pe_dget (hu_of hr) (pv 0) pe_str (fun _ _ => rfl)) (pa_cons (pe_lst (pa_cons (pv 9) (pa_cons (pv 1) (pa_cons (pv 3) pa_nil)))) pa_nil)))
      (pss_one (ps_ret (pe_tup (pa_cons pe_str (pa_cons (pv 9) pa_nil)))))))))))), ?_⟩
    have P := kps5 (K := K)
    obtain ⟨gkv, egd, gp⟩ := id hg
    -- the given rows
    obtain ⟨j, hj, ej⟩ := List.getElem_of_mem ht
    have ej : ts[j]? = some t := by rw [List.getElem?_eq_getElem hj, ej]
    obtain ⟨tb', kvT, uT, eT, hkT, evT, hT⟩ := map_at (s := t.name) (i := j) hm.t (by rw [List.getElem?_map, ej]; rfl) (by rw [List.getElem?_map, ej]; rfl)
    cases eT
    obtain ⟨bt, kvt, uG, rfl, hkt, evG, hG⟩ := map_at (s := "given") (i := 1) hT rfl rfl
    intro D nD
    have sD : Same H (upd H D (.dK [])) := sm_upd nD
    have eD0 : (upd H D (.dK [])) D = some (.dK []) := upd_same
    generalize upd H D (.dK []) = H0 at sD eD0
    have lg : (givP t g).length = t.gv.length := by unfold givP; rw [List.length_map]
    have gmap : ∀ {i : Nat} {r : Gv}, t.gv[i]? = some r → (givP t g)[i]? = some (r.nm, chosenD r.so ((getS g r.nm).getD .non)) := fun e => by
      unfold givP
      rw [List.getElem?_map, e]
      rfl
    have hdA : ∀ i, ∀ k, (((givP t g).take i).map (·.1)).head? = some k → k = "a" := fun i k e => by
      rw [List.map_take, givP_keys] at e
      cases i with
      | zero => rw [List.take_zero] at e; cases e
      | succ i =>
        cases eg : gvN t with
        | nil => rw [eg] at e; cases e
        | cons x r =>
          have h1 := TB.hd
          rw [eg] at h1 e
          rw [List.take_succ_cons] at e
          exact Option.some.inj (e.symm.trans h1)
    have tE : EP (tDGet (tDGet (tDGet (tVar 0) (tC (.str "tables"))) (tVar 1)) (tC (.str "given"))) [some (.ref am), some (.str t.name), some (.ref gd), some (.ref D), none, none, none, none, none, none] H0 fun v _ => v = uG :=
      ep_dK (ep_dK (R := fun v H2 => ∃ a kvs u, v = .ref a ∧ H2 a = some (.dK kvs) ∧ valV kvs (.inr "given" : Key) = some u ∧ (∀ H3, Same H2 H3 → u = uG)) (ep_dK (R := fun v H2 => ∃ a kvs u, v = .ref a ∧ H2 a = some (.dK kvs) ∧ valV kvs (.inr t.name : Key) = some u ∧ (∀ H3, Same H2 H3 → ∃ a kvs u', u = .ref a ∧ H3 a = some (.dK kvs) ∧ valV kvs (.inr "given" : Key) = some u' ∧ (∀ H4, Same H3 H4 → u' = uG))) (ep_pv rfl fun H2 s2 => ⟨am, _, _, rfl, s2 _ _ (sD _ _ hm.m), mkv1, fun H3 s3 => ⟨tb, kvT, _, rfl, s3 _ _ (s2 _ _ (sD _ _ hkT)), evT, fun H4 s4 => ⟨bt, kvt, uG, rfl, s4 _ _ (s3 _ _ (s2 _ _ (sD _ _ hkt))), evG, fun _ _ => rfl⟩⟩⟩) ep_str) (ep_v rfl)) ep_str
    refine for_tupS (H0 := H) hG tE sD fun H1 s1 => ⟨fun i σ' H' => (∃ w4 w5 w6 w7, σ' = [some (.ref am), some (.str t.name), some (.ref gd), some (.ref D), w4, w5, w6, w7, none, none]) ∧ Same H H' ∧ ∃ kv', H' D = some (.dK kv') ∧ PtsD K H' ((givP t g).take i) kv',
      ⟨⟨_, _, _, _, rfl⟩, Same.trans sD s1, [], s1 _ _ eD0, rfl⟩, fun i σ' H' _ p => p.2.1, fun i d u σ' H' e p hd => ?_, fun σ' H' p => ?_⟩
    · obtain ⟨⟨w4, w5, w6, w7, rfl⟩, c0, kv', eD, ep⟩ := p
      obtain ⟨r, er, rfl⟩ : ∃ r, t.gv[i]? = some r ∧ d = gvrD r := by
        rw [List.getElem?_map] at e
        cases e' : t.gv[i]? with
        | none => rw [e'] at e; cases e
        | some r => rw [e'] at e; cases e; exact ⟨r, rfl, rfl⟩
      have gi := gmap er
      have kl : kv'.length ≤ 500 := by
        rw [ep.len, List.length_take, lg]
        have := TB.ml
        omega
      have nn := TB.nd
      rw [← givP_keys (g := g), ← List.take_append_drop i (givP t g), List.map_append] at nn
      have ndt : (((givP t g).take i).map (·.1)).Nodup := (List.nodup_append.mp nn).1
      have nw : r.nm ∉ ((givP t g).take i).map (·.1) := fun m => by
        have hi : i < (givP t g).length := (List.getElem?_eq_some_iff.mp gi).1
        refine (List.nodup_append.mp nn).2.2 _ m _ ?_ rfl
        rw [List.drop_eq_getElem_cons hi, (List.getElem?_eq_some_iff.mp gi).2]
        exact List.mem_cons_self
      have etk : ∀ x, putS ((givP t g).take i) r.nm x = (givP t g).take i ++ [(r.nm, x)] := fun x => put_new nw
      obtain ⟨xv, exv, hxv⟩ : ∃ xv, valV gkv (.inr r.nm : Key) = xv ∧ Dv (O5 K) H ((getS g r.nm).getD .non) (xv.getD .non) := by
        obtain ⟨g1, g2⟩ := gp.get r.nm
        cases e : getS g r.nm with
        | none => exact ⟨none, g1 e, rfl⟩
        | some x =>
          obtain ⟨v, e1, e2⟩ := g2 x e
          exact ⟨some v, e1, e2⟩
      obtain ⟨okx, smx⟩ := get_ok G r.nm
      obtain ⟨ua, us, rfl, ha, u1, r1, rfl, h1, u2, r2, rfl, h2, u3, r3, rfl, h3, u4, r4, rfl, h4, e5⟩ := hd
      cases (show r4 = [] from e5)
      cases (show u1 = .str r.nm from h1)
      cases (show u2 = .str r.so from h2)
      have alD : ∀ {H9 : Hp} {kv9 : List (Key × V)} {n : Nat}, kv9.map (·.1) = (((givP t g).take n).map (·.1)).map Sum.inr → H9 D = some (.dK kv9) → ∀ b ∈ [D], ∀ o, H9 b = some o → Alien Kval o := fun {H9 kv9 n} hk h9 b hb o e => by
        rw [List.mem_singleton.mp hb, h9] at e
        cases e
        refine alienV fun k ek => ?_
        rw [hk, List.head?_map] at ek
        cases eh : (((givP t g).take n).map (·.1)).head? with
        | none => rw [eh] at ek; cases ek
        | some z => rw [eh] at ek; cases ek; rw [hdA n z eh]
      have kpI : ∀ {n : Nat}, ∀ p ∈ (givP t g).take n, kpt Kval p.2 = true := fun p hp => (givP_ok G p (List.mem_of_mem_take hp)).1.kp
      -- the first put
      have c1 : Ch [D] H' (upd H' D (.dK (putK kv' (.inr r.nm : Key) (xv.getD .non)))) := Ch.upd (by simp)
      have p1 : PtsD K (upd H' D (.dK (putK kv' (.inr r.nm : Key) (xv.getD .non)))) (putS ((givP t g).take i) r.nm ((getS g r.nm).getD .non)) (putK kv' (.inr r.nm : Key) (xv.getD .non)) :=
        (PtsD.put (P.dv c0 hxv) ndt ep).ch c1 (alD ep.keys eD) fun z hz => by
          rcases put_mem hz with hz | rfl
          · exact kpI z hz
          · exact okx.kp
      have e1 : (upd H' D (.dK (putK kv' (.inr r.nm : Key) (xv.getD .non)))) D = some (.dK (putK kv' (.inr r.nm : Key) (xv.getD .non))) := upd_same
      have s1' : Same H (upd H' D (.dK (putK kv' (.inr r.nm : Key) (xv.getD .non)))) := fun c o e => by
        have nc : c ≠ D := fun q => by rw [q, nD] at e; cases e
        rw [upd_ne nc]
        exact c0 _ _ e
      have v1 : valV (putK kv' (.inr r.nm : Key) (xv.getD .non)) (.inr r.nm : Key) = some (xv.getD .non) := by rw [valV_put, if_pos rfl]
      have kl1 : (putK kv' (.inr r.nm : Key) (xv.getD .non)).length ≤ 501 := Nat.le_trans (length_putK _ _ _) (by omega)
      refine ⟨ua, _, rfl, ha, rfl, _, _, rfl, _, _, rfl, _, _, rfl, _, _, rfl, rfl, ?_⟩
      refine ⟨_, rfl, gd, rfl, .inl ⟨gkv, .inl (c0 _ _ egd)⟩, _, rfl, xv, .inl ⟨gkv, .inr r.nm, .inl (c0 _ _ egd), rfl, exv.symm⟩, _, rfl, _, rfl, D, _, rfl, DPut.k (k := .inr r.nm) eD (Nat.lt_of_le_of_lt kl (by decide)), ?_⟩
      generalize putK kv' (.inr r.nm : Key) (xv.getD .non) = kv1 at *
      generalize upd H' D (.dK kv1) = H1' at *
      refine ⟨_, rfl, _, rfl, D, xv.getD .non, rfl, .inl ⟨kv1, .inr r.nm, .inl e1, rfl, v1.symm⟩, ?_⟩
      refine ⟨_, rfl, ?_⟩
      have done : ∀ (x : D5), chosenD r.so ((getS g r.nm).getD .non) = x → (givP t g).take (i + 1) = putS ((givP t g).take i) r.nm x := fun x ex => by rw [List.take_succ, gi, etk, ex]; rfl
      rcases Bool.eq_false_or_eq_true (decide ((xv.getD .non) = V.non)) with e | e
      · rw [e]
        have ex0 := (non_iff hxv).mp (of_decide_eq_true e)
        refine Vl.iteC rfl ⟨_, rfl, rfl, _, rfl, ?_⟩
        by_cases ef : r.so = "filled"
        · refine Vl.iteC (by rw [ef]; exact decide_eq_true rfl) ⟨_, rfl, _, rfl, D, _, rfl, DPut.k (k := .inr r.nm) e1 (Nat.lt_of_le_of_lt kl1 (by decide)), ⟨_, _, _, _, rfl⟩, ?_, _, upd_same, ?_⟩
          · intro c o e
            have nc : c ≠ D := fun q => by rw [q, nD] at e; cases e
            rw [upd_ne nc]
            exact s1' _ _ e
          · rw [done (.str "filled") (by rw [ex0, chosenD, if_pos ef]), ← put_two (x := (getS g r.nm).getD .non)]
            have hk1 : kv1.map (·.1) = (((givP t g).take (i + 1)).map (·.1)).map Sum.inr := by rw [p1.keys, List.take_succ, gi, etk]; simp
            refine (PtsD.put (x := .str "filled") (v := .str "filled") rfl (put_nodup ndt) p1).ch (Ch.upd (S := [D]) (by simp)) (alD hk1 e1) fun z hz => ?_
            rcases put_mem hz with hz | rfl
            · rcases put_mem hz with hz | rfl
              · exact kpI z hz
              · exact okx.kp
            · rfl
        · refine Vl.iteN (decide_eq_false fun z => ef (V.str.inj z)) ⟨⟨_, _, _, _, rfl⟩, s1', _, e1, ?_⟩
          rw [done _ (chosen_no (.inl ef))]
          exact p1
      · rw [e]
        refine Vl.iteN rfl (Vl.iteN rfl ⟨⟨_, _, _, _, rfl⟩, s1', _, e1, ?_⟩)
        rw [done _ (chosen_no (.inr fun z => absurd ((non_iff hxv).mpr z) (of_decide_eq_false e)))]
        exact p1
    · obtain ⟨⟨w4, w5, w6, w7, rfl⟩, c0, kv, eD, ep⟩ := p
      rw [List.length_map, ← lg, List.take_length] at ep
      have hm2 := hm.same c0
      have okg : OkR ⟨t.name, 1, givP t g⟩ := ⟨fun p hp => (givP_ok G p hp).1, by rw [givP_keys]; exact TB.nd, by rw [givP_keys]; exact TB.hd, TB.nm, Nat.le_refl _⟩
      have hD : KpD K H' (givP t g) D := ⟨⟨kv, eD, ep⟩, ⟨t.name, 1, []⟩, okg⟩
      have kl : kv.length ≤ 500 := by rw [ep.len, lg]; have := TB.ml; omega
      have nDa : D ≠ am := fun e => by rw [e, hm.m] at nD; cases nD
      have nDr : D ≠ rl := fun e => by rw [e, hm.r] at nD; cases nD
      refine ⟨_, rfl, _, rfl, _, rfl, am, tb, rl, ts, t, ls, last, .ref D, .non, .none, rfl, hm2, L, ht, nd, esi, (fun _ _ => .non), (by decide +kernel), fun H3 s3 => ?_⟩
      refine ⟨_, rfl, rfl, _, rfl, Vl.iteN rfl ?_⟩
      refine ⟨_, rfl, _, rfl, am, tb, rl, t.name, last, rfl, (hm2.same s3).m, fun b H4 c4 nb e1 e2 => ?_⟩
      have cm4 : Calm CK H3 H4 := .ch c4 fun a m o eo => by
        rw [List.mem_singleton.mp m, (hm2.same s3).m] at eo
        cases eo
        exact apt_mkv
      have hD4 := (hD.same s3).calm cm4 fun o eo => c4 _ _ eo (by simpa using nDa)
      have eD4 := c4 _ _ (s3 _ _ eD) (by simpa using nDa)
      have nbD : b ≠ D := fun e => by rw [e, s3 _ _ eD] at nb; cases nb
      have htag : Dv (O5 K) H4 (tagOf t.name (last + 1)) (.ref b) := ⟨b, _, rfl, .inl (.inl e2), _, _, rfl, rfl, _, _, rfl, rfl, _, _, rfl, rfl, rfl⟩
      obtain ⟨hD5, cm5⟩ := hD4.put (s := "id") htag (okV_tag TB.nm) eD4
      refine ⟨_, rfl, _, rfl, D, _, rfl, DPut.k (k := .inr "id") eD4 (Nat.lt_of_le_of_lt kl (by decide)), ?_⟩
      have c5 : Ch [am, D] H' (upd H4 D (.dK (putK kv (.inr "id" : Key) (.ref b)))) := Ch.trans (Ch.same s3) (Ch.trans (Ch.mono c4 (by simp)) (Ch.upd (by simp)))
      have e15 : (upd H4 D (.dK (putK kv (.inr "id" : Key) (.ref b)))) am = some (.dK (mkv tb rl ((last + 1 : Nat) : Int))) := (upd_ne (Ne.symm nDa)).trans e1
      have e25 : (upd H4 D (.dK (putK kv (.inr "id" : Key) (.ref b)))) b = some (.tup [.str "#", .str t.name, .int ((last + 1 : Nat) : Int)]) := (upd_ne nbD).trans e2
      have cm25 : Calm CK H' (upd H4 D (.dK (putK kv (.inr "id" : Key) (.ref b)))) := (Calm.same s3).trans (cm4.trans cm5)
      have hD5 : KpD K (upd H4 D (.dK (putK kv (.inr "id" : Key) (.ref b)))) (mk0P t g (last + 1)) D := hD5
      generalize upd H4 D (.dK (putK kv (.inr "id" : Key) (.ref b))) = H5 at c5 e15 e25 hD5 cm25
      refine ⟨_, rfl, _, rfl, _, rfl, am, tb, rl, D, last + 1, ts, t, mk0P t g (last + 1), rfl, e15, Dv.calm cm25 _ _ (tabs_kpt TO.rd TO.nk) hm2.t, TO, ht, nd, TB, hD5, mk0_gs TB G, (by have h1 := mk0_len (t := t) (g := g) (n := last + 1); have h2 := TB.ml; omega), fun H6 c6 cm6 e16 hD6 => ?_⟩
      have e16 : H6 am = some (.dK (mkv tb rl ((mkL t g (last + 1) : Nat) : Int))) := e16
      have hD6 : KpD K H6 (mkP t g (last + 1)) D := hD6
      have c26 : Ch [am, D] H' H6 := Ch.trans c5 c6
      have cm26 : Calm CK H' H6 := cm25.trans cm6
      have nra : rl ≠ am := Ne.symm hm.amrl
      have mb : ∀ c, c ≠ am → c ≠ D → c ∉ [am, D] := fun c h1 h2 m => by
        simp only [List.mem_cons, List.not_mem_nil, or_false] at m
        rcases m with rfl | rfl
        · exact h1 rfl
        · exact h2 rfl
      have erl6 := c26 _ _ hm2.r (mb rl nra (Ne.symm nDr))
      have e26 := cm6.t _ _ e25
      refine ⟨_, rfl, am, .ref rl, rfl, .inl ⟨_, .inr "rows", .inl e16, rfl, mkv2.symm⟩, .inl ⟨rfl, _, SqL.of erl6⟩, _, rfl, _, rfl, _, rfl, by show 3 ≤ sizeLine; decide, fun l nl7 => ?_⟩
      have nlr : rl ≠ l := fun e => by rw [← e, erl6] at nl7; cases nl7
      refine ⟨rl, _, .ref l, rfl, rfl, (upd_ne nlr).trans erl6, Nat.lt_of_le_of_lt (show (ls.map fun q => V.ref q.l).length ≤ 1000 by rw [List.length_map]; exact L.ln) (by decide), _, rfl, by show 2 ≤ sizeLine; decide, fun p np => ?_⟩
      have sl := sm_upd (o := .lst [V.ref b, .str t.name, .ref D]) nl7
      have el : (upd H6 l (.lst [V.ref b, .str t.name, .ref D])) l = some (.lst [V.ref b, .str t.name, .ref D]) := upd_same
      generalize upd H6 l (.lst [V.ref b, .str t.name, .ref D]) = H7 at sl el np ⊢
      have erl7 := sl _ _ erl6
      have c78 : Ch [rl] H7 (upd H7 rl (.lst ((ls.map fun q => V.ref q.l) ++ [.ref l]))) := Ch.upd (by simp)
      have cm78 : Calm CK H7 (upd H7 rl (.lst ((ls.map fun q => V.ref q.l) ++ [.ref l]))) := .upd erl7 apt_lst
      have er8 : (upd H7 rl (.lst ((ls.map fun q => V.ref q.l) ++ [.ref l]))) rl = some (.lst ((ls.map fun q => V.ref q.l) ++ [.ref l])) := upd_same
      generalize upd H7 rl (.lst ((ls.map fun q => V.ref q.l) ++ [.ref l])) = H8 at c78 cm78 er8 np ⊢
      have s9 := sm_upd (o := .tup [V.str "told", .ref b]) np
      have e9 : (upd H8 p (.tup [V.str "told", .ref b])) p = some (.tup [V.str "told", .ref b]) := upd_same
      generalize upd H8 p (.tup [V.str "told", .ref b]) = H9 at s9 e9 ⊢
      have cH8 : ∀ c o, H c = some o → c ≠ am → c ≠ rl → H9 c = some o := fun c o e n1 n2 => s9 _ _ (c78 _ _ (sl _ _ (c26 _ _ (c0 _ _ e) (mb c n1 fun q => by rw [q, nD] at e; cases e))) (by simpa using n2))
      have cm9 : Calm CK H H9 := (Calm.same c0).trans (cm26.trans ((Calm.same sl).trans (cm78.trans (Calm.same s9))))
      have nl0 : H l = none := by
        cases e : H l with
        | none => rfl
        | some o =>
          by_cases na : l = am
          · rw [na, e16] at nl7; cases nl7
          · rw [c26 _ _ (c0 _ _ e) (mb l na fun q => by rw [q, nD] at e; cases e)] at nl7; cases nl7
      have k69 : ∀ c o, H6 c = some o → c ≠ rl → H9 c = some o := fun c o e n => s9 _ _ (c78 _ _ (sl _ _ e) (by simpa using n))
      refine q ⟨mkRo t g (last + 1), l, b, D⟩ p H9 (fun c o e n => ?_) cm9 rfl nD nl0 ⟨k69 _ _ e16 (Ne.symm nra), Dv.calm cm9 _ _ (tabs_kpt TO.rd TO.nk) hm.t, ?_, fun q' hq' => ?_⟩ e9
      · simp only [List.mem_cons, List.not_mem_nil, or_false, not_or] at n
        exact cH8 c o e n.1 n.2
      · rw [List.map_append]
        exact s9 _ _ er8
      · rcases List.mem_append.mp hq' with hq' | hq'
        · have N := hm.ne L hq'
          exact (hm.q q' hq').keep (L.ok q' hq') cm9 (fun o eo => cH8 _ _ eo N.la N.lr) fun o eo => cH8 _ _ eo N.da N.dr
        · rw [List.mem_singleton.mp hq']
          refine ⟨s9 _ _ (c78 _ _ el (by simpa using Ne.symm nlr)), (cm78.trans (Calm.same s9)).t _ _ (sl _ _ e26), ?_⟩
          exact (hD6.p.same sl).calm (cm78.trans (Calm.same s9)) (mkP_ok (n := last + 1) TB G (Nat.le_add_left _ _)).kp fun o eo => s9 _ _ (c78 _ _ eo (by simpa using nDr))
end
end Kd

set_option Elab.async false
set_option linter.all false
set_option maxRecDepth 100000
set_option maxHeartbeats 4000000
/-! the model: _law_change, _law_alter, _law_read -/
namespace Kd
open PySem PySem.Spec PyProof.Rows L2 Dq Vl Pf Ed ClX Dcp
/-- the row whose list is l has these parts, kept at d -/
def setL (ls : List Lr) (l : Addr) (ps : Prt) (d : Addr) : List Lr := ls.map fun q => if q.l = l then { q with r := { q.r with ps := ps }, d := d } else q
theorem setL_l {ls : List Lr} {l : Addr} {ps : Prt} {d : Addr} : (setL ls l ps d).map (·.l) = ls.map (·.l) := by
  unfold setL
  rw [List.map_map]
  refine List.map_congr_left fun p _ => ?_
  show (if p.l = l then _ else p).l = p.l
  split <;> rfl
theorem setL_rl {ls : List Lr} {l : Addr} {ps : Prt} {d : Addr} : (setL ls l ps d).map (fun q => V.ref q.l) = ls.map fun q => V.ref q.l := by
  have h := congrArg (List.map V.ref) (setL_l (ls := ls) (l := l) (ps := ps) (d := d))
  rw [List.map_map, List.map_map] at h
  exact h
theorem setL_key {ls : List Lr} {l : Addr} {ps : Prt} {d : Addr} : (setL ls l ps d).map (fun q => keyR q.r) = ls.map fun q => keyR q.r := by
  unfold setL
  rw [List.map_map]
  refine List.map_congr_left fun p _ => ?_
  show keyR (if p.l = l then _ else p).r = keyR p.r
  split <;> rfl
theorem inj_l {ls : List Lr} {p q : Lr} (nd : (ls.map (·.l)).Nodup) (hp : p ∈ ls) (hq : q ∈ ls) (e : q.l = p.l) : q = p := by
  obtain ⟨i, hi, ei⟩ := List.getElem_of_mem hq
  obtain ⟨j, hj, ej⟩ := List.getElem_of_mem hp
  have h := (List.getElem_inj (i := i) (j := j) (h₀ := by simpa using hi) (h₁ := by simpa using hj) nd).mp (by simp [ei, ej, e])
  subst h
  rw [← ei, ← ej]
theorem setL_mem {ls : List Lr} {l : Addr} {ps : Prt} {d : Addr} {q : Lr} (h : q ∈ setL ls l ps d) : (q ∈ ls ∧ q.l ≠ l) ∨ ∃ p ∈ ls, p.l = l ∧ q = { p with r := { p.r with ps := ps }, d := d } := by
  obtain ⟨p, hp, e⟩ := List.mem_map.mp h
  by_cases z : p.l = l
  · rw [if_pos z] at e
    exact .inr ⟨p, hp, z, e.symm⟩
  · rw [if_neg z] at e
    rw [← e]
    exact .inl ⟨hp, z⟩
theorem LOk.set {ts : List Tb} {ls : List Lr} {q : Lr} {ps : Prt} {d : Addr} (L : LOk ts ls) (m : q ∈ ls) (o : OkR { q.r with ps := ps }) : LOk ts (setL ls q.l ps d) where
  ok := fun p hp => by
    rcases setL_mem hp with ⟨h, _⟩ | ⟨p', hp', e, rfl⟩
    · exact L.ok p h
    · rw [inj_l L.nl m hp' e]; exact o
  nk := by rw [setL_key]; exact L.nk
  nl := by rw [setL_l]; exact L.nl
  ln := by unfold setL; rw [List.length_map]; exact L.ln
  kd := fun p hp => by
    rcases setL_mem hp with ⟨h, _⟩ | ⟨p', hp', e, rfl⟩
    · exact L.kd p h
    · exact L.kd p' hp'
/-- what is given is put, one behind the other -/
def updP (g ps : Prt) : Prt := g.foldl (fun a p => putS a p.1 p.2) ps
theorem updP_ok {r : Ro} : ∀ {g : Prt}, GvOk g → ∀ {ps : Prt}, OkR { r with ps := ps } → OkR { r with ps := updP g ps }
  | [], _, _, h => h
  | p :: g, G, _, h => updP_ok (g := g) ⟨fun q hq => G.v q (List.mem_cons_of_mem _ hq)⟩ (h.put (G.v p List.mem_cons_self).1)
theorem updP_len : ∀ (g ps : Prt), (updP g ps).length ≤ ps.length + g.length
  | [], _ => Nat.le_refl _
  | p :: g, ps => by
    have h := updP_len g (putS ps p.1 p.2)
    have h2 := put_len (ps := ps) (s := p.1) (x := p.2)
    show (updP g (putS ps p.1 p.2)).length ≤ _
    rw [List.length_cons]
    omega
theorem updP_gs {t : Tb} : ∀ {g : Prt}, GvOk g → ∀ {ps : Prt}, GvS t ps → GvS t (updP g ps)
  | [], _, _, h => h
  | p :: g, G, _, h => updP_gs (g := g) ⟨fun q hq => G.v q (List.mem_cons_of_mem _ hq)⟩ (h.put (G.v p List.mem_cons_self).2)
theorem PtsD.upd {K : PySem.W.Frag} {H : Hp} : ∀ {g : Prt} {more : List (Key × V)}, PtsD K H g more → ∀ {ps : Prt} {kvs : List (Key × V)}, (ps.map (·.1)).Nodup → PtsD K H ps kvs → PtsD K H (updP g ps) (mergeK kvs more)
  | [], _, h, _, _, _, p => by cases h; exact p
  | q :: g, _, ⟨v, more, e, hv, r⟩, ps, kvs, nd, p => by
    subst e
    show PtsD K H (updP g (putS ps q.1 q.2)) (mergeK (putK kvs (.inr q.1) v) more)
    exact PtsD.upd r (put_nodup nd) (PtsD.put hv nd p)
def lchP (t : Tb) (ps g : Prt) (last : Nat) : Prt := arF t.md (markF t.name t.md (updP g ps, last)).1
def lchL (t : Tb) (ps g : Prt) (last : Nat) : Nat := (markF t.name t.md (updP g ps, last)).2
abbrev sLC : Stmt := tp 51
abbrev NLC : List Str := ["_law_m", "_law_tag_here", "_law_given", "_law_row_here", "_law_kept", "_law_other"]
abbrev PLC : List Str := ["_law_m", "_law_tag_here", "_law_given"]
theorem scLC : FnScope NLC PLC (defScope sLC) := ⟨rfl, rfl, rfl, by decide +kernel, rfl, by decide +kernel, by decide +kernel⟩
def spLC (K : PySem.W.Frag) (CK : Addr) : Sp := fun vs H Q _ => ∃ (am tb rl b gd : Addr) (ts : List Tb) (t : Tb) (ls : List Lr) (last : Nat) (q : Lr) (g : Prt), vs = [.ref am, .ref b, .ref gd] ∧ MAt K H am tb rl ts ls last ∧ LOk ts ls ∧ TsOk ts ∧ t ∈ ts ∧ (ts.map (·.name)).Nodup ∧ TbOk t ∧ t.si = none ∧
  H b = some (.tup [.str "#", .str q.r.kind, .int (q.r.n : Int)]) ∧ q ∈ ls ∧ q.r.kind = t.name ∧ q.r.ps.length ≤ 200 ∧ GvS t q.r.ps ∧ PD K H g gd ∧ GvOk g ∧ g.length ≤ 100 ∧
  ∀ (D p : Addr) H', Ch (ownM am rl ls) H H' → Calm CK H H' → H D = none → MAt K H' am tb rl ts (setL ls q.l (lchP t q.r.ps g last) D) (lchL t q.r.ps g last) → H' p = some (.tup [.str "told", .non]) → Q (.ref p) H'
abbrev sLAl : Stmt := tp 52
abbrev NLAl : List Str := ["_law_m", "_law_tag_here", "_law_attribute", "_law_value", "_law_row_here"]
abbrev PLAl : List Str := ["_law_m", "_law_tag_here", "_law_attribute", "_law_value"]
theorem scLAl : FnScope NLAl PLAl (defScope sLAl) := ⟨rfl, rfl, rfl, by decide +kernel, rfl, by decide +kernel, by decide +kernel⟩
def spLAl (K : PySem.W.Frag) (CK : Addr) : Sp := fun vs H Q _ => ∃ (am tb rl b : Addr) (ts : List Tb) (t : Tb) (ls : List Lr) (last : Nat) (q : Lr) (s : Str) (u : V) (x : D5), vs = [.ref am, .ref b, .str s, u] ∧ MAt K H am tb rl ts ls last ∧ LOk ts ls ∧ TsOk ts ∧ t ∈ ts ∧ (ts.map (·.name)).Nodup ∧ TbOk t ∧
  H b = some (.tup [.str "#", .str q.r.kind, .int (q.r.n : Int)]) ∧ q ∈ ls ∧ q.r.kind = t.name ∧ q.r.ps.length ≤ 200 ∧ GvS t q.r.ps ∧ Dv (O5 K) H x u ∧ OkV x ∧ smlD x = true ∧
  ∀ (D p : Addr) H', Ch (ownM am rl ls) H H' → Calm CK H H' → H D = none → MAt K H' am tb rl ts (setL ls q.l (altP t q.r.ps s x) D) last → H' p = some (.tup [.str "told", .non]) → Q (.ref p) H'
abbrev sLR : Stmt := tp 53
abbrev NLR : List Str := ["_law_m", "_law_tag_here", "_law_row_here", "_law_found", "_law_name", "_law_sort", "_law_forces", "_law_reading"]
theorem scLR : FnScope NLR ["_law_m", "_law_tag_here"] (defScope sLR) := ⟨rfl, rfl, rfl, by decide +kernel, rfl, by decide +kernel, by decide +kernel⟩
def spLR (K : PySem.W.Frag) : Sp := fun vs H Q _ => ∃ (am tb rl b : Addr) (ts : List Tb) (t : Tb) (ls : List Lr) (last : Nat) (q : Lr), vs = [.ref am, .ref b] ∧ MAt K H am tb rl ts ls last ∧ LOk ts ls ∧ TsOk ts ∧ t ∈ ts ∧ (ts.map (·.name)).Nodup ∧
  H b = some (.tup [.str "#", .str q.r.kind, .int (q.r.n : Int)]) ∧ q ∈ ls ∧ q.r.kind = t.name ∧ q.r.ps.length ≤ 1000 ∧ (∀ r ∈ t.gv, r.nm ∈ q.r.ps.map (·.1)) ∧
  ∀ D H', H D = none → Same H H' → PD K H' (rdF t.gv q.r.ps) D → Q (.ref D) H'
structure TxtL4 (mg : Str → Option Value) : Prop where
  str : mg "str" = none
  dict : mg "dict" = none
  isi : mg "isinstance" = none
section
variable {P : Program} {w : World} {K : PySem.W.Frag} {mg : Str → Option Value} {base : Heap} {CK : Addr}
theorem ok_lc {f fR fK fM : Addr} {fd fdR fdK fdM : FuncData} (F : Fun K "_law_change" "_law_change" sLC f fd) (T : TxtL4 mg) (DR : Def P w K mg base 7 "_law_row" fR fdR ["_law_m", "_law_tag_here"] (spRow K)) (DK : Def P w K mg base 1 "_law_taken" fK fdK PTk (spTk K)) (DM : Def P w K mg base 2 "_law_marks" fM fdM ["_law_m", "_law_kind", "_law_kept"] (spLM K CK)) :
    FnOk P w K mg base CX0 8 f fd PLC (spLC K CK) := by
  refine F.ok scLC (fun vs H Q E h => ?_) (fun cdv A outer s H vs Q E hr h => ?_)
  · obtain ⟨am, tb, rl, b, gd, ts, t, ls, last, q, g, rfl, _⟩ := h
    rfl
  · obtain ⟨am, tb, rl, b, gd, ts, t, ls, last, q, g, rfl, hm, L, TO, ht, nd, TB, esi, hb, mq, ek, pl, gs, hg, G, gl, k⟩ := h
    refine ⟨_, pss_cons (ps_set (i := 3) scLC.nd rfl (Or.inl rfl) (pe_call DR.ok (hr.mono (by decide)) rfl DR.g DR.kp DR.b .nil pass0 (pa_cons (pv 0) (pa_cons (pv 1) pa_nil))))
      (pss_cons (ps_if (pt_cmp (pc_isN (pv 3))) Ow.pss_nv pss_nil)
      (pss_cons (ps_set (i := 4) scLC.nd rfl (Or.inl rfl) (pe_callTy call_dictV (by rfl) T.dict (by decide +kernel) (pa_cons (pe_ix (show IxR _ (rIxL K) from ix_list) (pv 3) pe_int (fun _ _ => rfl)) pa_nil)))
      (pss_cons (ps_expr (pe_bm PySem.F.plainAttrs_dict PySem.F.slot_dict_update PySem.F.type_dict_update mt_dupd (pv 4) (pa_cons (pv 2) pa_nil)))
      (pss_cons (ps_set (i := 5) scLC.nd rfl (Or.inl rfl) (pe_call DK.ok (hr.mono (by decide)) rfl DK.g DK.kp DK.b .nil pass0 (pa_cons (pv 0) (pa_cons (pe_ix (show IxR _ (rIxL K) from ix_list) (pv 3) pe_int (fun _ _ => rfl)) (pa_cons (pv 4) (pa_cons (pv 1) pa_nil))))))
      (pss_cons (ps_if (PW.pt (pw_and (pt_cmpR op_notN (pv 5) pe_non (nomark _)) (pw_and1 pt_nv))) Ow.pss_nv pss_nil)
      (pss_cons (ps_expr (pe_call DM.ok (hr.mono (by decide)) rfl DM.g DM.kp DM.b .nil pass0 (pa_cons (pv 0) (pa_cons (pe_ix (show IxR _ (rIxL K) from ix_list) (pv 3) pe_int (fun _ _ => rfl)) (pa_cons (pv 4) pa_nil)))))
      (pss_cons (ps_asg (pv 4) (pg_sub (pv 3) pe_int set_list))
      (pss_one (ps_ret (pe_tup (pa_cons pe_str (pa_cons pe_non pa_nil)))))))))))), ?_⟩
    have P := kps5 (K := K)
    obtain ⟨hl, htg, hpd⟩ := hm.q q mq
    obtain ⟨kv, ekv, pts⟩ := id hpd
    obtain ⟨gkv, egd, gp⟩ := id hg
    have N := hm.ne L mq
    have oq := L.ok q mq
    refine ⟨_, rfl, _, rfl, am, tb, rl, b, ts, ls, last, q, rfl, hm, L, mq, hb, fun H1 s1 => ?_⟩
    refine ⟨_, rfl, _, rfl, Vl.iteN rfl ?_⟩
    refine ⟨_, rfl, q.l, _, _, .ref q.d, rfl, rfl, SqL.of (s1 _ _ hl), atI_nat (j := 2) rfl, q.d, kv, rfl, .inl (s1 _ _ ekv), fun D nD => ?_⟩
    have nD0 : H D = none := by
      cases e : H D with
      | none => rfl
      | some o => rw [s1 _ _ e] at nD; cases nD
    have sD := sm_upd (o := .dK kv) nD
    have eD : (upd H1 D (.dK kv)) D = some (.dK kv) := upd_same
    generalize upd H1 D (.dK kv) = H2 at sD eD
    have s02 := Same.trans s1 sD
    have ngD : D ≠ gd := fun e => by rw [e, egd] at nD0; cases nD0
    have lens : kv.length + gkv.length ≤ sizeLine := by
      rw [pts.len, gp.len]
      exact Nat.le_trans (show _ ≤ 300 by omega) (by decide)
    refine ⟨.ref D, rfl, .inr (.inr (.inl ⟨rfl, .inl ⟨_, eD⟩⟩)), _, rfl, D, gd, kv, gkv, rfl, rfl, eD, .inl (s02 _ _ egd), ngD, lens, ?_⟩
    have okD : OkR { q.r with ps := q.r.ps } := oq
    have aD : Apt CK (.dK kv) := apt_a (by rw [pts.keys, List.head?_map, oq.hd]; rfl)
    have cm3 : Calm CK H2 (upd H2 D (.dK (mergeK kv gkv))) := .upd eD aD
    have p3 : KpD K (upd H2 D (.dK (mergeK kv gkv))) (updP g q.r.ps) D := by
      have ok3 : OkR { q.r with ps := updP g q.r.ps } := updP_ok G oq
      exact ⟨⟨_, upd_same, (PtsD.upd (gp.same s02) oq.nd (pts.same s02)).imp fun z hz v hv => Dv.calm cm3 _ _ (kv_kin (ok3.kp z hz)) hv⟩, q.r, ok3⟩
    have s03 : Same H (upd H2 D (.dK (mergeK kv gkv))) := fun c o e => by
      rw [upd_ne (fun q => by rw [q, nD0] at e; cases e)]
      exact s02 _ _ e
    have cm03 : Calm CK H (upd H2 D (.dK (mergeK kv gkv))) := (Calm.same s02).trans cm3
    generalize upd H2 D (.dK (mergeK kv gkv)) = H3 at cm3 p3 s03 cm03
    have hm3 := hm.same s03
    obtain ⟨hl3, _, _⟩ := hm3.q q mq
    refine ⟨_, rfl, _, rfl, q.l, _, _, .str q.r.kind, rfl, rfl, SqL.of hl3, atI_nat (j := 1) rfl, _, rfl, _, rfl, am, tb, rl, ts, t, ls, last, .ref D, .ref b, .tuple [.str "#", .str q.r.kind, .int (q.r.n : Int)], by rw [ek]; rfl, hm3, L, ht, nd, esi, (fun H9 s9 => .tup (.inl (.inl (s9 _ _ (s03 _ _ hb)))) (.cons (.str _) (.cons (.str _) (.cons (.int _) .nil)))), tag_shaped oq.k, fun H4 s4 => ?_⟩
    refine ⟨_, rfl, rfl, _, rfl, Vl.iteN rfl (Vl.iteN rfl ?_)⟩
    have hm4 := hm3.same s4
    obtain ⟨hl4, _, _⟩ := hm4.q q mq
    have ul := updP_len g q.r.ps
    refine ⟨_, rfl, _, rfl, q.l, _, _, .str q.r.kind, rfl, rfl, SqL.of hl4, atI_nat (j := 1) rfl, _, rfl, am, tb, rl, D, last, ts, t, updP g q.r.ps, by rw [ek]; rfl, hm4.m, hm4.t, TO, ht, nd, TB, p3.same s4, updP_gs G gs, by omega, fun H5 c5 cm5 e15 hD5 => ?_⟩
    have e15 : H5 am = some (.dK (mkv tb rl ((lchL t q.r.ps g last : Nat) : Int))) := e15
    have hD5 : KpD K H5 (lchP t q.r.ps g last) D := hD5
    have ne5 : ∀ c, c ≠ am → c ≠ D → c ∉ [am, D] := fun c h1 h2 m => by
      simp only [List.mem_cons, List.not_mem_nil, or_false] at m
      rcases m with rfl | rfl
      · exact h1 rfl
      · exact h2 rfl
    have nDH : ∀ {c o}, H c = some o → c ≠ D := fun e q => by rw [q, nD0] at e; cases e
    have k5 : ∀ c o, H c = some o → c ≠ am → H5 c = some o := fun c o e n => c5 _ _ (s4 _ _ (s03 _ _ e)) (ne5 c n (nDH e))
    have hl5 := k5 _ _ hl N.la
    refine ⟨_, rfl, _, rfl, q.l, _, _, _, rfl, rfl, hl5, rfl, by show 2 ≤ sizeLine; decide, fun p np => ?_⟩
    have cm05 : Calm CK H H5 := cm03.trans ((Calm.same s4).trans cm5)
    have cm6 : Calm CK H5 (upd H5 q.l (.lst [.ref q.t, .str q.r.kind, .ref D])) := .upd hl5 apt_lst
    have e6 : (upd H5 q.l (.lst [.ref q.t, .str q.r.kind, .ref D])) q.l = some (.lst [.ref q.t, .str q.r.kind, .ref D]) := upd_same
    have k6 : ∀ c o, H5 c = some o → c ≠ q.l → (upd H5 q.l (.lst [.ref q.t, .str q.r.kind, .ref D])) c = some o := fun c o e n => (upd_ne n).trans e
    have np : (upd H5 q.l (.lst [.ref q.t, .str q.r.kind, .ref D])) p = none := np
    show Q (.ref p) (upd (upd H5 q.l (.lst [.ref q.t, .str q.r.kind, .ref D])) p (.tup [.str "told", .non]))
    generalize upd H5 q.l (.lst [.ref q.t, .str q.r.kind, .ref D]) = H6 at cm6 e6 k6 np
    have s7 := sm_upd (o := .tup [V.str "told", .non]) np
    have e7 : (upd H6 p (.tup [V.str "told", .non])) p = some (.tup [V.str "told", .non]) := upd_same
    generalize upd H6 p (.tup [V.str "told", .non]) = H7 at s7 e7
    have cm07 := cm05.trans (cm6.trans (Calm.same s7))
    have nDq : D ≠ q.l := fun e => by rw [e, hl] at nD0; cases nD0
    refine k D p H7 (fun c o e n => ?_) cm07 nD0 ⟨s7 _ _ (k6 _ _ e15 (Ne.symm N.la)), Dv.calm cm07 _ _ (tabs_kpt TO.rd TO.nk) hm.t, ?_, fun q' hq' => ?_⟩ e7
    · simp only [List.mem_cons, not_or] at n
      exact s7 _ _ (k6 _ _ (k5 _ _ e n.1) fun z => n.2.2 (by rw [z]; exact List.mem_map_of_mem (f := (·.l)) mq))
    · rw [setL_rl]
      exact s7 _ _ (k6 _ _ (k5 _ _ hm.r (Ne.symm hm.amrl)) (Ne.symm N.lr))
    · rcases setL_mem hq' with ⟨h, nl⟩ | ⟨p', hp', e, rfl⟩
      · have N' := hm.ne L h
        exact (hm.q q' h).keep (L.ok q' h) cm07 (fun o eo => s7 _ _ (k6 _ _ (k5 _ _ eo N'.la) nl)) fun o eo => s7 _ _ (k6 _ _ (k5 _ _ eo N'.da) (N'.dl q mq))
      · have : p' = q := inj_l L.nl mq hp' e
        subst this
        exact ⟨s7 _ _ e6, cm07.t _ _ htg, ((hD5.calm cm6 fun o eo => k6 _ _ eo nDq).same s7).p⟩
theorem ok_lal {f fR fA : Addr} {fd fdR fdA : FuncData} (F : Fun K "_law_alter" "_law_alter" sLAl f fd) (T : TxtL4 mg) (DR : Def P w K mg base 7 "_law_row" fR fdR ["_law_m", "_law_tag_here"] (spRow K)) (DA : Def P w K mg base 1 "_law_around" fA fdA ["_law_table", "_law_kept"] (spLA K CK)) :
    FnOk P w K mg base CX0 8 f fd PLAl (spLAl K CK) := by
  refine F.ok scLAl (fun vs H Q E h => ?_) (fun cdv A outer s H vs Q E hr h => ?_)
  · obtain ⟨am, tb, rl, b, ts, t, ls, last, q, sn, u, x, rfl, _⟩ := h
    rfl
  · obtain ⟨am, tb, rl, b, ts, t, ls, last, q, sn, u, x, rfl, hm, L, TO, ht, nd, TB, hb, mq, ek, pl, gs, hx, ox, sx, k⟩ := h
    refine ⟨_, pss_cons (ps_set (i := 4) scLAl.nd rfl (Or.inl rfl) (pe_call DR.ok (hr.mono (by decide)) rfl DR.g DR.kp DR.b .nil pass0 (pa_cons (pv 0) (pa_cons (pv 1) pa_nil))))
      (pss_cons (ps_if (pt_cmp (pc_isN (pv 4))) Ow.pss_nv pss_nil)
      (pss_cons (ps_asg (pe_callTy call_dictV (by rfl) T.dict (by decide +kernel) (pa_cons (pe_ix (show IxR _ (rIxL K) from ix_list) (pv 4) pe_int (fun _ _ => rfl)) pa_nil)) (pg_sub (pv 4) pe_int set_list))
      (pss_cons (ps_dput (hu_of hr) (pe_ix (show IxR _ (rIxL K) from ix_list) (pv 4) pe_int (fun _ _ => rfl)) (pv 2) (pv 3) (by rfl))
      (pss_cons (ps_expr (pe_call DA.ok (hr.mono (by decide)) rfl DA.g DA.kp DA.b .nil pass0 (pa_cons (pe_dget (hu_of hr) (pe_dget (hu_of hr) (pv 0) pe_str (fun _ _ => rfl)) (pe_ix (show IxR _ (rIxL K) from ix_list) (pv 4) pe_int (fun _ _ => rfl)) (fun _ _ => rfl)) (pa_cons (pe_ix (show IxR _ (rIxL K) from ix_list) (pv 4) pe_int (fun _ _ => rfl)) pa_nil))))
      (pss_one (ps_ret (pe_tup (pa_cons pe_str (pa_cons pe_non pa_nil))))))))), ?_⟩
    have P := kps5 (K := K)
    obtain ⟨hl, htg, hpd⟩ := hm.q q mq
    obtain ⟨kv, ekv, pts⟩ := id hpd
    have N := hm.ne L mq
    have oq := L.ok q mq
    refine ⟨_, rfl, _, rfl, am, tb, rl, b, ts, ls, last, q, rfl, hm, L, mq, hb, fun H1 s1 => ?_⟩
    refine ⟨_, rfl, _, rfl, Vl.iteN rfl ?_⟩
    refine ⟨_, rfl, q.l, _, _, .ref q.d, rfl, rfl, SqL.of (s1 _ _ hl), atI_nat (j := 2) rfl, q.d, kv, rfl, .inl (s1 _ _ ekv), fun D nD => ?_⟩
    have nD0 : H D = none := by
      cases e : H D with
      | none => rfl
      | some o => rw [s1 _ _ e] at nD; cases nD
    have sD := sm_upd (o := .dK kv) nD
    have eD : (upd H1 D (.dK kv)) D = some (.dK kv) := upd_same
    generalize upd H1 D (.dK kv) = H2 at sD eD
    have s02 := Same.trans s1 sD
    have nDq : D ≠ q.l := fun e => by rw [e, hl] at nD0; cases nD0
    have hl2 := s02 _ _ hl
    refine ⟨_, rfl, q.l, _, _, _, rfl, rfl, hl2, rfl, ?_⟩
    have c3 : Ch [q.l] H2 (upd H2 q.l (.lst [.ref q.t, .str q.r.kind, .ref D])) := Ch.upd (by simp)
    have cm3 : Calm CK H2 (upd H2 q.l (.lst [.ref q.t, .str q.r.kind, .ref D])) := .upd hl2 apt_lst
    have e3 : (upd H2 q.l (.lst [.ref q.t, .str q.r.kind, .ref D])) q.l = some (.lst [.ref q.t, .str q.r.kind, .ref D]) := upd_same
    have eD3 : (upd H2 q.l (.lst [.ref q.t, .str q.r.kind, .ref D])) D = some (.dK kv) := (upd_ne nDq).trans eD
    show tSeq _ _ _ _ (upd H2 q.l (.lst [.ref q.t, .str q.r.kind, .ref D]))
    generalize upd H2 q.l (.lst [.ref q.t, .str q.r.kind, .ref D]) = H3 at c3 cm3 e3 eD3
    have k3 : ∀ c o, H c = some o → c ≠ q.l → H3 c = some o := fun c o e n => c3 _ _ (s02 _ _ e) (by simpa using n)
    have cm03 : Calm CK H H3 := (Calm.same s02).trans cm3
    have hD3 : KpD K H3 q.r.ps D := ⟨⟨kv, eD3, (pts.same s02).imp fun z hz v hv => Dv.calm cm3 _ _ (kv_kin (oq.kp z hz)) hv⟩, q.r, oq⟩
    obtain ⟨hD4, cm4⟩ := hD3.put (s := sn) (Dv.calm cm03 _ _ (kv_kin ox.kp) hx) ox eD3
    refine ⟨_, rfl, _, rfl, q.l, _, _, .ref D, rfl, rfl, SqL.of e3, atI_nat (j := 2) rfl, _, rfl, D, _, rfl, DPut.k (k := .inr sn) eD3 (Nat.lt_of_le_of_lt (show kv.length ≤ 1000 by rw [pts.len]; omega) (by decide)), ?_⟩
    have k4 : ∀ c o, H c = some o → c ≠ q.l → (upd H3 D (.dK (putK kv (.inr sn : Key) u))) c = some o := fun c o e n => (upd_ne fun z => by rw [z, nD0] at e; cases e).trans (k3 c o e n)
    have e4 : (upd H3 D (.dK (putK kv (.inr sn : Key) u))) q.l = some (.lst [.ref q.t, .str q.r.kind, .ref D]) := (upd_ne (Ne.symm nDq)).trans e3
    have cm04 := cm03.trans cm4
    generalize upd H3 D (.dK (putK kv (.inr sn : Key) u)) = H4 at hD4 cm4 k4 e4 cm04
    have hm4 : H4 am = some (.dK (mkv tb rl (last : Int))) := k4 _ _ hm.m (Ne.symm N.la)
    have ht4 : Dv (O5 K) H4 (tabsD ts) (.ref tb) := Dv.calm cm04 _ _ (tabs_kpt TO.rd TO.nk) hm.t
    have tE : ED (O5 K) (tDGet (tDGet (tVar 0) (tC (.str "tables"))) (tOp (rIxL K) (tVar 4) (tC (.int 1)))) [some (.ref am), some (.ref b), some (.str sn), some u, some (.ref q.l)] H4 (tabD t) :=
      ed_tabs nd ht ((ep_dK (R := fun v H => Dv (O5 K) H (tabsD ts) v) (ep_pv rfl fun H2 s2 => ⟨am, _, _, rfl, s2 _ _ hm4, mkv1, fun H3 s3 => P.dv (Same.trans s2 s3) ht4⟩) ep_str).ed) ((ep_ixL (i := 1) (xs := [.ref q.t, .str q.r.kind, .ref D]) (u := .str t.name) (ep_pv rfl fun H4 s4 => ⟨q.l, rfl, s4 _ _ e4⟩) (by rw [ek]; rfl)))
    refine tE.run fun tv H5 s5 htv => ?_
    have l5 : (putS q.r.ps sn x).length ≤ 201 := Nat.le_trans put_len (by omega)
    refine ⟨_, rfl, q.l, _, _, .ref D, rfl, rfl, SqL.of (s5 _ _ e4), atI_nat (j := 2) rfl, tv, D, t, putS q.r.ps sn x, rfl, htv, hD4.same s5, GvS.src TB (gs.put sx), (by have := TB.ml; omega), fun H6 c6 cm6 hD6 => ?_⟩
    have hD6 : KpD K H6 (altP t q.r.ps sn x) D := hD6
    refine ⟨by show 2 ≤ sizeLine; decide, fun p np => ?_⟩
    have s7 := sm_upd (o := .tup [V.str "told", .non]) np
    have e7 : (upd H6 p (.tup [V.str "told", .non])) p = some (.tup [V.str "told", .non]) := upd_same
    generalize upd H6 p (.tup [V.str "told", .non]) = H7 at s7 e7
    have cm07 := cm04.trans ((Calm.same s5).trans (cm6.trans (Calm.same s7)))
    have k7 : ∀ c o, H c = some o → c ≠ q.l → H7 c = some o := fun c o e n => s7 _ _ (c6 _ _ (s5 _ _ (k4 c o e n)) (by simp; intro z; rw [z, nD0] at e; cases e))
    refine k D p H7 (fun c o e n => ?_) cm07 nD0 ⟨k7 _ _ hm.m (Ne.symm N.la), Dv.calm cm07 _ _ (tabs_kpt TO.rd TO.nk) hm.t, ?_, fun q' hq' => ?_⟩ e7
    · simp only [List.mem_cons, not_or] at n
      exact k7 _ _ e fun z => n.2.2 (by rw [z]; exact List.mem_map_of_mem (f := (·.l)) mq)
    · rw [setL_rl]
      exact k7 _ _ hm.r (Ne.symm N.lr)
    · rcases setL_mem hq' with ⟨h, nl⟩ | ⟨p', hp', e, rfl⟩
      · have N' := hm.ne L h
        exact (hm.q q' h).keep (L.ok q' h) cm07 (fun o eo => k7 _ _ eo nl) fun o eo => k7 _ _ eo (N'.dl q mq)
      · have : p' = q := inj_l L.nl mq hp' e
        subst this
        exact ⟨s7 _ _ (c6 _ _ (s5 _ _ e4) (by simpa using Ne.symm nDq)), cm07.t _ _ htg, (hD6.same s7).p⟩
theorem ok_lr {f fR : Addr} {fd fdR : FuncData} (F : Fun K "_law_read" "_law_read" sLR f fd) (T : TxtL4 mg) (neC : ∃ C : Addr, True) (DR : Def P w K mg base 7 "_law_row" fR fdR ["_law_m", "_law_tag_here"] (spRow K)) : FnOk P w K mg base CX0 8 f fd ["_law_m", "_law_tag_here"] (spLR K) := by
  refine F.ok scLR (fun vs H Q E h => ?_) (fun cdv A outer s H vs Q E hr h => ?_)
  · obtain ⟨am, tb, rl, b, ts, t, ls, last, q, rfl, _⟩ := h
    rfl
  · obtain ⟨am, tb, rl, b, ts, t, ls, last, q, rfl, hm, L, TO, ht, nd, hb, mq, ek, pl, hn, k⟩ := h
    refine ⟨_, pss_cons (ps_set (i := 2) scLR.nd rfl (Or.inl rfl) (pe_call DR.ok (hr.mono (by decide)) rfl DR.g DR.kp DR.b .nil pass0 (pa_cons (pv 0) (pa_cons (pv 1) pa_nil))))
      (pss_cons (ps_if (pt_cmp (pc_isN (pv 2))) Ow.pss_nv pss_nil)
      (pss_cons (ps_set (i := 3) scLR.nd rfl (Or.inl rfl) (pe_callTy call_dictV (by rfl) T.dict (by decide +kernel) (pa_cons (pe_ix (show IxR _ (rIxL K) from ix_list) (pv 2) pe_int (fun _ _ => rfl)) pa_nil)))
      (pss_cons (ps_for PassesOwn.never rfl (pi_tup (pe_dget (hu_of hr) (pe_dget (hu_of hr) (pe_dget (hu_of hr) (pv 0) pe_str (fun _ _ => rfl)) (pe_ix (show IxR _ (rIxL K) from ix_list) (pv 2) pe_int (fun _ _ => rfl)) (fun _ _ => rfl)) pe_str (fun _ _ => rfl)))
          (pg_tup rfl (pgs_cons (pg_name (i := 4) scLR.nd rfl (Or.inl rfl)) (pgs_cons (pg_name (i := 5) scLR.nd rfl (Or.inl rfl)) (pgs_cons (pg_name (i := 6) scLR.nd rfl (Or.inl rfl)) (pgs_cons (pg_name (i := 7) scLR.nd rfl (Or.inl rfl)) pgs_nil)))))
          (pss_one (ps_if (PW.pt (pw_and (pt_cmpR op_notN (pv 7) pe_non (nomark _)) (pw_and1 (pt_val (pe_callB (call_is6 (T := "str") (by simp)) (by rfl) T.isi (by decide +kernel) (pa_cons (pe_dget (hu_of hr) (pv 3) (pv 4) (fun _ _ => rfl)) (pa_cons (pe_bltn (v := .ty "str") (by rfl) T.str (by decide +kernel) rfl) pa_nil)))))))
            (pss_one (ps_dput (hu_of hr) (pv 3) (pv 4) (pe_dget2 (hu_of hr) (pv 7) (pe_dget (hu_of hr) (pv 3) (pv 4) (fun _ _ => rfl)) (pe_dget (hu_of hr) (pv 3) (pv 4) (fun _ _ => rfl)) ⟨rfl, rfl, rfl, rfl⟩) (by rfl))) pss_nil)))
      (pss_one (ps_ret (pv 3)))))), ?_⟩
    have P := kps5 (K := K)
    obtain ⟨hl, htg, hpd⟩ := hm.q q mq
    obtain ⟨kv, ekv, pts⟩ := id hpd
    have oq := L.ok q mq
    refine ⟨_, rfl, _, rfl, am, tb, rl, b, ts, ls, last, q, rfl, hm, L, mq, hb, fun H1 s1 => ?_⟩
    refine ⟨_, rfl, _, rfl, Vl.iteN rfl ?_⟩
    refine ⟨_, rfl, q.l, _, _, .ref q.d, rfl, rfl, SqL.of (s1 _ _ hl), atI_nat (j := 2) rfl, q.d, kv, rfl, .inl (s1 _ _ ekv), fun D nD => ?_⟩
    have nD0 : H D = none := by
      cases e : H D with
      | none => rfl
      | some o => rw [s1 _ _ e] at nD; cases nD
    have sD := sm_upd (o := .dK kv) nD
    have eD : (upd H1 D (.dK kv)) D = some (.dK kv) := upd_same
    generalize upd H1 D (.dK kv) = H2 at sD eD
    have s02 := Same.trans s1 sD
    show tSeq _ _ _ [some (.ref am), some (.ref b), some (.ref q.l), some (.ref D), none, none, none, none] H2
    have hm2 := hm.same s02
    have hD2 : PD K H2 q.r.ps D := ⟨kv, eD, pts.same s02⟩
    have tE : ED (O5 K) (tDGet (tDGet (tDGet (tVar 0) (tC (.str "tables"))) (tOp (rIxL K) (tVar 2) (tC (.int 1)))) (tC (.str "given"))) [some (.ref am), some (.ref b), some (.ref q.l), some (.ref D), none, none, none, none] H2 (.tup (t.gv.map gvrD)) :=
      ed_get (i := 1) (ed_tab hm2 nd ht rfl ((ep_ixL (i := 1) (xs := [.ref q.t, .str q.r.kind, .ref q.d]) (u := .str t.name) (ep_pv rfl fun H4 s4 => ⟨q.l, rfl, s4 _ _ (s02 _ _ hl)⟩) (by rw [ek]; rfl)))) ep_str rfl rfl
    refine for_tupC (CK := 0) tE (gvs_kpt (TO.rd t ht)) fun H3 s3 => ⟨fun i σ' H' => (∃ w4 w5 w6 w7, σ' = [some (.ref am), some (.ref b), some (.ref q.l), some (.ref D), w4, w5, w6, w7]) ∧ Same H H' ∧ Calm 0 H3 H' ∧ PD K H' (rdF (t.gv.take i) q.r.ps) D,
      ⟨⟨_, _, _, _, rfl⟩, Same.trans s02 s3, Calm.refl _, hD2.same s3⟩, fun i σ' H' _ pv => pv.2.2.1, fun i dd u σ' H' e pv hd => ?_, fun σ' H' pv => ?_⟩
    · obtain ⟨⟨w4, w5, w6, w7, rfl⟩, sH, cm, hP⟩ := pv
      obtain ⟨r, er, rfl⟩ : ∃ r, t.gv[i]? = some r ∧ dd = gvrD r := by
        rw [List.getElem?_map] at e
        cases e' : t.gv[i]? with
        | none => rw [e'] at e; cases e
        | some r => rw [e'] at e; cases e; exact ⟨r, rfl, rfl⟩
      have sc := rdF_succ (a := q.r.ps) er
      have okq := rdF_ok (R := q.r) (t.gv.take i) q.r.ps oq
      have kq := rdF_keys (t.gv.take i) q.r.ps fun r hr => hn r (List.mem_of_mem_take hr)
      generalize hA : rdF (t.gv.take i) q.r.ps = psi at *
      have lq : psi.length ≤ 1000 := by have h := congrArg List.length kq; rw [List.length_map, List.length_map] at h; omega
      obtain ⟨kv2, ekv2, pts2⟩ := id hP
      obtain ⟨x, ex⟩ := getS_some (ps := psi) (s := r.nm) (by rw [kq]; exact hn r (List.mem_of_getElem? er))
      obtain ⟨xv, exv, hxv⟩ := (pts2.get r.nm).2 x ex
      have okx := okq.vs _ (getS_mem ex)
      have g2 : DGet H' D (.str r.nm) (some xv) := .inl ⟨kv2, .inr r.nm, .inl ekv2, rfl, exv.symm⟩
      obtain ⟨ua, us, rfl, ha, u1, r1, rfl, h1, u2, r2, rfl, h2, u3, r3, rfl, h3, u4, r4, rfl, h4, e5⟩ := hd
      cases (show r4 = [] from e5)
      cases (show u1 = .str r.nm from h1)
      have h4 : Dv (O5 K) H' (rdgD r.rd) u4 := h4
      unfold rdS1 at sc
      rw [ex] at sc
      refine ⟨ua, _, rfl, ha, rfl, _, _, rfl, _, _, rfl, _, _, rfl, _, _, rfl, rfl, ?_⟩
      cases erd : r.rd with
      | none =>
        rw [erd] at h4 sc
        cases (show u4 = .non from h4)
        refine ⟨_, rfl, rfl, _, rfl, Vl.iteN rfl (Vl.iteN rfl ⟨⟨_, _, _, _, rfl⟩, sH, cm, ?_⟩)⟩
        rw [sc, show toldD none ((some x).getD .non) = x by cases x <;> rfl, put_same ex]
        exact hP
      | some l =>
        rw [erd] at h4 sc
        obtain ⟨ra, rkv, rfl, hra, rnd, rk, rl'⟩ := id h4
        refine ⟨_, rfl, rfl, _, rfl, Vl.iteC rfl ⟨_, rfl, _, rfl, D, xv, rfl, g2, xv, x, rfl, hxv, _, rfl, ?_⟩⟩
        cases es : isT6 "str" x with
        | false =>
          refine Vl.iteN rfl ⟨⟨_, _, _, _, rfl⟩, sH, cm, ?_⟩
          rw [sc, show toldD (some l) ((some x).getD .non) = x by
            cases x with
            | str s => simp [isT6] at es
            | _ => rfl, put_same ex]
          exact hP
        | true =>
          obtain ⟨z, rfl⟩ : ∃ z, x = .str z := by
            cases x with
            | str s => exact ⟨s, rfl⟩
            | bl b => simp [isT6] at es
            | _ => cases es
          cases (show xv = .str z from hxv)
          have er2 := rd_get (K := K) (s := z) rk rl'
          refine Vl.iteC rfl ⟨_, rfl, ra, rfl, .inl ⟨rkv, .inl hra⟩, _, rfl, _, rfl, D, _, rfl, g2, _, rfl, _, rfl, D, _, rfl, g2, valV rkv (.inr z : Key), .inl ⟨rkv, .inr z, .inl hra, rfl, rfl⟩, ?_⟩
          rw [er2]
          have cmD : Calm 0 H' (upd H' D (.dK (putK kv2 (.inr r.nm : Key) (.str (rdS l z))))) := .upd ekv2 (apt_a (by rw [pts2.keys, List.head?_map, okq.hd]; rfl))
          refine ⟨_, rfl, _, rfl, D, _, rfl, DPut.k (k := .inr r.nm) ekv2 (Nat.lt_of_le_of_lt (show kv2.length ≤ 1000 by rw [pts2.len]; exact lq) (by decide)), ⟨_, _, _, _, rfl⟩, fun c o e => ?_, cm.trans cmD, ?_⟩
          · have nc : c ≠ D := fun q => by rw [q, nD0] at e; cases e
            rw [upd_ne nc]
            exact sH _ _ e
          · rw [sc]
            refine ⟨_, upd_same, (PtsD.put (x := .str (rdS l z)) (v := .str (rdS l z)) rfl okq.nd pts2).imp fun y hy v hv => Dv.calm cmD _ _ (kv_kin ?_) hv⟩
            rcases put_mem hy with hy | rfl
            · exact okq.kp y hy
            · rfl
    · obtain ⟨⟨w4, w5, w6, w7, rfl⟩, sH, cm, hP⟩ := pv
      rw [List.length_map, List.take_length] at hP
      exact ⟨_, rfl, k D H' nD0 sH hP⟩
end
end Kd

set_option Elab.async false
set_option linter.all false
set_option maxRecDepth 100000
set_option maxHeartbeats 4000000
/-! _law_alike, _law_said -/
namespace Ed
open PySem PySem.Spec PyProof.Rows L2 Dq Vl Kd
variable {K : PySem.W.Frag} {σ : L2.St} {H : Hp} {te ta tb : TE} {tt tu : TT}
theorem et_neS {i j : Str} (h : EP ta σ H fun v _ => v = .str i) (h2 : EP tb σ H fun v _ => v = .str j) : ET (tTest (tOp rNe ta tb)) σ H (!decide (i = j)) := fun H1 s Q k =>
  h H1 s _ fun v H2 s2 e1 => h2 H2 (Same.trans s s2) _ fun u H3 s3 e2 => by
    subst e1 e2
    exact ⟨rfl, _, rfl, by
      have := k H3 (Same.trans s2 s3)
      rwa [show decide (V.str i = V.str j) = decide (i = j) from decide_eq_decide.mpr ⟨fun e => V.str.inj e, fun e => by rw [e]⟩]⟩
theorem L2rd {H H' : Hp} {a : Addr} {o : HO} (s : Same H H') : Rd H a o → Rd H' a o := fun h => h.elim (fun e => .inl (s _ _ e)) fun ⟨q, e⟩ => .inr ⟨q, s _ _ e⟩
/-- t[i] of a thing told -/
theorem ed_thing {rows : List Ro} {kvs : List (List Key × V)} {f : Ro → D5} {sd b : Addr} {k : Str} {n : Nat} {r : Ro} (h2 : EP ta σ H fun v H => v = .ref sd ∧ Rd H sd (.dT kvs)) (h : EP tb σ H fun v H => v = .ref b ∧ H b = some (.tup [.str "#", .str k, .int (n : Int)])) (rw' : RwF K H f rows kvs) (e : rows.find? (isRow k n) = some r) :
    ED (O5 K) (tDGet ta tb) σ H (f r) := fun H1 s1 Q q => h2 H1 s1 _ fun v H2 s2 ⟨ev, es⟩ => h H2 (Same.trans s1 s2) _ fun y H3 s3 ⟨ey, eb⟩ => by
  subst ev ey
  obtain ⟨_, g2⟩ := rwf_get k n rw'
  obtain ⟨v, ev, hv⟩ := g2 r e
  exact ⟨sd, v, rfl, .inr ⟨kvs, keyT k n, b, L2rd s3 es, rfl, eb, ev.symm⟩, q v H3 (Same.trans s2 s3) ((kps5 (K := K)).dv (Same.trans s1 (Same.trans s2 s3)) hv)⟩
theorem keys_dv {f : Ro → D5} : ∀ {rows : List Ro} {kvs : List (List Key × V)} {bs : List Addr}, RwF K H f rows kvs → IsKeys H kvs bs → DvL (O5 K) H (rows.map tagR) (bs.map V.ref)
  | [], _, _, h, p => by
    cases h
    cases p
    rfl
  | r :: rs, _, _, ⟨v, kvs, e, h, q⟩, p => by
    subst e
    cases p with
    | cons hb t => exact ⟨_, _, rfl, ⟨_, _, rfl, .inl (.inl hb), _, _, rfl, rfl, _, _, rfl, rfl, _, _, rfl, rfl, rfl⟩, keys_dv q t⟩
/-- list(d) of a dict by Tags -/
theorem ed_listTh {rows : List Ro} {kvs : List (List Key × V)} {f : Ro → D5} {sd : Addr} (h : EP ta σ H fun v H => v = .ref sd ∧ Rd H sd (.dT kvs)) (rw' : RwF K H f rows kvs) :
    ED (O5 K) (tCB (fun xs H Q => ∃ d kvs, xs = [V.ref d] ∧ Rd H d (.dT kvs) ∧ ∀ p bs, H p = none → IsKeys H kvs bs → Q (.ref p) (upd H p (.lst (bs.map V.ref)))) (tCons ta tNil)) σ H (.lst (rows.map tagR)) := fun H1 s1 Q q => h H1 s1 _ fun v H2 s2 ⟨ev, es⟩ =>
  ⟨sd, kvs, by rw [ev], es, fun p bs np hk => q _ _ (Same.upd s2 np) ⟨p, _, rfl, upd_same, (kps5 (K := K)).dvl (sm_upd np) (keys_dv (rw'.same (Same.trans s1 s2)) hk)⟩⟩
end Ed
namespace Kd
open PySem PySem.Spec PyProof.Rows L2 Dq Vl Pf Ed ClX LamX Clz
theorem dpL_le {n : Nat} : ∀ {l : List D5}, (∀ x ∈ l, dp x ≤ n) → dpL l ≤ n
  | [], _ => by rw [dpL]; exact Nat.zero_le _
  | x :: l, h => by
    rw [dpL]
    exact Nat.max_le.mpr ⟨h x List.mem_cons_self, dpL_le fun y hy => h y (List.mem_cons_of_mem _ hy)⟩
theorem plnL_all : ∀ {l : List D5}, (∀ x ∈ l, pln x = true) → plnL l = true
  | [], _ => by simp [plnL]
  | x :: l, h => by rw [plnL, h x List.mem_cons_self, plnL_all fun y hy => h y (List.mem_cons_of_mem _ hy)]; rfl
theorem kl_pln {d : D5} (h : pln (keyD d) = true) : plnL (kl d) = true := by
  rw [keyD_tup, pln] at h
  exact h
/-- a tuple of Tags -/
theorem tags_lyk {rows : List Ro} (h : rows.length ≤ 1000) : lyk 5 (.tup (rows.map tagR)) = true := by
  have e1 : ∀ r : Ro, lyk 4 (tagR r) = true := fun r => by simp [lyk, tagR, tagOf, nolL, nol]
  have e2 : nolL (rows.map tagR) = true := nolL_all fun d hd => by obtain ⟨r, _, rfl⟩ := List.mem_map.mp hd; rfl
  simp only [lyk, Bool.and_eq_true, decide_eq_true_eq, List.length_map]
  refine ⟨List.all_eq_true.mpr fun d hd => ?_, e2, h⟩
  obtain ⟨r, _, rfl⟩ := List.mem_map.mp hd
  exact e1 r
theorem tags_pln {rows : List Ro} : plnL (kl (.tup (rows.map tagR))) = true ∧ dpL (kl (.tup (rows.map tagR))) ≤ 30 := by
  have e : kl (.tup (rows.map tagR)) = .str "tuple" :: (rows.map tagR).map keyD := by
    show (match keyD (.tup (rows.map tagR)) with | .tup l => l | _ => []) = _
    rw [keyD, keyL_map]
  rw [e]
  have t : ∀ r : Ro, pln (keyD (tagR r)) = true ∧ dp (keyD (tagR r)) ≤ 30 := fun r => by
    rw [keyD_tup, show kl (tagR r) = _ from kl_tag _ _]
    simp [pln, plnL, dp, dpL]
  refine ⟨?_, ?_⟩
  · rw [plnL, plnL_all fun d hd => ?_]
    · rfl
    · obtain ⟨x, hx, rfl⟩ := List.mem_map.mp hd
      obtain ⟨r, _, rfl⟩ := List.mem_map.mp hx
      exact (t r).1
  · refine dpL_le fun d hd => ?_
    rcases List.mem_cons.mp hd with rfl | hd
    · exact Nat.zero_le _
    · obtain ⟨x, hx, rfl⟩ := List.mem_map.mp hd
      obtain ⟨r, _, rfl⟩ := List.mem_map.mp hx
      exact (t r).2

theorem mapP_nol {R : Ro} (o : OkR R) : nol (mapP R.ps) = true := by
  rw [mapP, nol]
  exact nolL_all fun x hx => by obtain ⟨p, hp, rfl⟩ := List.mem_map.mp hx; exact (o.vs p hp).nl
theorem mapP_lyk {R : Ro} (o : OkR R) (s : OkS R) : lyk 5 (mapP R.ps) = true := by
  have e1 : (R.ps.map (·.2)).all (lyk 4) = true := List.all_eq_true.mpr fun x hx => by
    obtain ⟨p, hp, rfl⟩ := List.mem_map.mp hx
    exact (o.vs p hp).lk
  have e2 : nolL (R.ps.map (·.2)) = true := nolL_all fun x hx => by obtain ⟨p, hp, rfl⟩ := List.mem_map.mp hx; exact (o.vs p hp).nl
  simp only [mapP, lyk, e1, e2, s.so, List.length_map, decide_eq_true s.ln, Bool.and_true]
theorem mapP_kpln {R : Ro} (o : OkR R) : plnL (kl (mapP R.ps)) = true ∧ dpL (kl (mapP R.ps)) ≤ 30 := by
  refine ⟨kl_pln (key_pln _ (mapP_nol o) (mapP_any o)), ?_⟩
  have g : ∀ (ks : List Str) (l : List D5), (∀ x ∈ l, dp (keyD x) ≤ 8) → dpL (keyM ks l) ≤ 20 := fun ks l => by
    induction l generalizing ks with
    | nil => intro _; rw [keyM, dpL]; exact Nat.zero_le _
    | cons x l ih =>
      intro h
      have h1 := h x List.mem_cons_self
      have h2 := ih ks.tail fun y hy => h y (List.mem_cons_of_mem _ hy)
      rw [keyM, dpL]
      refine Nat.max_le.mpr ⟨?_, h2⟩
      simp only [dp, dpL]
      omega
  have e : ∀ ks l, kl (.map ks l) = .str "map" :: keyM ks l := fun ks l => by
    show (match keyD (.map ks l) with | .tup l => l | _ => []) = _
    rw [keyD]
  rw [mapP, e, dpL]
  refine Nat.max_le.mpr ⟨Nat.zero_le _, Nat.le_trans (g _ _ fun x hx => ?_) (by omega)⟩
  obtain ⟨p, hp, rfl⟩ := List.mem_map.mp hx
  exact (o.vs p hp).dk
abbrev sAl : Stmt := tp 55
abbrev NAl : List Str := ["_law_world", "_law_m", "_law_things", "_law_lines", "_law_row_here", "_law_tag_here", "_law_kind", "_law_kept"]
abbrev PAl : List Str := ["_law_world", "_law_m"]
theorem scAl : FnScope NAl PAl (defScope sAl) := ⟨rfl, rfl, rfl, by decide +kernel, rfl, by decide +kernel, by decide +kernel⟩
def spAl (K : PySem.W.Frag) (CW : Addr) : Sp := fun vs H Q _ => ∃ (aw kd sd am tb rl : Addr) (ts : List Tb) (rs : Rs) (ls : List Lr) (last last' : Nat), vs = [.ref aw, .ref am] ∧ WAt K CW H aw kd sd rs last ∧ MAt K H am tb rl ts ls last' ∧ WOk ts rs last ∧ LOk ts ls ∧ rs.map (·.1) = ls.map (·.r) ∧ (∀ q ∈ ls, OkS q.r) ∧
  ∀ H', Same H H' → Q (.bl true) H'
structure TxtL (mg : Str → Option Value) : Prop where
  tuple : mg "tuple" = none
  list : mg "list" = none
section
variable {P : Program} {w : World} {K : PySem.W.Frag} {mg : Str → Option Value} {base : Heap} {CW : Addr}
theorem ok_al {f fK fT : Addr} {fd fdK fdT : FuncData} (F : Fun K "_law_alike" "_law_alike" sAl f fd) (TL : TxtL mg) (T : TxtW K mg CW) (MT : Meth K CW "things" fT) (GT : FnOk P w K mg base CX0 7 fT fdT ["self"] (spTh K CW)) (bT : Binds K fdT ["self"] []) (DK : Def P w K mg base 6 "_law_key" fK fdK ["_law_value"] (spKey K 5)) : FnOk P w K mg base CX0 8 f fd PAl (spAl K CW) := by
  refine F.ok scAl (fun vs H Q E h => ?_) (fun cdv A outer s H vs Q E hr h => ?_)
  · obtain ⟨aw, kd, sd, am, tb, rl, ts, rs, ls, last, last', rfl, _⟩ := h
    rfl
  · obtain ⟨aw, kd, sd, am, tb, rl, ts, rs, ls, last, last', rfl, hw, hm, W, L, erl, oS, q⟩ := h
    refine ⟨_, pss_cons (ps_par (i := 2) (j := 3) (by rfl) scAl.nd rfl rfl (by decide) rfl rfl (pa_cons (pe_meth0 (pv 0) T.cl MT GT (hr.mono (by decide)) bT .nil pass0) (pa_cons (pe_dget (hu_of hr) (pv 1) pe_str (fun _ _ => rfl)) pa_nil)) (by rfl))
      (pss_cons (ps_if (pt_cmpR (op_ne5 (hu64 hr)) (pe_call DK.ok (hr.mono (by decide)) rfl DK.g DK.kp DK.b .nil pass0 (pa_cons (pe_callTy call_tuple_of (by rfl) TL.tuple (by decide +kernel) (pa_cons (pe_callTy (call_list_dT rfl) (by rfl) TL.list (by decide +kernel) (pa_cons (pv 2) pa_nil)) pa_nil)) pa_nil))
          (pe_call DK.ok (hr.mono (by decide)) rfl DK.g DK.kp DK.b .nil pass0 (pa_cons (pe_callTy call_tuple_of (by rfl) TL.tuple (by decide +kernel) (pa_cons (pe_lc (own := [("_law_row_here", 4)]) (g := gName 4) (tt := tYes) rfl scAl.nd (pi_list (pv 3)) (blkOk_by (N := NAl) (sc := defScope sAl) (by decide +kernel)) (fun _ _ _ _ _ => pg_name (i := 4) scAl.nd rfl (Or.inl rfl)) (fun _ _ _ _ _ => pts_nil) (fun _ _ _ _ _ => pe_ix (show IxR _ (rIxL K) from ix_list) (pv 4) pe_int (fun _ _ => rfl))) pa_nil)) pa_nil)) (nomark _)) (pss_one (ps_ret pe_bl)) pss_nil)
      (pss_cons (ps_for PassesOwn.never rfl (pi_list (pv 3)) (pg_unl rfl (pgs_cons (pg_name (i := 5) scAl.nd rfl (Or.inl rfl)) (pgs_cons (pg_name (i := 6) scAl.nd rfl (Or.inl rfl)) (pgs_cons (pg_name (i := 7) scAl.nd rfl (Or.inl rfl)) pgs_nil))))
        (pss_one (ps_if (PW.pt (pw_or (pt_cmpR op_ne (pe_ixT (pe_dget (hu_of hr) (pv 2) (pv 5) (fun _ _ => rfl)) pe_int (fun _ _ => rfl)) (pv 6) (nomark _)) (pw_or1 (pt_cmpR (op_ne5 (hu64 hr)) (pe_call DK.ok (hr.mono (by decide)) rfl DK.g DK.kp DK.b .nil pass0 (pa_cons (pe_ixT (pe_dget (hu_of hr) (pv 2) (pv 5) (fun _ _ => rfl)) pe_int (fun _ _ => rfl)) pa_nil))
          (pe_call DK.ok (hr.mono (by decide)) rfl DK.g DK.kp DK.b .nil pass0 (pa_cons (pv 7) pa_nil)) (nomark _))))) (pss_one (ps_ret pe_bl)) pss_nil)))
      (pss_one (ps_ret pe_bl)))), ?_⟩
    have P := kps5 (K := K)
    obtain ⟨dx, ew⟩ := hw.w
    have lkn : ∀ {nm : Str} {n : Int}, (nm == "_kinds") = false → (nm == "_standing") = false → (nm == "_last") = false → (wfl kd sd n).lookup nm = none := fun a b c => (lk_tl a).trans ((lk_tl b).trans ((lk_tl c).trans rfl))
    have inR : ∀ p ∈ rs, ∃ q ∈ ls, q.r = p.1 := fun p hp => by
      have : p.1 ∈ ls.map (·.r) := by rw [← erl]; exact List.mem_map_of_mem (f := (·.1)) hp
      exact List.mem_map.mp this
    have rl1 : (ls.map (·.r)).length ≤ 1000 := by rw [List.length_map]; exact L.ln
    refine ⟨_, rfl, aw, dx, _, rfl, ew, lkn (by decide +kernel) (by decide +kernel) (by decide +kernel), aw, kd, sd, rs, last, ts, rfl, hw, W, (fun p hp => by
      obtain ⟨q', hq', e⟩ := inR p hp
      rw [← e]
      have := (oS q' hq').ln
      omega), fun D kvs H1 s1 _ eD rr => ?_⟩
    rw [erl] at rr
    have hm1 := hm.same s1
    refine (ep_rows (σ := [some (.ref aw), some (.ref am), none, none, none, none, none, none]) (i := 1) hm1 rfl).run fun rv H2 s2 erv => ?_
    subst erv
    refine ⟨_, _, rfl, ?_⟩
    show tSeq _ _ _ [some (.ref aw), some (.ref am), some (.ref D), some (.ref rl), none, none, none, none] H2
    have hm2 := hm1.same s2
    have rr2 := rr.same s2
    have eD2 := s2 _ _ eD
    have s02 := Same.trans s1 s2
    have hkey : ∀ {σ : L2.St} {H' : Hp} {ta : TE} {d : D5}, ED (O5 K) ta σ H' d → lyk 5 d = true → ED (O5 K) (tCall (spKey K 5) [] E0 (tCons ta tNil)) σ H' (.tup (kl d)) := fun {σ H' ta d} h ok H3 s3 Q3 q3 =>
      h H3 s3 _ fun v H4 s4 hv => ⟨v, d, rfl, hv, ok, fun v' H5 s5 hd' => q3 v' H5 (Same.trans s4 s5) (by rw [← keyD_tup]; exact hd')⟩
    have e1 : ED (O5 K) _ [some (.ref aw), some (.ref am), some (.ref D), some (.ref rl), none, none, none, none] H2 (.tup ((ls.map (·.r)).map tagR)) := ed_tupL P (ed_listTh (ta := tVar 2) (ep_pv rfl fun H3 s3 => ⟨rfl, .inl (s3 _ _ eD2)⟩) rr2)
    have e2 : ED (O5 K) (tLc (iList K (tVar 3)) (gName 4) tYes (tOp (rIxL K) (tVar 4) (tC (.int 0))) [4]) [some (.ref aw), some (.ref am), some (.ref D), some (.ref rl), none, none, none, none] H2 (.lst ((ls.map (·.r)).map tagR)) := by
      have := ed_lcV (K := K) (te := tOp (rIxL K) (tVar 4) (tC (.int 0))) (i := 4) (vs := ls.map fun q => V.ref q.l) (f := fun j => ((ls[j]?.map fun q => tagR q.r).getD (tagOf Str.empty 0))) (ta := tVar 3) (σ := [some (.ref aw), some (.ref am), some (.ref D), some (.ref rl), none, none, none, none]) (H := H2) (ep_pv rfl fun H3 s3 => ⟨rl, rfl, s3 _ _ hm2.r⟩) (by rw [List.length_map]; have := L.ln; omega) (fun j hj => by
        cases e : ls[j]? with
        | none => rfl
        | some q => rfl) (fun u => rfl) fun j u H3 eu s3 => by
        obtain ⟨q1, er, rfl⟩ := ls_at eu
        obtain ⟨hl, ht, _⟩ := (hm2.same s3).q q1 (List.mem_of_getElem? er)
        rw [er]
        exact fun H4 s4 Q4 q4 => ⟨_, rfl, q1.l, _, _, .ref q1.t, rfl, rfl, SqL.of (s4 _ _ hl), atI_nat (j := 0) rfl, q4 _ _ (Same.refl _) ⟨q1.t, _, rfl, .inl (.inl (s4 _ _ ht)), _, _, rfl, rfl, _, _, rfl, rfl, _, _, rfl, rfl, rfl⟩⟩
      have el : (List.range (ls.map fun q => V.ref q.l).length).map (fun j => ((ls[j]?.map fun q => tagR q.r).getD (tagOf Str.empty 0))) = (ls.map (·.r)).map tagR := by
        rw [List.length_map]
        refine List.ext_getElem (by simp) fun j h1 h2 => ?_
        simp at h1 h2 ⊢
        rw [List.getElem?_eq_getElem h1]
        rfl
      rw [el] at this
      exact this
    refine (et_neP (hkey e1 (tags_lyk rl1)) (hkey (ed_tupL P e2) (tags_lyk rl1)) tags_pln.1 tags_pln.2).skip fun H3 s3 => ?_
    have s23 := Same.trans s02 s3
    have erl3 := s3 _ _ hm2.r
    refine ⟨_, rfl, rl, rfl, ⟨_, SqL.of erl3⟩, ?_⟩
    refine for_it (walk_list (K := K) (xs := ls.map fun q => V.ref q.l)) (fun i σ' H' => (∃ w4 w5 w6 w7, σ' = [some (.ref aw), some (.ref am), some (.ref D), some (.ref rl), w4, w5, w6, w7]) ∧ Same H3 H') ⟨⟨_, _, _, _, rfl⟩, Same.refl _⟩ (fun i σ' H' _ p => SqL.of (p.2 _ _ erl3)) (fun i x σ' H4 H4' hi p y => ?_) (fun σ' H9 p => ?_)
    · obtain ⟨⟨w4, w5, w6, w7, rfl⟩, s4⟩ := p
      obtain ⟨rfl, ex⟩ := y
      have s34 := Same.trans s3 s4
      obtain ⟨q1, er, rfl⟩ := ls_at ex
      have mq := List.mem_of_getElem? er
      obtain ⟨hl, htt, hpd⟩ := (hm2.same s34).q q1 mq
      refine ⟨q1.l, [.ref q1.t, .str q1.r.kind, .ref q1.d], rfl, SqL.of hl, rfl, _, _, rfl, _, _, rfl, _, _, rfl, rfl, ?_⟩
      show tIfS _ _ _ _ [some (.ref aw), some (.ref am), some (.ref D), some (.ref rl), w4, some (.ref q1.t), some (.str q1.r.kind), some (.ref q1.d)] H4'
      have fr : (ls.map (·.r)).find? (isRow q1.r.kind q1.r.n) = some q1.r := by
        rw [List.find?_map]
        have : ls.find? (isRow q1.r.kind q1.r.n ∘ (·.r)) = some q1 := by
          rw [List.find?_eq_some_iff_getElem]
          refine ⟨isRow_iff.mpr ⟨rfl, rfl⟩, i, (List.getElem?_eq_some_iff.mp er).1, (List.getElem?_eq_some_iff.mp er).2, fun j hj => ?_⟩
          have hjl : j < ls.length := Nat.lt_trans hj (List.getElem?_eq_some_iff.mp er).1
          show (!isRow q1.r.kind q1.r.n ls[j].r) = true
          rw [Bool.not_eq_true']
          refine Bool.eq_false_iff.mpr fun z => ?_
          have e : keyR ls[j].r = keyR q1.r := of_decide_eq_true ((isRow_key (k := q1.r.kind) (n := q1.r.n) (r := ls[j].r)).trans z)
          have h := (List.getElem_inj (i := j) (j := i) (h₀ := by simpa using hjl) (h₁ := by simpa using (List.getElem?_eq_some_iff.mp er).1) L.nk).mp (by simp [e, (List.getElem?_eq_some_iff.mp er).2])
          omega
        rw [this]
        rfl
      have th : ED (O5 K) (tDGet (tVar 2) (tVar 5)) [some (.ref aw), some (.ref am), some (.ref D), some (.ref rl), w4, some (.ref q1.t), some (.str q1.r.kind), some (.ref q1.d)] H4' (fTh q1.r) :=
        ed_thing (b := q1.t) (ep_pv rfl fun H5 s5 => ⟨rfl, .inl (s5 _ _ (s34 _ _ eD2))⟩) (ep_pv rfl fun H5 s5 => ⟨rfl, s5 _ _ htt⟩) (rr2.same s34) fr
      have okr := L.ok q1 mq
      have oks := oS q1 mq
      have t1 := et_neS (i := q1.r.kind) (j := q1.r.kind) (ed_ixT P (i := 0) (l := [.str q1.r.kind, mapP q1.r.ps]) (d := .str q1.r.kind) th rfl).ep (ep_v (i := 6) rfl)
      rw [decide_eq_true rfl] at t1
      have t2 := et_neP (K := K) (hkey (ed_ixT P (i := 1) (l := [.str q1.r.kind, mapP q1.r.ps]) (d := mapP q1.r.ps) th rfl) (mapP_lyk okr oks)) (hkey (ed_pv P (i := 7) rfl (hpd.dv okr.nd)) (mapP_lyk okr oks)) (mapP_kpln okr).1 (mapP_kpln okr).2
      exact (et_or t1 t2).skip1 fun H5 s5 => ⟨⟨_, _, _, _, rfl⟩, Same.trans s4 s5⟩
    · obtain ⟨_, s4⟩ := p
      exact q H9 (Same.trans s23 s4)
end
abbrev sSaid : Stmt := tp 54
abbrev NSaid : List Str := ["_law_ask", "e"]
theorem scSaid : FnScope NSaid ["_law_ask"] (defScope sSaid) := ⟨rfl, rfl, rfl, by decide +kernel, rfl, by decide +kernel, by decide +kernel⟩
def TSaid : (XK → Hp → VK → Prop) → Hp → VK → Prop := fun tl H Q => tl (fun _ _ _ => False) H fun v H1 => 2 ≤ sizeLine ∧ ∀ t, H1 t = none → Q (.ref t) (upd H1 t (.tup [.str "told", v]))
/-- the three classes stand -/
structure TxtC (mg : Str → Option Value) (CT CG CU : Addr) : Prop where
  mT : mg "Taken" = some (.ref CT)
  mG : mg "Gone" = some (.ref CG)
  mU : mg "InUse" = some (.ref CU)
theorem said_gives {X : Cx} {CT CG CU g : Addr} {cdg : Value} {q : Str} (T : TxtC X.mg CT CG CU) : GivesTo X NSaid "_law_said" (defScope sSaid) g cdg (defBody sSaid) "_law_ask" q TSaid := by
  intro f c' s H Q tl act hc h
  refine ⟨_, pss_one (ps_try_cl (X := (cxOf C8.CX0 X.prog X.w X.K X.mg X.base NSaid "_law_said" (defScope sSaid) g cdg X.A X.stack s H C8.E0).nox)
      rfl rfl (fun W pn xe tk _ => pss_one (ps_ret (pe_tup (pa_cons pe_str (pa_cons (te := fun σZ HZ Q => ∃ Ech : XK, (∀ cls d σ' H', Ech cls d H' → W cls d σ' H') ∧ σZ[0]? = some (some (.ref f)) ∧ HZ c' = some (CodeO c' q) ∧ tl Ech HZ Q) ⟨fun pins s' σ H' Q I ⟨Ech, hW, h1⟩ => (act W pn xe Ech _ _ tk hW).run pins s' σ H' Q I h1⟩ pa_nil)))))
      (cl_as (i := 1) (c := .ref CT) rfl rfl scSaid.nd rfl rfl ⟨rfl, by decide, .inl T.mT⟩ (fun a oe cls d pn hz hf => Ow.pss_nv)
      (cl_as (i := 1) (c := .ref CG) rfl rfl scSaid.nd rfl rfl ⟨rfl, by decide, .inl T.mG⟩ (fun a oe cls d pn hz hf => Ow.pss_nv)
      (cl_as (i := 1) (c := .ref CU) rfl rfl scSaid.nd rfl rfl ⟨rfl, by decide, .inl T.mU⟩ (fun a oe cls d pn hz hf => Ow.pss_nv)
      (cl_end rfl rfl L2.takes0))))), ?_⟩
  exact ⟨fun _ _ _ => False, (fun cls d σ' H' hw => hw.elim), rfl, hc, h⟩
end Kd

set_option Elab.async false
set_option linter.all false
set_option maxRecDepth 100000
set_option maxHeartbeats 4000000
/-! what is drawn: _law_dict, _law_contents -/
namespace Kd
open PySem PySem.Spec PyProof.Rows L2 Dq Vl Pf Ed ClX
abbrev wordsL : List Str := ["x", "y", "z", "", "filled", "long text", "X"]
def rdKV (l : List (Str × Str)) : List (Key × V) := l.map fun p => (.inr p.1, .str p.2)
def putQ (l : List (Str × Str)) (k v : Str) : List (Str × Str) := if (l.any fun p => decide (p.1 = k)) = true then l.map (fun p => if p.1 = k then (p.1, v) else p) else l ++ [(k, v)]
theorem rdKV_put (l : List (Str × Str)) (k v : Str) : putK (rdKV l) (.inr k : Key) (.str v) = rdKV (putQ l k v) := by
  have e1 : ((rdKV l).any fun kv => decide (kv.1 = (.inr k : Key))) = l.any fun p => decide (p.1 = k) := by
    unfold rdKV
    rw [List.any_map]
    congr 1
    funext p
    exact decide_eq_decide.mpr ⟨fun e => Sum.inr.inj e, fun e => congrArg Sum.inr e⟩
  unfold putK putQ
  rw [e1]
  split
  · unfold rdKV
    rw [List.map_map, List.map_map]
    refine List.map_congr_left fun p _ => ?_
    show (if (Sum.inr p.1 : Key) = Sum.inr k then _ else _) = _
    by_cases e : p.1 = k
    · rw [if_pos (congrArg Sum.inr e)]
      simp [e]
    · rw [if_neg fun z => e (Sum.inr.inj z)]
      simp [e]
  · unfold rdKV
    rw [List.map_append]
    rfl
theorem putQ_len (l : List (Str × Str)) (k v : Str) : (putQ l k v).length ≤ l.length + 1 := by
  unfold putQ
  split
  · rw [List.length_map]; omega
  · rw [List.length_append]; simp
theorem putQ_keys (l : List (Str × Str)) (k v : Str) (nd : (l.map (·.1)).Nodup) : ((putQ l k v).map (·.1)).Nodup := by
  unfold putQ
  split
  · rw [List.map_map]
    have : l.map ((·.1) ∘ fun p => if p.1 = k then (p.1, v) else p) = l.map (·.1) := List.map_congr_left fun p _ => by
      show (if p.1 = k then (p.1, v) else p).1 = p.1
      split <;> rfl
    rw [this]
    exact nd
  · rename_i h
    rw [List.map_append]
    refine List.nodup_append.mpr ⟨nd, by simp, fun a ha b hb e => h ?_⟩
    rw [List.map_cons, List.map_nil, List.mem_singleton] at hb
    obtain ⟨p, hp, rfl⟩ := List.mem_map.mp ha
    exact List.any_eq_true.mpr ⟨p, hp, decide_eq_true (e.trans hb)⟩
theorem putQ_mem {l : List (Str × Str)} {k v : Str} {p : Str × Str} (h : p ∈ putQ l k v) : p ∈ l ∨ (p.1 = k ∧ p.2 = v) := by
  unfold putQ at h
  split at h
  · obtain ⟨q, hq, rfl⟩ := List.mem_map.mp h
    by_cases e : q.1 = k
    · rw [if_pos e]; exact .inr ⟨e, rfl⟩
    · rw [if_neg e]; exact .inl hq
  · rcases List.mem_append.mp h with h | h
    · exact .inl h
    · rw [List.mem_singleton.mp h]; exact .inr ⟨rfl, rfl⟩
/-- a drawn dict of texts -/
structure RdOk (l : List (Str × Str)) : Prop where
  nd : (l.map (·.1)).Nodup
  ks : ∀ p ∈ l, p.1 ∈ wordsL
  vs : ∀ p ∈ l, p.2 ∈ wordsL
  ln : l.length ≤ 6
theorem RdOk.kin {l : List (Str × Str)} (h : RdOk l) : Kkin (l.map (·.1)) = true := by
  cases l with
  | nil => rfl
  | cons p l =>
    have h1 := h.ks p List.mem_cons_self
    have : ∀ k ∈ wordsL, (!(decide (k = "a") || decide (k = "tables"))) = true := by decide +kernel
    exact this _ h1
theorem rdD_at {K : PySem.W.Frag} {H : Hp} {l : List (Str × Str)} {D : Addr} (nd : (l.map (·.1)).Nodup) (h : H D = some (.dK (rdKV l))) : Dv (O5 K) H (rdgD (some l)) (.ref D) := by
  refine ⟨D, rdKV l, rfl, h, nd, ?_, ?_⟩
  · unfold rdKV
    rw [List.map_map, List.map_map]
    rfl
  · have : ∀ l : List (Str × Str), DvL (O5 K) H (l.map fun p => .str p.2) ((rdKV l).map (·.2)) := fun l => by
      induction l with
      | nil => exact rfl
      | cons p l ih => exact ⟨_, _, rfl, rfl, ih⟩
    exact this l
abbrev sDi : Stmt := tp 56
abbrev NDi : List Str := ["_law_well_here", "_law_words", "_law_found", "_law_turn"]
theorem scDi : FnScope NDi ["_law_well_here"] (defScope sDi) := ⟨rfl, rfl, rfl, by decide +kernel, rfl, by decide +kernel, by decide +kernel⟩
def spDi (K : PySem.W.Frag) : Sp := fun vs H Q _ => ∃ (w : Addr) (z : Int), vs = [.ref w] ∧ WellAt H w z ∧ 0 ≤ z ∧ z < 900000 ∧
  ∀ (D : Addr) (l : List (Str × Str)) (z' : Int) H', H D = none → But w H H' → WellAt H' w z' → z ≤ z' → z' ≤ z + 20 → RdOk l → H' D = some (.dK (rdKV l)) → Q (.ref D) H'
abbrev sCo : Stmt := tp 57
abbrev NCo : List Str := ["_law_well_here", "_law_some"]
theorem scCo : FnScope NCo ["_law_well_here"] (defScope sCo) := ⟨rfl, rfl, rfl, by decide +kernel, rfl, by decide +kernel, by decide +kernel⟩
def spCo (K : PySem.W.Frag) : Sp := fun vs H Q _ => ∃ (w : Addr) (z : Int), vs = [.ref w] ∧ WellAt H w z ∧ 0 ≤ z ∧ z < 900000 ∧
  ∀ (v : V) (x : D5) (z' : Int) H', But w H H' → WellAt H' w z' → z ≤ z' → z' ≤ z + 1 → Dv (O5 K) H' x v → OkV x → smlD x = true → Q v H'
abbrev contL : List D5 := [.str "x", .str "y", .str "z", .str "", .str "filled", .str "long text", .str "X", .str "unlike", .non, .int 5, .bl true, .tup [.str "x"], .map ["x"] [.str "y"]]
theorem cont_ok : ∀ x ∈ contL, okV x = true ∧ smlD x = true := by
  intro x hx
  have e1 : sortedS ([("x" : Str)]) = true := by decide +kernel
  have e2 : Kval ([("x" : Str)]) = true := by decide +kernel
  simp only [List.mem_cons, List.not_mem_nil, or_false] at hx
  rcases hx with rfl | rfl | rfl | rfl | rfl | rfl | rfl | rfl | rfl | rfl | rfl | rfl | rfl <;>
    exact ⟨by simp [okV, okTag, lay, lyk, kpt, kptL, keyD, keyL, keyM, dp, dpL, nolL, nol, e1, e2], by decide +kernel⟩
section
variable {P : Program} {w : World} {K : PySem.W.Frag} {mg : Str → Option Value} {base : Heap}
theorem strs_dv {K : PySem.W.Frag} {H : Hp} : ∀ (l : List Str), DvL (O5 K) H (l.map .str) (l.map V.str)
  | [] => rfl
  | x :: l => ⟨_, _, rfl, rfl, strs_dv l⟩
theorem ok_di {f fD f1 : Addr} {fd fdD fd1 : FuncData} (F : Fun K "_law_dict" "_law_dict" sDi f fd) (nr : mg "range" = none) (DD : Def P w K mg base 1 "_law_draw" fD fdD ["_law_well_here", "_law_often"] spDraw) (D1 : Def P w K mg base 2 "_law_one" f1 fd1 ["_law_well_here", "_law_some"] (spOne K)) :
    FnOk P w K mg base CX0 3 f fd ["_law_well_here"] (spDi K) := by
  refine F.ok scDi (fun vs H Q E h => ?_) (fun cdv A outer s H vs Q E hr h => ?_)
  · obtain ⟨w, z, rfl, _⟩ := h
    rfl
  · obtain ⟨w, z, rfl, hw, z0, z1, q⟩ := h
    refine ⟨_, pss_cons (ps_par (i := 1) (j := 2) (by rfl) scDi.nd rfl rfl (by decide) rfl rfl (pa_cons (pe_lst (pa_cons pe_str (pa_cons pe_str (pa_cons pe_str (pa_cons pe_str (pa_cons pe_str (pa_cons pe_str (pa_cons pe_str pa_nil)))))))) (pa_cons pe_dnewK pa_nil)) (by rfl))
      (pss_cons (ps_for PassesOwn.never rfl (pi_range1 rfl nr (pa_cons (pe_call DD.ok (hr.mono (by decide)) rfl DD.g DD.kp DD.b .nil pass0 (pa_cons (pv 0) (pa_cons pe_int pa_nil))) pa_nil)) (pg_name (i := 3) scDi.nd rfl (Or.inl rfl))
        (pss_one (ps_dput (hu_of hr) (pv 2) (pe_call D1.ok (hr.mono (by decide)) rfl D1.g D1.kp D1.b .nil pass0 (pa_cons (pv 0) (pa_cons (pv 1) pa_nil))) (pe_call D1.ok (hr.mono (by decide)) rfl D1.g D1.kp D1.b .nil pass0 (pa_cons (pv 0) (pa_cons (pv 1) pa_nil))) (by rfl))))
      (pss_one (ps_ret (pv 2)))), ?_⟩
    refine ⟨by show 7 ≤ sizeLine; decide, fun L nL D nD => ⟨_, _, rfl, ?_⟩⟩
    have sL := sm_upd (o := .lst (wordsL.map V.str)) nL
    have eL : (upd H L (.lst (wordsL.map V.str))) L = some (.lst (wordsL.map V.str)) := upd_same
    have nD' : (upd H L (.lst (wordsL.map V.str))) D = none := nD
    show tSeq _ _ _ [some (.ref w), some (.ref L), some (.ref D), none] (upd (upd H L (.lst (wordsL.map V.str))) D (.dK []))
    generalize upd H L (.lst (wordsL.map V.str)) = H1 at sL eL nD'
    have nD0 : H D = none := by
      cases e : H D with
      | none => rfl
      | some o => rw [sL _ _ e] at nD'; cases nD'
    have sD := sm_upd (o := .dK []) nD'
    have eD : (upd H1 D (.dK [])) D = some (.dK []) := upd_same
    generalize upd H1 D (.dK []) = H2 at sD eD
    have s02 := Same.trans sL sD
    have hw2 := wellS hw s02
    have nLw : L ≠ w := wellNe hw nL
    have nDw : D ≠ w := wellNe hw nD0
    have nDL : D ≠ L := fun e => by rw [e, eL] at nD'; cases nD'
    refine ⟨_, rfl, w, 6, z, rfl, hw2, by decide, by decide, z0, by omega, fun d z2 H3 d0 d1 zz1 zz2 hw3 b3 => ⟨d, rfl, by omega, by omega, ?_⟩⟩
    refine for_range (lo := 0) (n := d.toNat) (fun i σ' H' => (∃ w3, σ' = [some (.ref w), some (.ref L), some (.ref D), w3]) ∧ But w H H' ∧ H' L = some (.lst (wordsL.map V.str)) ∧ ∃ (l : List (Str × Str)) (z' : Int), H' D = some (.dK (rdKV l)) ∧ WellAt H' w z' ∧ z2 ≤ z' ∧ z' ≤ z2 + 2 * (i : Int) ∧ (l.map (·.1)).Nodup ∧ (∀ p ∈ l, p.1 ∈ wordsL) ∧ (∀ p ∈ l, p.2 ∈ wordsL) ∧ l.length ≤ i)
      ⟨⟨_, rfl⟩, butT (butS s02) b3, b3 _ _ (sD _ _ eL) nLw, [], z2, b3 _ _ eD nDw, hw3, by omega, by omega, List.nodup_nil, (fun p hp => nomatch hp), (fun p hp => nomatch hp), Nat.le_refl _⟩ (fun i σ' H4 hi h => ?_) (fun σ' H4 h => ?_)
    · obtain ⟨⟨w3, rfl⟩, b4, eL4, l, z4, eD4, hw4, zz3, zz4, nd, ks, vs', ll⟩ := h
      have hi6 : (i : Int) < 6 := by omega
      have lw : (wordsL.map V.str).length = 7 := rfl
      refine ⟨_, rfl, _, rfl, w, L, z4, wordsL.map V.str, rfl, hw4, eL4, nLw, by rw [lw]; decide, by rw [lw]; decide, by omega, by omega, fun v1 z5 H5 m1 zz5 zz6 hw5 b5 => ?_⟩
      obtain ⟨s1, ms1, rfl⟩ := List.mem_map.mp m1
      refine ⟨_, rfl, _, rfl, _, rfl, w, L, z5, wordsL.map V.str, rfl, hw5, b5 _ _ eL4 nLw, nLw, by rw [lw]; decide, by rw [lw]; decide, by omega, by omega, fun v2 z6 H6 m2 zz7 zz8 hw6 b6 => ?_⟩
      obtain ⟨s2, ms2, rfl⟩ := List.mem_map.mp m2
      have eD6 := b6 _ _ (b5 _ _ eD4 nDw) nDw
      have lk : (rdKV l).length ≤ 6 := by unfold rdKV; rw [List.length_map]; omega
      refine ⟨D, _, rfl, DPut.k (k := .inr s2) eD6 (Nat.lt_of_le_of_lt lk (by decide)), ⟨_, rfl⟩, ?_, ?_, putQ l s2 s1, z6, ?_, wellU hw6 nDw, by omega, by push_cast; omega, putQ_keys _ _ _ nd, fun p hp => ?_, fun p hp => ?_, Nat.le_trans (putQ_len _ _ _) (by omega)⟩
      · exact butU (butT b4 (butT b5 b6)) nD0
      · exact (upd_ne (Ne.symm nDL)).trans (b6 _ _ (b5 _ _ eL4 nLw) nLw)
      · rw [upd_same, rdKV_put]
      · rcases putQ_mem hp with hp | ⟨e, _⟩
        · exact ks p hp
        · rw [e]; exact ms2
      · rcases putQ_mem hp with hp | ⟨_, e⟩
        · exact vs' p hp
        · rw [e]; exact ms1
    · obtain ⟨⟨w3, rfl⟩, b4, eL4, l, z4, eD4, hw4, zz3, zz4, nd, ks, vs', ll⟩ := h
      exact ⟨_, rfl, q D l z4 H4 nD0 b4 hw4 (by omega) (by omega) ⟨nd, ks, vs', by omega⟩ eD4⟩
theorem ok_co {f f1 : Addr} {fd fd1 : FuncData} (F : Fun K "_law_contents" "_law_contents" sCo f fd) (D1 : Def P w K mg base 2 "_law_one" f1 fd1 ["_law_well_here", "_law_some"] (spOne K)) :
    FnOk P w K mg base CX0 3 f fd ["_law_well_here"] (spCo K) := by
  refine F.ok scCo (fun vs H Q E h => ?_) (fun cdv A outer s H vs Q E hr h => ?_)
  · obtain ⟨w, z, rfl, _⟩ := h
    rfl
  · obtain ⟨w, z, rfl, hw, z0, z1, q⟩ := h
    refine ⟨_, pss_cons (ps_set (i := 1) scCo.nd rfl (Or.inl rfl) (pe_lst (pa_cons pe_str (pa_cons pe_str (pa_cons pe_str (pa_cons pe_str (pa_cons pe_str (pa_cons pe_str (pa_cons pe_str (pa_cons pe_str (pa_cons pe_non (pa_cons pe_int (pa_cons pe_bl (pa_cons (pe_tup (pa_cons pe_str pa_nil)) (pa_cons (pe_disp (pps_cons pe_str pe_str pps_nil) (by rfl) (by rfl) (fun z => by cases z) (by decide)) pa_nil)))))))))))))))
      (pss_one (ps_ret (pe_call D1.ok (hr.mono (by decide)) rfl D1.g D1.kp D1.b .nil pass0 (pa_cons (pv 0) (pa_cons (pv 1) pa_nil))))), ?_⟩
    have P := kps5 (K := K)
    have e : ED (O5 K) _ [some (.ref w), none] H (.lst contL) := ed_lst P (ea_cons P ed_str (ea_cons P ed_str (ea_cons P ed_str (ea_cons P ed_str (ea_cons P ed_str (ea_cons P ed_str (ea_cons P ed_str (ea_cons P ed_str (ea_cons P ed_non (ea_cons P ed_int (ea_cons P ed_bl (ea_cons P (ed_tup P (ea_cons P ed_str ea_nil) (by simp)) (ea_cons P (ed_disp1 (z := "x") P (ed_str (s := "y")) (fun h => h)) ea_nil))))))))))))) (by simp)
    refine e.seq fun v1 H1 s1 ⟨L, us, ev, eL, hus⟩ => ?_
    subst ev
    show tRet _ _ [some (.ref w), some (.ref L)] H1
    have hw1 := wellS hw s1
    have nLw : L ≠ w := fun e => by
      obtain ⟨x, y, hx⟩ := hw1
      rw [e, hx] at eL
      cases eL
      have := hus.len
      simp at this
    have lu : us.length = 13 := hus.len
    refine ⟨_, rfl, _, rfl, w, L, z, us, rfl, hw1, eL, nLw, by omega, by omega, z0, by omega, fun v z' H2 hv zz1 zz2 hw2 b2 => ?_⟩
    obtain ⟨d, hd, hdv⟩ := dvl_mem hus hv
    obtain ⟨o1, o2⟩ := cont_ok d hd
    have ov := okV_iff.mp o1
    have cm : Calm 0 H1 H2 := .ch (.but b2) fun a m o e => by
      obtain ⟨x, y, hx⟩ := hw1
      rw [List.mem_singleton.mp m, hx] at e
      cases e
      exact apt_lst
    exact q v d z' H2 (butT (butS s1) b2) hw2 zz1 zz2 (Dv.calm cm _ _ (kv_kin ov.kp) hdv) ov o2
end
end Kd

set_option Elab.async false
set_option linter.all false
set_option maxRecDepth 100000
set_option maxHeartbeats 4000000
/-! _law_table_of -/
namespace Ed
open PySem PySem.Spec PyProof.Rows L2 Dq Vl Kd
theorem merge_nd : ∀ (kvs acc : List (Key × V)), ((acc ++ kvs).map (·.1)).Nodup → mergeK acc kvs = acc ++ kvs
  | [], acc, _ => by rw [List.append_nil]; rfl
  | (k, v) :: kvs, acc, nd => by
    have nz : valV acc k = none := by
      unfold valV
      rw [Option.map_eq_none_iff, List.find?_eq_none]
      intro p hp
      simp only [decide_eq_true_eq]
      intro e
      rw [List.map_append] at nd
      exact (List.nodup_append.mp nd).2.2 p.1 (List.mem_map_of_mem (f := (·.1)) hp) k List.mem_cons_self e
    show mergeK (putK acc k v) kvs = _
    rw [putK_new v nz, merge_nd kvs (acc ++ [(k, v)]) (by rw [List.append_assoc]; exact nd), List.append_assoc]
    rfl

end Ed
namespace Kd
open PySem PySem.Spec PyProof.Rows L2 Dq Vl Pf Ed ClX
/-- the law's kind -/
def tblK (l1 l2 : List (Str × Str)) : Tb := ⟨"k", [⟨"a", "open", false, some l1⟩, ⟨"b", "filled", true, some l2⟩, ⟨"c", "open", false, none⟩], [("id", .id), ("t", .ar "c" "(" ")"), ("u", .ar "c" "" "x"), ("m", .mark)], none, []⟩
theorem tbl_ok (l1 l2 : List (Str × Str)) : TbOk (tblK l1 l2) where
  hd := rfl
  nd := (by decide +kernel : (["a", "b", "c"] : List Str).Nodup)
  id := (by decide +kernel : ("id" : Str) ∉ (["a", "b", "c"] : List Str))
  ap := (by decide +kernel : ∀ s ∈ (["a", "b", "c"] : List Str), s ∉ (["id", "t", "u", "m"] : List Str))
  ml := by show 3 + 4 ≤ 200; decide
  nm := (by decide +kernel : nmS "k" = true)
  ar := fun q hq s pre post e => by
    simp only [tblK, List.mem_cons, List.not_mem_nil, or_false] at hq
    rcases hq with rfl | rfl | rfl | rfl <;> cases e
    · exact ⟨(by decide +kernel : ("c" : Str) ∈ (["a", "b", "c"] : List Str)), by decide +kernel, by decide +kernel⟩
    · exact ⟨(by decide +kernel : ("c" : Str) ∈ (["a", "b", "c"] : List Str)), by decide +kernel, by decide +kernel⟩
theorem tbl_rd {l1 l2 : List (Str × Str)} (h1 : RdOk l1) (h2 : RdOk l2) : okRd (tblK l1 l2) = true := by
  simp only [okRd, tblK, List.all_cons, List.all_nil, h1.kin, h2.kin]
  rfl
theorem tbl_ts {l1 l2 : List (Str × Str)} (h1 : RdOk l1) (h2 : RdOk l2) : TsOk [tblK l1 l2] := ⟨fun t ht => by rw [List.mem_singleton.mp ht]; exact tbl_rd h1 h2, (by decide +kernel : Kkin (["k"] : List Str) = true)⟩
abbrev sTo : Stmt := tp 58
abbrev NTo : List Str := ["_law_well_here", "_law_given", "_law_made"]
theorem scTo : FnScope NTo ["_law_well_here"] (defScope sTo) := ⟨rfl, rfl, rfl, by decide +kernel, rfl, by decide +kernel, by decide +kernel⟩
def spTo (K : PySem.W.Frag) : Sp := fun vs H Q _ => ∃ (w : Addr) (z : Int), vs = [.ref w] ∧ WellAt H w z ∧ 0 ≤ z ∧ z < 800000 ∧
  ∀ (tb : Addr) (l1 l2 : List (Str × Str)) (z' : Int) H', But w H H' → WellAt H' w z' → z ≤ z' → z' ≤ z + 40 → RdOk l1 → RdOk l2 → Dv (O5 K) H' (tabsD [tblK l1 l2]) (.ref tb) → Q (.ref tb) H'
section
variable {P : Program} {w : World} {K : PySem.W.Frag} {mg : Str → Option Value} {base : Heap}
theorem ok_to {f fD : Addr} {fd fdD : FuncData} (F : Fun K "_law_table_of" "_law_table_of" sTo f fd) (DD : Def P w K mg base 3 "_law_dict" fD fdD ["_law_well_here"] (spDi K)) : FnOk P w K mg base CX0 4 f fd ["_law_well_here"] (spTo K) := by
  refine F.ok scTo (fun vs H Q E h => ?_) (fun cdv A outer s H vs Q E hr h => ?_)
  · obtain ⟨w, z, rfl, _⟩ := h
    rfl
  · obtain ⟨w, z, rfl, hw, z0, z1, q⟩ := h
    refine ⟨_, pss_cons (ps_set (i := 1) scTo.nd rfl (Or.inl rfl) (pe_tup (pa_cons (pe_tup (pa_cons pe_str (pa_cons pe_str (pa_cons pe_bl (pa_cons (pe_call DD.ok (hr.mono (by decide)) rfl DD.g DD.kp DD.b .nil pass0 (pa_cons (pv 0) pa_nil)) pa_nil)))))
        (pa_cons (pe_tup (pa_cons pe_str (pa_cons pe_str (pa_cons pe_bl (pa_cons (pe_call DD.ok (hr.mono (by decide)) rfl DD.g DD.kp DD.b .nil pass0 (pa_cons (pv 0) pa_nil)) pa_nil))))) (pa_cons (pe_tup (pa_cons pe_str (pa_cons pe_str (pa_cons pe_bl (pa_cons pe_non pa_nil))))) pa_nil)))))
      (pss_cons (ps_set (i := 2) scTo.nd rfl (Or.inl rfl) (pe_tup (pa_cons (pe_tup (pa_cons pe_str (pa_cons (pe_tup (pa_cons pe_str pa_nil)) pa_nil))) (pa_cons (pe_tup (pa_cons pe_str (pa_cons (pe_tup (pa_cons pe_str (pa_cons pe_str (pa_cons pe_str (pa_cons pe_str pa_nil))))) pa_nil)))
        (pa_cons (pe_tup (pa_cons pe_str (pa_cons (pe_tup (pa_cons pe_str (pa_cons pe_str (pa_cons pe_str (pa_cons pe_str pa_nil))))) pa_nil))) (pa_cons (pe_tup (pa_cons pe_str (pa_cons (pe_tup (pa_cons pe_str pa_nil)) pa_nil))) pa_nil))))))
      (pss_one (ps_ret (pe_disp (pps_cons pe_str (pe_disp (pps_cons pe_str pe_str (pps_cons pe_str (pv 1) (pps_cons pe_str (pv 2) (pps_cons pe_str pe_non (pps_cons pe_str (pe_tup pa_nil) pps_nil))))) (by rfl) (by rfl) (fun z => by cases z) (by decide)) pps_nil) (by rfl) (by rfl) (fun z => by cases z) (by decide))))), ?_⟩
    have P := kps5 (K := K)
    refine ⟨_, rfl, w, z, rfl, hw, z0, by omega, fun D1 l1 z2 H1 n1 b1 hw1 zz1 zz2 R1 e1 => ⟨by show 4 ≤ sizeLine; decide, fun t1 nt1 => ?_⟩⟩
    have s1 := sm_upd (o := .tup [V.str "a", .str "open", .bl false, .ref D1]) nt1
    have et1 : (upd H1 t1 (.tup [V.str "a", .str "open", .bl false, .ref D1])) t1 = some (.tup [V.str "a", .str "open", .bl false, .ref D1]) := upd_same
    generalize upd H1 t1 (.tup [V.str "a", .str "open", .bl false, .ref D1]) = H2 at s1 et1
    have d1 : Dv (O5 K) H2 (gvrD ⟨"a", "open", false, some l1⟩) (.ref t1) := ⟨t1, _, rfl, .inl (.inl et1), _, _, rfl, rfl, _, _, rfl, rfl, _, _, rfl, rfl, _, _, rfl, rdD_at R1.nd (s1 _ _ e1), rfl⟩
    have hw2 := wellS hw1 s1
    refine ⟨_, rfl, w, z2, rfl, hw2, by omega, by omega, fun D2 l2 z3 H3 n2 b3 hw3 zz3 zz4 R2 e2 => ⟨by show 4 ≤ sizeLine; decide, fun t2 nt2 => ?_⟩⟩
    have cm3 : Calm 0 H2 H3 := .ch (.but b3) fun a m o e => by
      obtain ⟨x, y, hx⟩ := hw2
      rw [List.mem_singleton.mp m, hx] at e
      cases e
      exact apt_lst
    have k1 : kpt Kkin (gvrD ⟨"a", "open", false, some l1⟩) = true := by
      have q := rdg_kpt R1.kin
      simp only [gvrD, kpt, kptL, q, Bool.and_true]
    have d1 := Dv.calm cm3 _ _ k1 d1
    have s4 := sm_upd (o := .tup [V.str "b", .str "filled", .bl true, .ref D2]) nt2
    have et2 : (upd H3 t2 (.tup [V.str "b", .str "filled", .bl true, .ref D2])) t2 = some (.tup [V.str "b", .str "filled", .bl true, .ref D2]) := upd_same
    generalize upd H3 t2 (.tup [V.str "b", .str "filled", .bl true, .ref D2]) = H4 at s4 et2
    have d2 : Dv (O5 K) H4 (gvrD ⟨"b", "filled", true, some l2⟩) (.ref t2) := ⟨t2, _, rfl, .inl (.inl et2), _, _, rfl, rfl, _, _, rfl, rfl, _, _, rfl, rfl, _, _, rfl, rdD_at R2.nd (s4 _ _ e2), rfl⟩
    refine ⟨by show 4 ≤ sizeLine; decide, fun t3 nt3 => ?_⟩
    have s5 := sm_upd (o := .tup [V.str "c", .str "open", .bl false, .non]) nt3
    have et3 : (upd H4 t3 (.tup [V.str "c", .str "open", .bl false, .non])) t3 = some (.tup [V.str "c", .str "open", .bl false, .non]) := upd_same
    generalize upd H4 t3 (.tup [V.str "c", .str "open", .bl false, .non]) = H5 at s5 et3
    have d3 : Dv (O5 K) H5 (gvrD ⟨"c", "open", false, none⟩) (.ref t3) := ⟨t3, _, rfl, .inl (.inl et3), _, _, rfl, rfl, _, _, rfl, rfl, _, _, rfl, rfl, _, _, rfl, rfl, rfl⟩
    refine ⟨by show 3 ≤ sizeLine; decide, fun T nT => ?_⟩
    have s6 := sm_upd (o := .tup [V.ref t1, .ref t2, .ref t3]) nT
    have eT : (upd H5 T (.tup [V.ref t1, .ref t2, .ref t3])) T = some (.tup [V.ref t1, .ref t2, .ref t3]) := upd_same
    show tSeq _ _ _ [some (.ref w), some (.ref T), none] (upd H5 T (.tup [V.ref t1, .ref t2, .ref t3]))
    generalize upd H5 T (.tup [V.ref t1, .ref t2, .ref t3]) = H6 at s6 eT
    have dT : Dv (O5 K) H6 (gvsT (tblK l1 l2)) (.ref T) := ⟨T, _, rfl, .inl (.inl eT), _, _, rfl, P.dv (Same.trans s4 (Same.trans s5 s6)) d1, _, _, rfl, P.dv (Same.trans s5 s6) d2, _, _, rfl, P.dv s6 d3, rfl⟩
    have b6 : But w H H6 := butT b1 (butT (butS s1) (butT b3 (butS (Same.trans s4 (Same.trans s5 s6)))))
    have hw6 := wellS hw3 (Same.trans s4 (Same.trans s5 s6))
    clear et1 et2 et3 eT d1 d2 d3 s1 s4 s5 s6 cm3 b1 b3 hw1 hw2 hw3 e1 e2 n1 n2 nt1 nt2 nt3 nT
    have m1 : ∀ {σ : L2.St} {H' : Hp} {s t : Str}, ED (O5 K) (tTup (tCons (tC (.str s)) (tCons (tTup (tCons (tC (.str t)) tNil)) tNil))) σ H' (.tup [.str s, .tup [.str t]]) := fun {σ H' s t} => ed_tup P (ea_cons P ed_str (ea_cons P (ed_tup P (ea_cons P ed_str ea_nil) (by simp)) ea_nil)) (by simp)
    have m4 : ∀ {σ : L2.St} {H' : Hp} {s t u v x : Str}, ED (O5 K) (tTup (tCons (tC (.str s)) (tCons (tTup (tCons (tC (.str t)) (tCons (tC (.str u)) (tCons (tC (.str v)) (tCons (tC (.str x)) tNil))))) tNil))) σ H' (.tup [.str s, .tup [.str t, .str u, .str v, .str x]]) := fun {σ H' s t u v x} => ed_tup P (ea_cons P ed_str (ea_cons P (ed_tup P (ea_cons P ed_str (ea_cons P ed_str (ea_cons P ed_str (ea_cons P ed_str ea_nil)))) (by simp)) ea_nil)) (by simp)
    refine (ed_tup P (ea_cons P m1 (ea_cons P m4 (ea_cons P m4 (ea_cons P m1 ea_nil)))) (by simp)).seq fun M H7 s7 hM => ?_
    have hM : Dv (O5 K) H7 (mdsT (tblK l1 l2)) M := hM
    show tRet _ _ [some (.ref w), some (.ref T), some M] H7
    have dT7 := P.dv s7 dT
    have hw7 := wellS hw6 s7
    intro p0 n0 p1 n1 
    have sp0 := sm_upd (o := .dK []) n0
    have ep0 : (upd H7 p0 (.dK [])) p0 = some (.dK []) := upd_same
    show tPairs _ _ (upd (upd H7 p0 (.dK [])) p1 (.dK [])) _
    generalize upd H7 p0 (.dK []) = H8 at sp0 ep0 n1 ⊢
    have sp1 := sm_upd (o := .dK []) n1
    have ep1 : (upd H8 p1 (.dK [])) p1 = some (.dK []) := upd_same
    generalize upd H8 p1 (.dK []) = H9 at sp1 ep1 ⊢
    refine ⟨_, rfl, _, rfl, by show 0 ≤ sizeLine; decide, fun E nE => ?_⟩
    have sE := sm_upd (o := .tup []) nE
    have eE : (upd H9 E (.tup [])) E = some (.tup []) := upd_same
    generalize upd H9 E (.tup []) = H10 at sE eE ⊢
    have ep1' := sE _ _ ep1
    refine ⟨ep1', [(.inr "name", .str "k"), (.inr "given", .ref T), (.inr "made", M), (.inr "single", .non), (.inr "holds", .ref E)], rfl, by show 5 ≤ 15; decide, ?_⟩
    rw [merge_nd _ [] (by show ((([.inr "name", .inr "given", .inr "made", .inr "single", .inr "holds"]) : List Key)).Nodup; decide +kernel), List.nil_append]
    have np01 : p0 ≠ p1 := fun e => by rw [← e, ep0] at n1; cases n1
    have nE1 : E ≠ p1 := fun e => by rw [e, ep1] at nE; cases nE
    have e11 : (upd H10 p1 (.dK [((.inr "name" : Key), V.str "k"), (.inr "given", .ref T), (.inr "made", M), (.inr "single", .non), (.inr "holds", .ref E)])) p1 = some (.dK [(.inr "name", V.str "k"), (.inr "given", .ref T), (.inr "made", M), (.inr "single", .non), (.inr "holds", .ref E)]) := upd_same
    have ep0' : (upd H10 p1 (.dK [((.inr "name" : Key), V.str "k"), (.inr "given", .ref T), (.inr "made", M), (.inr "single", .non), (.inr "holds", .ref E)])) p0 = some (.dK []) := (upd_ne np01).trans (sE _ _ (sp1 _ _ ep0))
    have eE11 : (upd H10 p1 (.dK [((.inr "name" : Key), V.str "k"), (.inr "given", .ref T), (.inr "made", M), (.inr "single", .non), (.inr "holds", .ref E)])) E = some (.tup []) := (upd_ne nE1).trans eE
    have s711 : Same H7 (upd H10 p1 (.dK [((.inr "name" : Key), V.str "k"), (.inr "given", .ref T), (.inr "made", M), (.inr "single", .non), (.inr "holds", .ref E)])) := fun c o e => (upd_ne fun z => by rw [z] at e; rw [sp0 _ _ e] at n1; cases n1).trans (sE _ _ (sp1 _ _ (sp0 _ _ e)))
    generalize upd H10 p1 (.dK [((.inr "name" : Key), V.str "k"), (.inr "given", .ref T), (.inr "made", M), (.inr "single", .non), (.inr "holds", .ref E)]) = H11 at e11 ep0' eE11 s711 ⊢
    refine ⟨ep0', [(.inr "k", .ref p1)], rfl, by show 1 ≤ 15; decide, ?_⟩
    have em : mergeK [] [((.inr "k" : Key), V.ref p1)] = [(.inr "k", .ref p1)] := rfl
    rw [em]
    have nT0 : Same H7 (upd H11 p0 (.dK [((.inr "k" : Key), V.ref p1)])) := fun c o e => (upd_ne fun z => by rw [z, n0] at e; cases e).trans (s711 _ _ e)
    have nE0 : E ≠ p0 := fun e => by rw [e, sp1 _ _ ep0] at nE; cases nE
    refine q p0 l1 l2 z3 _ (butT b6 (butS (Same.trans s7 nT0))) (wellS hw7 nT0) (by omega) (by omega) R1 R2 ⟨p0, _, rfl, upd_same, by simp, rfl, .ref p1, [], rfl, ?_, rfl⟩
    refine ⟨p1, _, rfl, (upd_ne (Ne.symm np01)).trans e11, by decide +kernel, rfl, _, _, rfl, rfl, _, _, rfl, P.dv nT0 dT7, _, _, rfl, P.dv nT0 hM, _, _, rfl, rfl, _, _, rfl, ⟨E, _, rfl, .inl (.inl ((upd_ne nE0).trans eE11)), rfl⟩, rfl⟩
end
end Kd

set_option Elab.async false
set_option linter.all false
set_option maxRecDepth 100000
set_option maxHeartbeats 4000000
/-! _law_read_right -/
namespace Kd
open PySem PySem.Spec PyProof.Rows L2 Dq Vl Pf Ed ClX
abbrev sRR : Stmt := tp 59
abbrev NRR : List Str := ["_law_world", "_law_m", "_law_turn", "_law_tag_here", "_law_kind", "_law_kept", "_law_odd", "_law_thing"]
abbrev PRR : List Str := ["_law_world", "_law_m"]
theorem scRR : FnScope NRR PRR (defScope sRR) := ⟨rfl, rfl, rfl, by decide +kernel, rfl, by decide +kernel, by decide +kernel⟩
/-- both worlds tell the same -/
structure Both (ts : List Tb) (rs : Rs) (ls : List Lr) : Prop where
  e : rs.map (·.1) = ls.map (·.r)
  s : ∀ q ∈ ls, OkS q.r
  g : ∀ q ∈ ls, ∃ t ∈ ts, t.name = q.r.kind ∧ ∀ r ∈ t.gv, r.nm ∈ q.r.ps.map (·.1)
def spRR (K : PySem.W.Frag) (CW CK : Addr) : Sp := fun vs H Q _ => ∃ (aw kd sd am tb rl : Addr) (ts : List Tb) (rs : Rs) (ls : List Lr) (last last' : Nat), vs = [.ref aw, .ref am] ∧ WAt K CW H aw kd sd rs last ∧ MAt K H am tb rl ts ls last' ∧ WOk ts rs last ∧ LOk ts ls ∧ TsOk ts ∧ KAt K CK H kd ts ∧ (ts.map (·.name)).Nodup ∧ Both ts rs ls ∧ last < 900 ∧ InsT K CW ∧
  ∀ H', Same H H' → Q (.bl true) H'
theorem Both.row {ts : List Tb} {rs : Rs} {ls : List Lr} (B : Both ts rs ls) {q : Lr} (hq : q ∈ ls) : ∃ p ∈ rs, p.1 = q.r := by
  have : q.r ∈ rs.map (·.1) := by rw [B.e]; exact List.mem_map_of_mem (f := (·.r)) hq
  exact List.mem_map.mp this
/-- odd things, of which no world reads anything -/
def oddV (t0 t9 tT e l aw : Addr) : List V := [.non, .str "#", .ref t0, .ref t9, .ref tT, .ref e, .ref l, .int 1, .ref aw]
theorem odd_targ {K : PySem.W.Frag} {CW : Addr} {H : Hp} {t0 t9 tT e l aw kd sd : Addr} {ts : List Tb} {rs : Rs} {last : Nat} (W : WOk ts rs last) (l9 : last < 900) (I : InsT K CW) (hw : WAt K CW H aw kd sd rs last)
    (h0 : H t0 = some (.tup [.str "#", .str "k", .int 0])) (h9 : H t9 = some (.tup [.str "#", .str "k", .int 900])) (hT : H tT = some (.tup [.str "#", .str "k", .bl true])) (he : H e = some (.dK [])) (hl : H l = some (.lst [])) :
    ∀ x ∈ oddV t0 t9 tT e l aw, ∃ d, TArg K H d x ∧ hasD rs d = false := by
  intro x hx
  have sk : shD (.str "k" : D5) = true := by decide +kernel
  have no : ∀ {d : D5}, tagD d = false → (tagD d = true → ∃ b k n, x = V.ref b ∧ H b = some (.tup [.str "#", .str k, .int ((n : Nat) : Int)]) ∧ d = tagOf k n) := fun h z => by rw [h] at z; cases z
  have nh : ∀ {d : D5}, tagD d = false → hasD rs d = false := fun h => by unfold hasD; rw [h]; rfl
  have tup3 : ∀ {a : Addr} {u : V} {y : D5}, H a = some (.tup [.str "#", .str "k", u]) → Dv (O5 K) H y u → Dv (O5 K) H (.tup [.str "#", .str "k", y]) (.ref a) := fun h1 h2 => ⟨_, _, rfl, .inl (.inl h1), _, _, rfl, rfl, _, _, rfl, rfl, _, _, rfl, h2, rfl⟩
  simp only [oddV, List.mem_cons, List.not_mem_nil, or_false] at hx
  rcases hx with rfl | rfl | rfl | rfl | rfl | rfl | rfl | rfl | rfl
  · exact ⟨.non, ⟨rfl, rfl, no rfl⟩, nh rfl⟩
  · exact ⟨.str "#", ⟨rfl, rfl, no rfl⟩, nh rfl⟩
  · have f : tagD (.tup [.str "#", .str "k", .int 0] : D5) = false := by decide +kernel
    exact ⟨_, ⟨tup3 (y := .int 0) h0 rfl, sk, no f⟩, nh f⟩
  · refine ⟨tagOf "k" 900, ⟨tup3 h9 rfl, sk, fun _ => ⟨t9, "k", 900, rfl, h9, rfl⟩⟩, ?_⟩
    unfold hasD
    rw [rowD_tag, show findW rs "k" 900 = none from by
      unfold findW
      rw [List.find?_eq_none]
      intro p hp z
      have h1 := (isRow_iff.mp z).2
      have h2 := W.le p hp
      omega]
    exact Bool.and_false _
  · have f : tagD (.tup [.str "#", .str "k", .bl true] : D5) = false := by decide +kernel
    exact ⟨_, ⟨tup3 (y := .bl true) hT rfl, sk, no f⟩, nh f⟩
  · exact ⟨.map [] [], ⟨⟨e, [], rfl, he, List.nodup_nil, rfl, rfl⟩, rfl, no rfl⟩, nh rfl⟩
  · exact ⟨.lst [], ⟨⟨l, [], rfl, hl, rfl⟩, rfl, no rfl⟩, nh rfl⟩
  · exact ⟨.int 1, ⟨rfl, rfl, no rfl⟩, nh rfl⟩
  · obtain ⟨dx, ew⟩ := hw.w
    exact ⟨.ob (), ⟨⟨aw, CW, dx, _, rfl, ew, I⟩, rfl, no rfl⟩, nh rfl⟩
section
variable {P : Program} {w : World} {K : PySem.W.Frag} {mg : Str → Option Value} {base : Heap} {CW CK : Addr}
theorem ok_rr {f fK fR fL fA : Addr} {fd fdK fdR fdL fdA : FuncData} (F : Fun K "_law_read_right" "_law_read_right" sRR f fd) (nr : mg "range" = none) (T : TxtW K mg CW) (MR : Meth K CW "read" fR) (GR : FnOk P w K mg base CX0 7 fR fdR ["self", "tag"] (spRd K CW CK)) (bR : Binds K fdR ["self", "tag"] [])
    (DK : Def P w K mg base 6 "_law_key" fK fdK ["_law_value"] (spKey K 5)) (DL : Def P w K mg base 8 "_law_read" fL fdL ["_law_m", "_law_tag_here"] (spLR K)) (DA : Def P w K mg base 8 "_law_alike" fA fdA PAl (spAl K CW)) : FnOk P w K mg base CX0 9 f fd PRR (spRR K CW CK) := by
  refine F.ok scRR (fun vs H Q E h => ?_) (fun cdv A outer s H vs Q E hr h => ?_)
  · obtain ⟨aw, kd, sd, am, tb, rl, ts, rs, ls, last, last', rfl, _⟩ := h
    rfl
  · obtain ⟨aw, kd, sd, am, tb, rl, ts, rs, ls, last, last', rfl, hw, hm, W, L, TO, hk, nd, B, l9, I, q⟩ := h
    refine ⟨_, pss_cons (ps_for PassesOwn.never rfl (pi_range1 rfl nr (pa_cons pe_int pa_nil)) (pg_name (i := 2) scRR.nd rfl (Or.inl rfl))
        (pss_one (ps_for PassesOwn.never rfl (pi_list (pe_dget (hu_of hr) (pv 1) pe_str (fun _ _ => rfl))) (pg_unl rfl (pgs_cons (pg_name (i := 3) scRR.nd rfl (Or.inl rfl)) (pgs_cons (pg_name (i := 4) scRR.nd rfl (Or.inl rfl)) (pgs_cons (pg_name (i := 5) scRR.nd rfl (Or.inl rfl)) pgs_nil))))
          (pss_one (ps_if (pt_cmpR (op_ne5 (hu64 hr)) (pe_call DK.ok (hr.mono (by decide)) rfl DK.g DK.kp DK.b .nil pass0 (pa_cons (pe_meth (pv 0) T.cl MR GR (hr.mono (by decide)) bR .nil pass0 (pa_cons (pv 3) pa_nil)) pa_nil))
            (pe_call DK.ok (hr.mono (by decide)) rfl DK.g DK.kp DK.b .nil pass0 (pa_cons (pe_call DL.ok (hr.mono (by decide)) rfl DL.g DL.kp DL.b .nil pass0 (pa_cons (pv 1) (pa_cons (pv 3) pa_nil))) pa_nil)) (nomark _)) (pss_one (ps_ret pe_bl)) pss_nil)))))
      (pss_cons (ps_set (i := 6) scRR.nd rfl (Or.inl rfl) (pe_lst (pa_cons pe_non (pa_cons pe_str (pa_cons (pe_tup (pa_cons pe_str (pa_cons pe_str (pa_cons pe_int pa_nil)))) (pa_cons (pe_tup (pa_cons pe_str (pa_cons pe_str (pa_cons pe_int pa_nil)))) (pa_cons (pe_tup (pa_cons pe_str (pa_cons pe_str (pa_cons pe_bl pa_nil)))) (pa_cons pe_dnewK (pa_cons (pe_lst pa_nil) (pa_cons pe_int (pa_cons (pv 0) pa_nil)))))))))))
      (pss_one (ps_ret (pe_and (pe_cmpR (show OpR _ _ (rEqD K) from op_eqD (hu64 hr)) (pe_lc (own := [("_law_thing", 7)]) (g := gName 7) rfl scRR.nd (pi_list (pv 6)) (blkOk_by (N := NRR) (sc := defScope sRR) (by decide +kernel)) (fun _ _ _ _ _ => pg_name (i := 7) scRR.nd rfl (Or.inl rfl))
          (fun _ _ _ _ _ => pts_one (pt_cmpR op_notN (pe_meth (pv 0) T.cl MR GR (hr.mono (by decide)) bR .nil pass0 (pa_cons (pv 7) pa_nil)) pe_non (nomark _))) (fun _ _ _ _ _ => pv 7)) (pe_lst pa_nil) (nomark _))
        (pe_one (pe_call DA.ok (hr.mono (by decide)) rfl DA.g DA.kp DA.b .nil pass0 (pa_cons (pv 0) (pa_cons (pv 1) pa_nil)))))))), ?_⟩
    have P := kps5 (K := K)
    have lkn : ∀ {nm : Str} {n : Int}, (nm == "_kinds") = false → (nm == "_standing") = false → (nm == "_last") = false → (wfl kd sd n).lookup nm = none := fun a b c => (lk_tl a).trans ((lk_tl b).trans ((lk_tl c).trans rfl))
    obtain ⟨dx, ew⟩ := hw.w
    have hkey : ∀ {σ : L2.St} {H' : Hp} {ta : TE} {d : D5}, ED (O5 K) ta σ H' d → lyk 5 d = true → ED (O5 K) (tCall (spKey K 5) [] E0 (tCons ta tNil)) σ H' (.tup (kl d)) := fun {σ H' ta d} h ok H3 s3 Q3 q3 =>
      h H3 s3 _ fun v H4 s4 hv => ⟨v, d, rfl, hv, ok, fun v' H5 s5 hd' => q3 v' H5 (Same.trans s4 s5) (by rw [← keyD_tup]; exact hd')⟩
    refine ⟨2, rfl, by decide, by decide, for_range (lo := 0) (n := 2) (fun i σ' H' => (∃ w2 w3 w4 w5, σ' = [some (.ref aw), some (.ref am), w2, w3, w4, w5, none, none]) ∧ Same H H') ⟨⟨_, _, _, _, rfl⟩, Same.refl _⟩ (fun i σ' H1 hi h => ?_) (fun σ' H1 h => ?_)⟩
    · obtain ⟨⟨w2, w3, w4, w5, rfl⟩, s1⟩ := h
      have hm1 := hm.same s1
      show tFor _ _ _ _ [some (.ref aw), some (.ref am), some (.int _), w3, w4, w5, none, none] H1
      refine (ep_rows (i := 1) hm1 rfl).run fun rv H2 s2 erv => ?_
      subst erv
      have s12 := Same.trans s1 s2
      have hm2 := hm.same s12
      refine ⟨rl, rfl, ⟨_, SqL.of hm2.r⟩, ?_⟩
      refine for_it (walk_list (K := K) (xs := ls.map fun q => V.ref q.l)) (fun i' σ' H' => (∃ w2 w3 w4 w5, σ' = [some (.ref aw), some (.ref am), w2, w3, w4, w5, none, none]) ∧ Same H2 H') ⟨⟨_, _, _, _, rfl⟩, Same.refl _⟩ (fun i σ' H' _ p => SqL.of (p.2 _ _ hm2.r)) (fun i x σ' H4 H4' hi p y => ?_) (fun σ' H9 p => ?_)
      · obtain ⟨⟨w2, w3, w4, w5, rfl⟩, s4⟩ := p
        obtain ⟨rfl, ex⟩ := y
        obtain ⟨q1, er, rfl⟩ := ls_at ex
        have mq := List.mem_of_getElem? er
        have s04 := Same.trans s12 s4
        have hm4 := hm.same s04
        have hw4 := hw.same s04
        obtain ⟨hl, htt, hpd⟩ := hm4.q q1 mq
        obtain ⟨p, mp, ep⟩ := B.row mq
        obtain ⟨t, ht, et, hn⟩ := B.g q1 mq
        have okr := L.ok q1 mq
        have oks := B.s q1 mq
        have okF := rdF_ok (R := q1.r) t.gv q1.r.ps okr
        have kF := rdF_keys t.gv q1.r.ps hn
        have lF : (rdF t.gv q1.r.ps).length = q1.r.ps.length := by have h := congrArg List.length kF; rwa [List.length_map, List.length_map] at h
        have okS : OkS { q1.r with ps := rdF t.gv q1.r.ps } := ⟨by show sortedS ((rdF t.gv q1.r.ps).map (·.1)) = true; rw [kF]; exact oks.so, by show (rdF t.gv q1.r.ps).length < 64; rw [lF]; exact oks.ln⟩
        refine ⟨q1.l, [.ref q1.t, .str q1.r.kind, .ref q1.d], rfl, SqL.of hl, rfl, _, _, rfl, _, _, rfl, _, _, rfl, rfl, ?_⟩
        show tIfS _ _ _ _ [some (.ref aw), some (.ref am), w2, some (.ref q1.t), some (.str q1.r.kind), some (.ref q1.d), none, none] H4'
        have hkind : p.1.kind = q1.r.kind := by rw [ep]
        have hnum : p.1.n = q1.r.n := by rw [ep]
        have e1 : ED (O5 K) (tMeth CW "read" (spRd K CW CK) [] E0 (tVar 0) (tCons (tVar 3) tNil)) [some (.ref aw), some (.ref am), w2, some (.ref q1.t), some (.str q1.r.kind), some (.ref q1.d), none, none] H4' (mapP (rdF t.gv q1.r.ps)) := fun H5 s5 Q5 q5 => by
          have s05 := Same.trans s04 s5
          have hb5 : H5 q1.t = some (.tup [.str "#", .str p.1.kind, .int (p.1.n : Int)]) := by rw [hkind, hnum]; exact s5 _ _ htt
          refine ⟨_, rfl, aw, dx, _, rfl, s05 _ _ ew, lkn (by decide +kernel) (by decide +kernel) (by decide +kernel), _, rfl, aw, kd, sd, .ref q1.t, tagR p.1, rs, last, ts, rfl, hw.same s05, W, hk.same s05, TO, targ_row (W.ok p mp) hb5, (fun z => by rw [has_row W mp] at z; cases z), fun p' _ e' => ?_⟩
          have : p' = p := by
            have h1 : rowD rs (tagR p.1) = some p := (rowD_tag (k := p.1.kind) (n := p.1.n)).trans (find_row W mp)
            rw [h1] at e'
            exact (Option.some.inj e').symm
          subst this
          refine ⟨t, ht, by rw [et, ep], by rw [ep]; exact hn, by rw [ep]; have := oks.ln; omega, fun D H6 _ s6 hP => q5 (.ref D) H6 s6 ?_⟩
          rw [ep] at hP
          exact hP.dv okF.nd
        have e2 : ED (O5 K) (tCall (spLR K) [] E0 (tCons (tVar 1) (tCons (tVar 3) tNil))) [some (.ref aw), some (.ref am), w2, some (.ref q1.t), some (.str q1.r.kind), some (.ref q1.d), none, none] H4' (mapP (rdF t.gv q1.r.ps)) := fun H5 s5 Q5 q5 => by
          have s05 := Same.trans s04 s5
          exact ⟨_, rfl, _, rfl, am, tb, rl, q1.t, ts, t, ls, last', q1, rfl, hm.same s05, L, TO, ht, nd, s5 _ _ htt, mq, et.symm, (by have := oks.ln; omega), hn, fun D H6 _ s6 hP => q5 (.ref D) H6 s6 (hP.dv okF.nd)⟩
        exact (et_neP (hkey e1 (mapP_lyk okF okS)) (hkey e2 (mapP_lyk okF okS)) (mapP_kpln okF).1 (mapP_kpln okF).2).skip1 fun H5 s5 => ⟨⟨_, _, _, _, rfl⟩, Same.trans s4 s5⟩
      · obtain ⟨⟨w2, w3, w4, w5, rfl⟩, s4⟩ := p
        exact ⟨⟨_, _, _, _, rfl⟩, Same.trans s12 s4⟩
    · obtain ⟨⟨w2, w3, w4, w5, rfl⟩, s1⟩ := h
      have eo : EP (tLst (tCons (tC .non) (tCons (tC (.str "#")) (tCons (tTup (tCons (tC (.str "#")) (tCons (tC (.str "k")) (tCons (tC (.int 0)) tNil)))) (tCons (tTup (tCons (tC (.str "#")) (tCons (tC (.str "k")) (tCons (tC (.int 900)) tNil)))) (tCons (tTup (tCons (tC (.str "#")) (tCons (tC (.str "k")) (tCons (tC (.bl true)) tNil)))) (tCons tDNewK (tCons (tLst tNil) (tCons (tC (.int 1)) (tCons (tVar 0) tNil)))))))))) [some (.ref aw), some (.ref am), w2, w3, w4, w5, none, none] H1
          (fun v H2 => ∃ t0 t9 tT e l lo, v = .ref lo ∧ H2 t0 = some (.tup [.str "#", .str "k", .int 0]) ∧ H2 t9 = some (.tup [.str "#", .str "k", .int 900]) ∧ H2 tT = some (.tup [.str "#", .str "k", .bl true]) ∧ H2 e = some (.dK []) ∧ H2 l = some (.lst []) ∧ H2 lo = some (.lst (oddV t0 t9 tT e l aw))) := fun H1' s1' Q1 q1 => by
        refine ⟨by show 3 ≤ sizeLine; decide, fun t0 n0 => ⟨by show 3 ≤ sizeLine; decide, fun t9 n9 => ⟨by show 3 ≤ sizeLine; decide, fun tT nT => fun e ne => ⟨by show 0 ≤ sizeLine; decide, fun l nl => ⟨_, rfl, by show 9 ≤ sizeLine; decide, fun lo nlo => ?_⟩⟩⟩⟩⟩
        have g0 := sm_upd (o := .tup [V.str "#", .str "k", .int 0]) n0
        have g9 := sm_upd (o := .tup [V.str "#", .str "k", .int 900]) n9
        have gT := sm_upd (o := .tup [V.str "#", .str "k", .bl true]) nT
        have ge := sm_upd (o := .dK []) ne
        have gl := sm_upd (o := .lst []) nl
        have go := sm_upd (o := .lst (oddV t0 t9 tT e l aw)) nlo
        exact q1 (.ref lo) _ (Same.trans g0 (Same.trans g9 (Same.trans gT (Same.trans ge (Same.trans gl go))))) ⟨t0, t9, tT, e, l, lo, rfl, go _ _ (gl _ _ (ge _ _ (gT _ _ (g9 _ _ upd_same)))), go _ _ (gl _ _ (ge _ _ (gT _ _ upd_same))), go _ _ (gl _ _ (ge _ _ upd_same)), go _ _ (gl _ _ upd_same), go _ _ upd_same, upd_same⟩
      refine EP.seq eo fun v H2 sA ⟨t0, t9, tT, e, l, lo, ev, h0, h9, hT, he, hl, ho⟩ => ?_
      subst ev
      show tRet _ _ [some (.ref aw), some (.ref am), w2, w3, w4, w5, some (.ref lo), none] H2
      have s02 := Same.trans s1 sA
      have lc := ep_lcL (K := K) (σ := [some (.ref aw), some (.ref am), w2, w3, w4, w5, some (.ref lo), none]) (H := H2) (i := 7) (xs := oddV t0 t9 tT e l aw) (p := fun _ => false) (out := fun _ => .non) (ta := tVar 6) (tt := tTest (tOp (fun x y H Q => y = .non ∧ Q (.bl (!decide (x = .non))) H) (tMeth CW "read" (spRd K CW CK) [] E0 (tVar 0) (tCons (tVar 7) tNil)) (tC .non))) (te := tVar 7)
        (ep_pv rfl fun H3 s3 => ⟨lo, rfl, SqL.of (s3 _ _ ho)⟩) (by show 9 ≤ 10000; decide) (fun u => rfl) (fun j x H3 ex s3 => by
          intro H4 s4 Q4 q4
          have s24 := Same.trans s3 s4
          have s04 := Same.trans s02 s24
          obtain ⟨d, ta, hd⟩ := odd_targ W l9 I (hw.same s04) (s24 _ _ h0) (s24 _ _ h9) (s24 _ _ hT) (s24 _ _ he) (s24 _ _ hl) x (List.mem_of_getElem? ex)
          exact ⟨_, rfl, aw, dx, _, rfl, s04 _ _ ew, lkn (by decide +kernel) (by decide +kernel) (by decide +kernel), _, rfl, aw, kd, sd, x, d, rs, last, ts, rfl, hw.same s04, W, hk.same s04, TO, ta, (fun _ H5 s5 => ⟨rfl, _, rfl, q4 H5 s5⟩), fun p z => by rw [hd] at z; cases z⟩)
        (fun j x H3 ex s3 z => nomatch z)
      refine EP.ret (eb_and (b := true) (c := true) (fun H3 s3 Q3 q3 => lc H3 s3 _ fun v H4 s4 ⟨D, ev, eD⟩ => ?_) fun _ => (fun H3 s3 Q3 q3 => ?_)) fun u H3 s3 eu => ?_
      · subst ev
        rw [selV_none (fun j _ => rfl)] at eD
        refine ⟨by show 0 ≤ sizeLine; decide, fun E nE => ⟨.list [], .list [], .lst (SqL.of (sm_upd nE _ _ eD)) .nil, .lst (SqL.of upd_same) .nil, by decide +kernel, by decide +kernel, ?_⟩⟩
        exact q3 _ _ (Same.trans s4 (sm_upd nE)) (by simp [PyData.eqv, PyData.eqvAll])
      · have s03 := Same.trans s02 s3
        exact ⟨_, rfl, _, rfl, aw, kd, sd, am, tb, rl, ts, rs, ls, last, last', rfl, hw.same s03, hm.same s03, W, L, B.e, B.s, fun H4 s4 => q3 _ H4 s4 rfl⟩
      · rw [eu]
        exact q H3 (Same.trans s02 s3)
end
end Kd

set_option Elab.async false
set_option linter.all false
set_option maxRecDepth 100000
set_option maxHeartbeats 4000000
/-! what stays while the law plays -/
namespace Kd
open PySem PySem.Spec PyProof.Rows L2 Dq Vl Pf Ed ClX LamX
abbrev qL : Str := "_law_right.<locals>.<lambda>"
/-- no table, no code of a lambda -/
structure NotT (o : HO) : Prop where
  tbl : ∀ ps, o ≠ .tbl ps
  ext : ∀ c q, o ≠ CodeO c q
theorem codeN {o : HO} (h : ∀ phi, o ≠ .ext phi) : ∀ c q, o ≠ CodeO c q := fun c q e => h _ (by unfold CodeO at e; exact e)
theorem nt_lst {xs : List V} : NotT (.lst xs) := ⟨fun _ e => (nomatch e), codeN fun _ e => nomatch e⟩
theorem nt_dK {xs : List (Key × V)} : NotT (.dK xs) := ⟨fun _ e => (nomatch e), codeN fun _ e => nomatch e⟩
theorem nt_dT {xs : List (List Key × V)} : NotT (.dT xs) := ⟨fun _ e => (nomatch e), codeN fun _ e => nomatch e⟩
theorem nt_ins {C dx : Addr} {fs : List (Str × V)} : NotT (.ins C dx fs) := ⟨fun _ e => (nomatch e), codeN fun _ e => nomatch e⟩
section
variable {K : PySem.W.Frag} {CW CK Pt : Addr} {H H' H2 : Hp} {S : List Addr}
theorem tabs_ch {T : List (Addr × Str)} (t : Tabs T H) (c : Ch S H H') (al : ∀ a ∈ S, ∀ o, H a = some o → NotT o) : Tabs T H' := fun p hp => by
  obtain ⟨ps, h1, h2, h3⟩ := t p hp
  refine ⟨ps, c _ _ h1 fun m => (al _ m _ h1).tbl _ rfl, h2, fun pos cv hc => ?_⟩
  obtain ⟨cc, e1, e2⟩ := h3 pos cv hc
  exact ⟨cc, e1, c _ _ e2 fun m => (al _ m _ e2).ext _ _ rfl⟩
/-- all but w and the tables stays -/
def Fr (w : Addr) (H H' : Hp) : Prop := ∀ b o, H b = some o → b ≠ w → (∀ ps, o ≠ .tbl ps) → H' b = some o
theorem Fr.refl (w : Addr) (H : Hp) : Fr w H H := fun _ _ e _ _ => e
theorem Fr.trans {w : Addr} {H H1 H2 : Hp} (a : Fr w H H1) (b : Fr w H1 H2) : Fr w H H2 := fun c o e n t => b c o (a c o e n t) n t
theorem Fr.same {w : Addr} (s : Same H H') : Fr w H H' := fun b o e _ _ => s b o e
theorem Fr.ext {w : Addr} (s : ExtN H H') : Fr w H H' := fun b o e _ n => s b o e n
theorem Fr.but {w : Addr} (s : But w H H') : Fr w H H' := fun b o e n _ => s b o e n
/-- nothing but a table stood there -/
def NewF (Hb : Hp) (a : Addr) : Prop := ∀ o, Hb a = some o → ∃ ps, o = .tbl ps
theorem Fr.ch {w : Addr} {Hb : Hp} (f : Fr w Hb H) (c : Ch S H H') (n : ∀ a ∈ S, NewF Hb a) : Fr w Hb H' := fun b o e nw nt => c b o (f b o e nw nt) fun m => by
  obtain ⟨ps, q⟩ := n b m o e
  exact nt ps q
theorem NewF.of {w a : Addr} {Hb : Hp} {z : Int} (f : Fr w Hb H) (hw : WellAt H w z) (n : H a = none) : NewF Hb a := fun o e => by
  by_cases h : ∃ ps, o = .tbl ps
  · exact h
  · have nw : a ≠ w := wellNe hw n
    rw [f a o e nw fun ps q => h ⟨ps, q⟩] at n
    cases n
/-- both worlds stand -/
structure Cur (K : PySem.W.Frag) (CW CK Pt : Addr) (Hb H : Hp) (w aw kd sd am tb rl : Addr) (ts : List Tb) (rs : Rs) (n : Nat) (ls : List Lr) (n2 : Nat) (z : Int) : Prop where
  well : WellAt H w z
  wd : WAt K CW H aw kd sd rs n
  kk : KAt K CK H kd ts
  md : MAt K H am tb rl ts ls n2
  tbs : Tabs [(Pt, qL)] H
  W : WOk ts rs n
  L : LOk ts ls
  TO : TsOk ts
  dj : ∀ p ∈ rs, ∀ q ∈ ls, p.2 ≠ q.d
  fb : Fr w Hb H
  nw : ∀ a ∈ own aw sd rs, NewF Hb a
  nm : ∀ a ∈ ownM am rl ls, NewF Hb a
variable {w aw kd sd am tb rl : Addr} {Hb : Hp} {ts : List Tb} {rs rs' : Rs} {ls ls' : List Lr} {n n2 n' : Nat} {z z' : Int}
theorem WAt.nt (h : WAt K CW H aw kd sd rs n) : ∀ a ∈ own aw sd rs, ∀ o, H a = some o → NotT o := by
  intro a m o e
  obtain ⟨dx, ew⟩ := h.w
  rcases List.mem_cons.mp m with rfl | m
  · rw [ew] at e; cases e; exact nt_ins
  rcases List.mem_cons.mp m with rfl | m
  · rw [h.s] at e; cases e; exact nt_dT
  · obtain ⟨p, hp, rfl⟩ := List.mem_map.mp m
    obtain ⟨kv, ek, _⟩ := h.r p hp
    rw [ek] at e
    cases e
    exact nt_dK
theorem MAt.nt (h : MAt K H am tb rl ts ls n) : ∀ a ∈ ownM am rl ls, ∀ o, H a = some o → NotT o := by
  intro a m o e
  rcases List.mem_cons.mp m with rfl | m
  · rw [h.m] at e; cases e; exact nt_dK
  rcases List.mem_cons.mp m with rfl | m
  · rw [h.r] at e; cases e; exact nt_lst
  · obtain ⟨q, hq, rfl⟩ := List.mem_map.mp m
    rw [(h.q q hq).l] at e
    cases e
    exact nt_lst
/-- the well is none of the world's things -/
theorem Cur.wOut (h : Cur K CW CK Pt Hb H w aw kd sd am tb rl ts rs n ls n2 z) : w ∉ own aw sd rs := fun m => by
  obtain ⟨x, y, e0⟩ := h.well
  obtain ⟨dx, ew⟩ := h.wd.w
  rcases List.mem_cons.mp m with e | m
  · rw [e, ew] at e0; cases e0
  rcases List.mem_cons.mp m with e | m
  · rw [e, h.wd.s] at e0; cases e0
  · obtain ⟨p, hp, e⟩ := List.mem_map.mp m
    obtain ⟨kv, ek, _⟩ := h.wd.r p hp
    rw [e, e0] at ek
    cases ek
theorem Cur.mOut (h : Cur K CW CK Pt Hb H w aw kd sd am tb rl ts rs n ls n2 z) : w ∉ ownM am rl ls := fun m => by
  obtain ⟨x, y, e0⟩ := h.well
  rcases List.mem_cons.mp m with e | m
  · rw [e, h.md.m] at e0; cases e0
  rcases List.mem_cons.mp m with e | m
  · rw [e, h.md.r] at e0
    injection e0 with e0
    injection e0 with e0
    cases ls with
    | nil => cases e0
    | cons q r => cases e0
  · obtain ⟨q, hq, e⟩ := List.mem_map.mp m
    have := (h.md.q q hq).l
    rw [e, e0] at this
    cases this
/-- the model's things are none of the world's -/
theorem Cur.cross (h : Cur K CW CK Pt Hb H w aw kd sd am tb rl ts rs n ls n2 z) : (∀ a ∈ ownM am rl ls, a ∉ own aw sd rs) ∧ (∀ q ∈ ls, q.d ∉ own aw sd rs) := by
  obtain ⟨dx, ew⟩ := h.wd.w
  refine ⟨fun a m m2 => ?_, fun q hq m2 => ?_⟩
  · have key : (∃ kv, H a = some (.dK kv) ∧ ∃ tb rl n, kv = mkv tb rl n) ∨ ∃ xs, H a = some (.lst xs) := by
      rcases List.mem_cons.mp m with rfl | m
      · exact .inl ⟨_, h.md.m, _, _, _, rfl⟩
      rcases List.mem_cons.mp m with rfl | m
      · exact .inr ⟨_, h.md.r⟩
      · obtain ⟨q, hq, rfl⟩ := List.mem_map.mp m
        exact .inr ⟨_, (h.md.q q hq).l⟩
    rcases List.mem_cons.mp m2 with e | m2
    · rw [e] at key
      rcases key with ⟨kv, ek, _⟩ | ⟨xs, ek⟩ <;> rw [ew] at ek <;> cases ek
    rcases List.mem_cons.mp m2 with e | m2
    · rw [e] at key
      rcases key with ⟨kv, ek, _⟩ | ⟨xs, ek⟩ <;> rw [h.wd.s] at ek <;> cases ek
    · obtain ⟨p, hp, e⟩ := List.mem_map.mp m2
      obtain ⟨kv', ek', pts⟩ := h.wd.r p hp
      rw [e] at ek'
      rcases key with ⟨kv, ek, tb', rl', n', e2⟩ | ⟨xs, ek⟩
      · rw [ek] at ek'
        injection ek' with ek'
        injection ek' with ek'
        exact head_am pts (h.W.ok p hp).hd (ek'.symm.trans e2)
      · rw [ek] at ek'; cases ek'
  · obtain ⟨kv, ek, _⟩ := (h.md.q q hq).p
    rcases List.mem_cons.mp m2 with e | m2
    · rw [e, ew] at ek; cases ek
    rcases List.mem_cons.mp m2 with e | m2
    · rw [e, h.wd.s] at ek; cases ek
    · obtain ⟨p, hp, e⟩ := List.mem_map.mp m2
      exact h.dj p hp q hq e
theorem Cur.same (h : Cur K CW CK Pt Hb H w aw kd sd am tb rl ts rs n ls n2 z) (s : Same H H') : Cur K CW CK Pt Hb H' w aw kd sd am tb rl ts rs n ls n2 z :=
  ⟨wellS h.well s, h.wd.same s, h.kk.same s, h.md.same s, h.tbs.ext s, h.W, h.L, h.TO, h.dj, h.fb.trans (.same s), h.nw, h.nm⟩
theorem Cur.calm (h : Cur K CW CK Pt Hb H w aw kd sd am tb rl ts rs n ls n2 z) (c : Calm CK H H') (t : Tabs [(Pt, qL)] H') (hw : WellAt H' w z') (e1 : ∀ a ∈ own aw sd rs, ∀ o, H a = some o → H' a = some o) (e2 : ∀ a ∈ ownM am rl ls, ∀ o, H a = some o → H' a = some o) (e3 : ∀ q ∈ ls, ∀ o, H q.d = some o → H' q.d = some o) (f : Fr w Hb H') :
    Cur K CW CK Pt Hb H' w aw kd sd am tb rl ts rs n ls n2 z' :=
  ⟨hw, h.wd.calm h.W c e1, h.kk.calm h.TO c, h.md.calm h.TO h.L c e2 e3, t, h.W, h.L, h.TO, h.dj, f, h.nw, h.nm⟩
theorem Cur.ext (h : Cur K CW CK Pt Hb H w aw kd sd am tb rl ts rs n ls n2 z) (s : ExtN H H') (t : Tabs [(Pt, qL)] H') : Cur K CW CK Pt Hb H' w aw kd sd am tb rl ts rs n ls n2 z := by
  obtain ⟨x, y, e0⟩ := h.well
  refine h.calm (.ext s) t ⟨x, y, s _ _ e0 fun _ z => (nomatch z)⟩ (fun a m o e => s _ _ e (h.wd.nt a m o e).tbl) (fun a m o e => s _ _ e (h.md.nt a m o e).tbl) (fun q hq o e => s _ _ e ?_) (h.fb.trans (.ext s))
  obtain ⟨kv, ek, _⟩ := (h.md.q q hq).p
  rw [ek] at e
  cases e
  exact nt_dK.tbl
theorem Cur.draw (h : Cur K CW CK Pt Hb H w aw kd sd am tb rl ts rs n ls n2 z) (b : But w H H') (hw : WellAt H' w z') : Cur K CW CK Pt Hb H' w aw kd sd am tb rl ts rs n ls n2 z' := by
  obtain ⟨x, y, e0⟩ := h.well
  have al : ∀ a ∈ [w], ∀ o, H a = some o → Apt CK o ∧ NotT o := fun a m o e => by
    rw [List.mem_singleton.mp m, e0] at e
    cases e
    exact ⟨apt_lst, nt_lst⟩
  have w1 := h.wOut
  have w2 := h.mOut
  refine h.calm (.ch (.but b) fun a m o e => (al a m o e).1) (tabs_ch h.tbs (.but b) fun a m o e => (al a m o e).2) hw (fun a m o e => b _ _ e fun q => w1 (by rw [← q]; exact m)) (fun a m o e => b _ _ e fun q => w2 (by rw [← q]; exact m)) (fun q hq o e => b _ _ e fun z => ?_) (h.fb.trans (.but b))
  obtain ⟨kv, ek, _⟩ := (h.md.q q hq).p
  rw [z, e0] at ek
  cases ek
/-- the world has changed -/
theorem Cur.world (h : Cur K CW CK Pt Hb H w aw kd sd am tb rl ts rs n ls n2 z) (c : Ch (own aw sd rs) H H') (cm : Calm CK H H') (wd : WAt K CW H' aw kd sd rs' n') (W : WOk ts rs' n') (dj : ∀ p ∈ rs', ∀ q ∈ ls, p.2 ≠ q.d) (nw : ∀ p ∈ rs', NewF Hb p.2) : Cur K CW CK Pt Hb H' w aw kd sd am tb rl ts rs' n' ls n2 z := by
  obtain ⟨x, y, e0⟩ := h.well
  obtain ⟨c1, c2⟩ := h.cross
  exact ⟨⟨x, y, c _ _ e0 h.wOut⟩, wd, h.kk.calm h.TO cm, h.md.calm h.TO h.L cm (fun a m o e => c _ _ e (c1 a m)) (fun q hq o e => c _ _ e (c2 q hq)), tabs_ch h.tbs c h.wd.nt, W, h.L, h.TO, dj, h.fb.ch c h.nw, fun a m => by
    rcases List.mem_cons.mp m with rfl | m
    · exact h.nw _ (by simp)
    rcases List.mem_cons.mp m with rfl | m
    · exact h.nw _ (by simp)
    · obtain ⟨p, hp, rfl⟩ := List.mem_map.mp m
      exact nw p hp, h.nm⟩
/-- the model has changed -/
theorem Cur.model (h : Cur K CW CK Pt Hb H w aw kd sd am tb rl ts rs n ls n2 z) (c : Ch (ownM am rl ls) H H') (cm : Calm CK H H') (md : MAt K H' am tb rl ts ls' n') (L : LOk ts ls') (dj : ∀ p ∈ rs, ∀ q ∈ ls', p.2 ≠ q.d) (nm : ∀ q ∈ ls', NewF Hb q.l) : Cur K CW CK Pt Hb H' w aw kd sd am tb rl ts rs n ls' n' z := by
  obtain ⟨x, y, e0⟩ := h.well
  obtain ⟨c1, c2⟩ := h.cross
  exact ⟨⟨x, y, c _ _ e0 h.mOut⟩, h.wd.calm h.W cm fun a m o e => c _ _ e fun m2 => c1 a m2 m, h.kk.calm h.TO cm, md, tabs_ch h.tbs c h.md.nt, h.W, L, h.TO, dj, h.fb.ch c h.nm, h.nw, fun a m => by
    rcases List.mem_cons.mp m with rfl | m
    · exact h.nm _ (by simp)
    rcases List.mem_cons.mp m with rfl | m
    · exact h.nm _ (by simp)
    · obtain ⟨p, hp, rfl⟩ := List.mem_map.mp m
      exact nm p hp⟩
/-- an own list, a new one, has changed -/
theorem Cur.side {D : Addr} {xs : List V} (h : Cur K CW CK Pt Hb H w aw kd sd am tb rl ts rs n ls n2 z) (e : H D = some (.lst xs)) (n1 : D ≠ w) (n2' : D ∉ ownM am rl ls) (nD : NewF Hb D) {ys : List V} : Cur K CW CK Pt Hb (upd H D (.lst ys)) w aw kd sd am tb rl ts rs n ls n2 z := by
  have c : Ch [D] H (upd H D (.lst ys)) := .upd (by simp)
  have out : D ∉ own aw sd rs := fun m => by
    obtain ⟨dx, ew⟩ := h.wd.w
    rcases List.mem_cons.mp m with q | m
    · rw [q, ew] at e; cases e
    rcases List.mem_cons.mp m with q | m
    · rw [q, h.wd.s] at e; cases e
    · obtain ⟨p, hp, q⟩ := List.mem_map.mp m
      obtain ⟨kv, ek, _⟩ := h.wd.r p hp
      rw [q, e] at ek
      cases ek
  have al : ∀ a ∈ [D], ∀ o, H a = some o → NotT o := fun a m o q => by rw [List.mem_singleton.mp m, e] at q; cases q; exact nt_lst
  refine h.calm (.upd e apt_lst) (tabs_ch h.tbs c al) (wellU h.well n1) (fun a m o q => (upd_ne fun z => out (by rw [← z]; exact m)).trans q) (fun a m o q => (upd_ne fun z => n2' (by rw [← z]; exact m)).trans q) (fun q hq o eo => (upd_ne fun z => ?_).trans eo) (h.fb.ch c fun a m => by rw [List.mem_singleton.mp m]; exact nD)
  rw [z, e] at eo
  cases eo
  obtain ⟨kv, ek, _⟩ := (h.md.q q hq).p
  rw [z, e] at ek
  cases ek
end
/-! ### rows of the law's kind -/
def putN (l : List Str) (s : Str) : List Str := if s ∈ l then l else l ++ [s]
theorem put_names {ps : Prt} {s : Str} {x : D5} : (putS ps s x).map (·.1) = putN (ps.map (·.1)) s := by
  unfold putN
  by_cases h : s ∈ ps.map (·.1)
  · rw [if_pos h, put_keys h]
  · rw [if_neg h, put_new h, List.map_append]
    rfl
def markN (md : List (Str × Ru)) (l : List Str) : List Str := md.foldl (fun l p => if p.2 = .mark then putN l p.1 else l) l
def arN (md : List (Str × Ru)) (l : List Str) : List Str := md.foldl (fun l p => match p.2 with
  | .ar _ _ _ => putN l p.1
  | _ => l) l
theorem mark_names {k : Str} : ∀ (md : List (Str × Ru)) (a : Prt × Nat), (markF k md a).1.map (·.1) = markN md (a.1.map (·.1))
  | [], _ => rfl
  | p :: md, a => by
    show (markF k md (markS k a p)).1.map (·.1) = markN md (if p.2 = .mark then putN (a.1.map (·.1)) p.1 else a.1.map (·.1))
    rw [mark_names md]
    unfold markS
    split
    · rw [put_names]
    · rfl
theorem ar_names : ∀ (md : List (Str × Ru)) (a : Prt), (arF md a).map (·.1) = arN md (a.map (·.1))
  | [], _ => rfl
  | p :: md, a => by
    show (arF md (arS a p)).map (·.1) = arN md (match p.2 with | .ar _ _ _ => putN (a.map (·.1)) p.1 | _ => a.map (·.1))
    rw [ar_names md]
    unfold arS
    cases p.2 with
    | ar s pre post => rw [put_names]
    | _ => rfl
abbrev attK : List Str := ["a", "b", "c", "id", "m", "t", "u"]
abbrev mdK : List (Str × Ru) := [("id", .id), ("t", .ar "c" "(" ")"), ("u", .ar "c" "" "x"), ("m", .mark)]
/-- a row of the law's kind -/
structure RowK (l1 l2 : List (Str × Str)) (r : Ro) : Prop where
  k : r.kind = "k"
  g : GvS (tblK l1 l2) r.ps
  a : r.ps.map (·.1) = attK
theorem names_new : arN mdK (markN mdK (putN ["a", "b", "c"] "id")) = attK := by decide +kernel
theorem names_old : arN mdK (markN mdK attK) = attK := by decide +kernel
theorem names_alt : arN mdK attK = attK := by decide +kernel
section
variable {l1 l2 : List (Str × Str)} {r : Ro}
theorem RowK.len (h : RowK l1 l2 r) : r.ps.length = 7 := by
  have := congrArg List.length h.a
  rwa [List.length_map] at this
theorem RowK.s (h : RowK l1 l2 r) : OkS r := ⟨by rw [h.a]; decide +kernel, by rw [h.len]; decide⟩
theorem RowK.nm (h : RowK l1 l2 r) : ∀ g ∈ (tblK l1 l2).gv, g.nm ∈ r.ps.map (·.1) := fun g hg => by
  rw [h.a]
  simp only [tblK, List.mem_cons, List.not_mem_nil, or_false] at hg
  rcases hg with rfl | rfl | rfl
  · exact (by decide +kernel : ("a" : Str) ∈ attK)
  · exact (by decide +kernel : ("b" : Str) ∈ attK)
  · exact (by decide +kernel : ("c" : Str) ∈ attK)
theorem row_new {g : Prt} {n : Nat} (G : GvOk g) : RowK l1 l2 (mkRo (tblK l1 l2) g n) where
  k := rfl
  g := mkP_gs (tbl_ok l1 l2) G
  a := by
    show (arF mdK (markF "k" mdK (putS (givP (tblK l1 l2) g) "id" (tagOf "k" n), n)).1).map (·.1) = attK
    rw [ar_names, mark_names, put_names, givP_keys]
    exact names_new
theorem row_alt (h : RowK l1 l2 r) {s : Str} {x : D5} (hs : s ∈ gvN (tblK l1 l2)) (sx : smlD x = true) : RowK l1 l2 { r with ps := altP (tblK l1 l2) r.ps s x } where
  k := h.k
  g := GvS.ar (tbl_ok l1 l2) (h.g.put sx)
  a := by
    show (arF mdK (putS r.ps s x)).map (·.1) = attK
    have m : s ∈ r.ps.map (·.1) := by
      obtain ⟨y, hy, _⟩ := h.g s hs
      exact List.mem_map_of_mem (f := (·.1)) (getS_mem hy)
    rw [ar_names, put_keys m, h.a]
    exact names_alt
theorem ch_one {ps : Prt} {s : Str} {x : D5} (hs : s ∈ gvN (tblK l1 l2)) : chF [(s, x)] (gvN (tblK l1 l2)) ps = putS ps s x := by
  have e0 : ∀ {k : Str}, k = s → chS [(s, x)] ps k = putS ps s x := fun e => by
    unfold chS
    rw [e, getS_pos rfl]
  have e1 : ∀ {k : Str} {qs : Prt}, ¬ k = s → chS [(s, x)] qs k = qs := fun {k qs} e => by
    unfold chS
    rw [getS_neg (fun z => e z.symm)]
    rfl
  have ab : ¬ ("a" : Str) = "b" := by decide +kernel
  have ac : ¬ ("a" : Str) = "c" := by decide +kernel
  have bc : ¬ ("b" : Str) = "c" := by decide +kernel
  show chS [(s, x)] (chS [(s, x)] (chS [(s, x)] ps "a") "b") "c" = _
  have hs : s ∈ (["a", "b", "c"] : List Str) := hs
  simp only [List.mem_cons, List.not_mem_nil, or_false] at hs
  rcases hs with rfl | rfl | rfl
  · rw [e0 rfl, e1 (fun z => ab z.symm), e1 (fun z => ac z.symm)]
  · rw [e1 ab, e0 rfl, e1 (fun z => bc z.symm)]
  · rw [e1 ac, e1 bc, e0 rfl]
theorem chg_same {ps : Prt} {s : Str} {x : D5} {n : Nat} (hs : s ∈ gvN (tblK l1 l2)) : lchP (tblK l1 l2) ps [(s, x)] n = chgP (tblK l1 l2) ps [(s, x)] n ∧ lchL (tblK l1 l2) ps [(s, x)] n = chgL (tblK l1 l2) ps [(s, x)] n := by
  unfold lchP lchL chgP chgL
  rw [ch_one hs]
  exact ⟨rfl, rfl⟩
theorem row_chg (h : RowK l1 l2 r) {s : Str} {x : D5} {n : Nat} (hs : s ∈ gvN (tblK l1 l2)) (sx : smlD x = true) : RowK l1 l2 { r with ps := chgP (tblK l1 l2) r.ps [(s, x)] n } where
  k := h.k
  g := by
    show GvS _ (arF _ (markF _ _ (chF [(s, x)] (gvN (tblK l1 l2)) r.ps, n)).1)
    rw [ch_one hs]
    exact GvS.ar (tbl_ok l1 l2) (GvS.mark (tbl_ok l1 l2) (h.g.put sx))
  a := by
    show (arF mdK (markF "k" mdK (chF [(s, x)] (gvN (tblK l1 l2)) r.ps, n)).1).map (·.1) = attK
    have m : s ∈ r.ps.map (·.1) := by
      obtain ⟨y, hy, _⟩ := h.g s hs
      exact List.mem_map_of_mem (f := (·.1)) (getS_mem hy)
    rw [ch_one hs, ar_names, mark_names, put_keys m, h.a]
    exact names_old
end
end Kd

set_option Elab.async false
set_option linter.all false
set_option maxRecDepth 100000
set_option maxHeartbeats 4000000
/-! _law_right: a making -/
namespace Kd
open PySem PySem.Spec PyProof.Rows L2 Dq Vl Pf Ed ClX LamX
def bodyOf (s : Stmt) : List Stmt := match s with
  | .For _ _ b _ _ => b
  | _ => []
abbrev sRt : Stmt := tp 60
abbrev NRt : List Str := ["_law_well_here", "_law_tables", "_law_table", "_law_world", "_law_m", "_law_turn", "_law_given", "_law_tag_here", "_law_name", "_law_value"]
theorem scRt : FnScope NRt ["_law_well_here"] (defScope sRt) := ⟨rfl, rfl, rfl, by decide +kernel, rfl, by decide +kernel, by decide +kernel⟩
/-- a def with its promise -/
def HasD (P : Program) (w : World) (K : PySem.W.Frag) (mg : Str → Option Value) (base : Heap) (k : Nat) (x : Str) (ps : List Str) (sp : Sp) : Prop := ∃ (f : Addr) (fd : FuncData), Def P w K mg base k x f fd ps sp
def HasM (P : Program) (w : World) (K : PySem.W.Frag) (mg : Str → Option Value) (base : Heap) (CX : CXT) (k : Nat) (C : Addr) (x : Str) (ps : List Str) (sp : Sp) : Prop := ∃ (f : Addr) (fd : FuncData), Meth K C x f ∧ FnOk P w K mg base CX k f fd ps sp ∧ Binds K fd ps []
def HasSaid (K : PySem.W.Frag) (mg : Str → Option Value) : Prop := ∃ (fS : Addr) (oc kV doc pm cd ct : Value) (an od : Option Addr) (osl : Array (Option Value)),
  K.lookup fS = some ⟨oc, od, .func (PySem.W.fnOf "_law_said" "_law_said" (defArgs sSaid) (defBody sSaid) (defScope sSaid) .none kV doc pm an cd ct), osl⟩ ∧ PySem.W.codeIn K cd "_law_said" = true ∧ PySem.W.keepIn K (.ref fS) = true ∧ mg "_law_said" = some (.ref fS) ∧
  Binds K (PySem.W.fnOf "_law_said" "_law_said" (defArgs sSaid) (defBody sSaid) (defScope sSaid) .none kV doc pm an cd ct) ["_law_ask"] []
structure TxtRt (P : Program) (w : World) (K : PySem.W.Frag) (mg : Str → Option Value) (base : Heap) (CW CK CT CG CU Pt c : Addr) : Prop where
  ne : CW ≠ CK
  tw : TxtW K mg CW
  iw : InsT K CW
  tc : TxtC mg CT CG CU
  dict : mg "dict" = none
  range : mg "range" = none
  TB : TabB base mg c Pt
  said : HasSaid K mg
  draw : HasD P w K mg base 1 "_law_draw" ["_law_well_here", "_law_often"] spDraw
  one : HasD P w K mg base 2 "_law_one" ["_law_well_here", "_law_some"] (spOne K)
  con : HasD P w K mg base 3 "_law_contents" ["_law_well_here"] (spCo K)
  lmk : HasD P w K mg base 3 "_law_make" PLMk (spLMk K CK)
  lal : HasD P w K mg base 8 "_law_alter" PLAl (spLAl K CK)
  lch : HasD P w K mg base 8 "_law_change" PLC (spLC K CK)
  rr : HasD P w K mg base 9 "_law_read_right" PRR (spRR K CW CK)
  wmk : HasM P w K mg base CX0 6 CW "make" ["self", "kind", "given"] (spMake K CW CK)
  wal : HasM P w K mg base CX0 6 CW "alter" NAlt (spAlt K CW CK)
  wch : HasM P w K mg base CX0 6 CW "change" ["self", "tag", "given"] (spChg K CW CK)
theorem Paired.snoc {α β : Type} {R : α → β → Prop} {x : α} {y : β} {xs : List α} {ys : List β} (h : Paired R xs ys) (r : R x y) : Paired R (xs ++ [x]) (ys ++ [y]) := by
  induction h with
  | nil => exact .cons r .nil
  | cons a _ ih => exact .cons a ih
theorem Paired.imp2 {α β : Type} {R R' : α → β → Prop} (f : ∀ a b, R a b → R' a b) {xs : List α} {ys : List β} (h : Paired R xs ys) : Paired R' xs ys := by
  induction h with
  | nil => exact .nil
  | cons a _ ih => exact .cons (f _ _ a) ih
/-- the rows of both worlds -/
structure RwK (l1 l2 : List (Str × Str)) (rs : Rs) (ls : List Lr) : Prop where
  e : rs.map (·.1) = ls.map (·.r)
  k : ∀ q ∈ ls, RowK l1 l2 q.r
section
variable {l1 l2 : List (Str × Str)} {rs : Rs} {ls : List Lr}
theorem RwK.both (h : RwK l1 l2 rs ls) : Both [tblK l1 l2] rs ls := ⟨h.e, fun q hq => (h.k q hq).s, fun q hq => ⟨tblK l1 l2, by simp, (h.k q hq).k.symm, (h.k q hq).nm⟩⟩
theorem RwK.add (h : RwK l1 l2 rs ls) {r : Ro} {d : Addr} {q : Lr} (e : q.r = r) (k : RowK l1 l2 r) : RwK l1 l2 (rs ++ [(r, d)]) (ls ++ [q]) where
  e := by rw [List.map_append, List.map_append, h.e, List.map_cons, List.map_cons, e]; rfl
  k := fun q' hq' => by
    rcases List.mem_append.mp hq' with m | m
    · exact h.k q' m
    · rw [List.mem_singleton.mp m, e]; exact k
theorem RwK.len (h : RwK l1 l2 rs ls) : ls.length = rs.length := by
  have := congrArg List.length h.e
  rw [List.length_map, List.length_map] at this
  exact this.symm
end
theorem LOk.of {ts : List Tb} {rs : Rs} {ls : List Lr} {n : Nat} (W : WOk ts rs n) (e : rs.map (·.1) = ls.map (·.r)) (nl : (ls.map (·.l)).Nodup) : LOk ts ls where
  ok := fun q hq => by
    have : q.r ∈ rs.map (·.1) := by rw [e]; exact List.mem_map_of_mem (f := (·.r)) hq
    obtain ⟨p, hp, e2⟩ := List.mem_map.mp this
    rw [← e2]
    exact W.ok p hp
  nk := by
    have := W.nk
    have e1 : (rs.map fun p => keyR p.1) = (rs.map (·.1)).map keyR := by rw [List.map_map]; rfl
    have e2 : (ls.map fun q => keyR q.r) = (ls.map (·.r)).map keyR := by rw [List.map_map]; rfl
    rw [e2, ← e, ← e1]
    exact this
  nl := nl
  ln := by
    have := congrArg List.length e
    rw [List.length_map, List.length_map] at this
    rw [← this]
    exact W.ln
  kd := fun q hq => by
    have : q.r ∈ rs.map (·.1) := by rw [e]; exact List.mem_map_of_mem (f := (·.r)) hq
    obtain ⟨p, hp, e2⟩ := List.mem_map.mp this
    rw [← e2]
    exact W.kd p hp
theorem toldT_ok (k : Str) (n : Nat) : plnL [.str "told", tagOf k n] = true ∧ dpL [.str "told", tagOf k n] ≤ 30 := ⟨by simp [plnL, pln, tagOf], by simp [dpL, dp, tagOf]⟩
theorem pln_kn {l : List D5} (p : plnL l = true) : ∀ j, j < l.length → j < l.length → (eqv5 (l.getD j .non) (l.getD j .non)).isSome = true := fun j h _ => by
  rw [eqv_self _ (plnL_mem p _ (by rw [List.getD_eq_getElem?_getD, List.getElem?_eq_getElem h]; exact List.getElem_mem h))]
  rfl
theorem told_dv {K : PySem.W.Frag} {H : Hp} {p b : Addr} {k : Str} {n : Nat} (h1 : H p = some (.tup [V.str "told", .ref b])) (h2 : H b = some (.tup [.str "#", .str k, .int (n : Int)])) : Dv (O5 K) H (.tup [.str "told", tagOf k n]) (.ref p) :=
  ⟨_, _, rfl, .inl (.inl h1), _, _, rfl, rfl, _, _, rfl, ⟨_, _, rfl, .inl (.inl h2), _, _, rfl, rfl, _, _, rfl, rfl, _, _, rfl, rfl, rfl⟩, rfl⟩
/-- the slots -/
def Sl1 (w aw am : Addr) (σ : L2.St) : Prop := ∃ x1 x2 x5 x6 x7 x8 x9 : Option V, σ = [some (.ref w), x1, x2, some (.ref aw), some (.ref am), x5, x6, x7, x8, x9]
def T1 (K : PySem.W.Frag) (CW CK Pt : Addr) : TS := fun D σ H => ∃ (Hb : Hp) (w aw kd sd am tb rl : Addr) (l1 l2 : List (Str × Str)) (rs : Rs) (n : Nat) (ls : List Lr) (z : Int), Sl1 w aw am σ ∧ Cur K CW CK Pt Hb H w aw kd sd am tb rl [tblK l1 l2] rs n ls n z ∧ RwK l1 l2 rs ls ∧ rs.length ≤ 100 ∧ n ≤ 500 ∧ 0 ≤ z ∧ z < 800000 ∧
  ∀ σ' H' rs' n' ls' z', Sl1 w aw am σ' → Cur K CW CK Pt Hb H' w aw kd sd am tb rl [tblK l1 l2] rs' n' ls' n' z' → RwK l1 l2 rs' ls' → rs'.length = rs.length + 1 → n' ≤ n + 10 → z ≤ z' → z' ≤ z + 10 → D.nx σ' H'
abbrev abcS : List Str := ["a", "b", "c"]
section
variable {P : Program} {w : World} {K : PySem.W.Frag} {mg : Str → Option Value} {base : Heap} {CW CK CT CG CU Pt c : Addr}
theorem part1 {f : Addr} {A : Around} {outer : List Env} {s : Shared} {H0 : Hp} {E : XK} (R : TxtRt P w K mg base CW CK CT CG CU Pt c) (hr : Room 9 (cxOf CX0 P w K mg base NRt "_law_right" (defScope sRt) f (.ref c) A outer s H0 E).nox.A) :
    PSs (cxOf CX0 P w K mg base NRt "_law_right" (defScope sRt) f (.ref c) A outer s H0 E).nox (bodyOf ((defBody sRt).getD 3 (.Pass ⟨0, 0, 0, 0⟩))) (T1 K CW CK Pt) := by
  obtain ⟨fC, fdC, DC⟩ := R.con
  obtain ⟨fM, fdM, DM⟩ := R.lmk
  obtain ⟨fR, fdR, DR⟩ := R.rr
  obtain ⟨fW, fdW, MW, GW, bW⟩ := R.wmk
  obtain ⟨fS, oc, kVs, doc, pm, cd, ct, an, od, osl, lkS, hcS, kpS, gS, bS⟩ := R.said
  have hu := hu_of hr
  refine pss_by (pss_cons (ps_set (i := 6) scRt.nd rfl (Or.inr rfl) (pe_callTy (call_dictP rfl) (by rfl) R.dict (by decide +kernel) (pa_cons (pe_lc (own := [("_law_name", 8)]) (g := gName 8) (tt := tYes) rfl scRt.nd (pi_tup (pe_tup (pa_cons pe_str (pa_cons pe_str (pa_cons pe_str pa_nil))))) (blkOk_by (N := NRt) (sc := defScope sRt) (by decide +kernel)) (fun _ _ _ _ _ => pg_name (i := 8) scRt.nd rfl (Or.inl rfl)) (fun _ _ _ _ _ => pts_nil)
        (fun _ _ _ _ _ => pe_tup (pa_cons (pv 8) (pa_cons (pe_call DC.ok (hr.mono (by decide)) rfl DC.g DC.kp DC.b .nil pass0 (pa_cons (pv 0) pa_nil)) pa_nil)))) pa_nil)))
    (pss_one (ps_if (PW.pt (pw_or (pt_cmpR (show OpR _ _ (rNe5 K) from op_ne5 (hu64 hr)) (pe_lamcall (k := 6) (T := [(Pt, qL)]) (t := fun E => tMeth CW "make" (spMake K CW CK) [] E0 (tVar 3) (tCons (tC (.str "k")) (tCons (tVar 6) tNil))) rfl gS kpS lkS hcS bS scSaid rfl (.inl rfl) (said_gives R.tc) R.TB rfl (List.mem_singleton.mpr rfl) (fun p hp _ => by rw [List.mem_singleton.mp hp]; rfl) (hr.mono (by decide)) (lamS_by (sc := defScope sRt) (by decide +kernel)) rfl (fun _ _ _ _ _ => rfl)
          (fun A outer s H E f c' hr' => pe_meth (pv 3) R.tw.cl MW GW hr' bW .nil pass0 (pa_cons pe_str (pa_cons (pv 6) pa_nil))))
        (pe_call DM.ok (hr.mono (by decide)) rfl DM.g DM.kp DM.b .nil pass0 (pa_cons (pv 4) (pa_cons pe_str (pa_cons (pv 6) pa_nil)))) (nomark _))
        (pw_or1 (pt_not (pt_val (pe_call DR.ok hr rfl DR.g DR.kp DR.b .nil pass0 (pa_cons (pv 3) (pa_cons (pv 4) pa_nil)))))))) (pss_one (ps_ret pe_bl)) pss_nil))) ?_
  intro D σ H ⟨Hb, w, aw, kd, sd, am, tb, rl, l1, l2, rs, n, ls, z, ⟨x1, x2, x5, x6, x7, x8, x9, eσ⟩, cur, rw', rl1, n1, z0, z1, q⟩
  subst eσ
  have P := kps5 (K := K)
  -- what is given
  refine ⟨by show 3 ≤ sizeLine; decide, fun T nT => ?_⟩
  have sT := sm_upd (o := .tup [V.str "a", V.str "b", V.str "c"]) nT
  have eT0 : (upd H T (.tup [V.str "a", V.str "b", V.str "c"])) T = some (.tup [V.str "a", V.str "b", V.str "c"]) := upd_same
  generalize upd H T (.tup [V.str "a", V.str "b", V.str "c"]) = H3 at sT eT0
  have cur4 := cur.same sT
  refine ⟨T, rfl, ⟨_, SqT.of eT0⟩, fun DD nDD => ?_⟩
  have nDw : DD ≠ w := wellNe cur4.well nDD
  have nDn : NewF Hb DD := .of cur4.fb cur4.well nDD
  have nDm : DD ∉ ownM am rl ls := fun m => by
    rcases List.mem_cons.mp m with e | m
    · rw [e, cur4.md.m] at nDD; cases nDD
    rcases List.mem_cons.mp m with e | m
    · rw [e, cur4.md.r] at nDD; cases nDD
    · obtain ⟨q', hq, e⟩ := List.mem_map.mp m
      have := (cur4.md.q q' hq).l
      rw [e, nDD] at this
      cases this
  refine lc_it (walk_tup (K := K) (a := T) (xs := [V.str "a", V.str "b", V.str "c"])) (fun i H' => ∃ (z' : Int) (ps : List Addr) (kvs : List (Key × V)) (g : Prt), Cur K CW CK Pt Hb H' w aw kd sd am tb rl [tblK l1 l2] rs n ls n z' ∧ z ≤ z' ∧ z' ≤ z + i ∧ H' T = some (.tup [V.str "a", V.str "b", V.str "c"]) ∧
      H' DD = some (.lst (ps.map V.ref)) ∧ ps.length = i ∧ Paired (fun p kv => H' p = some (.tup [kV kv.1, kv.2])) ps kvs ∧ PtsD K H' g kvs ∧ g.map (·.1) = abcS.take i ∧ GvOk g)
    ⟨z, [], [], [], cur4.same (sm_upd nDD), by omega, by omega, sm_upd nDD _ _ eT0, upd_same, rfl, .nil, rfl, rfl, ⟨fun x hx => nomatch hx⟩⟩
    (fun i H' _ h => by obtain ⟨_, _, _, _, _, _, _, h, _⟩ := h; exact SqT.of h) (fun i u H4 H4' hi h y => ?_) (fun H4 h => ?_)
  · obtain ⟨z', ps, kvs, g, cu, zz1, zz2, hT, hDD, lp, pr, pt, ek, G⟩ := h
    obtain ⟨rfl, eu⟩ := y
    have hi : i < 3 := hi
    obtain ⟨nm, rfl, enm⟩ : ∃ nm : Str, u = .str nm ∧ abcS[i]? = some nm := by
      match i, eu with
      | 0, eu => cases eu; exact ⟨_, rfl, rfl⟩
      | 1, eu => cases eu; exact ⟨_, rfl, rfl⟩
      | 2, eu => cases eu; exact ⟨_, rfl, rfl⟩
      | i + 3, eu => cases eu
    refine ⟨rfl, _, rfl, _, rfl, w, z', rfl, cu.well, by omega, by omega, fun v x z'' H5 b5 hw5 zv1 zv2 hv okx smx => ⟨by show 2 ≤ sizeLine; decide, fun p np => ?_⟩⟩
    have cu5 := cu.draw b5 hw5
    obtain ⟨xw, yw, ew0⟩ := cu.well
    have cm5 : Calm CK H4' H5 := .ch (S := [w]) (.but b5) fun a m o e => by rw [List.mem_singleton.mp m, ew0] at e; cases e; exact apt_lst
    have s6 := sm_upd (o := .tup [V.str nm, v]) np
    have ep6 : (upd H5 p (.tup [V.str nm, v])) p = some (.tup [V.str nm, v]) := upd_same
    generalize upd H5 p (.tup [V.str nm, v]) = H6 at s6 ep6
    have cu6 := cu5.same s6
    have hDD6 := s6 _ _ (b5 _ _ hDD nDw)
    have cm7 : Calm CK H6 (upd H6 DD (.lst (ps.map V.ref ++ [.ref p]))) := .upd hDD6 apt_lst
    have cm6 : Calm CK H5 (upd H6 DD (.lst (ps.map V.ref ++ [.ref p]))) := (Calm.same s6).trans cm7
    have cm : Calm CK H4' (upd H6 DD (.lst (ps.map V.ref ++ [.ref p]))) := cm5.trans cm6
    refine ⟨ps.map V.ref, hDD6, by rw [List.length_map, lp]; exact Nat.lt_of_lt_of_le hi (by decide), z'', ps ++ [p], kvs ++ [(.inr nm, v)], g ++ [(nm, x)], cu6.side hDD6 nDw nDm nDn, by omega, by push_cast; omega, cm.t _ _ hT, ?_, by rw [List.length_append, lp]; rfl, ?_, ?_, ?_, ⟨fun y hy => ?_⟩⟩
    · rw [upd_same, List.map_append]
      rfl
    · refine Paired.snoc ?_ (cm7.t _ _ ep6)
      exact Paired.imp2 (fun a b h => cm.t _ _ h) pr
    · exact PtsD.app (Dv.calm cm6 _ _ (kv_kin okx.kp) hv) (pt.imp fun q hq v hv => Dv.calm cm _ _ (kv_kin (G.v q hq).1.kp) hv)
    · rw [List.map_append, ek, List.take_succ, enm]
      rfl
    · rcases List.mem_append.mp hy with hy | hy
      · exact G.v y hy
      · rw [List.mem_singleton.mp hy]; exact ⟨okx, smx⟩
  · obtain ⟨z', ps, kvs, g, cu, zz1, zz2, hT, hDD, lp, pr, pt, ek, G⟩ := h
    have zz3 : z' ≤ z + (3 : Int) := zz2
    have ek3 : g.map (·.1) = abcS := ek
    refine ⟨DD, ps, kvs, rfl, SqL.of hDD, ?_, fun gd ng => ?_⟩
    · exact Paired.imp2 (fun a b h => SqT.of h) pr
    have nd3 : (kvs.map (·.1)).Nodup := by rw [pt.keys, ek3]; decide +kernel
    rw [merge_nd kvs [] (by simpa using nd3), List.nil_append]
    have sg := sm_upd (o := .dK kvs) ng
    have hg : PD K (upd H4 gd (.dK kvs)) g gd := ⟨kvs, upd_same, pt.same sg⟩
    generalize upd H4 gd (.dK kvs) = H5 at sg hg
    have cu5 := cu.same sg
    clear pr pt hDD hT nd3 sg ek
    -- it is made
    refine ⟨cu5.tbs, fun H6 eN tT => ?_⟩
    have cu6 := cu5.ext eN tT
    have kg : ∀ p ∈ g, kpt Kval p.2 = true := fun p hp => (G.v p hp).1.kp
    have hg6 : PD K H6 g gd := hg.calm (Calm.ext (CK := CK) eN) kg fun o e => by
      obtain ⟨kv, ekv, _⟩ := hg
      rw [ekv] at e
      cases e
      exact eN _ _ ekv fun _ z => nomatch z
    obtain ⟨dx, ew⟩ := cu6.wd.w
    have lkn : ∀ {nm : Str} {n : Int}, (nm == "_kinds") = false → (nm == "_standing") = false → (nm == "_last") = false → (wfl kd sd n).lookup nm = none := fun a b c => (lk_tl a).trans ((lk_tl b).trans ((lk_tl c).trans rfl))
    have mt : tblK l1 l2 ∈ [tblK l1 l2] := List.mem_singleton.mpr rfl
    have n1t : ([tblK l1 l2].map (·.name)).Nodup := by show (["k"] : List Str).Nodup; decide +kernel
    refine ⟨_, rfl, aw, dx, _, rfl, ew, lkn (by decide +kernel) (by decide +kernel) (by decide +kernel), _, rfl, aw, kd, sd, gd, rs, n, [tblK l1 l2], tblK l1 l2, g, rfl, cu6.wd, cu6.W, cu6.TO, cu6.kk, mt, tbl_ok l1 l2, rfl, hg6, G, by omega, fun bt d H7 c7 cm7 nd wd7 e7 => ⟨by show 2 ≤ sizeLine; decide, fun t nt => ?_⟩⟩
    have row := row_new (l1 := l1) (l2 := l2) (n := n + 1) G
    have le1 := (markF_le (k := "k") (tblK l1 l2).md (mk0P (tblK l1 l2) g (n + 1), n + 1))
    have l7 : n + 1 ≤ mkL (tblK l1 l2) g (n + 1) := le1.1
    have l8 : mkL (tblK l1 l2) g (n + 1) ≤ n + 1 + 4 := le1.2
    clear le1
    have W7 : WOk [tblK l1 l2] (rs ++ [(mkRo (tblK l1 l2) g (n + 1), d)]) (mkL (tblK l1 l2) g (n + 1)) := cu6.W.add (mkP_ok (tbl_ok l1 l2) G (by omega)) rfl l7 (fun p hp e => by
      obtain ⟨kv, ekv, _⟩ := cu6.wd.r p hp
      rw [e, nd] at ekv
      cases ekv) (by omega) ⟨_, mt, rfl⟩
    have cu7 := cu6.world (Ch.mono c7 (by simp)) cm7 wd7 W7 (fun p hp q' hq e => by
      rcases List.mem_append.mp hp with hp | hp
      · exact cu6.dj p hp q' hq e
      · rw [List.mem_singleton.mp hp] at e
        obtain ⟨kv, ekv, _⟩ := (cu6.md.q q' hq).p
        have e : d = q'.d := e
        rw [← e, nd] at ekv
        cases ekv) (fun p hp => by
      rcases List.mem_append.mp hp with hp | hp
      · exact cu6.nw _ (by simp only [List.mem_cons]; exact .inr (.inr (List.mem_map_of_mem (f := (·.2)) hp)))
      · rw [List.mem_singleton.mp hp]
        exact .of cu6.fb cu6.well nd)
    have hg7 : PD K H7 g gd := hg6.calm cm7 kg fun o e => by
      obtain ⟨kv, ekv, pk⟩ := hg6
      refine c7 _ _ e fun m => ?_
      simp only [List.mem_cons, List.not_mem_nil, or_false] at m
      rcases m with m | m
      · rw [m, ew] at ekv; cases ekv
      · rw [m, cu6.wd.s] at ekv; cases ekv
    have s8 := sm_upd (o := .tup [V.str "told", .ref bt]) nt
    have e8 : (upd H7 t (.tup [V.str "told", .ref bt])) t = some (.tup [V.str "told", .ref bt]) := upd_same
    generalize upd H7 t (.tup [V.str "told", .ref bt]) = H8 at s8 e8
    have cu8 := cu7.same s8
    have ll := rw'.len
    refine ⟨_, rfl, _, rfl, am, tb, rl, gd, [tblK l1 l2], tblK l1 l2, ls, n, g, rfl, cu8.md, cu8.L, cu8.TO, mt, n1t, tbl_ok l1 l2, rfl, hg7.same s8, G, by omega, fun q' p2 H10 c10 cm10 eq nqd nql md10 e10 => ?_⟩
    have rw2 : RwK l1 l2 (rs ++ [(mkRo (tblK l1 l2) g (n + 1), d)]) (ls ++ [q']) := rw'.add eq row
    have L10 : LOk [tblK l1 l2] (ls ++ [q']) := .of W7 rw2.e (by
      rw [List.map_append]
      refine List.nodup_append.mpr ⟨cu8.L.nl, by simp, fun a ha b hb e => ?_⟩
      rw [List.map_cons, List.map_nil, List.mem_singleton] at hb
      obtain ⟨q1, hq1, rfl⟩ := List.mem_map.mp ha
      have := (cu8.md.q q1 hq1).l
      rw [e, hb, nql] at this
      cases this)
    have cu10 := cu8.model (Ch.mono c10 (by simp)) cm10 md10 L10 (fun p hp q1 hq e => by
      rcases List.mem_append.mp hq with hq | hq
      · exact cu8.dj p hp q1 hq e
      · rw [List.mem_singleton.mp hq] at e
        obtain ⟨kv, ekv, _⟩ := cu8.wd.r p hp
        rw [e, nqd] at ekv
        cases ekv) (fun q1 hq => by
      rcases List.mem_append.mp hq with hq | hq
      · exact cu8.nm _ (by simp only [List.mem_cons]; exact .inr (.inr (List.mem_map_of_mem (f := (·.l)) hq)))
      · rw [List.mem_singleton.mp hq]
        exact .of cu8.fb cu8.well nql)
    have eqt : H10 q'.t = some (.tup [.str "#", .str "k", .int ((n + 1 : Nat) : Int)]) := by
      have := (md10.q q' (by simp)).t
      rw [eq] at this
      exact this
    obtain ⟨k1, k2⟩ := toldT_ok "k" (n + 1)
    refine ⟨_, _, true, told_dv (cm10.t _ _ e8) (cm10.t _ _ (s8 _ _ e7)), told_dv e10 eqt, eqvL_self _ k1, pln_kn k1, k2, _, rfl, Vl.iteN rfl ?_⟩
    refine ⟨_, rfl, _, rfl, aw, kd, sd, am, tb, rl, [tblK l1 l2], rs ++ [(mkRo (tblK l1 l2) g (n + 1), d)], ls ++ [q'], _, _, rfl, cu10.wd, cu10.md, cu10.W, cu10.L, cu10.TO, cu10.kk, n1t, rw2.both, by omega, R.iw, fun H11 s11 => ⟨_, rfl, Vl.iteN rfl ?_⟩⟩
    exact q _ H11 _ _ _ z' ⟨_, _, _, _, _, _, _, rfl⟩ (cu10.same s11) rw2 (by rw [List.length_append]; rfl) (by omega) (by omega) (by omega)
end
end Kd

set_option Elab.async false
set_option linter.all false
set_option maxRecDepth 100000
set_option maxHeartbeats 4000000
/-! _law_right: a change -/
namespace Kd
open PySem PySem.Spec PyProof.Rows L2 Dq Vl Pf Ed ClX LamX
/-- {name: value} -/
theorem disp_one {K : PySem.W.Frag} {σ : L2.St} {H : Hp} {i j : Nat} {s : Str} {v : V} {x : D5} {Q : VK} (e1 : σ[i]? = some (some (.str s))) (e2 : σ[j]? = some (some v)) (hv : Dv (O5 K) H x v) (k : ∀ p H', H p = none → Same H H' → PD K H' [(s, x)] p → Q (.ref p) H') : tDisp [(tVar i, tVar j)] σ H Q := fun p np => by
  refine ⟨_, e1, _, e2, upd_same, [(.inr s, v)], rfl, by simp, ?_⟩
  have s1 : Same H (upd (upd H p (.dK [])) p (.dK [((.inr s : Key), v)])) := fun b o e => (upd_ne (ne_of_none e np)).trans ((upd_ne (ne_of_none e np)).trans e)
  exact k p _ np s1 ⟨_, upd_same, v, [], rfl, (kps5 (K := K)).dv s1 hv, rfl⟩
section
variable {l1 l2 : List (Str × Str)} {rs : Rs} {ls : List Lr} {ts : List Tb} {n : Nat}
theorem setW_rows (W : WOk ts rs n) {p : Ro × Addr} (hp : p ∈ rs) {ps : Prt} : (setW rs p.2 ps).map (·.1) = (rs.map (·.1)).map fun r => if keyR r = keyR p.1 then { r with ps := ps } else r := by
  unfold setW
  rw [List.map_map, List.map_map]
  refine List.map_congr_left fun q hq => ?_
  show (if q.2 = p.2 then ({ q.1 with ps := ps }, q.2) else q).1 = if keyR q.1 = keyR p.1 then { q.1 with ps := ps } else q.1
  by_cases e : q.2 = p.2
  · rw [if_pos e, if_pos (by rw [inj_snd W.nd hp hq e])]
  · rw [if_neg e, if_neg fun e2 => e ?_]
    obtain ⟨i, hi, ei⟩ := List.mem_iff_getElem.mp hp
    obtain ⟨j, hj, ej⟩ := List.mem_iff_getElem.mp hq
    have h := (List.getElem_inj (i := j) (j := i) (h₀ := by simpa using hj) (h₁ := by simpa using hi) W.nk).mp (by simp [ei, ej, e2])
    subst h
    rw [← ei, ← ej]
theorem setL_rows (L : LOk ts ls) {q : Lr} (hq : q ∈ ls) {ps : Prt} {D : Addr} : (setL ls q.l ps D).map (·.r) = (ls.map (·.r)).map fun r => if keyR r = keyR q.r then { r with ps := ps } else r := by
  unfold setL
  rw [List.map_map, List.map_map]
  refine List.map_congr_left fun p hp => ?_
  show (if p.l = q.l then ({ p with r := { p.r with ps := ps }, d := D } : Lr) else p).r = if keyR p.r = keyR q.r then { p.r with ps := ps } else p.r
  by_cases e : p.l = q.l
  · rw [if_pos e, if_pos (by rw [inj_l L.nl hq hp e])]
  · rw [if_neg e, if_neg fun e2 => e (by rw [inj_key L hq hp e2])]
theorem RwK.set (h : RwK l1 l2 rs ls) (W : WOk ts rs n) (L : LOk ts ls) {p : Ro × Addr} {q : Lr} (hp : p ∈ rs) (hq : q ∈ ls) (e : p.1 = q.r) {ps : Prt} {D : Addr} (k : RowK l1 l2 { q.r with ps := ps }) : RwK l1 l2 (setW rs p.2 ps) (setL ls q.l ps D) where
  e := by rw [setW_rows W hp, setL_rows L hq, h.e, e]
  k := fun q' hq' => by
    rcases setL_mem hq' with ⟨m, _⟩ | ⟨q1, m, e1, rfl⟩
    · exact h.k q' m
    · have := inj_l L.nl hq m e1
      subst this
      exact k
end
section
variable {K : PySem.W.Frag} {CW CK Pt : Addr} {H H' : Hp} {w aw kd sd am tb rl : Addr} {Hb : Hp} {ts : List Tb} {rs : Rs} {ls : List Lr} {n n2 n' : Nat} {z : Int}
theorem Cur.setW (h : Cur K CW CK Pt Hb H w aw kd sd am tb rl ts rs n ls n2 z) {p : Ro × Addr} (hp : p ∈ rs) {ps : Prt} (c : Ch [aw, p.2] H H') (cm : Calm CK H H') (wd : WAt K CW H' aw kd sd (setW rs p.2 ps) n') (o : OkR { p.1 with ps := ps }) (le : n ≤ n') : Cur K CW CK Pt Hb H' w aw kd sd am tb rl ts (Kd.setW rs p.2 ps) n' ls n2 z := by
  have W := h.W.setP hp o
  have W' : WOk ts (Kd.setW rs p.2 ps) n' := ⟨W.ok, W.nk, W.nd, fun q hq => Nat.le_trans (W.le q hq) le, W.ln, W.kd⟩
  have old : ∀ p' ∈ Kd.setW rs p.2 ps, ∃ p1 ∈ rs, p1.2 = p'.2 := fun p' hp' => by
    have : p'.2 ∈ rs.map (·.2) := by rw [← setW_snd (d := p.2) (ps := ps)]; exact List.mem_map_of_mem (f := (·.2)) hp'
    exact List.mem_map.mp this
  refine h.world (Ch.mono c fun a m => ?_) cm wd W' (fun p' hp' q hq e => ?_) fun p' hp' => ?_
  · simp only [List.mem_cons, List.not_mem_nil, or_false] at m
    rcases m with rfl | rfl
    · simp
    · simp only [List.mem_cons]
      exact .inr (.inr (List.mem_map_of_mem (f := (·.2)) hp))
  · obtain ⟨p1, h1, e1⟩ := old p' hp'
    exact h.dj p1 h1 q hq (e1.trans e)
  · obtain ⟨p1, h1, e1⟩ := old p' hp'
    rw [← e1]
    exact h.nw _ (by simp only [List.mem_cons]; exact .inr (.inr (List.mem_map_of_mem (f := (·.2)) h1)))
theorem Cur.setL (h : Cur K CW CK Pt Hb H w aw kd sd am tb rl ts rs n ls n2 z) {q : Lr} (hq : q ∈ ls) {ps : Prt} {D : Addr} (c : Ch (ownM am rl ls) H H') (cm : Calm CK H H') (nD : H D = none) (md : MAt K H' am tb rl ts (setL ls q.l ps D) n') (o : OkR { q.r with ps := ps }) : Cur K CW CK Pt Hb H' w aw kd sd am tb rl ts rs n (Kd.setL ls q.l ps D) n' z := by
  refine h.model c cm md (h.L.set hq o) (fun p hp q' hq' e => ?_) fun q' hq' => ?_
  · rcases setL_mem hq' with ⟨m, _⟩ | ⟨q1, m, e1, rfl⟩
    · exact h.dj p hp q' m e
    · obtain ⟨kv, ekv, _⟩ := h.wd.r p hp
      rw [e] at ekv
      have ekv : H D = _ := ekv
      rw [nD] at ekv
      cases ekv
  · have : q'.l ∈ ls.map (·.l) := by rw [← setL_l (l := q.l) (ps := ps) (d := D)]; exact List.mem_map_of_mem (f := (·.l)) hq'
    exact h.nm _ (by simp only [List.mem_cons]; exact .inr (.inr this))
end
theorem altP_ok {l1 l2 : List (Str × Str)} {r : Ro} {s : Str} {x : D5} (h : OkR r) (ox : OkV x) : OkR { r with ps := altP (tblK l1 l2) r.ps s x } := arF_ok (r := r) _ _ (h.put ox)
theorem chgP_ok {l1 l2 : List (Str × Str)} {r : Ro} {s : Str} {x : D5} {n : Nat} (h : OkR r) (ox : OkV x) (hs : s ∈ gvN (tblK l1 l2)) : OkR { r with ps := chgP (tblK l1 l2) r.ps [(s, x)] n } := by
  refine arF_ok (r := r) _ _ (markF_ok (r := r) (tbl_ok l1 l2).nm _ _ ?_)
  show OkR { r with ps := chF [(s, x)] (gvN (tblK l1 l2)) r.ps }
  rw [ch_one hs]
  exact h.put ox
def T2 (K : PySem.W.Frag) (CW CK Pt : Addr) : TS := fun D σ H => ∃ (Hb : Hp) (w aw kd sd am tb rl : Addr) (l1 l2 : List (Str × Str)) (rs : Rs) (n : Nat) (ls : List Lr) (z : Int), Sl1 w aw am σ ∧ Cur K CW CK Pt Hb H w aw kd sd am tb rl [tblK l1 l2] rs n ls n z ∧ RwK l1 l2 rs ls ∧ 0 < rs.length ∧ rs.length ≤ 100 ∧ n ≤ 500 ∧ 0 ≤ z ∧ z < 800000 ∧
  ∀ σ' H' rs' n' ls' z', Sl1 w aw am σ' → Cur K CW CK Pt Hb H' w aw kd sd am tb rl [tblK l1 l2] rs' n' ls' n' z' → RwK l1 l2 rs' ls' → rs'.length = rs.length → n' ≤ n + 10 → z ≤ z' → z' ≤ z + 10 → D.nx σ' H'
section
variable {P : Program} {w : World} {K : PySem.W.Frag} {mg : Str → Option Value} {base : Heap} {CW CK CT CG CU Pt c : Addr}
theorem part2 {f : Addr} {A : Around} {outer : List Env} {s : Shared} {H0 : Hp} {E : XK} (R : TxtRt P w K mg base CW CK CT CG CU Pt c) (hr : Room 9 (cxOf CX0 P w K mg base NRt "_law_right" (defScope sRt) f (.ref c) A outer s H0 E).nox.A) :
    PSs (cxOf CX0 P w K mg base NRt "_law_right" (defScope sRt) f (.ref c) A outer s H0 E).nox (bodyOf ((defBody sRt).getD 4 (.Pass ⟨0, 0, 0, 0⟩))) (T2 K CW CK Pt) := by
  obtain ⟨f1, fd1, D1⟩ := R.one
  obtain ⟨fD, fdD, DD⟩ := R.draw
  obtain ⟨fC, fdC, DC⟩ := R.con
  obtain ⟨fA, fdA, DA⟩ := R.lal
  obtain ⟨fH, fdH, DH⟩ := R.lch
  obtain ⟨fR, fdR, DR⟩ := R.rr
  obtain ⟨fW, fdW, MW, GW, bW⟩ := R.wal
  obtain ⟨fV, fdV, MV, GV, bV⟩ := R.wch
  have hu := hu_of hr
  refine pss_by (pss_cons (ps_par3 (i := 7) (j := 8) (l := 9) (by rfl) scRt.nd rfl rfl rfl (by decide) (by decide) (by decide) rfl rfl rfl
      (pa_cons (pe_ix (show IxR _ (rIxL K) from ix_list) (pe_call D1.ok (hr.mono (by decide)) rfl D1.g D1.kp D1.b .nil pass0 (pa_cons (pv 0) (pa_cons (pe_dget hu (pv 4) pe_str (fun _ _ => rfl)) pa_nil))) pe_int (fun _ _ => rfl))
      (pa_cons (pe_call D1.ok (hr.mono (by decide)) rfl D1.g D1.kp D1.b .nil pass0 (pa_cons (pv 0) (pa_cons (pe_lst (pa_cons pe_str (pa_cons pe_str (pa_cons pe_str pa_nil)))) pa_nil)))
      (pa_cons (pe_call DC.ok (hr.mono (by decide)) rfl DC.g DC.kp DC.b .nil pass0 (pa_cons (pv 0) pa_nil)) pa_nil))) (by rfl))
    (pss_cons (ps_if (pt_cmpR op_eq (pe_call DD.ok (hr.mono (by decide)) rfl DD.g DD.kp DD.b .nil pass0 (pa_cons (pv 0) (pa_cons pe_int pa_nil))) pe_int (nomark _))
        (pss_cons (ps_expr (pe_meth (pv 3) R.tw.cl MW GW (hr.mono (by decide)) bW .nil pass0 (pa_cons (pv 7) (pa_cons (pv 8) (pa_cons (pv 9) pa_nil)))))
          (pss_one (ps_expr (pe_call DA.ok (hr.mono (by decide)) rfl DA.g DA.kp DA.b .nil pass0 (pa_cons (pv 4) (pa_cons (pv 7) (pa_cons (pv 8) (pa_cons (pv 9) pa_nil))))))))
        (pss_cons (ps_expr (pe_meth (pv 3) R.tw.cl MV GV (hr.mono (by decide)) bV .nil pass0 (pa_cons (pv 7) (pa_cons (pe_disp (pps_cons (pv 8) (pv 9) pps_nil) (by rfl) (by rfl) (fun z => by cases z) (by decide)) pa_nil))))
          (pss_one (ps_expr (pe_call DH.ok (hr.mono (by decide)) rfl DH.g DH.kp DH.b .nil pass0 (pa_cons (pv 4) (pa_cons (pv 7) (pa_cons (pe_disp (pps_cons (pv 8) (pv 9) pps_nil) (by rfl) (by rfl) (fun z => by cases z) (by decide)) pa_nil))))))))
    (pss_one (ps_if (pt_not (pt_val (pe_call DR.ok hr rfl DR.g DR.kp DR.b .nil pass0 (pa_cons (pv 3) (pa_cons (pv 4) pa_nil))))) (pss_one (ps_ret pe_bl)) pss_nil)))) ?_
  intro D σ H ⟨Hb, w, aw, kd, sd, am, tb, rl, l1, l2, rs, n, ls, z, ⟨x1, x2, x5, x6, x7, x8, x9, eσ⟩, cur, rw', r0, rl1, n1, z0, z1, q⟩
  subst eσ
  have P := kps5 (K := K)
  have ll := rw'.len
  have mt : tblK l1 l2 ∈ [tblK l1 l2] := List.mem_singleton.mpr rfl
  have n1t : ([tblK l1 l2].map (·.name)).Nodup := by show (["k"] : List Str).Nodup; decide +kernel
  -- the Tag
  have nrl : rl ≠ w := fun e => by
    have := cur.mOut
    rw [← e] at this
    exact this (by simp)
  refine ⟨_, rfl, (ep_rows (σ := [some (.ref w), x1, x2, some (.ref aw), some (.ref am), x5, x6, x7, x8, x9]) (i := 4) cur.md rfl).run fun rv H1 s1 erv => ?_⟩
  subst erv
  have cur1 := cur.same s1
  refine ⟨w, rl, z, _, rfl, cur1.well, cur1.md.r, nrl, by rw [List.length_map]; omega, by rw [List.length_map]; omega, z0, by omega, fun v za H2 hv za1 za2 hw2 b2 => ?_⟩
  have cur2 := cur1.draw b2 hw2
  obtain ⟨q1, hq1, rfl⟩ := List.mem_map.mp hv
  obtain ⟨hl, ht, hpd⟩ := cur2.md.q q1 hq1
  refine ⟨q1.l, _, _, .ref q1.t, rfl, rfl, SqL.of hl, atI_nat (j := 0) rfl, ?_⟩
  -- the name
  refine ⟨_, rfl, by show 3 ≤ sizeLine; decide, fun L nL => ?_⟩
  have cur3 := cur2.same (sm_upd (o := .lst [V.str "a", V.str "b", V.str "c"]) nL)
  refine ⟨w, L, za, _, rfl, cur3.well, upd_same, wellNe cur2.well nL, by show 0 < 3; decide, by show 3 < 1000000; decide, by omega, by omega, fun v zb H4 hv2 zb1 zb2 hw4 b4 => ?_⟩
  have cur4 := cur3.draw b4 hw4
  obtain ⟨nm, rfl, hnm⟩ : ∃ nm : Str, v = .str nm ∧ nm ∈ gvN (tblK l1 l2) := by
    simp only [List.mem_cons, List.not_mem_nil, or_false] at hv2
    rcases hv2 with rfl | rfl | rfl
    · exact ⟨"a", rfl, (by decide +kernel : ("a" : Str) ∈ (["a", "b", "c"] : List Str))⟩
    · exact ⟨"b", rfl, (by decide +kernel : ("b" : Str) ∈ (["a", "b", "c"] : List Str))⟩
    · exact ⟨"c", rfl, (by decide +kernel : ("c" : Str) ∈ (["a", "b", "c"] : List Str))⟩
  -- the value
  refine ⟨_, rfl, w, zb, rfl, cur4.well, by omega, by omega, fun v x zc H5 b5 hw5 zc1 zc2 hx ox sx => ⟨_, _, _, rfl, ?_⟩⟩
  have cur5 := cur4.draw b5 hw5
  clear cur cur1 cur2 cur3 cur4 hl ht hpd b2 b4 b5 hv hv2 nL s1
  show tSeq _ _ D [some (.ref w), x1, x2, some (.ref aw), some (.ref am), x5, x6, some (.ref q1.t), some (.str nm), some v] H5
  refine ⟨_, rfl, w, 2, zc, rfl, cur5.well, by decide, by decide, by omega, by omega, fun g zd H6 g0 g1 zd1 zd2 hw6 b6 => ⟨rfl, _, rfl, ?_⟩⟩
  have cur6 := cur5.draw b6 hw6
  have cm6 : Calm CK H5 H6 := by
    obtain ⟨xw, yw, ew0⟩ := cur5.well
    exact .ch (S := [w]) (.but b6) fun a m o e => by rw [List.mem_singleton.mp m, ew0] at e; cases e; exact apt_lst
  have hx6 := Dv.calm cm6 _ _ (kv_kin ox.kp) hx
  clear hx cur5 cm6 b6
  obtain ⟨hl, ht, hpd⟩ := cur6.md.q q1 hq1
  obtain ⟨p, hp, ep⟩ := rw'.both.row hq1
  have rk := rw'.k q1 hq1
  have okq := cur6.L.ok q1 hq1
  have okp : OkR p.1 := by rw [ep]; exact okq
  have len7 := rk.len
  -- behind both
  have fin : ∀ H7 rs' n' ls', Cur K CW CK Pt Hb H7 w aw kd sd am tb rl [tblK l1 l2] rs' n' ls' n' zd → RwK l1 l2 rs' ls' → rs'.length = rs.length → n' ≤ n + 10 →
      tIfS (tNot (tB (tCall (spRR K CW CK) [] E0 (tCons (tVar 3) (tCons (tVar 4) tNil))))) (tRet (tC (.bl false))) tNext D [some (.ref w), x1, x2, some (.ref aw), some (.ref am), x5, x6, some (.ref q1.t), some (.str nm), some v] H7 := fun H7 rs' n' ls' cu rw2 lr nn =>
    ⟨_, rfl, _, rfl, aw, kd, sd, am, tb, rl, [tblK l1 l2], rs', ls', n', n', rfl, cu.wd, cu.md, cu.W, cu.L, cu.TO, cu.kk, n1t, rw2.both, by omega, R.iw, fun H8 s8 => ⟨_, rfl, Vl.iteN rfl (q _ H8 rs' n' ls' zd ⟨_, _, _, _, _, _, _, rfl⟩ (cu.same s8) rw2 lr nn (by omega) (by omega))⟩⟩
  obtain ⟨dx, ew⟩ := cur6.wd.w
  have lkn : ∀ {nm : Str} {n : Int}, (nm == "_kinds") = false → (nm == "_standing") = false → (nm == "_last") = false → (wfl kd sd n).lookup nm = none := fun a b c => (lk_tl a).trans ((lk_tl b).trans ((lk_tl c).trans rfl))
  have htp : H6 q1.t = some (.tup [.str "#", .str (tblK l1 l2).name, .int (p.1.n : Int)]) := by
    have := ht
    rw [rk.k] at this
    rw [ep]
    exact this
  have kp1 : p.1.kind = (tblK l1 l2).name := by rw [ep]; exact rk.k
  have gp : GvS (tblK l1 l2) p.1.ps := by rw [ep]; exact rk.g
  have lp : p.1.ps.length ≤ 200 := by rw [ep]; omega
  by_cases hg : g = 0
  · subst hg
    refine Vl.iteC (by simp) ?_
    refine ⟨_, rfl, aw, dx, _, rfl, ew, lkn (by decide +kernel) (by decide +kernel) (by decide +kernel), _, rfl, _, rfl, _, rfl, aw, kd, sd, q1.t, rs, n, [tblK l1 l2], tblK l1 l2, p, nm, v, x, rfl, cur6.wd, cur6.W, cur6.TO, cur6.kk, mt, tbl_ok l1 l2, htp, hp, kp1, lp, gp, hnm, hx6, ox, sx, fun H7 c7 cm7 wd7 => ?_⟩
    have cur7 := cur6.setW hp (Ch.mono c7 (by simp)) cm7 wd7 (altP_ok okp ox) (Nat.le_refl _)
    have hx7 := Dv.calm cm7 _ _ (kv_kin ox.kp) hx6
    refine ⟨_, rfl, _, rfl, _, rfl, _, rfl, am, tb, rl, q1.t, [tblK l1 l2], tblK l1 l2, ls, n, q1, nm, v, x, rfl, cur7.md, cur7.L, cur7.TO, mt, n1t, tbl_ok l1 l2, cm7.t _ _ ht, hq1, rk.k, by omega, rk.g, hx7, ox, sx, fun D2 p2 H8 c8 cm8 nD md8 e8 => ?_⟩
    have cur8 := cur7.setL hq1 c8 cm8 nD md8 (altP_ok okq ox)
    refine fin H8 _ n _ cur8 ?_ (by unfold Kd.setW; rw [List.length_map]) (by omega)
    rw [ep]
    exact rw'.set cur6.W cur6.L hp hq1 ep (row_alt rk hnm sx)
  · refine Vl.iteN (by simp [hg]) ?_
    have le1 := (markF_le (k := "k") (tblK l1 l2).md (chF [(nm, x)] (gvN (tblK l1 l2)) p.1.ps, n))
    have l7 : n ≤ chgL (tblK l1 l2) p.1.ps [(nm, x)] n := le1.1
    have l8 : chgL (tblK l1 l2) p.1.ps [(nm, x)] n ≤ n + 4 := le1.2
    clear le1
    have G : GvOk [(nm, x)] := ⟨fun y hy => by rw [List.mem_singleton.mp hy]; exact ⟨ox, sx⟩⟩
    refine ⟨_, rfl, aw, dx, _, rfl, ew, lkn (by decide +kernel) (by decide +kernel) (by decide +kernel), _, rfl, disp_one rfl rfl hx6 fun gd H7 ngd s7 hg7 => ?_⟩
    have cur7 := cur6.same s7
    have hx7 := P.dv s7 hx6
    refine ⟨aw, kd, sd, q1.t, gd, rs, n, [tblK l1 l2], tblK l1 l2, p, [(nm, x)], rfl, cur7.wd, cur7.W, cur7.TO, cur7.kk, mt, tbl_ok l1 l2, rfl, s7 _ _ htp, hp, kp1, lp, gp, hg7, G, (fun p' hp' e => by
      obtain ⟨kv, ekv, _⟩ := cur6.wd.r p' hp'
      rw [e, ngd] at ekv
      cases ekv), fun H8 c8 cm8 wd8 => ?_⟩
    have cur8 := cur7.setW hp c8 cm8 wd8 (chgP_ok okp ox hnm) l7
    have hx8 := Dv.calm cm8 _ _ (kv_kin ox.kp) hx7
    refine ⟨_, rfl, _, rfl, disp_one rfl rfl hx8 fun gd2 H9 ngd2 s9 hg9 => ?_⟩
    have cur9 := cur8.same s9
    refine ⟨am, tb, rl, q1.t, gd2, [tblK l1 l2], tblK l1 l2, ls, n, q1, [(nm, x)], rfl, cur9.md, cur9.L, cur9.TO, mt, n1t, tbl_ok l1 l2, rfl, s9 _ _ (cm8.t _ _ (s7 _ _ ht)), hq1, rk.k, by omega, rk.g, hg9, G, by simp, fun D2 p2 H10 c10 cm10 nD md10 e10 => ?_⟩
    rw [(chg_same hnm).1, (chg_same hnm).2] at md10
    have cur10 := cur9.setL hq1 c10 cm10 nD md10 (chgP_ok okq ox hnm)
    rw [ep] at cur10 l8
    refine fin H10 _ _ _ cur10 ?_ (by unfold Kd.setW; rw [List.length_map]) (by omega)
    exact rw'.set cur6.W cur6.L hp hq1 ep (row_chg rk hnm sx)
end
end Kd

set_option Elab.async false
set_option linter.all false
set_option maxRecDepth 100000
set_option maxHeartbeats 4000000
/-! _law_right -/
namespace Kd
open PySem PySem.Spec PyProof.Rows L2 Dq Vl Pf Ed ClX LamX
theorem rd_facts {l : List (Str × Str)} (h : RdOk l) : rdD (rdgD (some l)) = true ∧ okX (rdgD (some l)) = true := by
  have e1 : ∀ l : List (Str × Str), (l.map fun p => (DV.str p.2 : D5)).all isS = true := fun l => by
    rw [List.all_map]
    exact List.all_eq_true.mpr fun _ _ => rfl
  have e2 : ∀ l : List (Str × Str), (l.map fun p => (DV.str p.2 : D5)).all leaf = true := fun l => by
    rw [List.all_map]
    exact List.all_eq_true.mpr fun _ _ => rfl
  refine ⟨e1 l, ?_⟩
  show (true && ((l.map fun p => (DV.str p.2 : D5)).all leaf && decide ((l.map (·.1)).length ≤ 1000))) = true
  rw [e2, List.length_map, decide_eq_true (Nat.le_trans h.ln (by decide))]
  rfl
theorem kk_c1 (a b : Bool) (ea : a = true) (eb : b = true) : (true && ((((okX (.str "a" : D5) && (okX (.str "open" : D5) && (okX (.bl false : D5) && (a && true)))) && ((okX (.str "b" : D5) && (okX (.str "filled" : D5) && (okX (.bl true : D5) && (b && true)))) && ((okX (.str "c" : D5) && (okX (.str "open" : D5) && (okX (.bl false : D5) && (okX (.non : D5) && true)))) && true))) && decide (3 ≤ 1000)) && (okMs (mdsT (tblK [] [])) && okH (.tup [] : D5)))) = true := by
  subst ea eb
  decide +kernel
theorem kk_c2 (a b : Bool) (ea : a = true) (eb : b = true) : (((nmD (.str "a" : D5) && (amD srts (.str "open" : D5) && (isBl (.bl false : D5) && (false || a)))) && ((nmD (.str "b" : D5) && (amD srts (.str "filled" : D5) && (isBl (.bl true : D5) && (false || b)))) && ((nmD (.str "c" : D5) && (amD srts (.str "open" : D5) && (isBl (.bl false : D5) && (isNo (.non : D5) || rdD (.non : D5))))) && true))) && decide (["a", "b", "c"] : List Str).Nodup) = true := by
  subst ea eb
  decide +kernel
theorem kk_c3 : (((tblK [] []).md.map mdrD).all (mrD ["c"]) && (!((tblK [] []).md.map mdrD).isEmpty && (isIdRow (((tblK [] []).md.map mdrD).headD .non) && (decide (((tblK [] []).md.map mdrD).countP isIdRule = 1) && (decide ((["a", "b", "c"] : List Str) ++ ((tblK [] []).md.map mdrD).map nm0).Nodup && decide (3 + ((tblK [] []).md.map mdrD).length ≤ 8)))))) = true := by decide +kernel
theorem kk_c4 : ¬ nmD (.str "k" : D5) = false := by decide +kernel
theorem kk_ok {l1 l2 : List (Str × Str)} (h1 : RdOk l1) (h2 : RdOk l2) : okK (kindD (tblK l1 l2)) = true := kk_c1 _ _ (rd_facts h1).2 (rd_facts h2).2
theorem kk_wrg {l1 l2 : List (Str × Str)} (h1 : RdOk l1) (h2 : RdOk l2) : wrg (kindD (tblK l1 l2)) = none := by
  have g : gvsD (kindD (tblK l1 l2)).g = true := kk_c2 _ _ (rd_facts h1).1 (rd_facts h2).1
  have m : mdsD (tupL (kindD (tblK l1 l2)).g) (kindD (tblK l1 l2)).m = true := kk_c3
  unfold wrg
  rw [if_neg (show ¬ nmD (kindD (tblK l1 l2)).n = false from kk_c4), g, if_neg (by simp), m, if_neg (by simp)]
  rfl
abbrev gVk (TH : Addr) : List V → List V → List V := fun vs zs => vs ++ ([V.non, .ref TH] ++ zs)
structure TxtR2 (P : Program) (w : World) (K : PySem.W.Frag) (mg : Str → Option Value) (base : Heap) (CW CK CT CG CU Pt c TH : Addr) : Prop where
  rt : TxtRt P w K mg base CW CK CT CG CU Pt c
  tk : TxtKi K mg CK
  th : ∀ H, SqT K H TH []
  tab : HasD P w K mg base 4 "_law_table_of" ["_law_well_here"] (spTo K)
  mod : HasD P w K mg base 1 "_law_model" ["_law_tables"] spMo
  kin : ∃ (fI : Addr) (fd : FuncData) (g : List Value → List Value → List Value), Mk K CK fI ∧ FnOk P w K mg base CX0 5 fI fd PKI (spKI (O5 K) CK) ∧ KBn K fd PKI 4 [] g (gVk TH)
  win : ∃ (fI : Addr) (fd : FuncData), Mk K CW fI ∧ FnOk P w K mg base CX0 1 fI fd ["self", "kinds"] (spWI K CW) ∧ Binds K fd ["self", "kinds"] []
def spRt (Pt : Addr) : Sp := fun vs H Q _ => ∃ (w : Addr) (z : Int), vs = [.ref w] ∧ WellAt H w z ∧ 0 ≤ z ∧ z < 700000 ∧ Tabs [(Pt, qL)] H ∧
  ∀ (z' : Int) H', z ≤ z' → z' ≤ z + 1000 → WellAt H' w z' → Tabs [(Pt, qL)] H' → Fr w H H' → Q (.bl true) H'
section
variable {P : Program} {w0 : World} {K : PySem.W.Frag} {mg : Str → Option Value} {base : Heap} {CW CK CT CG CU Pt c TH : Addr}
theorem ok_right {f : Addr} {oc kV0 doc pm ct : Value} {an od : Option Addr} {osl : Array (Option Value)}
    (lk : K.lookup f = some ⟨oc, od, .func (PySem.W.fnOf "_law_right" "_law_right" (defArgs sRt) (defBody sRt) (defScope sRt) .none kV0 doc pm an (.ref c) ct), osl⟩) (hcd : PySem.W.codeIn K (.ref c) "_law_right" = true)
    (R2 : TxtR2 P w0 K mg base CW CK CT CG CU Pt c TH) : FnOk P w0 K mg base CX0 10 f (PySem.W.fnOf "_law_right" "_law_right" (defArgs sRt) (defBody sRt) (defScope sRt) .none kV0 doc pm an (.ref c) ct) ["_law_well_here"] (spRt Pt) := by
  obtain ⟨fB, fdB, DB⟩ := R2.tab
  obtain ⟨fO, fdO, DO⟩ := R2.mod
  obtain ⟨fI, fdI, g, MI, GI, kb⟩ := R2.kin
  obtain ⟨fJ, fdJ, MJ, GJ, bJ⟩ := R2.win
  have R := R2.rt
  obtain ⟨fD, fdD, DD⟩ := R.draw
  refine fn_of lk hcd scRt (fun vs H Q E h => ?_) (fun A outer s H vs Q E hr h => ?_)
  · obtain ⟨w, z, rfl, _⟩ := h
    rfl
  · obtain ⟨w, z, rfl, hw, z0, z1, tb0, k⟩ := h
    have main : ∃ t, PSs (cxOf CX0 P w0 K mg base NRt "_law_right" (defScope sRt) f (.ref c) A outer s H E).nox (defBody sRt) t ∧ t { nx := fun _ H' => Q .non H', rt := Q } (L2.start NRt [V.ref w]) H := by
      have hu := hu_of hr
      refine ⟨_, pss_cons (ps_set (i := 1) scRt.nd rfl (Or.inl rfl) (pe_call DB.ok (hr.mono (by decide)) rfl DB.g DB.kp DB.b .nil pass0 (pa_cons (pv 0) pa_nil)))
        (pss_cons (ps_set (i := 2) scRt.nd rfl (Or.inl rfl) (pe_dget hu (pv 1) pe_str (fun _ _ => rfl)))
        (pss_cons (ps_asg (pe_tup (pa_cons (pe_make MJ GJ (hr.mono (by decide)) rfl R.tw.g bJ .nil pass0 (pa_cons (pe_disp (pps_cons pe_str (pe_makeK MI GI (hr.mono (by decide)) rfl R2.tk.mg kb pass0 (pa_cons pe_str (pa_cons (pe_dget hu (pv 2) pe_str (fun _ _ => rfl)) (pa_cons (pe_dget hu (pv 2) pe_str (fun _ _ => rfl)) pa_nil))) pk_nil) pps_nil) (by rfl) (by rfl) (fun z => by cases z) (by decide)) pa_nil))
            (pa_cons (pe_call DO.ok (hr.mono (by decide)) rfl DO.g DO.kp DO.b .nil pass0 (pa_cons (pv 1) pa_nil)) pa_nil))) (pg_tup rfl (pgs_cons (pg_name (i := 3) scRt.nd rfl (Or.inr rfl)) (pgs_cons (pg_name (i := 4) scRt.nd rfl (Or.inl rfl)) pgs_nil))))
        (pss_cons (ps_for PassesOwn.never rfl (pi_range1 rfl R.range (pa_cons (pe_op op_add pe_int (pe_call DD.ok (hr.mono (by decide)) rfl DD.g DD.kp DD.b .nil pass0 (pa_cons (pv 0) (pa_cons pe_int pa_nil)))) pa_nil)) (pg_name (i := 5) scRt.nd rfl (Or.inl rfl)) (part1 R hr))
        (pss_cons (ps_for PassesOwn.never rfl (pi_range1 rfl R.range (pa_cons (pe_call DD.ok (hr.mono (by decide)) rfl DD.g DD.kp DD.b .nil pass0 (pa_cons (pv 0) (pa_cons pe_int pa_nil))) pa_nil)) (pg_name (i := 5) scRt.nd rfl (Or.inl rfl)) (part2 R hr))
        (pss_one (ps_ret pe_bl)))))), ?_⟩
      have P' := kps5 (K := K)
      -- the tables
      refine ⟨_, rfl, w, z, rfl, hw, z0, by omega, fun tb l1 l2 za H1 b1 hw1 za1 za2 r1 r2 htb => ?_⟩
      have t1 : Tabs [(Pt, qL)] H1 := tabs_ch tb0 (.but b1) fun a m o e => by
        obtain ⟨x, y, e0⟩ := hw
        rw [List.mem_singleton.mp m, e0] at e
        cases e
        exact nt_lst
      have f1 : Fr w H H1 := .but b1
      show tSeq _ _ _ [some (.ref w), some (.ref tb), none, none, none, none, none, none, none, none] H1
      refine ED.seq (i := 2) (ed_get (i := 0) (ed_pv P' (i := 1) rfl htb) ep_str rfl rfl) fun tv H2 s2 htv => ?_
      have t2 := t1.ext s2
      have f2 := f1.trans (.same s2)
      have hw2 := wellS hw1 s2
      have htb2 := P'.dv s2 htb
      clear s2 htb t1 f1 hw1 b1
      show tSeq _ _ _ [some (.ref w), some (.ref tb), some tv, none, none, none, none, none, none, none] H2
      -- the kind
      obtain ⟨tva, tkv, u1, etv0, etv, ev1, h2⟩ := map_at (i := 1) htv rfl rfl
      obtain ⟨tva', tkv', u2, e', etv', ev2, h3⟩ := map_at (i := 2) htv rfl rfl
      subst etv0
      cases e'
      rw [etv] at etv'
      cases etv'
      intro kk nkk
      have skk := sm_upd (o := .dK []) nkk
      have ekk : (upd H2 kk (.dK [])) kk = some (.dK []) := upd_same
      generalize upd H2 kk (.dK []) = H3 at skk ekk
      have e3 := skk _ _ etv
      have nkb : NewF H kk := .of f2 hw2 nkk
      have nkw : kk ≠ w := wellNe hw2 nkk
      refine ⟨.ref tva, rfl, tva, u1, rfl, .inl ⟨tkv, .inr "given", .inl e3, rfl, ev1.symm⟩, ⟨.ref tva, rfl, tva, u2, rfl, .inl ⟨tkv, .inr "made", .inl e3, rfl, ev2.symm⟩, rfl, rfl, fun ak dk nak ndk nek => ?_⟩⟩
      have sb : Same H3 (upd (upd H3 dk (.own ak)) ak (.ins CK dk [])) := fun b o e => (upd_ne (ne_of_none e nak)).trans ((upd_ne (ne_of_none e ndk)).trans e)
      have hTH : ∀ H', Dv (O5 K) H' (.tup []) (.ref TH) := fun H' => ⟨TH, [], rfl, R2.th H', rfl⟩
      have kp : ∀ {H'}, Same H2 H' → KpAt (O5 K) H' (kindD (tblK l1 l2)) [.str "k", u1, u2, .non, .ref TH] := fun s => ⟨_, _, _, _, _, rfl, rfl, P'.dv s h2, P'.dv s h3, rfl, hTH _⟩
      refine ⟨ak, dk, .str "k", u1, u2, .non, .ref TH, kindD (tblK l1 l2), rfl, upd_same, kp (Same.trans skk sb), kk_ok r1 r2, kk_wrg r1 r2, fun H7 s7 e7 => ⟨rfl, ?_⟩⟩
      have s37 : Same H3 H7 := fun b o e => s7 _ _ (sb _ _ e) (ne_of_none e nak)
      have ekk7 := s37 _ _ ekk
      have nka : ak ≠ kk := fun e => by rw [e, ekk] at nak; cases nak
      refine ⟨ekk7, [(.inr "k", .ref ak)], rfl, by show 1 ≤ 15; omega, ?_⟩
      have s28 : Same H2 (upd H7 kk (.dK (mergeK [] [((.inr "k" : Key), V.ref ak)]))) := fun b o e => (upd_ne (ne_of_none e nkk)).trans (s37 _ _ (skk _ _ e))
      -- the dict of kinds
      have t8 := t2.ext s28
      have f8 := f2.trans (.same s28)
      have hw8 := wellS hw2 s28
      have htb8 := P'.dv s28 htb2
      have kd8 : KdAt (O5 K) CK (upd H7 kk (.dK (mergeK [] [((.inr "k" : Key), V.ref ak)]))) ak (kindD (tblK l1 l2)) := ⟨dk, _, _, _, _, _, (upd_ne nka).trans e7, kp s28⟩
      have ekk8 : (upd H7 kk (.dK (mergeK [] [((.inr "k" : Key), V.ref ak)]))) kk = some (.dK [((.inr "k" : Key), V.ref ak)]) := upd_same
      generalize upd H7 kk (.dK (mergeK [] [((.inr "k" : Key), V.ref ak)])) = H8 at t8 f8 hw8 htb8 kd8 ekk8
      clear s28 sb s37 s7 e7 nak ndk nek ekk ekk7 e3 kp skk nkk nka t2 f2 hw2 htb2 h2 h3
      -- the world
      intro aw dx na ndx ne
      have sb : Same H8 (upd (upd H8 dx (.own aw)) aw (.ins CW dx [])) := fun b o e => (upd_ne (ne_of_none e na)).trans ((upd_ne (ne_of_none e ndx)).trans e)
      have eaw : (upd (upd H8 dx (.own aw)) aw (.ins CW dx [])) aw = some (.ins CW dx []) := upd_same
      have naw : NewF H aw := .of f8 hw8 na
      generalize upd (upd H8 dx (.own aw)) aw (.ins CW dx []) = H9 at sb eaw
      refine ⟨aw, dx, kk, _, rfl, eaw, sb _ _ ekk8, (show ([.inr "k"] : List Key).Nodup by decide +kernel), by show 1 ≤ 1000; decide, fun kd sd H10 nkd nsd c10 ekd wd10 => ⟨rfl, ?_⟩⟩
      have s8 : Same H8 H10 := fun b o e => c10 _ _ (sb _ _ e) (by simpa using ne_of_none e na)
      have f10 := f8.trans (.same s8)
      have nsd' : NewF H sd := .of (f8.trans (.same sb)) (wellS hw8 sb) nsd
      have hw10 := wellS hw8 s8
      have kk10 : KAt K CK H10 kd [tblK l1 l2] := ⟨_, ekd, rfl, fun t ht => by
        rw [List.mem_singleton.mp ht]
        exact ⟨ak, by simp [valV, tblK], kd8.same5 s8⟩⟩
      have t10 := t8.ext s8
      have htb10 := P'.dv s8 htb8
      clear sb c10 na ndx ne
      refine ⟨_, rfl, tb, rfl, fun am rl H11 nam nrl s11 eam erl => ⟨by show 2 ≤ sizeLine; decide, fun t nt => ?_⟩⟩
      have cur11 : Cur K CW CK Pt H H11 w aw kd sd am tb rl [tblK l1 l2] [] 0 [] 0 za := ⟨wellS hw10 s11, wd10.same s11, kk10.same s11, ⟨eam, P'.dv s11 htb10, erl, fun q hq => (nomatch hq)⟩, t10.ext s11, ⟨fun q hq => (nomatch hq), List.nodup_nil, List.nodup_nil, fun q hq => (nomatch hq), Nat.zero_le _, fun q hq => (nomatch hq)⟩, ⟨fun q hq => (nomatch hq), List.nodup_nil, List.nodup_nil, Nat.zero_le _, fun q hq => (nomatch hq)⟩, tbl_ts r1 r2, fun p hp => (nomatch hp), f10.trans (.same s11), fun a m => by
        simp only [own, List.map_nil, List.mem_cons, List.not_mem_nil, or_false] at m
        rcases m with rfl | rfl
        · exact naw
        · exact nsd',
        fun a m => by
        simp only [ownM, List.map_nil, List.mem_cons, List.not_mem_nil, or_false] at m
        rcases m with rfl | rfl
        · exact .of f10 hw10 nam
        · exact .of f10 hw10 nrl⟩
      have cur6 := cur11.same (sm_upd (o := .tup [V.ref aw, V.ref am]) nt)
      refine ⟨t, _, rfl, SqT.of upd_same, rfl, _, _, rfl, _, _, rfl, rfl, ?_⟩
      generalize upd H11 t (.tup [V.ref aw, V.ref am]) = H6 at cur6
      clear cur11 eam erl s11 nam nrl nt wd10 kk10 t10 htb10 f10 hw10 s8 t8 f8 hw8 htb8 kd8 ekk8 ekd eaw nkd nsd naw nsd'
      show tSeq _ _ _ [some (.ref w), some (.ref tb), some (.ref tva), some (.ref aw), some (.ref am), none, none, none, none, none] H6
      -- what is made
      refine ⟨_, rfl, w, 5, za, rfl, cur6.well, by decide, by decide, by omega, by omega, fun d zb H7 d0 d1 zb1 zb2 hw7 b7 => ⟨_, _, rfl, rfl, ?_⟩⟩
      have cur7 := cur6.draw b7 hw7
      clear cur6 b7 hw7
      refine ⟨1 + d, rfl, by omega, by omega, for_range (lo := 0) (n := (1 + d).toNat) (fun i σ' H' => ∃ (rs : Rs) (n : Nat) (ls : List Lr) (z' : Int), Sl1 w aw am σ' ∧ Cur K CW CK Pt H H' w aw kd sd am tb rl [tblK l1 l2] rs n ls n z' ∧ RwK l1 l2 rs ls ∧ rs.length = i ∧ n ≤ 10 * i ∧ zb ≤ z' ∧ z' ≤ zb + 10 * (i : Int))
        ⟨[], 0, [], zb, ⟨_, _, _, _, _, _, _, rfl⟩, cur7, ⟨rfl, fun q hq => nomatch hq⟩, rfl, by omega, by omega, by omega⟩ (fun i σ' H' hi h => ?_) (fun σ' H8 h => ?_)⟩
      · obtain ⟨rs, n, ls, z', ⟨x1, x2, x5, x6, x7, x8, x9, rfl⟩, cu, rk, lr, nn, zz1, zz2⟩ := h
        refine ⟨H, w, aw, kd, sd, am, tb, rl, l1, l2, rs, n, ls, z', ⟨_, _, _, _, _, _, _, rfl⟩, cu, rk, by omega, by omega, by omega, by omega, fun σ2 H2 rs2 n2 ls2 z2 sl cu2 rk2 lr2 nn2 zz3 zz4 => ⟨rs2, n2, ls2, z2, sl, cu2, rk2, by omega, by omega, by omega, by push_cast; omega⟩⟩
      obtain ⟨rs, n, ls, zc, ⟨x1, x2, x5, x6, x7, x8, x9, rfl⟩, cur8, rk, lr, nn, zz1, zz2⟩ := h
      have zz3 : zc ≤ zb + 50 := by omega
      have nn3 : n ≤ 50 := by omega
      have lr5 : rs.length ≤ 5 := by omega
      have lr0 : 0 < rs.length := by omega
      clear cur7 zz2 lr nn
      show tSeq _ _ _ [some (.ref w), x1, x2, some (.ref aw), some (.ref am), x5, x6, x7, x8, x9] H8
      -- what is changed
      refine ⟨_, rfl, w, 6, zc, rfl, cur8.well, by decide, by decide, by omega, by omega, fun e zd H9 e0 e1 zd1 zd2 hw9 b9 => ?_⟩
      have cur9 := cur8.draw b9 hw9
      clear cur8 b9 hw9
      refine ⟨e, rfl, by omega, by omega, for_range (lo := 0) (n := e.toNat) (fun i σ' H' => ∃ (rs' : Rs) (n' : Nat) (ls' : List Lr) (z' : Int), Sl1 w aw am σ' ∧ Cur K CW CK Pt H H' w aw kd sd am tb rl [tblK l1 l2] rs' n' ls' n' z' ∧ RwK l1 l2 rs' ls' ∧ rs'.length = rs.length ∧ n' ≤ 50 + 10 * i ∧ zd ≤ z' ∧ z' ≤ zd + 10 * (i : Int))
        ⟨rs, n, ls, zd, ⟨_, _, _, _, _, _, _, rfl⟩, cur9, rk, rfl, by omega, by omega, by omega⟩ (fun i σ' H' hi h => ?_) (fun σ' H10 h => ?_)⟩
      · obtain ⟨rs', n', ls', z', ⟨x1, x2, x5, x6, x7, x8, x9, rfl⟩, cu, rk', lr, nn, zz4, zz5⟩ := h
        refine ⟨H, w, aw, kd, sd, am, tb, rl, l1, l2, rs', n', ls', z', ⟨_, _, _, _, _, _, _, rfl⟩, cu, rk', by omega, by omega, by omega, by omega, by omega, fun σ2 H2 rs2 n2 ls2 z2 sl cu2 rk2 lr2 nn2 zz6 zz7 => ⟨rs2, n2, ls2, z2, sl, cu2, rk2, by omega, by omega, by omega, by push_cast; omega⟩⟩
      obtain ⟨rs', n', ls', z', ⟨y1, y2, y5, y6, y7, y8, y9, rfl⟩, cu, rk', lr, nn, zz4, zz5⟩ := h
      exact k z' H10 (by omega) (by omega) cu.well cu.tbs cu.fb
    obtain ⟨t, h1, h2⟩ := main
    exact ⟨t, h1.nox, h2⟩
end
end Kd

set_option Elab.async false
set_option linter.all false
set_option maxRecDepth 100000
set_option maxHeartbeats 4000000
/-! _law_cell_at, law -/
namespace Kd
open PySem PySem.Spec PyProof.Rows L2 Dq Vl Pf Ed ClX LamX
abbrev sCell : Stmt := tp 39
abbrev sLaw : Stmt := tp 61
abbrev NLaw : List Str := ["_law_script", "_law_cell", "_law_well_here", "_law_turn"]
theorem scCell : FnScope ["_law_script", "_law_k"] ["_law_script", "_law_k"] (defScope sCell) := ⟨rfl, rfl, rfl, by decide +kernel, rfl, by decide +kernel, by decide +kernel⟩
theorem scLaw : FnScope NLaw ["_law_script"] (defScope sLaw) := ⟨rfl, rfl, rfl, by decide +kernel, rfl, by decide +kernel, by decide +kernel⟩
def spCell (K : PySem.W.Frag) : Sp := fun vs H Q _ => ∃ (a : Addr) (ns : List Int), vs = [.ref a, .int 0] ∧ SqL K H a (ns.map V.int) ∧ ∀ c : Int, Q (.int c) H
def spLaw (K : PySem.W.Frag) (Pt : Addr) : Sp := fun vs H Q _ => ∃ (a : Addr) (ns : List Int), vs = [.ref a] ∧ SqL K H a (ns.map V.int) ∧ ns.length ≤ 63 ∧ Tabs [(Pt, qL)] H ∧ ∀ H', Q (.bl true) H'
theorem cut_mem {xs : List V} {lo hi : Option Int} {x : V} (h : x ∈ cutV xs lo hi) : x ∈ xs := by
  unfold cutV at h
  exact List.mem_of_mem_drop (List.mem_of_mem_take h)
section
variable {P : Program} {w : World} {K : PySem.W.Frag} {mg : Str → Option Value} {base : Heap}
theorem ok_cell {f : Addr} {fd : FuncData} (F : Fun K "_law_cell_at" "_law_cell_at" sCell f fd) (nl : mg "len" = none) : FnOk P w K mg base CX0 1 f fd ["_law_script", "_law_k"] (spCell K) := by
  refine F.ok scCell (fun vs H Q E h => ?_) (fun cdv A outer s H vs Q E hr h => ?_)
  · obtain ⟨a, ns, rfl, _⟩ := h
    rfl
  · obtain ⟨a, ns, rfl, hS, k⟩ := h
    refine ⟨_, pss_one (ps_ret (pe_ifExp (pt_cmpR op_lt (pv 1) (pe_callB call_len_seq (by rfl) nl PySem.boot_len (pa_cons (pv 0) pa_nil)) (nomark _)) (pe_ix ix_list (pv 0) (pv 1) (fun _ _ => rfl)) pe_int)), ?_⟩
    refine ⟨_, rfl, _, rfl, a, _, rfl, .inl hS, _, _, rfl, rfl, _, rfl, ite2 (fun e => ?_) (fun e => ?_)⟩
    · cases ns with
      | nil => exact absurd e (by simp)
      | cons c r => exact ⟨_, rfl, _, rfl, a, _, 0, _, rfl, rfl, hS, atI_nat (j := 0) (xs := V.int c :: r.map V.int) rfl, k c⟩
    · exact k 0
theorem ok_law {f fC fW fR Pt : Addr} {fd fdC fdW fdR : FuncData} (F : Fun K "law" "law" sLaw f fd) (nr : mg "range" = none)
    (DC : Def P w K mg base 1 "_law_cell_at" fC fdC ["_law_script", "_law_k"] (spCell K)) (DW : Def P w K mg base 1 "_law_well" fW fdW ["_law_cell"] spWell) (DR : Def P w K mg base 10 "_law_right" fR fdR ["_law_well_here"] (spRt Pt)) : FnOk P w K mg base CX0 11 f fd ["_law_script"] (spLaw K Pt) := by
  refine F.ok scLaw (fun vs H Q E h => ?_) (fun cdv A outer s H vs Q E hr h => ?_)
  · obtain ⟨a, ns, rfl, _⟩ := h
    rfl
  · obtain ⟨a, ns, rfl, hS, h63, tb, k⟩ := h
    refine ⟨_, pss_cons (ps_for PassesOwn.never rfl (pi_list (pe_op op_cat (pe_lst (pa_cons (pe_call DC.ok (hr.mono (by decide)) rfl DC.g DC.kp DC.b .nil pass0 (pa_cons (pv 0) (pa_cons pe_int pa_nil))) pa_nil)) (pe_slice sl_list (pv 0) (po_some pe_int) (po_some pe_int)))) (pg_name (i := 1) scLaw.nd rfl (Or.inl rfl))
        (pss_cons (ps_set (i := 2) scLaw.nd rfl (Or.inl rfl) (pe_call DW.ok (hr.mono (by decide)) rfl DW.g DW.kp DW.b .nil pass0 (pa_cons (pv 1) pa_nil)))
        (pss_one (ps_for PassesOwn.never rfl (pi_range1 rfl nr (pa_cons pe_int pa_nil)) (pg_name (i := 3) scLaw.nd rfl (Or.inl rfl))
          (pss_one (ps_if (pt_not (pt_val (pe_call DR.ok hr rfl DR.g DR.kp DR.b .nil pass0 (pa_cons (pv 2) pa_nil)))) (pss_one (ps_ret pe_bl)) pss_nil))))))
      (pss_one (ps_ret pe_bl)), ?_⟩
    have hlen : (cutV (ns.map V.int) (some 1) (some 3)).length ≤ 63 := by
      have z := cutV_length (ns.map V.int) (some 1) (some 3)
      rw [List.length_map] at z
      omega
    refine ⟨_, rfl, a, ns, rfl, hS, fun c0 => ⟨by show 1 ≤ sizeLine; decide, fun p1 hp1 => ?_⟩⟩
    have k1 : Same H (upd H p1 (.lst [V.int c0])) := sm_upd hp1
    refine ⟨_, rfl, _, rfl, _, rfl, a, _, rfl, k1.seq hS, fun p2 hp2 => ?_⟩
    have k2 : Same (upd H p1 (.lst [V.int c0])) (upd (upd H p1 (.lst [V.int c0])) p2 (.lst (cutV (ns.map V.int) (some 1) (some 3)))) := sm_upd hp2
    refine ⟨p1, p2, _, _, rfl, rfl, k2 _ _ upd_same, upd_same, ?_, fun p3 hp3 => ?_⟩
    · have z2 : 1 + (cutV (ns.map V.int) (some 1) (some 3)).length ≤ 64 := by omega
      exact Nat.le_trans z2 (by decide)
    have k3 : Same H (upd (upd (upd H p1 (.lst [V.int c0])) p2 (.lst (cutV (ns.map V.int) (some 1) (some 3)))) p3 (.lst ([V.int c0] ++ cutV (ns.map V.int) (some 1) (some 3)))) := Same.upd (Same.trans k1 k2) hp3
    have g3 : (upd (upd (upd H p1 (.lst [V.int c0])) p2 (.lst (cutV (ns.map V.int) (some 1) (some 3)))) p3 (.lst ([V.int c0] ++ cutV (ns.map V.int) (some 1) (some 3)))) p3 = some (.lst ([V.int c0] ++ cutV (ns.map V.int) (some 1) (some 3))) := upd_same
    generalize (upd (upd (upd H p1 (.lst [V.int c0])) p2 (.lst (cutV (ns.map V.int) (some 1) (some 3)))) p3 (.lst ([V.int c0] ++ cutV (ns.map V.int) (some 1) (some 3)))) = H1 at k3 g3 ⊢
    have allI : ∀ x ∈ ([V.int c0] ++ cutV (ns.map V.int) (some 1) (some 3)), ∃ c : Int, x = .int c := fun x hx => by
      rcases List.mem_append.mp hx with m | m
      · exact ⟨c0, List.mem_singleton.mp m⟩
      · obtain ⟨c, _, e⟩ := List.mem_map.mp (cut_mem m)
        exact ⟨c, e.symm⟩
    refine ⟨p3, rfl, ⟨_, SqL.of g3⟩, for_list (K := K) (a := p3) (xs := [V.int c0] ++ cutV (ns.map V.int) (some 1) (some 3)) (fun i σ H' => (∃ v1 v2 v3 : Option V, σ = [some (.ref a), v1, v2, v3]) ∧ Tabs [(Pt, qL)] H' ∧ H' p3 = some (.lst ([V.int c0] ++ cutV (ns.map V.int) (some 1) (some 3))))
      ⟨⟨_, _, _, rfl⟩, tb.ext k3, g3⟩ (fun i σ H' _ hv => SqL.of hv.2.2) ?_ ?_⟩
    rotate_left
    · rintro σ H' ⟨⟨v1, v2, v3, rfl⟩, _⟩
      exact k _
    rintro i x σ H2 hx ⟨⟨v1, v2, v3, rfl⟩, tb2, f2⟩
    obtain ⟨c, rfl⟩ := allI x (List.mem_of_getElem? hx)
    refine ⟨_, rfl, c, rfl, fun pw o hpw w0 => ?_⟩
    have k4 : Same H2 (upd H2 pw o) := sm_upd hpw
    have np : p3 ≠ pw := fun e => by rw [← e, f2] at hpw; cases hpw
    refine ⟨3, rfl, by decide, by decide, for_range (lo := 0) (n := 3) (fun i σ H' => (∃ v3 : Option V, σ = [some (.ref a), some (.int c), some (.ref pw), v3]) ∧ Tabs [(Pt, qL)] H' ∧ H' p3 = some (.lst ([V.int c0] ++ cutV (ns.map V.int) (some 1) (some 3))) ∧ ∃ z, WellAt H' pw z ∧ 0 ≤ z ∧ z ≤ 1000 * (i : Int))
      ⟨⟨_, rfl⟩, tb2.ext k4, k4 _ _ f2, 0, w0, by omega, by omega⟩ ?_ ?_⟩
    rotate_left
    · rintro σ H' ⟨⟨v3, rfl⟩, t, f, _⟩
      exact ⟨⟨_, _, _, rfl⟩, t, f⟩
    rintro i2 σ H3 hi ⟨⟨v3, rfl⟩, t3, f3, z, wz, hz0, hz1⟩
    refine ⟨_, rfl, pw, z, rfl, wz, hz0, by omega, t3, fun z' H4 z2 z3 w4 t4 f4 => ⟨_, rfl, Vl.iteN rfl ?_⟩⟩
    exact ⟨⟨_, rfl⟩, t4, f4 _ _ f3 np (fun ps q => nomatch q), z', w4, by omega, by push_cast; omega⟩
end
end Kd

set_option Elab.async false
set_option linter.all false
set_option maxRecDepth 100000
set_option maxHeartbeats 8000000
namespace Kd
open PySem PySem.Spec PyProof.Rows L2 Dq Vl ClX Pf Ed LamX
abbrev P0 : Program := PySem.Challenge.rw_planfirst_k23_what_reading_tells.prog
theorem kitT_of {K : PySem.W.Frag} {C : Addr} {T : String} (h : PySem.W.mroIn K C (.type T) = some false) (e : PySem.W.kitMeta T = true) : PySem.W.kitOne K (.ref C) (.type T) = some false := by
  show (if ((Value.ref C) == Value.type T) = true then some true else if PySem.W.kitMeta T = true then PySem.W.subIn K (.ref C) (.type T) else none) = some false
  rw [if_neg (by intro z; cases z), if_pos e]
  exact h
theorem kitS_of {K : PySem.W.Frag} {C : Addr} : PySem.W.kitOne K (.ref C) (.ref C) = some true := by unfold PySem.W.kitOne; rw [if_pos (beq_self_eq_true _)]
theorem kitU_of {K : PySem.W.Frag} {C : Addr} {T : String} (c : PySem.W.isClsIn K C = true) (t : PySem.W.typeIn K (.ref C) = some (.type "type")) (h : PySem.W.subIn K (.type T) (.ref C) = some false) : PySem.W.kitOne K (.type T) (.ref C) = some false := by
  have e1 : ((PySem.W.clsIn K C).isSome && PySem.W.typeIn K (.ref C) == some (.type "type")) = true := by rw [show (PySem.W.clsIn K C).isSome = true from c, t]; rfl
  show (if ((Value.type T) == Value.ref C) = true then some true else if ((PySem.W.clsIn K C).isSome && PySem.W.typeIn K (.ref C) == some (.type "type")) = true then PySem.W.subIn K (.type T) (.ref C) else none) = some false
  rw [if_neg (by intro z; cases z), if_pos e1]
  exact h
theorem sqt_e {K : PySem.W.Frag} {T : Addr} {od : Option Addr} {n : Nat} {sl : Array (Option Value)} (h : K.lookup T = some ⟨.type "tuple", od, .seq #[] n, sl⟩) (H : Hp) : SqT K H T [] :=
  .inr ⟨_, _, _, h, rfl, rfl, by show 0 ≤ sizeLine; decide, .nil⟩
theorem sqt_s {K : PySem.W.Frag} {T : Addr} {od : Option Addr} {n : Nat} {sl : Array (Option Value)} {t1 t2 t3 : Tok} (h : K.lookup T = some ⟨.type "tuple", od, .seq #[.str "wanted" t1, .str "open" t2, .str "filled" t3] n, sl⟩) (H : Hp) : SqT K H T (srts.map V.str) :=
  .inr ⟨_, _, _, h, rfl, rfl, by show 3 ≤ sizeLine; decide, .cons ⟨_, rfl⟩ (.cons ⟨_, rfl⟩ (.cons ⟨_, rfl⟩ .nil))⟩
theorem kb_h {K : PySem.W.Frag} {f TH : Addr} {fd : FuncData} (F : FunD K "__init__" "Kind.__init__" (defArgs sKI) (defBody sKI) (defScope sKI) [] [(("single" : Str), (.non : V)), (("holds" : Str), (.ref TH : V))] f fd) : ∃ g, KBn K fd PKI 4 [] g (gVk TH) := by
  obtain ⟨mv, h⟩ := F.kbinds0 (ps := PKI) 4 [] [(("single" : Str), (.non : V)), (("holds" : Str), (.ref TH : V))] (fun vs mz zs => vs ++ (mz ++ zs)) (by simp) (fun q h => h) (fun r1 r2 r3 => r1.append (r2.append r3)) (fun D doc pm an cdv ct us mv ws h1 h2 h3 => by
    match us, h1, mv, h2, ws, h3 with
    | [_, _, _, _], _, [_, _], _, [], _ =>
      refine ⟨_, _, _, _, _, _, rfl, rfl, ?_⟩
      refine ⟨_, _, _, _, _, _, rfl, rfl, ?_⟩
      rfl)
  exact ⟨_, h⟩
/-- the walk, where the def called x makes lambdas -/
theorem walk_tab {l : PySem.W.OpenLaw} {n k : Nat} {q : Program} {loose : List Str} {XP : (Str → Option Value) → Heap → Prop} {YP : World → Heap → Prop} {d : DefRec} {K : Params → PySem.W.Frag} {CX : World → CXT} {x : Str} (y : Str)
    (hn : l.most = some n) (hn2 : n ≤ sizeLine) (hdf : d.params.defaults = []) (hr : Room k callerA) (hrec : ((recsOf q).find? (fun e => e.name == y)).isSome = true) (hY : ∀ (w : World) (h : Heap), YP w h → (K w.params).In h)
    (F : ∀ (w : World) (mg : Str → Option Value) (fa : Addr) (h : Heap), (K w.params).In h → h.Ns mainGlobals mg → mg d.name = some (.ref fa) → (∀ c P, PySem.W.tabIn (K w.params) y = some (c, P) → PySem.W.CodeHd h c P ∧ h.get? P = some { cls := .none, data := .fields #[] }) → LawAtS l w (K w.params) (CX w) k n x mg fa h)
    (hCX : ∀ (w : World) (H : Hp) (s : Shared) (e : Value) (s' : Shared), CX w [] H s (fun _ _ _ => False) e s' → False) :
    PySem.W.WalkO q loose XP YP l.row.toRowW d [] (fun f vs => PySem.call f vs) := by
  refine Att.attach_callB hn hdf fun w s₀ s₁ mg mb fa o pm cd doc a vs ns G Y ho hd hcd hmg hobj hints hlen hbits hg => ?_
  have KX := hY w _ Y
  obtain ⟨dR, hR⟩ := Option.isSome_iff_exists.mp hrec
  obtain ⟨fd, cs, sp, hT, nT, C, hb, hsp, hF⟩ := F w mg fa _ KX G.T.g hmg fun c P e => PySem.W.tab_of G.T KX hR e
  exact law_callTs KX G.T.g G.T.b G.T.builtins G.T.nolimit hg hT nT C G.T.bmain hobj hints (Nat.le_trans hlen hn2) hr hF hb (fun H hH hS => hsp H a ns hlen hbits hH hS) fun H e s' => hCX w H s₁ e s'
theorem all_mk {w : World} {K : PySem.W.Frag} {h : Heap} {mg : Str → Option Value} {fa cK cW CO cR PR CT CG CU DI TH aS fNam fUnl fWrg fAmo fGvs fGiv fRdg fMds fMad fHld fInt fTag fFrs fAC fAT fGN fJd fSur fCel fWel fDrw fOne fKey fMo fLT fLA fLM fTk fRow fLMk fLC fLAl fLR fSai fAl fDi fCo fTo fRR fRgt fLaw fWI fTh fRd fMak fChg fAlt fHas fRG fRT fNT fMM fSu fKI : Addr} (X : K.In h) (G : h.Ns mainGlobals mg) (hfa : mg "law" = some (.ref fa))
    {odS odT dR : Option Addr} {slS slT slR : Array (Option Value)} {oR : Value} {vsR : Array Value} {nS nT : Nat} {t1 t2 t3 tM : Tok}
    {odNam anNam odUnl anUnl odWrg anWrg odAmo anAmo odGvs anGvs odGiv anGiv odRdg anRdg odMds anMds odMad anMad odHld anHld odInt anInt odTag anTag odFrs anFrs odAC anAC odAT anAT odGN anGN odJd anJd odSur anSur odCel anCel odWel anWel odDrw anDrw odOne anOne odKey anKey odMo anMo odLT anLT odLA anLA odLM anLM odTk anTk odRow anRow odLMk anLMk odLC anLC odLAl anLAl odLR anLR odSai anSai odAl anAl odDi anDi odCo anCo odTo anTo odRR anRR odRgt anRgt odLaw anLaw odWI anWI odTh anTh odRd anRd odMak anMak odChg anChg odAlt anAlt odHas anHas odRG anRG odRT anRT odNT anNT odMM anMM odSu anSu odKI anKI : Option Addr} {slNam slUnl slWrg slAmo slGvs slGiv slRdg slMds slMad slHld slInt slTag slFrs slAC slAT slGN slJd slSur slCel slWel slDrw slOne slKey slMo slLT slLA slLM slTk slRow slLMk slLC slLAl slLR slSai slAl slDi slCo slTo slRR slRgt slLaw slWI slTh slRd slMak slChg slAlt slHas slRG slRT slNT slMM slSu slKI : Array (Option Value)} {ocNam kVNam dcNam pmNam cdNam ctNam ocUnl kVUnl dcUnl pmUnl cdUnl ctUnl ocWrg kVWrg dcWrg pmWrg cdWrg ctWrg ocAmo kVAmo dcAmo pmAmo cdAmo ctAmo ocGvs kVGvs dcGvs pmGvs cdGvs ctGvs ocGiv kVGiv dcGiv pmGiv cdGiv ctGiv ocRdg kVRdg dcRdg pmRdg cdRdg ctRdg ocMds kVMds dcMds pmMds cdMds ctMds ocMad kVMad dcMad pmMad cdMad ctMad ocHld kVHld dcHld pmHld cdHld ctHld ocInt kVInt dcInt pmInt cdInt ctInt ocTag kVTag dcTag pmTag cdTag ctTag ocFrs kVFrs dcFrs pmFrs cdFrs ctFrs ocAC kVAC dcAC pmAC cdAC ctAC ocAT kVAT dcAT pmAT cdAT ctAT ocGN kVGN dcGN pmGN cdGN ctGN ocJd kVJd dcJd pmJd cdJd ctJd ocSur kVSur dcSur pmSur cdSur ctSur ocCel kVCel dcCel pmCel cdCel ctCel ocWel kVWel dcWel pmWel cdWel ctWel ocDrw kVDrw dcDrw pmDrw cdDrw ctDrw ocOne kVOne dcOne pmOne cdOne ctOne ocKey kVKey dcKey pmKey cdKey ctKey ocMo kVMo dcMo pmMo cdMo ctMo ocLT kVLT dcLT pmLT cdLT ctLT ocLA kVLA dcLA pmLA cdLA ctLA ocLM kVLM dcLM pmLM cdLM ctLM ocTk kVTk dcTk pmTk cdTk ctTk ocRow kVRow dcRow pmRow cdRow ctRow ocLMk kVLMk dcLMk pmLMk cdLMk ctLMk ocLC kVLC dcLC pmLC cdLC ctLC ocLAl kVLAl dcLAl pmLAl cdLAl ctLAl ocLR kVLR dcLR pmLR cdLR ctLR ocSai kVSai dcSai pmSai cdSai ctSai ocAl kVAl dcAl pmAl cdAl ctAl ocDi kVDi dcDi pmDi cdDi ctDi ocCo kVCo dcCo pmCo cdCo ctCo ocTo kVTo dcTo pmTo cdTo ctTo ocRR kVRR dcRR pmRR cdRR ctRR ocRgt kVRgt dcRgt pmRgt ctRgt ocLaw kVLaw dcLaw pmLaw cdLaw ctLaw ocWI kVWI dcWI pmWI cdWI ctWI ocTh kVTh dcTh pmTh cdTh ctTh ocRd kVRd dcRd pmRd cdRd ctRd ocMak kVMak dcMak pmMak cdMak ctMak ocChg kVChg dcChg pmChg cdChg ctChg ocAlt kVAlt dcAlt pmAlt cdAlt ctAlt ocHas kVHas dcHas pmHas cdHas ctHas ocRG kVRG dcRG pmRG cdRG ctRG ocRT kVRT dcRT pmRT cdRT ctRT ocNT kVNT dcNT pmNT cdNT ctNT ocMM kVMM dcMM pmMM cdMM ctMM ocSu kVSu dcSu pmSu cdSu ctSu ocKI dcKI pmKI cdKI ctKI : Value}
    (aNam : PySem.W.nsIn K mainGlobals "is_name" = some (some (.ref fNam)))
    (lNam : K.lookup fNam = some ⟨ocNam, odNam, .func (PySem.W.fnOf "is_name" "is_name" (defArgs sName) (defBody sName) (defScope sName) .none kVNam dcNam pmNam anNam cdNam ctNam), slNam⟩)
    (cNam : PySem.W.codeIn K cdNam "is_name" = true)
    (kNam : PySem.W.keepIn K (.ref fNam) = true)
    (aUnl : PySem.W.nsIn K mainGlobals "are_unlike" = some (some (.ref fUnl)))
    (lUnl : K.lookup fUnl = some ⟨ocUnl, odUnl, .func (PySem.W.fnOf "are_unlike" "are_unlike" (defArgs sUnl) (defBody sUnl) (defScope sUnl) .none kVUnl dcUnl pmUnl anUnl cdUnl ctUnl), slUnl⟩)
    (cUnl : PySem.W.codeIn K cdUnl "are_unlike" = true)
    (kUnl : PySem.W.keepIn K (.ref fUnl) = true)
    (aWrg : PySem.W.nsIn K mainGlobals "_wrong_part" = some (some (.ref fWrg)))
    (lWrg : K.lookup fWrg = some ⟨ocWrg, odWrg, .func (PySem.W.fnOf "_wrong_part" "_wrong_part" (defArgs sWrg) (defBody sWrg) (defScope sWrg) .none kVWrg dcWrg pmWrg anWrg cdWrg ctWrg), slWrg⟩)
    (cWrg : PySem.W.codeIn K cdWrg "_wrong_part" = true)
    (kWrg : PySem.W.keepIn K (.ref fWrg) = true)
    (aAmo : PySem.W.nsIn K mainGlobals "_is_among" = some (some (.ref fAmo)))
    (lAmo : K.lookup fAmo = some ⟨ocAmo, odAmo, .func (PySem.W.fnOf "_is_among" "_is_among" (defArgs sAmo) (defBody sAmo) (defScope sAmo) .none kVAmo dcAmo pmAmo anAmo cdAmo ctAmo), slAmo⟩)
    (cAmo : PySem.W.codeIn K cdAmo "_is_among" = true)
    (kAmo : PySem.W.keepIn K (.ref fAmo) = true)
    (aGvs : PySem.W.nsIn K mainGlobals "_are_given" = some (some (.ref fGvs)))
    (lGvs : K.lookup fGvs = some ⟨ocGvs, odGvs, .func (PySem.W.fnOf "_are_given" "_are_given" (defArgs sGvs) (defBody sGvs) (defScope sGvs) .none kVGvs dcGvs pmGvs anGvs cdGvs ctGvs), slGvs⟩)
    (cGvs : PySem.W.codeIn K cdGvs "_are_given" = true)
    (kGvs : PySem.W.keepIn K (.ref fGvs) = true)
    (aGiv : PySem.W.nsIn K mainGlobals "_is_given" = some (some (.ref fGiv)))
    (lGiv : K.lookup fGiv = some ⟨ocGiv, odGiv, .func (PySem.W.fnOf "_is_given" "_is_given" (defArgs sGiv) (defBody sGiv) (defScope sGiv) .none kVGiv dcGiv pmGiv anGiv cdGiv ctGiv), slGiv⟩)
    (cGiv : PySem.W.codeIn K cdGiv "_is_given" = true)
    (kGiv : PySem.W.keepIn K (.ref fGiv) = true)
    (aRdg : PySem.W.nsIn K mainGlobals "_is_reading" = some (some (.ref fRdg)))
    (lRdg : K.lookup fRdg = some ⟨ocRdg, odRdg, .func (PySem.W.fnOf "_is_reading" "_is_reading" (defArgs sRdg) (defBody sRdg) (defScope sRdg) .none kVRdg dcRdg pmRdg anRdg cdRdg ctRdg), slRdg⟩)
    (cRdg : PySem.W.codeIn K cdRdg "_is_reading" = true)
    (kRdg : PySem.W.keepIn K (.ref fRdg) = true)
    (aMds : PySem.W.nsIn K mainGlobals "_are_made" = some (some (.ref fMds)))
    (lMds : K.lookup fMds = some ⟨ocMds, odMds, .func (PySem.W.fnOf "_are_made" "_are_made" (defArgs sMds) (defBody sMds) (defScope sMds) .none kVMds dcMds pmMds anMds cdMds ctMds), slMds⟩)
    (cMds : PySem.W.codeIn K cdMds "_are_made" = true)
    (kMds : PySem.W.keepIn K (.ref fMds) = true)
    (aMad : PySem.W.nsIn K mainGlobals "_is_made" = some (some (.ref fMad)))
    (lMad : K.lookup fMad = some ⟨ocMad, odMad, .func (PySem.W.fnOf "_is_made" "_is_made" (defArgs sMad) (defBody sMad) (defScope sMad) .none kVMad dcMad pmMad anMad cdMad ctMad), slMad⟩)
    (cMad : PySem.W.codeIn K cdMad "_is_made" = true)
    (kMad : PySem.W.keepIn K (.ref fMad) = true)
    (aHld : PySem.W.nsIn K mainGlobals "_are_held" = some (some (.ref fHld)))
    (lHld : K.lookup fHld = some ⟨ocHld, odHld, .func (PySem.W.fnOf "_are_held" "_are_held" (defArgs sHld) (defBody sHld) (defScope sHld) .none kVHld dcHld pmHld anHld cdHld ctHld), slHld⟩)
    (cHld : PySem.W.codeIn K cdHld "_are_held" = true)
    (kHld : PySem.W.keepIn K (.ref fHld) = true)
    (aInt : PySem.W.nsIn K mainGlobals "is_integer" = some (some (.ref fInt)))
    (lInt : K.lookup fInt = some ⟨ocInt, odInt, .func (PySem.W.fnOf "is_integer" "is_integer" (defArgs sInt) (defBody sInt) (defScope sInt) .none kVInt dcInt pmInt anInt cdInt ctInt), slInt⟩)
    (cInt : PySem.W.codeIn K cdInt "is_integer" = true)
    (kInt : PySem.W.keepIn K (.ref fInt) = true)
    (aTag : PySem.W.nsIn K mainGlobals "is_tag" = some (some (.ref fTag)))
    (lTag : K.lookup fTag = some ⟨ocTag, odTag, .func (PySem.W.fnOf "is_tag" "is_tag" (defArgs sTag) (defBody sTag) (defScope sTag) .none kVTag dcTag pmTag anTag cdTag ctTag), slTag⟩)
    (cTag : PySem.W.codeIn K cdTag "is_tag" = true)
    (kTag : PySem.W.keepIn K (.ref fTag) = true)
    (aFrs : PySem.W.nsIn K mainGlobals "fresh" = some (some (.ref fFrs)))
    (lFrs : K.lookup fFrs = some ⟨ocFrs, odFrs, .func (PySem.W.fnOf "fresh" "fresh" (defArgs sFrs) (defBody sFrs) (defScope sFrs) .none kVFrs dcFrs pmFrs anFrs cdFrs ctFrs), slFrs⟩)
    (cFrs : PySem.W.codeIn K cdFrs "fresh" = true)
    (kFrs : PySem.W.keepIn K (.ref fFrs) = true)
    (aAC : PySem.W.nsIn K mainGlobals "_as_chosen" = some (some (.ref fAC)))
    (lAC : K.lookup fAC = some ⟨ocAC, odAC, .func (PySem.W.fnOf "_as_chosen" "_as_chosen" (defArgs sAC) (defBody sAC) (defScope sAC) .none kVAC dcAC pmAC anAC cdAC ctAC), slAC⟩)
    (cAC : PySem.W.codeIn K cdAC "_as_chosen" = true)
    (kAC : PySem.W.keepIn K (.ref fAC) = true)
    (aAT : PySem.W.nsIn K mainGlobals "_as_told" = some (some (.ref fAT)))
    (lAT : K.lookup fAT = some ⟨ocAT, odAT, .func (PySem.W.fnOf "_as_told" "_as_told" (defArgs sAT) (defBody sAT) (defScope sAT) .none kVAT dcAT pmAT anAT cdAT ctAT), slAT⟩)
    (cAT : PySem.W.codeIn K cdAT "_as_told" = true)
    (kAT : PySem.W.keepIn K (.ref fAT) = true)
    (aGN : PySem.W.nsIn K mainGlobals "given_names" = some (some (.ref fGN)))
    (lGN : K.lookup fGN = some ⟨ocGN, odGN, .func (PySem.W.fnOf "given_names" "given_names" (defArgs sGN) (defBody sGN) (defScope sGN) .none kVGN dcGN pmGN anGN cdGN ctGN), slGN⟩)
    (cGN : PySem.W.codeIn K cdGN "given_names" = true)
    (kGN : PySem.W.keepIn K (.ref fGN) = true)
    (aJd : PySem.W.nsIn K mainGlobals "joined" = some (some (.ref fJd)))
    (lJd : K.lookup fJd = some ⟨ocJd, odJd, .func (PySem.W.fnOf "joined" "joined" (defArgs sJd) (defBody sJd) (defScope sJd) .none kVJd dcJd pmJd anJd cdJd ctJd), slJd⟩)
    (cJd : PySem.W.codeIn K cdJd "joined" = true)
    (kJd : PySem.W.keepIn K (.ref fJd) = true)
    (aSur : PySem.W.nsIn K mainGlobals "surrounded" = some (some (.ref fSur)))
    (lSur : K.lookup fSur = some ⟨ocSur, odSur, .func (PySem.W.fnOf "surrounded" "surrounded" (defArgs sSur) (defBody sSur) (defScope sSur) .none kVSur dcSur pmSur anSur cdSur ctSur), slSur⟩)
    (cSur : PySem.W.codeIn K cdSur "surrounded" = true)
    (kSur : PySem.W.keepIn K (.ref fSur) = true)
    (aCel : PySem.W.nsIn K mainGlobals "_law_cell_at" = some (some (.ref fCel)))
    (lCel : K.lookup fCel = some ⟨ocCel, odCel, .func (PySem.W.fnOf "_law_cell_at" "_law_cell_at" (defArgs sCell) (defBody sCell) (defScope sCell) .none kVCel dcCel pmCel anCel cdCel ctCel), slCel⟩)
    (cCel : PySem.W.codeIn K cdCel "_law_cell_at" = true)
    (kCel : PySem.W.keepIn K (.ref fCel) = true)
    (aWel : PySem.W.nsIn K mainGlobals "_law_well" = some (some (.ref fWel)))
    (lWel : K.lookup fWel = some ⟨ocWel, odWel, .func (PySem.W.fnOf "_law_well" "_law_well" (defArgs Pf.sWell) (defBody Pf.sWell) (defScope Pf.sWell) .none kVWel dcWel pmWel anWel cdWel ctWel), slWel⟩)
    (cWel : PySem.W.codeIn K cdWel "_law_well" = true)
    (kWel : PySem.W.keepIn K (.ref fWel) = true)
    (aDrw : PySem.W.nsIn K mainGlobals "_law_draw" = some (some (.ref fDrw)))
    (lDrw : K.lookup fDrw = some ⟨ocDrw, odDrw, .func (PySem.W.fnOf "_law_draw" "_law_draw" (defArgs Pf.sDraw) (defBody Pf.sDraw) (defScope Pf.sDraw) .none kVDrw dcDrw pmDrw anDrw cdDrw ctDrw), slDrw⟩)
    (cDrw : PySem.W.codeIn K cdDrw "_law_draw" = true)
    (kDrw : PySem.W.keepIn K (.ref fDrw) = true)
    (aOne : PySem.W.nsIn K mainGlobals "_law_one" = some (some (.ref fOne)))
    (lOne : K.lookup fOne = some ⟨ocOne, odOne, .func (PySem.W.fnOf "_law_one" "_law_one" (defArgs Pf.sOne) (defBody Pf.sOne) (defScope Pf.sOne) .none kVOne dcOne pmOne anOne cdOne ctOne), slOne⟩)
    (cOne : PySem.W.codeIn K cdOne "_law_one" = true)
    (kOne : PySem.W.keepIn K (.ref fOne) = true)
    (aKey : PySem.W.nsIn K mainGlobals "_law_key" = some (some (.ref fKey)))
    (lKey : K.lookup fKey = some ⟨ocKey, odKey, .func (PySem.W.fnOf "_law_key" "_law_key" (defArgs sKey) (defBody sKey) (defScope sKey) .none kVKey dcKey pmKey anKey cdKey ctKey), slKey⟩)
    (cKey : PySem.W.codeIn K cdKey "_law_key" = true)
    (kKey : PySem.W.keepIn K (.ref fKey) = true)
    (aMo : PySem.W.nsIn K mainGlobals "_law_model" = some (some (.ref fMo)))
    (lMo : K.lookup fMo = some ⟨ocMo, odMo, .func (PySem.W.fnOf "_law_model" "_law_model" (defArgs sMo) (defBody sMo) (defScope sMo) .none kVMo dcMo pmMo anMo cdMo ctMo), slMo⟩)
    (cMo : PySem.W.codeIn K cdMo "_law_model" = true)
    (kMo : PySem.W.keepIn K (.ref fMo) = true)
    (aLT : PySem.W.nsIn K mainGlobals "_law_tag" = some (some (.ref fLT)))
    (lLT : K.lookup fLT = some ⟨ocLT, odLT, .func (PySem.W.fnOf "_law_tag" "_law_tag" (defArgs sLT) (defBody sLT) (defScope sLT) .none kVLT dcLT pmLT anLT cdLT ctLT), slLT⟩)
    (cLT : PySem.W.codeIn K cdLT "_law_tag" = true)
    (kLT : PySem.W.keepIn K (.ref fLT) = true)
    (aLA : PySem.W.nsIn K mainGlobals "_law_around" = some (some (.ref fLA)))
    (lLA : K.lookup fLA = some ⟨ocLA, odLA, .func (PySem.W.fnOf "_law_around" "_law_around" (defArgs sLA) (defBody sLA) (defScope sLA) .none kVLA dcLA pmLA anLA cdLA ctLA), slLA⟩)
    (cLA : PySem.W.codeIn K cdLA "_law_around" = true)
    (kLA : PySem.W.keepIn K (.ref fLA) = true)
    (aLM : PySem.W.nsIn K mainGlobals "_law_marks" = some (some (.ref fLM)))
    (lLM : K.lookup fLM = some ⟨ocLM, odLM, .func (PySem.W.fnOf "_law_marks" "_law_marks" (defArgs sLM) (defBody sLM) (defScope sLM) .none kVLM dcLM pmLM anLM cdLM ctLM), slLM⟩)
    (cLM : PySem.W.codeIn K cdLM "_law_marks" = true)
    (kLM : PySem.W.keepIn K (.ref fLM) = true)
    (aTk : PySem.W.nsIn K mainGlobals "_law_taken" = some (some (.ref fTk)))
    (lTk : K.lookup fTk = some ⟨ocTk, odTk, .func (PySem.W.fnOf "_law_taken" "_law_taken" (defArgs sTk) (defBody sTk) (defScope sTk) .none kVTk dcTk pmTk anTk cdTk ctTk), slTk⟩)
    (cTk : PySem.W.codeIn K cdTk "_law_taken" = true)
    (kTk : PySem.W.keepIn K (.ref fTk) = true)
    (aRow : PySem.W.nsIn K mainGlobals "_law_row" = some (some (.ref fRow)))
    (lRow : K.lookup fRow = some ⟨ocRow, odRow, .func (PySem.W.fnOf "_law_row" "_law_row" (defArgs sRow) (defBody sRow) (defScope sRow) .none kVRow dcRow pmRow anRow cdRow ctRow), slRow⟩)
    (cRow : PySem.W.codeIn K cdRow "_law_row" = true)
    (kRow : PySem.W.keepIn K (.ref fRow) = true)
    (aLMk : PySem.W.nsIn K mainGlobals "_law_make" = some (some (.ref fLMk)))
    (lLMk : K.lookup fLMk = some ⟨ocLMk, odLMk, .func (PySem.W.fnOf "_law_make" "_law_make" (defArgs sLMk) (defBody sLMk) (defScope sLMk) .none kVLMk dcLMk pmLMk anLMk cdLMk ctLMk), slLMk⟩)
    (cLMk : PySem.W.codeIn K cdLMk "_law_make" = true)
    (kLMk : PySem.W.keepIn K (.ref fLMk) = true)
    (aLC : PySem.W.nsIn K mainGlobals "_law_change" = some (some (.ref fLC)))
    (lLC : K.lookup fLC = some ⟨ocLC, odLC, .func (PySem.W.fnOf "_law_change" "_law_change" (defArgs sLC) (defBody sLC) (defScope sLC) .none kVLC dcLC pmLC anLC cdLC ctLC), slLC⟩)
    (cLC : PySem.W.codeIn K cdLC "_law_change" = true)
    (kLC : PySem.W.keepIn K (.ref fLC) = true)
    (aLAl : PySem.W.nsIn K mainGlobals "_law_alter" = some (some (.ref fLAl)))
    (lLAl : K.lookup fLAl = some ⟨ocLAl, odLAl, .func (PySem.W.fnOf "_law_alter" "_law_alter" (defArgs sLAl) (defBody sLAl) (defScope sLAl) .none kVLAl dcLAl pmLAl anLAl cdLAl ctLAl), slLAl⟩)
    (cLAl : PySem.W.codeIn K cdLAl "_law_alter" = true)
    (kLAl : PySem.W.keepIn K (.ref fLAl) = true)
    (aLR : PySem.W.nsIn K mainGlobals "_law_read" = some (some (.ref fLR)))
    (lLR : K.lookup fLR = some ⟨ocLR, odLR, .func (PySem.W.fnOf "_law_read" "_law_read" (defArgs sLR) (defBody sLR) (defScope sLR) .none kVLR dcLR pmLR anLR cdLR ctLR), slLR⟩)
    (cLR : PySem.W.codeIn K cdLR "_law_read" = true)
    (kLR : PySem.W.keepIn K (.ref fLR) = true)
    (aSai : PySem.W.nsIn K mainGlobals "_law_said" = some (some (.ref fSai)))
    (lSai : K.lookup fSai = some ⟨ocSai, odSai, .func (PySem.W.fnOf "_law_said" "_law_said" (defArgs sSaid) (defBody sSaid) (defScope sSaid) .none kVSai dcSai pmSai anSai cdSai ctSai), slSai⟩)
    (cSai : PySem.W.codeIn K cdSai "_law_said" = true)
    (kSai : PySem.W.keepIn K (.ref fSai) = true)
    (aAl : PySem.W.nsIn K mainGlobals "_law_alike" = some (some (.ref fAl)))
    (lAl : K.lookup fAl = some ⟨ocAl, odAl, .func (PySem.W.fnOf "_law_alike" "_law_alike" (defArgs sAl) (defBody sAl) (defScope sAl) .none kVAl dcAl pmAl anAl cdAl ctAl), slAl⟩)
    (cAl : PySem.W.codeIn K cdAl "_law_alike" = true)
    (kAl : PySem.W.keepIn K (.ref fAl) = true)
    (aDi : PySem.W.nsIn K mainGlobals "_law_dict" = some (some (.ref fDi)))
    (lDi : K.lookup fDi = some ⟨ocDi, odDi, .func (PySem.W.fnOf "_law_dict" "_law_dict" (defArgs sDi) (defBody sDi) (defScope sDi) .none kVDi dcDi pmDi anDi cdDi ctDi), slDi⟩)
    (cDi : PySem.W.codeIn K cdDi "_law_dict" = true)
    (kDi : PySem.W.keepIn K (.ref fDi) = true)
    (aCo : PySem.W.nsIn K mainGlobals "_law_contents" = some (some (.ref fCo)))
    (lCo : K.lookup fCo = some ⟨ocCo, odCo, .func (PySem.W.fnOf "_law_contents" "_law_contents" (defArgs sCo) (defBody sCo) (defScope sCo) .none kVCo dcCo pmCo anCo cdCo ctCo), slCo⟩)
    (cCo : PySem.W.codeIn K cdCo "_law_contents" = true)
    (kCo : PySem.W.keepIn K (.ref fCo) = true)
    (aTo : PySem.W.nsIn K mainGlobals "_law_table_of" = some (some (.ref fTo)))
    (lTo : K.lookup fTo = some ⟨ocTo, odTo, .func (PySem.W.fnOf "_law_table_of" "_law_table_of" (defArgs sTo) (defBody sTo) (defScope sTo) .none kVTo dcTo pmTo anTo cdTo ctTo), slTo⟩)
    (cTo : PySem.W.codeIn K cdTo "_law_table_of" = true)
    (kTo : PySem.W.keepIn K (.ref fTo) = true)
    (aRR : PySem.W.nsIn K mainGlobals "_law_read_right" = some (some (.ref fRR)))
    (lRR : K.lookup fRR = some ⟨ocRR, odRR, .func (PySem.W.fnOf "_law_read_right" "_law_read_right" (defArgs sRR) (defBody sRR) (defScope sRR) .none kVRR dcRR pmRR anRR cdRR ctRR), slRR⟩)
    (cRR : PySem.W.codeIn K cdRR "_law_read_right" = true)
    (kRR : PySem.W.keepIn K (.ref fRR) = true)
    (aRgt : PySem.W.nsIn K mainGlobals "_law_right" = some (some (.ref fRgt)))
    (lRgt : K.lookup fRgt = some ⟨ocRgt, odRgt, .func (PySem.W.fnOf "_law_right" "_law_right" (defArgs sRt) (defBody sRt) (defScope sRt) .none kVRgt dcRgt pmRgt anRgt (.ref cR) ctRgt), slRgt⟩)
    (cRgt : PySem.W.codeIn K (.ref cR) "_law_right" = true)
    (kRgt : PySem.W.keepIn K (.ref fRgt) = true)
    (aLaw : PySem.W.nsIn K mainGlobals "law" = some (some (.ref fLaw)))
    (lLaw : K.lookup fLaw = some ⟨ocLaw, odLaw, .func (PySem.W.fnOf "law" "law" (defArgs Kd.sLaw) (defBody Kd.sLaw) (defScope Kd.sLaw) .none kVLaw dcLaw pmLaw anLaw cdLaw ctLaw), slLaw⟩)
    (cLaw : PySem.W.codeIn K cdLaw "law" = true)
    (kLaw : PySem.W.keepIn K (.ref fLaw) = true)
    (coR : K.lookup cR = some ⟨oR, dR, .fields vsR, slR⟩)
    (v11 : vsR[11]? = some (.ref PR))
    (nP : K.lookup PR = none)
    (z_isinstance : PySem.W.nsIn K mainGlobals "isinstance" = some none)
    (z_len : PySem.W.nsIn K mainGlobals "len" = some none)
    (z_int : PySem.W.nsIn K mainGlobals "int" = some none)
    (z_bool : PySem.W.nsIn K mainGlobals "bool" = some none)
    (z_str : PySem.W.nsIn K mainGlobals "str" = some none)
    (z_dict : PySem.W.nsIn K mainGlobals "dict" = some none)
    (z_tuple : PySem.W.nsIn K mainGlobals "tuple" = some none)
    (z_list : PySem.W.nsIn K mainGlobals "list" = some none)
    (z_range : PySem.W.nsIn K mainGlobals "range" = some none)
    (z_all : PySem.W.nsIn K mainGlobals "all" = some none)
    (z_set : PySem.W.nsIn K mainGlobals "set" = some none)
    (z_sorted : PySem.W.nsIn K mainGlobals "sorted" = some none)
    (aSo : PySem.W.nsIn K mainGlobals "SORTS" = some (some (.ref aS)))
    (lSo : K.lookup aS = some ⟨.type "tuple", odS, .seq #[.str "wanted" t1, .str "open" t2, .str "filled" t3] nS, slS⟩)
    (aMo_ : PySem.W.nsIn K mainGlobals "MOST_ATTRIBUTES" = some (some (.int 8 tM)))
    (aT : PySem.W.nsIn K mainGlobals "Taken" = some (some (.ref CT)))
    (aG : PySem.W.nsIn K mainGlobals "Gone" = some (some (.ref CG)))
    (aU : PySem.W.nsIn K mainGlobals "InUse" = some (some (.ref CU)))
    (aTo_ : PySem.W.nsIn K mainGlobals "Touched" = some (some (.ref CO)))
    (icO : PySem.W.isClsIn K CO = true)
    (tyO : PySem.W.typeIn K (.ref CO) = some (.type "type"))
    (sW_NoneType : PySem.W.subIn K (.type "NoneType") (.ref CO) = some false)
    (sW_bool : PySem.W.subIn K (.type "bool") (.ref CO) = some false)
    (sW_int : PySem.W.subIn K (.type "int") (.ref CO) = some false)
    (sW_str : PySem.W.subIn K (.type "str") (.ref CO) = some false)
    (sW_tuple : PySem.W.subIn K (.type "tuple") (.ref CO) = some false)
    (sW_list : PySem.W.subIn K (.type "list") (.ref CO) = some false)
    (sW_dict : PySem.W.subIn K (.type "dict") (.ref CO) = some false)
    (acK : PySem.W.nsIn K mainGlobals "Kind" = some (some (.ref cK)))
    (pgcK : PySem.W.plainGet K cK Str.empty = true)
    (hdcK : PySem.W.hasDictIn K cK = true)
    (pocK : PySem.W.plainOver K cK = true)
    (sacK : PySem.W.findIn K (.ref cK) "__setattr__" = some (some (.builtin "object.__setattr__")))
    (mkcK : PySem.W.makesIn K cK = true)
    (kccK : PySem.W.keepIn K (.ref cK) = true)
    (ncK_name : PySem.W.findIn K (.ref cK) "name" = some none)
    (ncK_given : PySem.W.findIn K (.ref cK) "given" = some none)
    (ncK_made : PySem.W.findIn K (.ref cK) "made" = some none)
    (ncK_single : PySem.W.findIn K (.ref cK) "single" = some none)
    (ncK_holds : PySem.W.findIn K (.ref cK) "holds" = some none)
    (ncK_make : PySem.W.findIn K (.ref cK) "make" = some none)
    (acW : PySem.W.nsIn K mainGlobals "World" = some (some (.ref cW)))
    (pgcW : PySem.W.plainGet K cW Str.empty = true)
    (hdcW : PySem.W.hasDictIn K cW = true)
    (pocW : PySem.W.plainOver K cW = true)
    (sacW : PySem.W.findIn K (.ref cW) "__setattr__" = some (some (.builtin "object.__setattr__")))
    (mkcW : PySem.W.makesIn K cW = true)
    (kccW : PySem.W.keepIn K (.ref cW) = true)
    (ncW__kinds : PySem.W.findIn K (.ref cW) "_kinds" = some none)
    (ncW__standing : PySem.W.findIn K (.ref cW) "_standing" = some none)
    (ncW__last : PySem.W.findIn K (.ref cW) "_last" = some none)
    (hacW : PySem.W.findIn K (.ref cW) "__class__" = some (some (.builtin "object.__class__")))
    (hmcW : PySem.W.mroIn K cW (.type "object") = some true)
    (hn : PySem.W.specialIn K (.builtin "object.__class__") "__get__" = some (some (.builtin "getset_descriptor.__get__")))
    (htk : PySem.W.takesIn K (.builtin "object.__class__") = some true)
    (mT_str : PySem.W.mroIn K cW (.type "str") = some false)
    (mT_tuple : PySem.W.mroIn K cW (.type "tuple") = some false)
    (mT_dict : PySem.W.mroIn K cW (.type "dict") = some false)
    (mT_bool : PySem.W.mroIn K cW (.type "bool") = some false)
    (mT_int : PySem.W.mroIn K cW (.type "int") = some false)
    (mT_list : PySem.W.mroIn K cW (.type "list") = some false)
    (aWI : PySem.W.findIn K (.ref cW) "__init__" = some (some (.ref fWI)))
    (iWI : PySem.W.isFn K (.ref fWI) = true)
    (lWI : K.lookup fWI = some ⟨ocWI, odWI, .func (PySem.W.fnOf "__init__" "World.__init__" (defArgs sWI) (defBody sWI) (defScope sWI) .none kVWI dcWI pmWI anWI cdWI ctWI), slWI⟩)
    (cWI : PySem.W.codeIn K cdWI "World.__init__" = true)
    (kWI : PySem.W.keepIn K (.ref fWI) = true)
    (aTh : PySem.W.findIn K (.ref cW) "things" = some (some (.ref fTh)))
    (iTh : PySem.W.isFn K (.ref fTh) = true)
    (lTh : K.lookup fTh = some ⟨ocTh, odTh, .func (PySem.W.fnOf "things" "World.things" (defArgs sTh) (defBody sTh) (defScope sTh) .none kVTh dcTh pmTh anTh cdTh ctTh), slTh⟩)
    (cTh : PySem.W.codeIn K cdTh "World.things" = true)
    (kTh : PySem.W.keepIn K (.ref fTh) = true)
    (aRd : PySem.W.findIn K (.ref cW) "read" = some (some (.ref fRd)))
    (iRd : PySem.W.isFn K (.ref fRd) = true)
    (lRd : K.lookup fRd = some ⟨ocRd, odRd, .func (PySem.W.fnOf "read" "World.read" (defArgs sRd) (defBody sRd) (defScope sRd) .none kVRd dcRd pmRd anRd cdRd ctRd), slRd⟩)
    (cRd : PySem.W.codeIn K cdRd "World.read" = true)
    (kRd : PySem.W.keepIn K (.ref fRd) = true)
    (aMak : PySem.W.findIn K (.ref cW) "make" = some (some (.ref fMak)))
    (iMak : PySem.W.isFn K (.ref fMak) = true)
    (lMak : K.lookup fMak = some ⟨ocMak, odMak, .func (PySem.W.fnOf "make" "World.make" (defArgs sMake) (defBody sMake) (defScope sMake) .none kVMak dcMak pmMak anMak cdMak ctMak), slMak⟩)
    (cMak : PySem.W.codeIn K cdMak "World.make" = true)
    (kMak : PySem.W.keepIn K (.ref fMak) = true)
    (aChg : PySem.W.findIn K (.ref cW) "change" = some (some (.ref fChg)))
    (iChg : PySem.W.isFn K (.ref fChg) = true)
    (lChg : K.lookup fChg = some ⟨ocChg, odChg, .func (PySem.W.fnOf "change" "World.change" (defArgs sChg) (defBody sChg) (defScope sChg) .none kVChg dcChg pmChg anChg cdChg ctChg), slChg⟩)
    (cChg : PySem.W.codeIn K cdChg "World.change" = true)
    (kChg : PySem.W.keepIn K (.ref fChg) = true)
    (aAlt : PySem.W.findIn K (.ref cW) "alter" = some (some (.ref fAlt)))
    (iAlt : PySem.W.isFn K (.ref fAlt) = true)
    (lAlt : K.lookup fAlt = some ⟨ocAlt, odAlt, .func (PySem.W.fnOf "alter" "World.alter" (defArgs sAlt) (defBody sAlt) (defScope sAlt) .none kVAlt dcAlt pmAlt anAlt cdAlt ctAlt), slAlt⟩)
    (cAlt : PySem.W.codeIn K cdAlt "World.alter" = true)
    (kAlt : PySem.W.keepIn K (.ref fAlt) = true)
    (aHas : PySem.W.findIn K (.ref cW) "_has" = some (some (.ref fHas)))
    (iHas : PySem.W.isFn K (.ref fHas) = true)
    (lHas : K.lookup fHas = some ⟨ocHas, odHas, .func (PySem.W.fnOf "_has" "World._has" (defArgs sHas) (defBody sHas) (defScope sHas) .none kVHas dcHas pmHas anHas cdHas ctHas), slHas⟩)
    (cHas : PySem.W.codeIn K cdHas "World._has" = true)
    (kHas : PySem.W.keepIn K (.ref fHas) = true)
    (aRG : PySem.W.findIn K (.ref cW) "_refuse_gone" = some (some (.ref fRG)))
    (iRG : PySem.W.isFn K (.ref fRG) = true)
    (lRG : K.lookup fRG = some ⟨ocRG, odRG, .func (PySem.W.fnOf "_refuse_gone" "World._refuse_gone" (defArgs sRG) (defBody sRG) (defScope sRG) .none kVRG dcRG pmRG anRG cdRG ctRG), slRG⟩)
    (cRG : PySem.W.codeIn K cdRG "World._refuse_gone" = true)
    (kRG : PySem.W.keepIn K (.ref fRG) = true)
    (aRT : PySem.W.findIn K (.ref cW) "_refuse_taken" = some (some (.ref fRT)))
    (iRT : PySem.W.isFn K (.ref fRT) = true)
    (lRT : K.lookup fRT = some ⟨ocRT, odRT, .func (PySem.W.fnOf "_refuse_taken" "World._refuse_taken" (defArgs sRT) (defBody sRT) (defScope sRT) .none kVRT dcRT pmRT anRT cdRT ctRT), slRT⟩)
    (cRT : PySem.W.codeIn K cdRT "World._refuse_taken" = true)
    (kRT : PySem.W.keepIn K (.ref fRT) = true)
    (aNT : PySem.W.findIn K (.ref cW) "_next_tag" = some (some (.ref fNT)))
    (iNT : PySem.W.isFn K (.ref fNT) = true)
    (lNT : K.lookup fNT = some ⟨ocNT, odNT, .func (PySem.W.fnOf "_next_tag" "World._next_tag" (defArgs sNT) (defBody sNT) (defScope sNT) .none kVNT dcNT pmNT anNT cdNT ctNT), slNT⟩)
    (cNT : PySem.W.codeIn K cdNT "World._next_tag" = true)
    (kNT : PySem.W.keepIn K (.ref fNT) = true)
    (aMM : PySem.W.findIn K (.ref cW) "_mark" = some (some (.ref fMM)))
    (iMM : PySem.W.isFn K (.ref fMM) = true)
    (lMM : K.lookup fMM = some ⟨ocMM, odMM, .func (PySem.W.fnOf "_mark" "World._mark" (defArgs sMk) (defBody sMk) (defScope sMk) .none kVMM dcMM pmMM anMM cdMM ctMM), slMM⟩)
    (cMM : PySem.W.codeIn K cdMM "World._mark" = true)
    (kMM : PySem.W.keepIn K (.ref fMM) = true)
    (aSu : PySem.W.findIn K (.ref cW) "_surround" = some (some (.ref fSu)))
    (iSu : PySem.W.isFn K (.ref fSu) = true)
    (lSu : K.lookup fSu = some ⟨ocSu, odSu, .func (PySem.W.fnOf "_surround" "World._surround" (defArgs sSu) (defBody sSu) (defScope sSu) .none kVSu dcSu pmSu anSu cdSu ctSu), slSu⟩)
    (cSu : PySem.W.codeIn K cdSu "World._surround" = true)
    (kSu : PySem.W.keepIn K (.ref fSu) = true)
    (aKI : PySem.W.findIn K (.ref cK) "__init__" = some (some (.ref fKI)))
    (iKI : PySem.W.isFn K (.ref fKI) = true)
    (lKI : K.lookup fKI = some ⟨ocKI, odKI, .func (PySem.W.fnOf "__init__" "Kind.__init__" (defArgs sKI) (defBody sKI) (defScope sKI) .none (.ref DI) dcKI pmKI anKI cdKI ctKI), slKI⟩)
    (cKI : PySem.W.codeIn K cdKI "Kind.__init__" = true)
    (kKI : PySem.W.keepIn K (.ref fKI) = true)
    (v1 : PySem.W.nsIn K DI "single" = some (some .none))
    (v2 : PySem.W.nsIn K DI "holds" = some (some (.ref TH)))
    (lTH : K.lookup TH = some ⟨.type "tuple", odT, .seq #[] nT, slT⟩)
    (tab : ∀ c P, PySem.W.tabIn K "_law_right" = some (c, P) → PySem.W.CodeHd h c P ∧ h.get? P = some { cls := .none, data := .fields #[] }) :
    LawAtS PySem.Challenge.rw_planfirst_k23_what_reading_tells w K CX0 11 63 "_law_script" mg fa h := by
  have e := hfa.symm.trans (PySem.W.mg_of X G aLaw)
  cases e
  have FNam := fun_mk (st := sName) lNam cNam kNam
  have FUnl := fun_mk (st := sUnl) lUnl cUnl kUnl
  have FWrg := fun_mk (st := sWrg) lWrg cWrg kWrg
  have FAmo := fun_mk (st := sAmo) lAmo cAmo kAmo
  have FGvs := fun_mk (st := sGvs) lGvs cGvs kGvs
  have FGiv := fun_mk (st := sGiv) lGiv cGiv kGiv
  have FRdg := fun_mk (st := sRdg) lRdg cRdg kRdg
  have FMds := fun_mk (st := sMds) lMds cMds kMds
  have FMad := fun_mk (st := sMad) lMad cMad kMad
  have FHld := fun_mk (st := sHld) lHld cHld kHld
  have FInt := fun_mk (st := sInt) lInt cInt kInt
  have FTag := fun_mk (st := sTag) lTag cTag kTag
  have FFrs := fun_mk (st := sFrs) lFrs cFrs kFrs
  have FAC := fun_mk (st := sAC) lAC cAC kAC
  have FAT := fun_mk (st := sAT) lAT cAT kAT
  have FGN := fun_mk (st := sGN) lGN cGN kGN
  have FJd := fun_mk (st := sJd) lJd cJd kJd
  have FSur := fun_mk (st := sSur) lSur cSur kSur
  have FCel := fun_mk (st := sCell) lCel cCel kCel
  have FWel := fun_mk (st := Pf.sWell) lWel cWel kWel
  have FDrw := fun_mk (st := Pf.sDraw) lDrw cDrw kDrw
  have FOne := fun_mk (st := Pf.sOne) lOne cOne kOne
  have FKey := fun_mk (st := sKey) lKey cKey kKey
  have FMo := fun_mk (st := sMo) lMo cMo kMo
  have FLT := fun_mk (st := sLT) lLT cLT kLT
  have FLA := fun_mk (st := sLA) lLA cLA kLA
  have FLM := fun_mk (st := sLM) lLM cLM kLM
  have FTk := fun_mk (st := sTk) lTk cTk kTk
  have FRow := fun_mk (st := sRow) lRow cRow kRow
  have FLMk := fun_mk (st := sLMk) lLMk cLMk kLMk
  have FLC := fun_mk (st := sLC) lLC cLC kLC
  have FLAl := fun_mk (st := sLAl) lLAl cLAl kLAl
  have FLR := fun_mk (st := sLR) lLR cLR kLR
  have FSai := fun_mk (st := sSaid) lSai cSai kSai
  have FAl := fun_mk (st := sAl) lAl cAl kAl
  have FDi := fun_mk (st := sDi) lDi cDi kDi
  have FCo := fun_mk (st := sCo) lCo cCo kCo
  have FTo := fun_mk (st := sTo) lTo cTo kTo
  have FRR := fun_mk (st := sRR) lRR cRR kRR
  have FRgt := fun_mk (st := sRt) lRgt cRgt kRgt
  have FLaw := fun_mk (st := Kd.sLaw) lLaw cLaw kLaw
  have FWI := fun_mk (st := sWI) lWI cWI kWI
  have FTh := fun_mk (st := sTh) lTh cTh kTh
  have FRd := fun_mk (st := sRd) lRd cRd kRd
  have FMak := fun_mk (st := sMake) lMak cMak kMak
  have FChg := fun_mk (st := sChg) lChg cChg kChg
  have FAlt := fun_mk (st := sAlt) lAlt cAlt kAlt
  have FHas := fun_mk (st := sHas) lHas cHas kHas
  have FRG := fun_mk (st := sRG) lRG cRG kRG
  have FRT := fun_mk (st := sRT) lRT cRT kRT
  have FNT := fun_mk (st := sNT) lNT cNT kNT
  have FMM := fun_mk (st := sMk) lMM cMM kMM
  have FSu := fun_mk (st := sSu) lSu cSu kSu
  have FKI := fun_mk (st := sKI) lKI cKI kKI
  have bNam := FNam.binds (ps := ["thing"]) fun _ _ _ _ _ _ us hl => match us, hl with | [_], _ => rfl
  have bUnl := FUnl.binds (ps := ["names"]) fun _ _ _ _ _ _ us hl => match us, hl with | [_], _ => rfl
  have bWrg := FWrg.binds (ps := ["name", "given", "made", "single", "holds"]) fun _ _ _ _ _ _ us hl => match us, hl with | [_, _, _, _, _], _ => rfl
  have bAmo := FAmo.binds (ps := ["thing", "names"]) fun _ _ _ _ _ _ us hl => match us, hl with | [_, _], _ => rfl
  have bGvs := FGvs.binds (ps := ["rows"]) fun _ _ _ _ _ _ us hl => match us, hl with | [_], _ => rfl
  have bGiv := FGiv.binds (ps := ["row"]) fun _ _ _ _ _ _ us hl => match us, hl with | [_], _ => rfl
  have bRdg := FRdg.binds (ps := ["thing"]) fun _ _ _ _ _ _ us hl => match us, hl with | [_], _ => rfl
  have bMds := FMds.binds (ps := ["rows", "given"]) fun _ _ _ _ _ _ us hl => match us, hl with | [_, _], _ => rfl
  have bMad := FMad.binds (ps := ["row", "plain"]) fun _ _ _ _ _ _ us hl => match us, hl with | [_, _], _ => rfl
  have bHld := FHld.binds (ps := ["thing", "names"]) fun _ _ _ _ _ _ us hl => match us, hl with | [_, _], _ => rfl
  have bInt := FInt.binds (ps := ["thing"]) fun _ _ _ _ _ _ us hl => match us, hl with | [_], _ => rfl
  have bTag := FTag.binds (ps := ["thing"]) fun _ _ _ _ _ _ us hl => match us, hl with | [_], _ => rfl
  have bFrs := FFrs.binds (ps := ["value"]) fun _ _ _ _ _ _ us hl => match us, hl with | [_], _ => rfl
  have bAC := FAC.binds (ps := ["value", "sort"]) fun _ _ _ _ _ _ us hl => match us, hl with | [_, _], _ => rfl
  have bAT := FAT.binds (ps := ["value", "reading"]) fun _ _ _ _ _ _ us hl => match us, hl with | [_, _], _ => rfl
  have bGN := FGN.binds (ps := ["kind"]) fun _ _ _ _ _ _ us hl => match us, hl with | [_], _ => rfl
  have bJd := FJd.binds (ps := ["parts"]) fun _ _ _ _ _ _ us hl => match us, hl with | [_], _ => rfl
  have bSur := FSur.binds (ps := ["rule", "value"]) fun _ _ _ _ _ _ us hl => match us, hl with | [_, _], _ => rfl
  have bCel := FCel.binds (ps := ["_law_script", "_law_k"]) fun _ _ _ _ _ _ us hl => match us, hl with | [_, _], _ => rfl
  have bWel := FWel.binds (ps := ["_law_cell"]) fun _ _ _ _ _ _ us hl => match us, hl with | [_], _ => rfl
  have bDrw := FDrw.binds (ps := ["_law_well_here", "_law_often"]) fun _ _ _ _ _ _ us hl => match us, hl with | [_, _], _ => rfl
  have bOne := FOne.binds (ps := ["_law_well_here", "_law_some"]) fun _ _ _ _ _ _ us hl => match us, hl with | [_, _], _ => rfl
  have bKey := FKey.binds (ps := ["_law_value"]) fun _ _ _ _ _ _ us hl => match us, hl with | [_], _ => rfl
  have bMo := FMo.binds (ps := ["_law_tables"]) fun _ _ _ _ _ _ us hl => match us, hl with | [_], _ => rfl
  have bLT := FLT.binds (ps := ["_law_m", "_law_kind"]) fun _ _ _ _ _ _ us hl => match us, hl with | [_, _], _ => rfl
  have bLA := FLA.binds (ps := ["_law_table", "_law_kept"]) fun _ _ _ _ _ _ us hl => match us, hl with | [_, _], _ => rfl
  have bLM := FLM.binds (ps := ["_law_m", "_law_kind", "_law_kept"]) fun _ _ _ _ _ _ us hl => match us, hl with | [_, _, _], _ => rfl
  have bTk := FTk.binds (ps := ["_law_m", "_law_kind", "_law_kept", "_law_tag_here"]) fun _ _ _ _ _ _ us hl => match us, hl with | [_, _, _, _], _ => rfl
  have bRow := FRow.binds (ps := ["_law_m", "_law_tag_here"]) fun _ _ _ _ _ _ us hl => match us, hl with | [_, _], _ => rfl
  have bLMk := FLMk.binds (ps := ["_law_m", "_law_kind", "_law_given"]) fun _ _ _ _ _ _ us hl => match us, hl with | [_, _, _], _ => rfl
  have bLC := FLC.binds (ps := ["_law_m", "_law_tag_here", "_law_given"]) fun _ _ _ _ _ _ us hl => match us, hl with | [_, _, _], _ => rfl
  have bLAl := FLAl.binds (ps := ["_law_m", "_law_tag_here", "_law_attribute", "_law_value"]) fun _ _ _ _ _ _ us hl => match us, hl with | [_, _, _, _], _ => rfl
  have bLR := FLR.binds (ps := ["_law_m", "_law_tag_here"]) fun _ _ _ _ _ _ us hl => match us, hl with | [_, _], _ => rfl
  have bSai := FSai.binds (ps := ["_law_ask"]) fun _ _ _ _ _ _ us hl => match us, hl with | [_], _ => rfl
  have bAl := FAl.binds (ps := ["_law_world", "_law_m"]) fun _ _ _ _ _ _ us hl => match us, hl with | [_, _], _ => rfl
  have bDi := FDi.binds (ps := ["_law_well_here"]) fun _ _ _ _ _ _ us hl => match us, hl with | [_], _ => rfl
  have bCo := FCo.binds (ps := ["_law_well_here"]) fun _ _ _ _ _ _ us hl => match us, hl with | [_], _ => rfl
  have bTo := FTo.binds (ps := ["_law_well_here"]) fun _ _ _ _ _ _ us hl => match us, hl with | [_], _ => rfl
  have bRR := FRR.binds (ps := ["_law_world", "_law_m"]) fun _ _ _ _ _ _ us hl => match us, hl with | [_, _], _ => rfl
  have bRgt := FRgt.binds (ps := ["_law_well_here"]) fun _ _ _ _ _ _ us hl => match us, hl with | [_], _ => rfl
  have bLaw := FLaw.binds (ps := ["_law_script"]) fun _ _ _ _ _ _ us hl => match us, hl with | [_], _ => rfl
  have bWI := FWI.binds (ps := ["self", "kinds"]) fun _ _ _ _ _ _ us hl => match us, hl with | [_, _], _ => rfl
  have bTh := FTh.binds (ps := ["self"]) fun _ _ _ _ _ _ us hl => match us, hl with | [_], _ => rfl
  have bRd := FRd.binds (ps := ["self", "tag"]) fun _ _ _ _ _ _ us hl => match us, hl with | [_, _], _ => rfl
  have bMak := FMak.binds (ps := ["self", "kind", "given"]) fun _ _ _ _ _ _ us hl => match us, hl with | [_, _, _], _ => rfl
  have bChg := FChg.binds (ps := ["self", "tag", "given"]) fun _ _ _ _ _ _ us hl => match us, hl with | [_, _, _], _ => rfl
  have bAlt := FAlt.binds (ps := ["self", "tag", "attribute", "value"]) fun _ _ _ _ _ _ us hl => match us, hl with | [_, _, _, _], _ => rfl
  have bHas := FHas.binds (ps := ["self", "tag"]) fun _ _ _ _ _ _ us hl => match us, hl with | [_, _], _ => rfl
  have bRG := FRG.binds (ps := ["self", "tag"]) fun _ _ _ _ _ _ us hl => match us, hl with | [_, _], _ => rfl
  have bRT := FRT.binds (ps := ["self", "kind", "given", "tag"]) fun _ _ _ _ _ _ us hl => match us, hl with | [_, _, _, _], _ => rfl
  have bNT := FNT.binds (ps := ["self", "kind"]) fun _ _ _ _ _ _ us hl => match us, hl with | [_, _], _ => rfl
  have bMM := FMM.binds (ps := ["self", "tag"]) fun _ _ _ _ _ _ us hl => match us, hl with | [_, _], _ => rfl
  have bSu := FSu.binds (ps := ["self", "tag"]) fun _ _ _ _ _ _ us hl => match us, hl with | [_, _], _ => rfl
  have gNam := PySem.W.mg_of X G aNam
  have gUnl := PySem.W.mg_of X G aUnl
  have gWrg := PySem.W.mg_of X G aWrg
  have gAmo := PySem.W.mg_of X G aAmo
  have gGvs := PySem.W.mg_of X G aGvs
  have gGiv := PySem.W.mg_of X G aGiv
  have gRdg := PySem.W.mg_of X G aRdg
  have gMds := PySem.W.mg_of X G aMds
  have gMad := PySem.W.mg_of X G aMad
  have gHld := PySem.W.mg_of X G aHld
  have gInt := PySem.W.mg_of X G aInt
  have gTag := PySem.W.mg_of X G aTag
  have gFrs := PySem.W.mg_of X G aFrs
  have gAC := PySem.W.mg_of X G aAC
  have gAT := PySem.W.mg_of X G aAT
  have gGN := PySem.W.mg_of X G aGN
  have gJd := PySem.W.mg_of X G aJd
  have gSur := PySem.W.mg_of X G aSur
  have gCel := PySem.W.mg_of X G aCel
  have gWel := PySem.W.mg_of X G aWel
  have gDrw := PySem.W.mg_of X G aDrw
  have gOne := PySem.W.mg_of X G aOne
  have gKey := PySem.W.mg_of X G aKey
  have gMo := PySem.W.mg_of X G aMo
  have gLT := PySem.W.mg_of X G aLT
  have gLA := PySem.W.mg_of X G aLA
  have gLM := PySem.W.mg_of X G aLM
  have gTk := PySem.W.mg_of X G aTk
  have gRow := PySem.W.mg_of X G aRow
  have gLMk := PySem.W.mg_of X G aLMk
  have gLC := PySem.W.mg_of X G aLC
  have gLAl := PySem.W.mg_of X G aLAl
  have gLR := PySem.W.mg_of X G aLR
  have gSai := PySem.W.mg_of X G aSai
  have gAl := PySem.W.mg_of X G aAl
  have gDi := PySem.W.mg_of X G aDi
  have gCo := PySem.W.mg_of X G aCo
  have gTo := PySem.W.mg_of X G aTo
  have gRR := PySem.W.mg_of X G aRR
  have gRgt := PySem.W.mg_of X G aRgt
  have gLaw := PySem.W.mg_of X G aLaw
  have n_isinstance := PySem.W.mg_none_of X G z_isinstance
  have n_len := PySem.W.mg_none_of X G z_len
  have n_int := PySem.W.mg_none_of X G z_int
  have n_bool := PySem.W.mg_none_of X G z_bool
  have n_str := PySem.W.mg_none_of X G z_str
  have n_dict := PySem.W.mg_none_of X G z_dict
  have n_tuple := PySem.W.mg_none_of X G z_tuple
  have n_list := PySem.W.mg_none_of X G z_list
  have n_range := PySem.W.mg_none_of X G z_range
  have n_all := PySem.W.mg_none_of X G z_all
  have n_set := PySem.W.mg_none_of X G z_set
  have n_sorted := PySem.W.mg_none_of X G z_sorted
  have gcK := PySem.W.mg_of X G acK
  have gcW := PySem.W.mg_of X G acW
  have gSo := PySem.W.mg_of X G aSo
  have gMo_ := PySem.W.mg_of X G aMo_
  have FDI : FunD K "__init__" "Kind.__init__" (defArgs sKI) (defBody sKI) (defScope sKI) [] [(("single" : Str), (.non : V)), (("holds" : Str), (.ref TH : V))] fKI _ := ⟨⟨ocKI, odKI, .none, .ref DI, dcKI, pmKI, anKI, cdKI, ctKI, slKI, rfl, lKI, cKI, .inl ⟨rfl, rfl⟩, .inr ⟨DI, rfl, fun q hq => by
    simp only [List.mem_cons, List.not_mem_nil, or_false] at hq
    rcases hq with rfl | rfl
    · exact ⟨_, v1, rfl⟩
    · exact ⟨_, v2, rfl⟩
    ⟩⟩, kKI⟩
  obtain ⟨gK, kbK⟩ := kb_h FDI
  have TN : TxtN mg := ⟨n_int, n_len⟩
  have TK : TxtK mg := ⟨n_isinstance, n_str, n_tuple, n_dict, n_bool, n_len, n_all, n_set, n_list⟩
  have TV : TxtV mg := ⟨n_isinstance, n_str, n_tuple, n_dict, n_bool, n_int, n_len, n_all, n_list, n_sorted⟩
  have TS : TxtS K mg aS := ⟨gSo, sqt_s lSo⟩
  have TM : TxtM mg := ⟨_, gMo_⟩
  have TL : TxtL mg := ⟨n_tuple, n_list⟩
  have TL4 : TxtL4 mg := ⟨n_str, n_dict, n_isinstance⟩
  have clK : Cls K cK := ⟨pgcK, hdcK, pocK, sacK⟩
  have clW : Cls K cW := ⟨pgcW, hdcW, pocW, sacW⟩
  have TI : TxtKi K mg cK := ⟨clK, ncK_name, ncK_given, ncK_made, ncK_single, ncK_holds, gcK⟩
  have TW : TxtW K mg cW := ⟨clW, ncW__kinds, ncW__standing, ncW__last, gcW⟩
  have ne : cW ≠ cK := fun e => by rw [e, ncK_make] at aMak; cases aMak
  have IW : InsT K cW := ⟨⟨clW, hacW, hn, htk, hmcW, kitS_of⟩, fun T hT => by
    simp only [List.mem_cons, List.not_mem_nil, or_false] at hT
    rcases hT with rfl | rfl | rfl | rfl | rfl | rfl
    · exact kitT_of mT_str (by decide +kernel)
    · exact kitT_of mT_tuple (by decide +kernel)
    · exact kitT_of mT_dict (by decide +kernel)
    · exact kitT_of mT_bool (by decide +kernel)
    · exact kitT_of mT_int (by decide +kernel)
    · exact kitT_of mT_list (by decide +kernel)⟩
  have W := tw5 K
  have TC : TxtC mg CT CG CU := ⟨PySem.W.mg_of X G aT, PySem.W.mg_of X G aG, PySem.W.mg_of X G aU⟩
  have TO : TouD K mg CO := ⟨fun T hT => by
    simp only [List.mem_cons, List.not_mem_nil, or_false] at hT
    rcases hT with rfl | rfl | rfl | rfl | rfl | rfl | rfl
    · exact kitU_of icO tyO sW_NoneType
    · exact kitU_of icO tyO sW_bool
    · exact kitU_of icO tyO sW_int
    · exact kitU_of icO tyO sW_str
    · exact kitU_of icO tyO sW_tuple
    · exact kitU_of icO tyO sW_list
    · exact kitU_of icO tyO sW_dict, PySem.W.mg_of X G aTo_⟩
  obtain ⟨tC, tP⟩ := tab cR PR (by unfold PySem.W.tabIn; rw [aRgt]; simp only; rw [lRgt]; simp only [PySem.W.fnOf]; rw [coR]; simp only; rw [v11])
  refine ⟨PySem.W.fnOf "law" "law" (defArgs Kd.sLaw) (defBody Kd.sLaw) (defScope Kd.sLaw) .none kVLaw dcLaw pmLaw anLaw cdLaw ctLaw, [(cR, PR)], Kd.spLaw K PR, (fun p hp => by rw [List.mem_singleton.mp hp]; exact tP), (fun p hp => by rw [List.mem_singleton.mp hp]; exact nP), (fun p hp => by rw [List.mem_singleton.mp hp]; exact tC), (fun s v => .of_eq rfl), (fun H a ns hl _ hH hS => ⟨a, ns, rfl, hS, hl, (fun p hp => by rw [List.mem_singleton.mp hp]; exact TabS.nil (hH _ (List.mem_singleton.mpr rfl))), fun _ => rfl⟩), fun base _ _ hTB => ?_⟩
  have TB := hTB (cR, PR) (List.mem_singleton.mpr rfl)
  have DNam : Def P0 w K mg base 1 "is_name" fNam _ ["thing"] (spB (O5 K) shD nmD) := ⟨ok_name FNam TK W, gNam, FNam.kp, bNam⟩
  have DUnl : Def P0 w K mg base 1 "are_unlike" fUnl _ ["names"] (spUnl K) := ⟨ok_unl FUnl TK, gUnl, FUnl.kp, bUnl⟩
  have DAmo : Def P0 w K mg base 1 "_is_among" fAmo _ ["thing", "names"] (spAmo K (O5 K)) := ⟨ok_amo FAmo TK W, gAmo, FAmo.kp, bAmo⟩
  have DRdg : Def P0 w K mg base 1 "_is_reading" fRdg _ ["thing"] (spB (O5 K) okR rdD) := ⟨ok_rdg FRdg TK W, gRdg, FRdg.kp, bRdg⟩
  have DGiv : Def P0 w K mg base 2 "_is_given" fGiv _ ["row"] (spB (O5 K) okG gvD) := ⟨ok_giv FGiv TK TS W DNam DAmo DRdg, gGiv, FGiv.kp, bGiv⟩
  have DGvs : Def P0 w K mg base 3 "_are_given" fGvs _ ["rows"] (spB (O5 K) okA gvsD) := ⟨ok_gvs FGvs TK W DGiv DUnl, gGvs, FGvs.kp, bGvs⟩
  have DMad : Def P0 w K mg base 2 "_is_made" fMad _ ["row", "plain"] (spMad K (O5 K)) := ⟨ok_mad FMad TK W DNam DAmo, gMad, FMad.kp, bMad⟩
  have DMds : Def P0 w K mg base 3 "_are_made" fMds _ ["rows", "given"] (spMds K (O5 K)) := ⟨ok_mds FMds TK TM W DMad DUnl, gMds, FMds.kp, bMds⟩
  have DHld : Def P0 w K mg base 2 "_are_held" fHld _ ["thing", "names"] (spHld K (O5 K)) := ⟨ok_hld FHld TK W DAmo DUnl, gHld, FHld.kp, bHld⟩
  have DWrg : Def P0 w K mg base 4 "_wrong_part" fWrg _ ["name", "given", "made", "single", "holds"] (spWrg (O5 K)) := ⟨ok_wrg FWrg TK W DNam DGvs DMds DAmo DHld, gWrg, FWrg.kp, bWrg⟩
  have GKI := ok_ki FKI TI DWrg
  have DInt : Def P0 w K mg base 1 "is_integer" fInt _ ["thing"] (spV K (fun _ => true) intD) := ⟨ok_int FInt TV, gInt, FInt.kp, bInt⟩
  have DTag : Def P0 w K mg base 2 "is_tag" fTag _ ["thing"] (spV K okTag tagD) := ⟨ok_tag FTag TV DNam DInt, gTag, FTag.kp, bTag⟩
  have DF5 : Def P0 w K mg base 5 "fresh" fFrs _ ["value"] (spFrs K 4) := ⟨ok_fresh FFrs TV gFrs bFrs 4, gFrs, FFrs.kp, bFrs⟩
  have DF6 : Def P0 w K mg base 6 "fresh" fFrs _ ["value"] (spFrs K 5) := ⟨ok_fresh FFrs TV gFrs bFrs 5, gFrs, FFrs.kp, bFrs⟩
  have DAC : Def P0 w K mg base 1 "_as_chosen" fAC _ ["value", "sort"] (spAC K) := ⟨ok_ac FAC, gAC, FAC.kp, bAC⟩
  have DAT : Def P0 w K mg base 1 "_as_told" fAT _ ["value", "reading"] (spAT K) := ⟨ok_at FAT TV, gAT, FAT.kp, bAT⟩
  have DGN : Def P0 w K mg base 1 "given_names" fGN _ ["kind"] (spGN K cK) := ⟨ok_gn FGN TI, gGN, FGN.kp, bGN⟩
  have DJd : Def P0 w K mg base 1 "joined" fJd _ ["parts"] (spJd K) := ⟨ok_jd FJd TV TO, gJd, FJd.kp, bJd⟩
  have DSur : Def P0 w K mg base 2 "surrounded" fSur _ ["rule", "value"] (spSur K) := ⟨ok_sur FSur TV TO DInt DJd, gSur, FSur.kp, bSur⟩
  have GWI := ok_wi (P := P0) (w := w) (base := base) FWI TW
  have GTh := ok_things FTh TW DF6
  have GHas := ok_has FHas TW DTag
  have GRG := ok_rg FRG TW ⟨aHas, iHas, kHas⟩ GHas bHas
  have GRT := ok_rt (P := P0) (w := w) (base := base) FRT TW TI
  have GNT := ok_nt (P := P0) (w := w) (base := base) FNT TW
  have GMM := ok_mk FMM TW TI ne ⟨aNT, iNT, kNT⟩ GNT bNT
  have GSu := ok_su FSu TW TI DSur
  have GMak := ok_make FMak TW TI DF5 DAC ⟨aRT, iRT, kRT⟩ GRT bRT ⟨aNT, iNT, kNT⟩ GNT bNT ⟨aMM, iMM, kMM⟩ GMM bMM ⟨aSu, iSu, kSu⟩ GSu bSu ne
  have GAlt := ok_alt FAlt TW DF5 ⟨aRG, iRG, kRG⟩ GRG bRG ⟨aSu, iSu, kSu⟩ GSu bSu
  have GChg := ok_chg FChg TW TI ne DF5 DGN ⟨aRG, iRG, kRG⟩ GRG bRG ⟨aRT, iRT, kRT⟩ GRT bRT ⟨aMM, iMM, kMM⟩ GMM bMM ⟨aSu, iSu, kSu⟩ GSu bSu
  have GRd := ok_read FRd TW TI ⟨aHas, iHas, kHas⟩ GHas bHas DF6 DAT
  have DW : Def P0 w K mg base 1 "_law_well" fWel _ ["_law_cell"] spWell := ⟨ok_well FWel TN, gWel, FWel.kp, bWel⟩
  have DD : Def P0 w K mg base 1 "_law_draw" fDrw _ ["_law_well_here", "_law_often"] spDraw := ⟨ok_draw FDrw TN, gDrw, FDrw.kp, bDrw⟩
  have D1 : Def P0 w K mg base 2 "_law_one" fOne _ ["_law_well_here", "_law_some"] (spOne K) := ⟨ok_one FOne TN FDrw bDrw gDrw, gOne, FOne.kp, bOne⟩
  have DK : Def P0 w K mg base 6 "_law_key" fKey _ ["_law_value"] (spKey K 5) := ⟨ok_key FKey TV gKey bKey 5, gKey, FKey.kp, bKey⟩
  have DMo : Def P0 w K mg base 1 "_law_model" fMo _ ["_law_tables"] spMo := ⟨ok_mo FMo, gMo, FMo.kp, bMo⟩
  have DLT : Def P0 w K mg base 1 "_law_tag" fLT _ NLT spLT := ⟨ok_lt FLT, gLT, FLT.kp, bLT⟩
  have DLA : Def P0 w K mg base 1 "_law_around" fLA _ ["_law_table", "_law_kept"] (spLA K cK) := ⟨ok_la FLA TV, gLA, FLA.kp, bLA⟩
  have DLM : Def P0 w K mg base 2 "_law_marks" fLM _ ["_law_m", "_law_kind", "_law_kept"] (spLM K cK) := ⟨ok_lm FLM DLT DLA, gLM, FLM.kp, bLM⟩
  have DTk : Def P0 w K mg base 1 "_law_taken" fTk _ PTk (spTk K) := ⟨ok_tk FTk, gTk, FTk.kp, bTk⟩
  have DRow : Def P0 w K mg base 7 "_law_row" fRow _ ["_law_m", "_law_tag_here"] (spRow K) := ⟨ok_row FRow DK, gRow, FRow.kp, bRow⟩
  have DLMk : Def P0 w K mg base 3 "_law_make" fLMk _ PLMk (spLMk K cK) := ⟨ok_lmk FLMk DTk DLT DLM, gLMk, FLMk.kp, bLMk⟩
  have DLC : Def P0 w K mg base 8 "_law_change" fLC _ PLC (spLC K cK) := ⟨ok_lc FLC TL4 DRow DTk DLM, gLC, FLC.kp, bLC⟩
  have DLAl : Def P0 w K mg base 8 "_law_alter" fLAl _ PLAl (spLAl K cK) := ⟨ok_lal FLAl TL4 DRow DLA, gLAl, FLAl.kp, bLAl⟩
  have DLR : Def P0 w K mg base 8 "_law_read" fLR _ ["_law_m", "_law_tag_here"] (spLR K) := ⟨ok_lr FLR TL4 ⟨cK, trivial⟩ DRow, gLR, FLR.kp, bLR⟩
  have DAl : Def P0 w K mg base 8 "_law_alike" fAl _ PAl (spAl K cW) := ⟨ok_al FAl TL TW ⟨aTh, iTh, kTh⟩ GTh bTh DK, gAl, FAl.kp, bAl⟩
  have DDi : Def P0 w K mg base 3 "_law_dict" fDi _ ["_law_well_here"] (spDi K) := ⟨ok_di FDi n_range DD D1, gDi, FDi.kp, bDi⟩
  have DCo : Def P0 w K mg base 3 "_law_contents" fCo _ ["_law_well_here"] (spCo K) := ⟨ok_co FCo D1, gCo, FCo.kp, bCo⟩
  have DTo : Def P0 w K mg base 4 "_law_table_of" fTo _ ["_law_well_here"] (spTo K) := ⟨ok_to FTo DDi, gTo, FTo.kp, bTo⟩
  have DRR : Def P0 w K mg base 9 "_law_read_right" fRR _ PRR (spRR K cW cK) := ⟨ok_rr FRR n_range TW ⟨aRd, iRd, kRd⟩ GRd bRd DK DLR DAl, gRR, FRR.kp, bRR⟩
  have HS : HasSaid K mg := ⟨fSai, ocSai, kVSai, dcSai, pmSai, cdSai, ctSai, anSai, odSai, slSai, lSai, cSai, kSai, gSai, bSai⟩
  have RT : TxtRt P0 w K mg base cW cK CT CG CU PR cR := ⟨ne, TW, IW, TC, n_dict, n_range, TB, HS, ⟨_, _, DD⟩, ⟨_, _, D1⟩, ⟨_, _, DCo⟩, ⟨_, _, DLMk⟩, ⟨_, _, DLAl⟩, ⟨_, _, DLC⟩, ⟨_, _, DRR⟩, ⟨_, _, ⟨aMak, iMak, kMak⟩, GMak, bMak⟩, ⟨_, _, ⟨aAlt, iAlt, kAlt⟩, GAlt, bAlt⟩, ⟨_, _, ⟨aChg, iChg, kChg⟩, GChg, bChg⟩⟩
  have R2 : TxtR2 P0 w K mg base cW cK CT CG CU PR cR TH := ⟨RT, TI, sqt_e lTH, ⟨_, _, DTo⟩, ⟨_, _, DMo⟩, ⟨_, _, _, ⟨mkcK, aKI, iKI, kccK⟩, GKI, kbK⟩, ⟨_, _, ⟨mkcW, aWI, iWI, kccW⟩, GWI, bWI⟩⟩
  have DC : Def P0 w K mg base 1 "_law_cell_at" fCel _ ["_law_script", "_law_k"] (spCell K) := ⟨ok_cell FCel n_len, gCel, FCel.kp, bCel⟩
  have DR : Def P0 w K mg base 10 "_law_right" fRgt _ ["_law_well_here"] (spRt PR) := ⟨ok_right lRgt cRgt R2, gRgt, FRgt.kp, bRgt⟩
  exact Kd.ok_law FLaw n_range DC DW DR
end Kd

open PySem PySem.W PyProof.Rows
set_option Elab.async false
set_option maxRecDepth 100000 in
set_option maxHeartbeats 0 in
theorem PySem.Challenge.cw_planfirst_k23_what_reading_tells_holds : PySem.Challenge.rw_planfirst_k23_what_reading_tells.Holds := by
  w_on; o_law; k_head; (case hw => w_witness2)
  k_fill
  refine Kd.walk_tab (l := PySem.Challenge.rw_planfirst_k23_what_reading_tells) (n := 63) (k := 11) (x := "_law_script") (CX := fun _ => L2.CX0) "_law_right" rfl (by decide) rfl ⟨rfl, by decide, by decide⟩ ?R (fun w h Y => PySem.W.km_in_of Y) ?F (fun _ _ _ _ _ h => h)
  case R => decide +kernel
  case F =>
    intro w mg fa h KX G hmg tab
    refine' Kd.all_mk KX G hmg ?aNam ?lNam ?cNam ?kNam ?aUnl ?lUnl ?cUnl ?kUnl ?aWrg ?lWrg ?cWrg ?kWrg ?aAmo ?lAmo ?cAmo ?kAmo ?aGvs ?lGvs ?cGvs ?kGvs ?aGiv ?lGiv ?cGiv ?kGiv ?aRdg ?lRdg ?cRdg ?kRdg ?aMds ?lMds ?cMds ?kMds ?aMad ?lMad ?cMad ?kMad ?aHld ?lHld ?cHld ?kHld ?aInt ?lInt ?cInt ?kInt ?aTag ?lTag ?cTag ?kTag ?aFrs ?lFrs ?cFrs ?kFrs ?aAC ?lAC ?cAC ?kAC ?aAT ?lAT ?cAT ?kAT ?aGN ?lGN ?cGN ?kGN ?aJd ?lJd ?cJd ?kJd ?aSur ?lSur ?cSur ?kSur ?aCel ?lCel ?cCel ?kCel ?aWel ?lWel ?cWel ?kWel ?aDrw ?lDrw ?cDrw ?kDrw ?aOne ?lOne ?cOne ?kOne ?aKey ?lKey ?cKey ?kKey ?aMo ?lMo ?cMo ?kMo ?aLT ?lLT ?cLT ?kLT ?aLA ?lLA ?cLA ?kLA ?aLM ?lLM ?cLM ?kLM ?aTk ?lTk ?cTk ?kTk ?aRow ?lRow ?cRow ?kRow ?aLMk ?lLMk ?cLMk ?kLMk ?aLC ?lLC ?cLC ?kLC ?aLAl ?lLAl ?cLAl ?kLAl ?aLR ?lLR ?cLR ?kLR ?aSai ?lSai ?cSai ?kSai ?aAl ?lAl ?cAl ?kAl ?aDi ?lDi ?cDi ?kDi ?aCo ?lCo ?cCo ?kCo ?aTo ?lTo ?cTo ?kTo ?aRR ?lRR ?cRR ?kRR ?aRgt ?lRgt ?cRgt ?kRgt ?aLaw ?lLaw ?cLaw ?kLaw ?coR ?v11 ?nP ?z_isinstance ?z_len ?z_int ?z_bool ?z_str ?z_dict ?z_tuple ?z_list ?z_range ?z_all ?z_set ?z_sorted ?aSo ?lSo ?aMo_ ?aT ?aG ?aU ?aTo_ ?icO ?tyO ?sW_NoneType ?sW_bool ?sW_int ?sW_str ?sW_tuple ?sW_list ?sW_dict ?acK ?pgcK ?hdcK ?pocK ?sacK ?mkcK ?kccK ?ncK_name ?ncK_given ?ncK_made ?ncK_single ?ncK_holds ?ncK_make ?acW ?pgcW ?hdcW ?pocW ?sacW ?mkcW ?kccW ?ncW__kinds ?ncW__standing ?ncW__last ?hacW ?hmcW ?hn ?htk ?mT_str ?mT_tuple ?mT_dict ?mT_bool ?mT_int ?mT_list ?aWI ?iWI ?lWI ?cWI ?kWI ?aTh ?iTh ?lTh ?cTh ?kTh ?aRd ?iRd ?lRd ?cRd ?kRd ?aMak ?iMak ?lMak ?cMak ?kMak ?aChg ?iChg ?lChg ?cChg ?kChg ?aAlt ?iAlt ?lAlt ?cAlt ?kAlt ?aHas ?iHas ?lHas ?cHas ?kHas ?aRG ?iRG ?lRG ?cRG ?kRG ?aRT ?iRT ?lRT ?cRT ?kRT ?aNT ?iNT ?lNT ?cNT ?kNT ?aMM ?iMM ?lMM ?cMM ?kMM ?aSu ?iSu ?lSu ?cSu ?kSu ?aKI ?iKI ?lKI ?cKI ?kKI ?v1 ?v2 ?lTH tab
    (case aNam => k_is)
    (case lNam => k_is)
    (case cNam => k_is)
    (case kNam => k_is)
    (case aUnl => k_is)
    (case lUnl => k_is)
    (case cUnl => k_is)
    (case kUnl => k_is)
    (case aWrg => k_is)
    (case lWrg => k_is)
    (case cWrg => k_is)
    (case kWrg => k_is)
    (case aAmo => k_is)
    (case lAmo => k_is)
    (case cAmo => k_is)
    (case kAmo => k_is)
    (case aGvs => k_is)
    (case lGvs => k_is)
    (case cGvs => k_is)
    (case kGvs => k_is)
    (case aGiv => k_is)
    (case lGiv => k_is)
    (case cGiv => k_is)
    (case kGiv => k_is)
    (case aRdg => k_is)
    (case lRdg => k_is)
    (case cRdg => k_is)
    (case kRdg => k_is)
    (case aMds => k_is)
    (case lMds => k_is)
    (case cMds => k_is)
    (case kMds => k_is)
    (case aMad => k_is)
    (case lMad => k_is)
    (case cMad => k_is)
    (case kMad => k_is)
    (case aHld => k_is)
    (case lHld => k_is)
    (case cHld => k_is)
    (case kHld => k_is)
    (case aInt => k_is)
    (case lInt => k_is)
    (case cInt => k_is)
    (case kInt => k_is)
    (case aTag => k_is)
    (case lTag => k_is)
    (case cTag => k_is)
    (case kTag => k_is)
    (case aFrs => k_is)
    (case lFrs => k_is)
    (case cFrs => k_is)
    (case kFrs => k_is)
    (case aAC => k_is)
    (case lAC => k_is)
    (case cAC => k_is)
    (case kAC => k_is)
    (case aAT => k_is)
    (case lAT => k_is)
    (case cAT => k_is)
    (case kAT => k_is)
    (case aGN => k_is)
    (case lGN => k_is)
    (case cGN => k_is)
    (case kGN => k_is)
    (case aJd => k_is)
    (case lJd => k_is)
    (case cJd => k_is)
    (case kJd => k_is)
    (case aSur => k_is)
    (case lSur => k_is)
    (case cSur => k_is)
    (case kSur => k_is)
    (case aCel => k_is)
    (case lCel => k_is)
    (case cCel => k_is)
    (case kCel => k_is)
    (case aWel => k_is)
    (case lWel => k_is)
    (case cWel => k_is)
    (case kWel => k_is)
    (case aDrw => k_is)
    (case lDrw => k_is)
    (case cDrw => k_is)
    (case kDrw => k_is)
    (case aOne => k_is)
    (case lOne => k_is)
    (case cOne => k_is)
    (case kOne => k_is)
    (case aKey => k_is)
    (case lKey => k_is)
    (case cKey => k_is)
    (case kKey => k_is)
    (case aMo => k_is)
    (case lMo => k_is)
    (case cMo => k_is)
    (case kMo => k_is)
    (case aLT => k_is)
    (case lLT => k_is)
    (case cLT => k_is)
    (case kLT => k_is)
    (case aLA => k_is)
    (case lLA => k_is)
    (case cLA => k_is)
    (case kLA => k_is)
    (case aLM => k_is)
    (case lLM => k_is)
    (case cLM => k_is)
    (case kLM => k_is)
    (case aTk => k_is)
    (case lTk => k_is)
    (case cTk => k_is)
    (case kTk => k_is)
    (case aRow => k_is)
    (case lRow => k_is)
    (case cRow => k_is)
    (case kRow => k_is)
    (case aLMk => k_is)
    (case lLMk => k_is)
    (case cLMk => k_is)
    (case kLMk => k_is)
    (case aLC => k_is)
    (case lLC => k_is)
    (case cLC => k_is)
    (case kLC => k_is)
    (case aLAl => k_is)
    (case lLAl => k_is)
    (case cLAl => k_is)
    (case kLAl => k_is)
    (case aLR => k_is)
    (case lLR => k_is)
    (case cLR => k_is)
    (case kLR => k_is)
    (case aSai => k_is)
    (case lSai => k_is)
    (case cSai => k_is)
    (case kSai => k_is)
    (case aAl => k_is)
    (case lAl => k_is)
    (case cAl => k_is)
    (case kAl => k_is)
    (case aDi => k_is)
    (case lDi => k_is)
    (case cDi => k_is)
    (case kDi => k_is)
    (case aCo => k_is)
    (case lCo => k_is)
    (case cCo => k_is)
    (case kCo => k_is)
    (case aTo => k_is)
    (case lTo => k_is)
    (case cTo => k_is)
    (case kTo => k_is)
    (case aRR => k_is)
    (case lRR => k_is)
    (case cRR => k_is)
    (case kRR => k_is)
    (case aRgt => k_is)
    (case lRgt => k_is)
    (case cRgt => k_is)
    (case kRgt => k_is)
    (case aLaw => k_is)
    (case lLaw => k_is)
    (case cLaw => k_is)
    (case kLaw => k_is)
    (case coR => (apply Eq.trans; k_is; rfl))
    (case v11 => rfl)
    (case nP => first | k_is | rfl | (apply Eq.trans; k_is; rfl) | decide +kernel)
    (case z_isinstance => k_is)
    (case z_len => k_is)
    (case z_int => k_is)
    (case z_bool => k_is)
    (case z_str => k_is)
    (case z_dict => k_is)
    (case z_tuple => k_is)
    (case z_list => k_is)
    (case z_range => k_is)
    (case z_all => k_is)
    (case z_set => k_is)
    (case z_sorted => k_is)
    (case aSo => k_is)
    (case lSo => (apply Eq.trans; k_is; rfl))
    (case aMo_ => k_is)
    (case aT => k_is)
    (case aG => k_is)
    (case aU => k_is)
    (case aTo_ => k_is)
    (case icO => k_is)
    (case tyO => k_is)
    (case sW_NoneType => k_is)
    (case sW_bool => k_is)
    (case sW_int => k_is)
    (case sW_str => k_is)
    (case sW_tuple => k_is)
    (case sW_list => k_is)
    (case sW_dict => k_is)
    (case acK => k_is)
    (case pgcK => k_is)
    (case hdcK => k_is)
    (case pocK => k_is)
    (case sacK => k_is)
    (case mkcK => k_is)
    (case kccK => k_is)
    (case ncK_name => k_is)
    (case ncK_given => k_is)
    (case ncK_made => k_is)
    (case ncK_single => k_is)
    (case ncK_holds => k_is)
    (case ncK_make => k_is)
    (case acW => k_is)
    (case pgcW => k_is)
    (case hdcW => k_is)
    (case pocW => k_is)
    (case sacW => k_is)
    (case mkcW => k_is)
    (case kccW => k_is)
    (case ncW__kinds => k_is)
    (case ncW__standing => k_is)
    (case ncW__last => k_is)
    (case hacW => k_is)
    (case hmcW => k_is)
    (case hn => k_is)
    (case htk => k_is)
    (case mT_str => k_is)
    (case mT_tuple => k_is)
    (case mT_dict => k_is)
    (case mT_bool => k_is)
    (case mT_int => k_is)
    (case mT_list => k_is)
    (case aWI => k_is)
    (case iWI => k_is)
    (case lWI => k_is)
    (case cWI => k_is)
    (case kWI => k_is)
    (case aTh => k_is)
    (case iTh => k_is)
    (case lTh => k_is)
    (case cTh => k_is)
    (case kTh => k_is)
    (case aRd => k_is)
    (case iRd => k_is)
    (case lRd => k_is)
    (case cRd => k_is)
    (case kRd => k_is)
    (case aMak => k_is)
    (case iMak => k_is)
    (case lMak => k_is)
    (case cMak => k_is)
    (case kMak => k_is)
    (case aChg => k_is)
    (case iChg => k_is)
    (case lChg => k_is)
    (case cChg => k_is)
    (case kChg => k_is)
    (case aAlt => k_is)
    (case iAlt => k_is)
    (case lAlt => k_is)
    (case cAlt => k_is)
    (case kAlt => k_is)
    (case aHas => k_is)
    (case iHas => k_is)
    (case lHas => k_is)
    (case cHas => k_is)
    (case kHas => k_is)
    (case aRG => k_is)
    (case iRG => k_is)
    (case lRG => k_is)
    (case cRG => k_is)
    (case kRG => k_is)
    (case aRT => k_is)
    (case iRT => k_is)
    (case lRT => k_is)
    (case cRT => k_is)
    (case kRT => k_is)
    (case aNT => k_is)
    (case iNT => k_is)
    (case lNT => k_is)
    (case cNT => k_is)
    (case kNT => k_is)
    (case aMM => k_is)
    (case iMM => k_is)
    (case lMM => k_is)
    (case cMM => k_is)
    (case kMM => k_is)
    (case aSu => k_is)
    (case iSu => k_is)
    (case lSu => k_is)
    (case cSu => k_is)
    (case kSu => k_is)
    (case aKI => k_is)
    (case iKI => k_is)
    (case lKI => k_is)
    (case cKI => k_is)
    (case kKI => k_is)
    (case v1 => k_is)
    (case v2 => k_is)
    (case lTH => (apply Eq.trans; k_is; rfl))

