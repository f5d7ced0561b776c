import PyProof.Rows.All
import Wide.All
import OpenK.AllK
import Wide.FinOn
import HandS.ForMost
import HandS.Wide
import HandS.IsInst
import HandS.Codes
import HandS.Walk
import HandS.MakeKwOnly
import KE.KDictZip
import KE.GoesEnum
import HandS.DictComp
import HandS.More
import HandS.SlotsOwn
import PyProof.InstNe
import HandS.Zip
import HandS.Strs
import HandS.Star
import HandS.Defaults
import HandS.Text
import HandS.DeepEq
import HandS.Style
import PySem.Challenge.RW_planfirst_k15_parts_that_are_equal
set_option Elab.async false
set_option linter.all false
set_option maxRecDepth 100000
set_option maxHeartbeats 4000000
namespace Pf
open PySem L2
def top (i : Nat) : Stmt := PySem.Challenge.pw_planfirst_k15_parts_that_are_equal.main.body.getD i (.Pass ⟨0, 0, 0, 0⟩)
abbrev sWell : Stmt := top 54
abbrev sDraw : Stmt := top 55
abbrev sOne : Stmt := top 56

/-! ### drawn numbers -/
/-- a well stands at a: three whole numbers, drawn z times -/
def WellAt (H : Hp) (a : Addr) (z : Int) : Prop := ∃ x y : Int, H a = some (.lst [.int x, .int y, .int z]) ∧ 0 ≤ y ∧ y < 2147483647
/-- all that was tracked, but at a, is as it was -/
def But (a : Addr) (H H' : Hp) : Prop := ∀ b o, H b = some o → b ≠ a → H' b = some o
theorem But.upd {H : Hp} {a : Addr} {o : HO} : But a H (upd H a o) := fun b u e hb => (upd_ne hb).trans e
theorem But.new {H H1 : Hp} {a l : Addr} {o : HO} (k : But a H H1) (hl : H1 l = none) : But a H (L2.upd H1 l o) := fun b u e hb => (upd_ne (ne_of_none (k b u e hb) hl)).trans (k b u e hb)
structure TxtN (mg : Str → Option Value) : Prop where
  int : mg "int" = none
  len : mg "len" = none
def spWell : Sp := fun vs H Q _ => ∃ (c : Int), vs = [.int c] ∧ ∀ (p : Addr) (o : HO), H p = none → WellAt (upd H p o) p 0 → Q (.ref p) (upd H p o)
def spDraw : Sp := fun vs H Q _ => ∃ (a : Addr) (n z : Int), vs = [.ref a, .int n] ∧ WellAt H a z ∧ 0 < n ∧ n < 1000000 ∧ 0 ≤ z ∧ z < 1000000 ∧
  ∀ (d z' : Int) (H' : Hp), 0 ≤ d → d < n → z ≤ z' → z' ≤ z + 1 → WellAt H' a z' → But a H H' → Q (.int d) H'
def spOne (K : PySem.W.Frag) : Sp := fun vs H Q _ => ∃ (a l : Addr) (z : Int) (xs : List V), vs = [.ref a, .ref l] ∧ WellAt H a z ∧ H l = some (.lst xs) ∧ l ≠ a ∧ 0 < xs.length ∧ xs.length < 1000000 ∧ 0 ≤ z ∧ z < 1000000 ∧
  ∀ (v : V) (z' : Int) (H' : Hp), v ∈ xs → z ≤ z' → z' ≤ z + 1 → WellAt H' a z' → But a H H' → Q v H'
section
variable {P : Program} {w : World} {K : PySem.W.Frag} {mg : Str → Option Value} {base : Heap}
theorem scWell : FnScope ["_law_cell"] ["_law_cell"] (defScope sWell) := ⟨rfl, rfl, rfl, by decide +kernel, rfl, by decide +kernel, by decide +kernel⟩
theorem scDraw : FnScope ["_law_well_here", "_law_below", "_law_digit", "_law_prime", "_law_number"] ["_law_well_here", "_law_below"] (defScope sDraw) := ⟨rfl, rfl, rfl, by decide +kernel, rfl, by decide +kernel, by decide +kernel⟩
theorem scOne : FnScope ["_law_well_here", "_law_some"] ["_law_well_here", "_law_some"] (defScope sOne) := ⟨rfl, rfl, rfl, by decide +kernel, rfl, by decide +kernel, by decide +kernel⟩

theorem ok_well {f : Addr} {fd : FuncData} (F : Fun K "_law_well" "_law_well" sWell f fd) (T : TxtN mg) : FnOk P w K mg base CX0 1 f fd ["_law_cell"] spWell := by
  refine F.ok scWell (fun vs H Q E h => ?_) (fun cdv A outer s H vs Q E hr h => ?_)
  · obtain ⟨c, rfl, _⟩ := h
    rfl
  · obtain ⟨c, rfl, k⟩ := h
    refine ⟨_, pss_one (ps_ret (pe_lst (pa_cons
      (pe_op op_mul (pv 0) (pe_callTy call_int1 (by rfl) T.int (by decide +kernel) (pa_cons (pe_cmpR op_ge (pv 0) (pe_op op_pow pe_int pe_int) (nomark _)) pa_nil)))
      (pa_cons (pe_op op_mod (pe_callTy call_int1 (by rfl) T.int (by decide +kernel) (pa_cons (pv 0) pa_nil)) pe_int) (pa_cons pe_int pa_nil))))), ?_⟩
    refine ⟨_, rfl, _, rfl, _, _, rfl, rfl, ⟨by decide, by decide, by decide⟩, _, _, rfl, rfl, .inr ⟨_, rfl, ?_⟩⟩
    refine ⟨_, _, rfl, rfl, .inr (by split <;> decide), _, rfl, .inl ⟨_, rfl, _, _, rfl, rfl, (by show (0 : Int) < 2147483647; decide), ?_⟩⟩
    refine ⟨by show 3 ≤ sizeLine; decide, fun p hp => ?_⟩
    exact k p _ hp ⟨_, _, upd_same, Int.emod_nonneg _ (by decide), Int.emod_lt_of_pos _ (by decide)⟩
theorem pow5_ok {b : Int} (h0 : 0 ≤ b) (h : b < 100000000000) : CPow b 5 := ⟨by decide, by decide, by
  have : b.natAbs < 100000000000 := by omega
  exact Nat.lt_trans this (by decide)⟩
theorem primes_get {i : Int} (h0 : 0 ≤ i) (h : i < 7) : ∃ p : Int, atI [V.int 2147483647, V.int 2147483629, V.int 2147483587, V.int 2147483579, V.int 2147483563, V.int 2147483549, V.int 2147483543] i = some (V.int p) ∧ 0 < p ∧ p ≤ 2147483647 := by
  have hi : i = 0 ∨ i = 1 ∨ i = 2 ∨ i = 3 ∨ i = 4 ∨ i = 5 ∨ i = 6 := by omega
  rcases hi with rfl | rfl | rfl | rfl | rfl | rfl | rfl <;> exact ⟨_, rfl, by decide, by decide⟩
theorem ok_draw {f : Addr} {fd : FuncData} (F : Fun K "_law_draw" "_law_draw" sDraw f fd) (T : TxtN mg) : FnOk P w K mg base CX0 1 f fd ["_law_well_here", "_law_below"] spDraw := by
  refine F.ok scDraw (fun vs H Q E h => ?_) (fun cdv A outer s H vs Q E hr h => ?_)
  · obtain ⟨a, n, z, rfl, _⟩ := h
    rfl
  · obtain ⟨a, n, z, rfl, ⟨x, y, ha, hy0, hy1⟩, hn0, hn1, hz0, hz1, k⟩ := h
    refine ⟨_, pss_cons (ps_if (pt_cmpR op_gt (pe_ix ix_list (pv 0) pe_int (fun _ _ => rfl)) pe_int (nomark _))
        (pss_cons (ps_set (i := 2) scDraw.nd rfl (Or.inl rfl) (pe_op op_mod (pe_callTy call_int1 (by rfl) T.int (by decide +kernel) (pa_cons (pe_ix ix_list (pv 0) pe_int (fun _ _ => rfl)) pa_nil)) (pv 1)))
        (pss_cons (ps_asg (pe_op op_fdivW (pe_ix ix_list (pv 0) pe_int (fun _ _ => rfl)) (pv 1)) (pg_sub (pv 0) pe_int set_list))
        (pss_one (ps_ret (pv 2)))))
        pss_nil)
      (pss_cons (ps_asg (pe_op op_add (pe_ix ix_list (pv 0) pe_int (fun _ _ => rfl)) pe_int) (pg_sub (pv 0) pe_int set_list))
      (pss_cons (ps_set (i := 3) scDraw.nd rfl (Or.inl rfl) (pe_ix ix_list (pe_lst (pa_cons pe_int (pa_cons pe_int (pa_cons pe_int (pa_cons pe_int (pa_cons pe_int (pa_cons pe_int (pa_cons pe_int pa_nil))))))))
          (pe_op op_mod (pe_callTy call_int1 (by rfl) T.int (by decide +kernel) (pa_cons (pe_ix ix_list (pv 0) pe_int (fun _ _ => rfl)) pa_nil)) pe_int) (fun _ _ => rfl)))
      (pss_cons (ps_set (i := 4) scDraw.nd rfl (Or.inl rfl) (pe_op op_mod (pe_callTy call_int1 (by rfl) T.int (by decide +kernel) (pa_cons
          (pe_op op_pow (pe_op op_add (pe_op op_add (pe_ix ix_list (pv 0) pe_int (fun _ _ => rfl)) (pe_op op_mul pe_int (pe_ix ix_list (pv 0) pe_int (fun _ _ => rfl)))) pe_int) pe_int) pa_nil)) (pv 3)))
      (pss_cons (ps_set (i := 4) scDraw.nd rfl (Or.inl rfl) (pe_op op_mod (pe_callTy call_int1 (by rfl) T.int (by decide +kernel) (pa_cons
          (pe_op op_mul (pe_op op_add (pv 4) (pe_ix ix_list (pv 0) pe_int (fun _ _ => rfl))) (pe_op op_add (pe_op op_fdiv (pv 4) pe_int) pe_int)) pa_nil)) (pv 3)))
      (pss_one (ps_ret (pe_op op_mod (pe_callTy call_int1 (by rfl) T.int (by decide +kernel) (pa_cons (pe_op op_fdiv (pv 4) pe_int) pa_nil)) (pv 1)))))))), ?_⟩
    refine ⟨_, rfl, a, _, _, _, rfl, rfl, SqL.of ha, atI_nat (j := 0) rfl, _, _, rfl, rfl, _, rfl, ?_⟩
    refine ite2 (fun hx => ?_) fun hx => ?_
    · have hx : 0 < x := of_decide_eq_true hx
      refine ⟨_, rfl, a, _, _, _, rfl, rfl, SqL.of ha, atI_nat (j := 0) rfl, .inl ⟨_, rfl, _, rfl, _, _, rfl, rfl, hn0, ?_⟩⟩
      refine ⟨_, rfl, a, _, _, _, rfl, rfl, SqL.of ha, atI_nat (j := 0) rfl, _, rfl, _, _, rfl, rfl, wide_div hn0 (b := 20) (by omega) (by decide) (by decide), ?_⟩
      refine ⟨_, rfl, a, _, _, _, rfl, rfl, ha, rfl, ?_⟩
      refine ⟨_, rfl, ?_⟩
      exact k _ z _ (Int.emod_nonneg _ (by omega)) (Int.emod_lt_of_pos _ hn0) (by omega) (by omega) ⟨x / n, y, upd_same, hy0, hy1⟩ But.upd
    · refine ⟨_, rfl, a, _, _, _, rfl, rfl, SqL.of ha, atI_nat (j := 2) rfl, _, _, rfl, rfl, ?_⟩
      refine ⟨_, rfl, a, _, _, _, rfl, rfl, ha, rfl, ?_⟩
      have hb : upd H a (.lst [.int x, .int y, .int (z + 1)]) a = some (.lst [.int x, .int y, .int (z + 1)]) := upd_same
      obtain ⟨p, hp, hp0, hp1⟩ := primes_get (i := (z + 1) % 7) (Int.emod_nonneg _ (by decide)) (Int.emod_lt_of_pos _ (by decide))
      refine ⟨by show 7 ≤ sizeLine; decide, fun l hl => ?_⟩
      have hal : a ≠ l := ne_of_none hb hl
      have hc : upd (upd H a (.lst [.int x, .int y, .int (z + 1)])) l (.lst [V.int 2147483647, V.int 2147483629, V.int 2147483587, V.int 2147483579, V.int 2147483563, V.int 2147483549, V.int 2147483543]) a = some (.lst [.int x, .int y, .int (z + 1)]) := (upd_ne hal).trans hb
      refine ⟨_, rfl, a, _, _, _, rfl, rfl, SqL.of hc, atI_nat (j := 2) rfl, .inl ⟨_, rfl, _, _, rfl, rfl, (by show (0 : Int) < 7; decide), l, _, _, _, rfl, rfl, SqL.of upd_same, hp, ?_⟩⟩
      refine ⟨_, rfl, a, _, _, _, rfl, rfl, SqL.of hc, atI_nat (j := 1) rfl, _, rfl, a, _, _, _, rfl, rfl, SqL.of hc, atI_nat (j := 2) rfl, _, _, rfl, rfl, .inl ⟨by decide, by decide⟩, _, _, rfl, rfl, _, _, rfl, rfl, ?_⟩
      refine ⟨_, _, rfl, rfl, pow5_ok (by omega) (by omega), .inl ⟨_, rfl, _, rfl, _, _, rfl, rfl, hp0, ?_⟩⟩
      generalize hq : ((y + 7919 * (z + 1) + 1) ^ (Int.toNat 5)) % p = q
      have q0 : 0 ≤ q := by rw [← hq]; exact Int.emod_nonneg _ (by omega)
      have q1 : q < p := by rw [← hq]; exact Int.emod_lt_of_pos _ hp0
      refine ⟨_, rfl, _, rfl, a, _, _, _, rfl, rfl, SqL.of hc, atI_nat (j := 2) rfl, _, _, rfl, rfl, _, rfl, _, _, rfl, rfl, ⟨by decide, by decide⟩, _, _, rfl, rfl, ?_⟩
      refine ⟨_, _, rfl, rfl, .inl ⟨by omega, by omega⟩, .inl ⟨_, rfl, _, rfl, _, _, rfl, rfl, hp0, ?_⟩⟩
      refine ⟨_, rfl, _, _, rfl, rfl, ⟨by decide, by decide⟩, .inl ⟨_, rfl, _, rfl, _, _, rfl, rfl, hn0, ?_⟩⟩
      exact k _ (z + 1) _ (Int.emod_nonneg _ (by omega)) (Int.emod_lt_of_pos _ hn0) (by omega) (by omega) ⟨x, y, hc, hy0, hy1⟩ (But.upd.new hl)
theorem ok_one {f fD fL : Addr} {fd fdD : FuncData} (F : Fun K "_law_one" "_law_one" sOne f fd) (T : TxtN mg) (FD : Fun K "_law_draw" "_law_draw" sDraw fD fdD) (bD : Binds K fdD ["_law_well_here", "_law_below"] []) (gD : mg "_law_draw" = some (.ref fD)) :
    FnOk P w K mg base CX0 2 f fd ["_law_well_here", "_law_some"] (spOne K) := by
  have GD : FnOk P w K mg base CX0 1 fD fdD ["_law_well_here", "_law_below"] spDraw := ok_draw FD T
  refine F.ok scOne (fun vs H Q E h => ?_) (fun cdv A outer s H vs Q E hr h => ?_)
  · obtain ⟨a, l, z, xs, rfl, _⟩ := h
    rfl
  · obtain ⟨a, l, z, xs, rfl, ha, hl, hal, hx0, hx1, hz0, hz1, k⟩ := h
    refine ⟨_, pss_one (ps_ret (pe_ix ix_list (pv 1) (pe_call GD hr rfl gD FD.kp bD .nil pass0 (pa_cons (pv 0) (pa_cons (pe_callB call_len_seq (by rfl) T.len PySem.boot_len (pa_cons (pv 1) pa_nil)) pa_nil))) (fun _ _ => rfl))), ?_⟩
    refine ⟨_, rfl, _, rfl, _, rfl, l, _, rfl, .inl (SqL.of hl), a, _, z, rfl, ha, by omega, by omega, hz0, hz1, fun d z' H' hd0 hd1 hz2 hz3 hw hk => ?_⟩
    obtain ⟨j, ej⟩ : ∃ j : Nat, d = (j : Int) := ⟨d.toNat, by omega⟩
    have hj : j < xs.length := by omega
    exact ⟨l, xs, _, xs[j], rfl, rfl, SqL.of (hk _ _ hl hal), at_of ej (List.getElem?_eq_getElem hj), k _ z' _ (List.getElem_mem hj) hz2 hz3 hw hk⟩
end
end Pf

set_option Elab.async false
set_option linter.all false
set_option maxRecDepth 100000
set_option maxHeartbeats 4000000
namespace Vl
open PySem PySem.Spec PyProof.Rows L2
theorem Same.upd {H H1 : Hp} {p : Addr} {o : HO} (k : Same H H1) (hp : H1 p = none) : Same H (L2.upd H1 p o) := fun b u e => (upd_ne (ne_of_none (k b u e) hp)).trans (k b u e)
theorem sm_upd {H : Hp} {p : Addr} {o : HO} (hp : H p = none) : Same H (upd H p o) := Same.upd (Same.refl H) hp
theorem iteC {c : Bool} {A B : Prop} (e : c = true) (h : A) : if c = true then A else B := by rw [if_pos e]; exact h
theorem iteN {c : Bool} {A B : Prop} (e : c = false) (h : B) : if c = true then A else B := by rw [if_neg (by rw [e]; exact Bool.false_ne_true)]; exact h
/-- a def of the top with its promise -/
structure Def (P : Program) (w : World) (K : PySem.W.Frag) (mg : Str → Option Value) (base : Heap) (k : Nat) (x : Str) (f : Addr) (fd : FuncData) (ps : List Str) (sp : Sp) : Prop where
  ok : FnOk P w K mg base CX0 k f fd ps sp
  g : mg x = some (.ref f)
  kp : PySem.W.keepIn K (.ref f) = true
  b : Binds K fd ps []
end Vl

set_option Elab.async false
set_option linter.all false
set_option maxRecDepth 100000
set_option maxHeartbeats 4000000
/-! list(zip(a, b)), a and b two tuples or two lists: a new list of new pairs -/
namespace Lz
open PySem PySem.Spec PyProof.Rows L2 PySem.W
section
variable {prog : Program} {w : World} {A : Around} {E : Value → Shared → Prop} {s : Shared} {z TI TO i1 i2 : Addr} {fp1 fp2 : List Addr} {n1 n2 i : Nat} {P1 P2 : Nat → Value → Prop} {St1 St2 : Nat → Heap → Prop}
theorem held_item {T : Addr} {f : Bool} {oT : Obj} {Q : Value → Shared → Prop} (S : ZipSep2 z TI TO i1 i2 fp1 fp2) (D1 : Draws prog w A i1 fp1 n1 P1 St1) (D2 : Draws prog w A i2 fp2 n2 P2 St2)
    (hz : IsZipHeld s.heap z TI TO T f) (hT : s.heap.get? T = some oT) (hTI : IsTupOf2 s.heap TI (.ref i1) (.ref i2)) (st1 : St1 i s.heap) (st2 : St2 i s.heap) (l1 : i < n1) (l2 : i < n2)
    (hQ : ∀ x1 x2 h' tk, P1 i x1 → P2 i x2 → IsZipHeld h' z TI TO T true → St1 (i + 1) h' → St2 (i + 1) h' → IsTupOf2 h' s.heap.objs.size x1 x2 → h'.objs.size = s.heap.objs.size + 1 →
      (∀ c o, c ≠ z ∧ c ≠ i1 ∧ c ≠ i2 → s.heap.get? c = some o → h'.get? c = some o) → Q (.ref s.heap.objs.size) { s with heap := h', toks := tk }) :
    wpAny (model prog w) A (Builtin.«zip.__next__» ⟨[.ref z], []⟩) (fun fin s' => ∃ v, fin = .done (.ret v) ∧ Q v s') E s := by
  obtain ⟨hp, g, d, tk0, os⟩ := s
  (show wpAny _ _ (field (.ref z) 2 >>= _) _ _ _); refine wpAny_bind (wpAny_field hz rfl (x := .bool false) rfl ?_)
  (show wpAny _ _ (field (.ref z) 3 >>= _) _ _ _); refine wpAny_bind (wpAny_field hz rfl (x := .ref TI) rfl (wpAny_bind (wpAny_seqItems hTI rfl ?_)))
  (show wpAny _ _ (Builtin.SmallTypes.ownedTupleIsFree (.ref z) >>= _) _ _ _); refine wpAny_bind (wpAny_tupleHeld_zip hz hT fun g1 hz1 hs1 => ?_)
  replace hs1 : Heap.SameBut z hp g1 := hs1
  simp only [Bool.false_eq_true, if_false]; refine wpAny_bind ?_
  rw [← Array.forIn_toList]; simp only [List.forIn_cons, List.forIn_nil]
  refine wpAny_bind (wpAny_bind (wpAny_holding ?_)); (show wpAny _ _ (Builtin.SmallTypes.nextOf (.ref i1) >>= _) _ _ ⟨g1, g, d, tk0, os⟩)
  refine wpAny_bind (D1.item i _ _ _ l1 (D1.over st1 hs1 S.zf1) fun x1 p1 tk1 hx1 sn1 hp1 => wpAny_pure (wpAny_pure ?_))
  replace hp1 : Heap.SameBut i1 g1 p1 := hp1
  refine wpAny_bind (wpAny_bind (wpAny_holding ?_)); (show wpAny _ _ (Builtin.SmallTypes.nextOf (.ref i2) >>= _) _ _ ⟨p1, g, d, tk1, os⟩)
  refine wpAny_bind (D2.item i _ _ _ l2 (D2.over (D2.over st2 hs1 S.zf2) hp1 S.sep1_2) fun x2 p2 tk2 hx2 sn2 hp2 => wpAny_pure (wpAny_pure (wpAny_pure ?_)))
  replace hp2 : Heap.SameBut i2 p1 p2 := hp2
  (show wpAny _ _ (newTuple [x1, x2] >>= _) _ _ ⟨p2, g, d, tk2, os⟩); refine wpAny_bind (wpAny_newTuple ?_)
  have hsz : p2.objs.size = hp.objs.size := by rw [hp2.1, hp1.1, hs1.1]
  have hz2 : IsZipHeld p2 z TI TO T true := hp2.extBut _ _ S.zi2 (hp1.extBut _ _ S.zi1 hz1)
  have kk : ∀ c o, c ≠ z ∧ c ≠ i1 ∧ c ≠ i2 → hp.get? c = some o → p2.get? c = some o := fun c o ⟨c1, c2, c3⟩ e => hp2.extBut _ _ c3 (hp1.extBut _ _ c2 (hs1.extBut _ _ c1 e))
  have s1' : St1 (i + 1) p2 := D1.over sn1 hp2 S.sep2_1
  refine wpAny_pure ⟨_, rfl, ?_⟩
  show Q (.ref p2.objs.size) ⟨p2.push { cls := .type "tuple", data := .seq #[x1, x2] }, g, d, tk2, os⟩
  have hpp : IsTupOf2 (p2.push { cls := .type "tuple", data := .seq #[x1, x2] }) p2.objs.size x1 x2 := Heap.get?_push_size _ rfl
  have hz4 : (p2.push { cls := .type "tuple", data := .seq #[x1, x2] }).objs.size = p2.objs.size + 1 := Heap.size_push ..
  rw [hsz] at hpp hz4 ⊢
  exact hQ x1 x2 _ tk2 hx1 hx2 (Heap.get?_push_of_some _ hz2) (D1.frame _ _ _ s1' fun b _ o e => Heap.get?_push_of_some _ e) (D2.frame _ _ _ sn2 fun b _ o e => Heap.get?_push_of_some _ e) hpp hz4 fun c o q e => Heap.get?_push_of_some _ (kk c o q e)
theorem held_end {T : Addr} {f : Bool} {oT : Obj} {Q : Fin → Shared → Prop} (S : ZipSep2 z TI TO i1 i2 fp1 fp2) (D1 : Draws prog w A i1 fp1 n1 P1 St1) (D2 : Draws prog w A i2 fp2 n2 P2 St2)
    (hz : IsZipHeld s.heap z TI TO T f) (hT : s.heap.get? T = some oT) (hTI : IsTupOf2 s.heap TI (.ref i1) (.ref i2)) (st1 : St1 i s.heap) (st2 : St2 i s.heap) (hle1 : i ≤ n1) (hle2 : i ≤ n2) (hend : i = n1 ∨ i = n2)
    (hE : ∀ h' tk e, (∀ c o, c ≠ z ∧ c ≠ i1 ∧ c ≠ i2 → s.heap.get? c = some o → h'.get? c = some o) → (∃ o, h'.get? e = some o ∧ o.cls = .type "StopIteration") → E (.ref e) { s with heap := h', toks := tk }) :
    wpAny (model prog w) A (Builtin.«zip.__next__» ⟨[.ref z], []⟩) Q E s := by
  obtain ⟨hp, g, d, tk0, os⟩ := s
  (show wpAny _ _ (field (.ref z) 2 >>= _) _ _ _); refine wpAny_bind (wpAny_field hz rfl (x := .bool false) rfl ?_)
  (show wpAny _ _ (field (.ref z) 3 >>= _) _ _ _); refine wpAny_bind (wpAny_field hz rfl (x := .ref TI) rfl (wpAny_bind (wpAny_seqItems hTI rfl ?_)))
  (show wpAny _ _ (Builtin.SmallTypes.ownedTupleIsFree (.ref z) >>= _) _ _ _); refine wpAny_bind (wpAny_tupleHeld_zip hz hT fun g1 hz1 hs1 => ?_)
  replace hs1 : Heap.SameBut z hp g1 := hs1
  simp only [Bool.false_eq_true, if_false]; refine wpAny_bind ?_
  rw [← Array.forIn_toList]; simp only [List.forIn_cons, List.forIn_nil]
  refine wpAny_bind (wpAny_bind (wpAny_holding ?_)); (show wpAny _ _ (Builtin.SmallTypes.nextOf (.ref i1) >>= _) _ _ ⟨g1, g, d, tk0, os⟩)
  by_cases h1 : i < n1
  · refine wpAny_bind (D1.item i _ _ _ h1 (D1.over st1 hs1 S.zf1) fun x1 p1 tk1 hx1 sn1 hp1 => wpAny_pure (wpAny_pure ?_))
    replace hp1 : Heap.SameBut i1 g1 p1 := hp1
    have e2 : i = n2 := by omega
    refine wpAny_bind (wpAny_bind (wpAny_holding ?_)); (show wpAny _ _ (Builtin.SmallTypes.nextOf (.ref i2) >>= _) _ _ ⟨p1, g, d, tk1, os⟩)
    refine wpAny_bind (D2.done ⟨p1, g, d, tk1, os⟩ _ _ (by rw [← e2]; exact D2.over (D2.over st2 hs1 S.zf2) hp1 S.sep1_2) fun q e hq he => ?_)
    exact hE q tk1 e (fun c o ⟨c1, c2, c3⟩ x => hq _ _ c3 (hp1.extBut _ _ c2 (hs1.extBut _ _ c1 x))) he
  · have e1 : i = n1 := by omega
    refine wpAny_bind (D1.done ⟨g1, g, d, tk0, os⟩ _ _ (by rw [← e1]; exact D1.over st1 hs1 S.zf1) fun q e hq he => ?_)
    exact hE q tk0 e (fun c o ⟨c1, c2, c3⟩ x => hq _ _ c2 (hs1.extBut _ _ c1 x)) he
theorem pyNext_held_item {T : Addr} {f : Bool} {oT : Obj} {Q : Option Value → Shared → Prop} (S : ZipSep2 z TI TO i1 i2 fp1 fp2) (D1 : Draws prog w A.in1 i1 fp1 n1 P1 St1) (D2 : Draws prog w A.in1 i2 fp2 n2 P2 St2)
    (hz : IsZipHeld s.heap z TI TO T f) (hT : s.heap.get? T = some oT) (hTI : IsTupOf2 s.heap TI (.ref i1) (.ref i2)) (st1 : St1 i s.heap) (st2 : St2 i s.heap) (l1 : i < n1) (l2 : i < n2)
    (hQ : ∀ x1 x2 h' tk, P1 i x1 → P2 i x2 → IsZipHeld h' z TI TO T true → St1 (i + 1) h' → St2 (i + 1) h' → IsTupOf2 h' s.heap.objs.size x1 x2 → h'.objs.size = s.heap.objs.size + 1 →
      (∀ c o, c ≠ z ∧ c ≠ i1 ∧ c ≠ i2 → s.heap.get? c = some o → h'.get? c = some o) → Q (some (.ref s.heap.objs.size)) { s with heap := h', toks := tk }) :
    wpAny (model prog w) A (pyNext (.ref z)) Q E s := by
  have ty : s.TypeIs (.ref z) "zip" := ⟨_, hz, rfl⟩
  unfold pyNext
  exact wpAny_bind (wpAny_attempt (wpAny_callSpecial?_slot (name := Str.ofString "__next__") ty F.slot_zip_next (wpAny_call_entry F.slot_zip_next ty F.entry_zip_next
    (held_item S D1 D2 hz hT hTI st1 st2 l1 l2 fun x1 x2 h' tk a b c d e f g k => wpAny_pure (hQ x1 x2 h' tk a b c d e f g k)) (F.args_zip_next_1 _))))
theorem pyNext_held_end {T : Addr} {f : Bool} {oT : Obj} {Q : Option Value → Shared → Prop} (S : ZipSep2 z TI TO i1 i2 fp1 fp2) (D1 : Draws prog w A.in1 i1 fp1 n1 P1 St1) (D2 : Draws prog w A.in1 i2 fp2 n2 P2 St2)
    (hz : IsZipHeld s.heap z TI TO T f) (hT : s.heap.get? T = some oT) (hTI : IsTupOf2 s.heap TI (.ref i1) (.ref i2)) (st1 : St1 i s.heap) (st2 : St2 i s.heap) (hle1 : i ≤ n1) (hle2 : i ≤ n2) (hend : i = n1 ∨ i = n2)
    (hQ : ∀ h' tk, (∀ c o, c ≠ z ∧ c ≠ i1 ∧ c ≠ i2 → s.heap.get? c = some o → h'.get? c = some o) → Q none { s with heap := h', toks := tk }) : wpAny (model prog w) A (pyNext (.ref z)) Q E s := by
  have ty : s.TypeIs (.ref z) "zip" := ⟨_, hz, rfl⟩
  unfold pyNext
  refine wpAny_bind (wpAny_attempt (wpAny_callSpecial?_slot (name := Str.ofString "__next__") ty F.slot_zip_next (wpAny_call_entry F.slot_zip_next ty F.entry_zip_next
    (held_end S D1 D2 hz hT hTI st1 st2 hle1 hle2 hend fun h' tk e hk he => ?_) (F.args_zip_next_1 _))))
  obtain ⟨o, ho, hc⟩ := he
  exact wpAny_bind (wpAny_isInstance (T := "StopIteration") (b := true) ⟨o, ho, hc⟩ isSubtype_stop (wpAny_pure (hQ _ _ hk)))

/-- the zip at z behind i turns whose pairs are all held; S the list that is filled -/
def ZSt (z TI TO i1 i2 S : Addr) (St1 St2 : Nat → Heap → Prop) (i : Nat) (h : Heap) : Prop := IsTupOf2 h TI (.ref i1) (.ref i2) ∧ St1 i h ∧ St2 i h ∧
  ((IsZip h z TI TO .none ∧ ∃ a b, IsTupOf2 h TO a b) ∨ ∃ T f oT, IsZipHeld h z TI TO T f ∧ h.get? T = some oT ∧ T ≠ z ∧ T ≠ i1 ∧ T ≠ i2 ∧ T ≠ S)
structure Sep (z TI TO i1 i2 S : Addr) (fp1 fp2 : List Addr) : Prop where
  z : z ≠ S
  TI : TI ≠ S
  TO : TO ≠ S
  f1 : S ∉ fp1
  f2 : S ∉ fp2
theorem ZSt.keep {S : Addr} {h h' : Heap} (D1 : Draws prog w A i1 fp1 n1 P1 St1) (D2 : Draws prog w A i2 fp2 n2 P2 St2) (sp : Sep z TI TO i1 i2 S fp1 fp2) (x : ZSt z TI TO i1 i2 S St1 St2 i h) (hk : ∀ b o, b ≠ S → h.get? b = some o → h'.get? b = some o) : ZSt z TI TO i1 i2 S St1 St2 i h' := by
  obtain ⟨a1, a2, a3, a4⟩ := x
  refine ⟨hk _ _ sp.TI a1, D1.frame _ _ _ a2 fun b hb o e => hk b o (fun q => sp.f1 (q ▸ hb)) e, D2.frame _ _ _ a3 fun b hb o e => hk b o (fun q => sp.f2 (q ▸ hb)) e, ?_⟩
  rcases a4 with ⟨hz, a, b, hO⟩ | ⟨T, f, oT, hz, hT, r1, r2, r3, r4⟩
  · exact .inl ⟨hk _ _ sp.z hz, a, b, hk _ _ sp.TO hO⟩
  · exact .inr ⟨T, f, oT, hk _ _ sp.z hz, hk _ _ r4 hT, r1, r2, r3, r4⟩
theorem ZSt.item {S : Addr} {Q : Option Value → Shared → Prop} (sz : ZipSep2 z TI TO i1 i2 fp1 fp2) (D1 : Draws prog w A.in1 i1 fp1 n1 P1 St1) (D2 : Draws prog w A.in1 i2 fp2 n2 P2 St2) (x : ZSt z TI TO i1 i2 S St1 St2 i s.heap) (hS : S < s.heap.objs.size) (l1 : i < n1) (l2 : i < n2)
    (hQ : ∀ x1 x2 h' tk, P1 i x1 → P2 i x2 → ZSt z TI TO i1 i2 S St1 St2 (i + 1) h' → IsTupOf2 h' s.heap.objs.size x1 x2 → h'.objs.size = s.heap.objs.size + 1 →
      (∀ c o, c ≠ z ∧ c ≠ i1 ∧ c ≠ i2 ∧ c ≠ TO → s.heap.get? c = some o → h'.get? c = some o) → Q (some (.ref s.heap.objs.size)) { s with heap := h', toks := tk }) :
    wpAny (model prog w) A (pyNext (.ref z)) Q E s := by
  obtain ⟨a1, a2, a3, a4⟩ := x
  have lt : ∀ {c o}, s.heap.get? c = some o → s.heap.objs.size ≠ c := fun e => Nat.ne_of_gt (Heap.lt_size e)
  have m1 : s.heap.objs.size ≠ i1 := let ⟨_, e⟩ := D1.live _ _ a2; lt e
  have m2 : s.heap.objs.size ≠ i2 := let ⟨_, e⟩ := D2.live _ _ a3; lt e
  rcases a4 with ⟨hz, a, b, hO⟩ | ⟨T, f, oT, hz, hT, r1, r2, r3, r4⟩
  · refine wpAny_pyNext_zipD2_item sz D1 D2 hz a1 hO a2 a3 l1 l2 fun x1 x2 h' tk p1 p2 hz' hO' t1 t2 hN sN hk => hQ x1 x2 h' tk p1 p2 ⟨hk _ _ sz.TIz sz.TITO sz.TIi1 sz.TIi2 a1, t1, t2, .inr ⟨_, false, _, hz', hN, lt hz, m1, m2, Nat.ne_of_gt hS⟩⟩ hN sN fun c o ⟨c1, c2, c3, c4⟩ e => hk c o c1 c4 c2 c3 e
  · refine pyNext_held_item sz D1 D2 hz hT a1 a2 a3 l1 l2 fun x1 x2 h' tk p1 p2 hz' t1 t2 hN sN hk => hQ x1 x2 h' tk p1 p2 ⟨hk _ _ ⟨sz.TIz, sz.TIi1, sz.TIi2⟩ a1, t1, t2, .inr ⟨T, true, oT, hz', hk _ _ ⟨r1, r2, r3⟩ hT, r1, r2, r3, r4⟩⟩ hN sN fun c o ⟨c1, c2, c3, _⟩ e => hk c o ⟨c1, c2, c3⟩ e
theorem ZSt.done {S : Addr} {Q : Option Value → Shared → Prop} (sz : ZipSep2 z TI TO i1 i2 fp1 fp2) (D1 : Draws prog w A.in1 i1 fp1 n1 P1 St1) (D2 : Draws prog w A.in1 i2 fp2 n2 P2 St2) (x : ZSt z TI TO i1 i2 S St1 St2 i s.heap) (hle1 : i ≤ n1) (hle2 : i ≤ n2) (hend : i = n1 ∨ i = n2)
    (hQ : ∀ h' tk, (∀ c o, c ≠ z ∧ c ≠ i1 ∧ c ≠ i2 ∧ c ≠ TO → s.heap.get? c = some o → h'.get? c = some o) → Q none { s with heap := h', toks := tk }) : wpAny (model prog w) A (pyNext (.ref z)) Q E s := by
  obtain ⟨a1, a2, a3, a4⟩ := x
  rcases a4 with ⟨hz, a, b, hO⟩ | ⟨T, f, oT, hz, hT, r1, r2, r3, r4⟩
  · exact wpAny_pyNext_zipD2_end sz D1 D2 hz a1 hO a2 a3 hle1 hle2 hend fun h' tk hk => hQ h' tk fun c o ⟨c1, c2, c3, c4⟩ e => hk c o c1 c4 c2 c3 e
  · exact pyNext_held_end sz D1 D2 hz hT a1 a2 a3 hle1 hle2 hend fun h' tk hk => hQ h' tk fun c o ⟨c1, c2, c3, _⟩ e => hk c o ⟨c1, c2, c3⟩ e
end
/-- the pairs that were made, at as, all above lo -/
structure Made (P1 P2 : Nat → Value → Prop) (lo : Addr) (h : Heap) (as : List Addr) : Prop where
  rise : as.Pairwise (· < ·)
  above : ∀ a ∈ as, lo < a
  pairs : ∀ (j : Nat) (a : Addr), as[j]? = some a → ∃ x y, P1 j x ∧ P2 j y ∧ IsTupOf2 h a x y
theorem Made.there {P1 P2 : Nat → Value → Prop} {lo : Addr} {h : Heap} {as : List Addr} (g : Made P1 P2 lo h as) {a : Addr} (ha : a ∈ as) : a < h.objs.size := by
  obtain ⟨j, hj⟩ := List.mem_iff_getElem?.mp ha
  obtain ⟨_, _, _, _, e⟩ := g.pairs j a hj
  exact Heap.lt_size e
section
variable {prog : Program} {w : World} {A : Around} {s : Shared} {R : Result → Shared → Prop} {z TI TO i1 i2 S : Addr} {fp1 fp2 : List Addr} {n1 n2 : Nat} {P1 P2 : Nat → Value → Prop} {St1 St2 : Nat → Heap → Prop}
theorem zl_loop {n : Nat} (en : n = min n1 n2) (sz : ZipSep2 z TI TO i1 i2 fp1 fp2) (sp : Sep z TI TO i1 i2 S fp1 fp2) (D1 : Draws prog w A.in1.in1 i1 fp1 n1 P1 St1) (D2 : Draws prog w A.in1.in1 i2 fp2 n2 P2 St2) (lz : z < S) (lT : TO < S) (li1 : i1 < S) (li2 : i2 < S) (hn : n ≤ sizeLine) (res : Value) {h₁ : Heap}
    (hR : ∀ h' tk acc c as, (∀ b o, b ≠ S ∧ b ≠ z ∧ b ≠ i1 ∧ b ≠ i2 ∧ b ≠ TO → h₁.get? b = some o → h'.get? b = some o) → h'.get? S = some { cls := .type "list", dict := none, data := .seq acc c, slots := #[] } → as.length = n → Made P1 P2 S h' as →
      acc.toList = as.map Value.ref → R (.ok (.ret res)) { s with heap := h', toks := tk }) :
    ∀ (k i : Nat) (h : Heap) (tk c : Nat) (acc : Array Value) (as : List Addr), n - i = k → i ≤ n → ZSt z TI TO i1 i2 S St1 St2 i h → (∀ b o, b ≠ S ∧ b ≠ z ∧ b ≠ i1 ∧ b ≠ i2 ∧ b ≠ TO → h₁.get? b = some o → h.get? b = some o) →
      h.get? S = some { cls := .type "list", dict := none, data := .seq acc c, slots := #[] } → acc.toList = as.map Value.ref → as.length = i → Made P1 P2 S h as →
      codeAny (model prog w) A (.builtin "list.extend.loop" ⟨[.ref S, .ref z, res], []⟩) R { s with heap := h, toks := tk } := by
  have n1' : S ≠ z ∧ S ≠ i1 ∧ S ≠ i2 ∧ S ≠ TO := ⟨Nat.ne_of_gt lz, Nat.ne_of_gt li1, Nat.ne_of_gt li2, Nat.ne_of_gt lT⟩
  have hi : ∀ a, S < a → a ≠ z ∧ a ≠ i1 ∧ a ≠ i2 ∧ a ≠ TO := fun a ha => ⟨Nat.ne_of_gt (Nat.lt_trans lz ha), Nat.ne_of_gt (Nat.lt_trans li1 ha), Nat.ne_of_gt (Nat.lt_trans li2 ha), Nat.ne_of_gt (Nat.lt_trans lT ha)⟩
  intro k
  induction k with
  | zero =>
    intro i h tk c acc as hk hin hst hkeep hS hacc hal hG
    have e : i = n := by omega
    refine codeAny_builtin PySem.F.entry_extend_loop ?_
    rw [Around.under_plainId PySem.F.plain_extend_loop _]; (show wpAny _ A.in1 (pyNext (.ref z) >>= _) _ _ _)
    refine wpAny_bind (ZSt.done (s := { s with heap := h, toks := tk }) (A := A.in1) sz D1 D2 hst (by omega) (by omega) (by omega) fun h' tk' hk' => wpAny_pure (hR h' tk' acc c as (fun b o ⟨q1, q2⟩ e => hk' b o q2 (hkeep b o ⟨q1, q2⟩ e)) (hk' S _ n1' hS) (by omega) ⟨hG.rise, hG.above, fun j a hj => ?_⟩ hacc))
    obtain ⟨x, y, e1, e2, e3⟩ := hG.pairs j a hj
    exact ⟨x, y, e1, e2, hk' a _ (hi a (hG.above a (List.mem_of_getElem? hj))) e3⟩
  | succ k ih =>
    intro i h tk c acc as hk hin hst hkeep hS hacc hal hG
    have lt : i < n := by omega
    have hsz : acc.size = i := by rw [← Array.length_toList, hacc, List.length_map, hal]
    refine codeAny_builtin PySem.F.entry_extend_loop ?_
    rw [Around.under_plainId PySem.F.plain_extend_loop _]; (show wpAny _ A.in1 (pyNext (.ref z) >>= _) _ _ _)
    refine wpAny_bind (ZSt.item (s := { s with heap := h, toks := tk }) (A := A.in1) sz D1 D2 hst (Heap.lt_size hS) (by omega) (by omega) fun x1 x2 h' tk' p1 p2 hst' hN sN hkp => ?_)
    dsimp only at hN sN hkp ⊢
    have hS' := hkp S _ n1' hS
    have up : ∀ b o, b ≠ S → h'.get? b = some o → (h'.update S (Obj.mapSeq (·.push (Value.ref h.objs.size)))).get? b = some o := fun b o hb e => (Heap.get?_update_other _ _ (Ne.symm hb)).trans e
    have hSl : S < h.objs.size := Heap.lt_size hS
    (show wpAny _ A.in1 (updateSeq S (·.push (Value.ref h.objs.size)) >>= _) _ _ _); refine wpAny_bind ?_
    refine wpAny_updateSeq hS' rfl (wpAny_pure ⟨plainId_quiet PySem.F.plain_extend_loop _, ih (i + 1) _ tk' _ (acc.push (Value.ref h.objs.size)) (as ++ [h.objs.size]) (by omega) lt (hst'.keep D1 D2 sp up)
      (fun b o q e => up b o q.1 (hkp b o q.2 (hkeep b o q e))) (Heap.get?_update_self _ hS' rfl) (by rw [Array.toList_push, hacc, List.map_append]; rfl) (by rw [List.length_append, hal]; rfl) ⟨?_, ?_, ?_⟩⟩) (by rw [hsz]; omega) (by show (acc.push (Value.ref h.objs.size)).size ≤ sizeLine + 1; rw [Array.size_push, hsz]; omega)
    · refine List.pairwise_append.mpr ⟨hG.rise, List.pairwise_singleton _ _, fun a ha b hb => ?_⟩
      rw [List.mem_singleton.mp hb]; exact hG.there ha
    · intro a ha
      rcases List.mem_append.mp ha with ha | ha
      · exact hG.above a ha
      · rw [List.mem_singleton.mp ha]; exact hSl
    · intro j b hj
      rcases Nat.lt_trichotomy j as.length with q | q | q
      · rw [List.getElem?_append_left q] at hj
        obtain ⟨x, y, e1, e2, e3⟩ := hG.pairs j b hj
        have hb := hG.above b (List.mem_of_getElem? hj)
        exact ⟨x, y, e1, e2, up b _ (Nat.ne_of_gt hb) (hkp b _ (hi b hb) e3)⟩
      · subst q
        have hb : h.objs.size = b := by simpa using hj
        subst hb
        exact ⟨x1, x2, by rw [hal]; exact p1, by rw [hal]; exact p2, up _ _ (Nat.ne_of_gt hSl) hN⟩
      · have no : (as ++ [h.objs.size])[j]? = none := List.getElem?_eq_none (by rw [List.length_append, List.length_singleton]; omega)
        rw [no] at hj; cases hj
end
end Lz

set_option Elab.async false
set_option linter.all false
set_option maxRecDepth 100000
set_option maxHeartbeats 4000000
namespace Lz
open PySem PySem.Spec PyProof.Rows L2 PySem.W
theorem zip_no_len : typeLookup (.type "zip") "__len__" = pure none := am_miss_of_fast (by decide +kernel)
theorem zip_no_hint : typeLookup (.type "zip") "__length_hint__" = pure none := am_miss_of_fast (by decide +kernel)
section
variable {prog : Program} {w : World} {A : Around} {E : Value → Shared → Prop} {s : Shared} {R : Result → Shared → Prop} {z TI TO i1 i2 S : Addr} {fp1 fp2 : List Addr} {n n1 n2 : Nat} {P1 P2 : Nat → Value → Prop} {St1 St2 : Nat → Heap → Prop}
theorem zl_hint (hT : s.TypeIs (.ref z) "zip") {Q : Bool → Shared → Prop} (h : Q true s) : wpAny (model prog w) A (Builtin.List.listLengthHint (.ref z)) Q E s := by
  unfold Builtin.List.listLengthHint
  refine wpAny_bind (wpAny_specialOf hT zip_no_len ?_)
  exact wpAny_bind (wpAny_specialOf hT zip_no_hint (wpAny_pure h))
/-- what a list that is filled by the zip asks and gives -/
theorem zl_extend (en : n = min n1 n2) (sz : ZipSep2 z TI TO i1 i2 fp1 fp2) (sp : Sep z TI TO i1 i2 S fp1 fp2) (D1 : Draws prog w A.in1.in1 i1 fp1 n1 P1 St1) (D2 : Draws prog w A.in1.in1 i2 fp2 n2 P2 St2) (lz : z < S) (lT : TO < S) (li1 : i1 < S) (li2 : i2 < S) (hn : n ≤ sizeLine) (res : Value) (c₀ : Nat)
    (hz : IsZip s.heap z TI TO .none) (hst : ZSt z TI TO i1 i2 S St1 St2 0 s.heap) (hS : s.heap.get? S = some { cls := .type "list", data := .seq #[] c₀ })
    (hR : ∀ h' tk acc c as, (∀ b o, b ≠ S ∧ b ≠ z ∧ b ≠ i1 ∧ b ≠ i2 ∧ b ≠ TO → s.heap.get? b = some o → h'.get? b = some o) → h'.get? S = some { cls := .type "list", dict := none, data := .seq acc c, slots := #[] } → as.length = n → Made P1 P2 S h' as →
      acc.toList = as.map Value.ref → R (.ok (.ret res)) { s with heap := h', toks := tk }) :
    wpAny (model prog w) A.in1 (Builtin.List.listExtendWith (.ref S) (.ref z) res)
      (fun fin s' => match fin with | .done f => R (.ok f) s' | .again c' => c'.quiet = true ∧ codeAny (model prog w) A c' R s') (fun e s' => R (.error e) s') s := by
  have nSz : S ≠ z := Nat.ne_of_gt lz
  have key : ∀ (h : Heap) (c₁ tk : Nat), (∀ b o, b ≠ S → s.heap.get? b = some o → h.get? b = some o) → h.get? S = some { cls := .type "list", data := .seq #[] c₁ } →
      codeAny (model prog w) A (.builtin "list.extend.loop" ⟨[.ref S, .ref z, res], []⟩) R { s with heap := h, toks := tk } := fun h c₁ tk hk hS₁ =>
    zl_loop (s := s) (h₁ := s.heap) en sz sp D1 D2 lz lT li1 li2 hn res hR n 0 h tk c₁ #[] [] (Nat.sub_zero _) (Nat.zero_le _) (hst.keep D1 D2 sp hk) (fun b o q e => hk b o q.1 e) hS₁ rfl rfl ⟨List.Pairwise.nil, (fun _ ha => nomatch ha), (fun j a hj => by simp at hj)⟩
  unfold Builtin.List.listExtendWith
  have hT : s.TypeIs (.ref z) "zip" := ⟨_, hz, rfl⟩
  refine wpAny_bind (wpAny_typeOf (T := "zip") hT ?_)
  have q1 : Builtin.List.listSameRef (.ref S) (.ref z) = false := by simp [Builtin.List.listSameRef, nSz]
  have q2 : (Value.type "zip" == Value.type "list") = false := by decide
  have q3 : (Value.type "zip" == Value.type "tuple") = false := by decide
  simp only [q1, q2, q3, Bool.or_false, Bool.false_eq_true, if_false]
  refine wpAny_bind (wpAny_pyIter_zip hz ?_)
  refine wpAny_bind (wpAny_holding (zl_hint hT ?_))
  refine wpAny_ite_split (fun _ => ?_) (fun _ => wpAny_pure ⟨plainId_quiet PySem.F.plain_extend_loop _, key _ c₀ _ (fun b o _ e => e) hS⟩)
  refine wpAny_bind (wpAny_rule (wpAny_bind ?_)); (show wpAny _ _ (updateSeq S (·.push .none) >>= fun _ => updateSeq S (·.pop)) _ _ _)
  refine wpAny_bind (wpAny_updateSeq hS rfl ?_)
  have hS₂ := Heap.get?_update_self (Obj.mapSeq (·.push Value.none)) hS rfl
  refine wpAny_updateSeq (hz := by seq_fits) hS₂ rfl ?_
  have hS₃ := Heap.get?_update_self (Obj.mapSeq (·.pop)) hS₂ rfl
  exact wpAny_pure ⟨plainId_quiet PySem.F.plain_extend_loop _, key _ _ _ (fun b o hb e => (Heap.get?_update_other _ _ (Ne.symm hb)).trans ((Heap.get?_update_other _ _ (Ne.symm hb)).trans e)) hS₃⟩
theorem zl_init (en : n = min n1 n2) (sz : ZipSep2 z TI TO i1 i2 fp1 fp2) (sp : Sep z TI TO i1 i2 S fp1 fp2) (D1 : Draws prog w A.in1.in1 i1 fp1 n1 P1 St1) (D2 : Draws prog w A.in1.in1 i2 fp2 n2 P2 St2) (lz : z < S) (lT : TO < S) (li1 : i1 < S) (li2 : i2 < S) (hn : n ≤ sizeLine)
    (hz : IsZip s.heap z TI TO .none) (hst : ZSt z TI TO i1 i2 S St1 St2 0 s.heap) (hS : s.heap.get? S = some { cls := .type "list", data := .seq #[] })
    (hR : ∀ h' tk acc c as, (∀ b o, b ≠ S ∧ b ≠ z ∧ b ≠ i1 ∧ b ≠ i2 ∧ b ≠ TO → s.heap.get? b = some o → h'.get? b = some o) → h'.get? S = some { cls := .type "list", dict := none, data := .seq acc c, slots := #[] } → as.length = n → Made P1 P2 S h' as →
      acc.toList = as.map Value.ref → R (.ok (.ret .none)) { s with heap := h', toks := tk }) :
    wpAny (model prog w) A.in1 (Builtin.«list.__init__» ⟨[.ref S, .ref z], []⟩)
      (fun fin s' => match fin with | .done f => R (.ok f) s' | .again c' => c'.quiet = true ∧ codeAny (model prog w) A c' R s') (fun e s' => R (.error e) s') s := by
  show wpAny _ _ (do let old ← Builtin.List.listItems (.ref S); Builtin.List.listUpdate (.ref S) (fun _ => #[]); letGo old.toList.reverse; Builtin.List.listExtendWith (.ref S) (.ref z) .none) _ _ s
  refine wpAny_bind ?_
  unfold Builtin.List.listItems
  refine wpAny_bind (wpAny_seqItems hS rfl (wpAny_pure ?_)); (show wpAny _ _ (updateSeq S (fun _ => #[]) >>= fun _ => letGo (#[] : Array Value).toList.reverse >>= fun _ => Builtin.List.listExtendWith (.ref S) (.ref z) .none) _ _ s)
  refine wpAny_bind (wpAny_updateSeq hS rfl ?_)
  have hS₂ := Heap.get?_update_self (Obj.mapSeq (fun _ => (#[] : Array Value))) hS rfl
  have oth : ∀ b o, b ≠ S → s.heap.get? b = some o → (s.heap.update S (Obj.mapSeq (fun _ => (#[] : Array Value)))).get? b = some o := fun b o hb e => (Heap.get?_update_other _ _ (Ne.symm hb)).trans e
  refine wpAny_bind (wpAny_letGo ?_)
  exact zl_extend en sz sp D1 D2 lz lT li1 li2 hn .none _ (oth _ _ sp.z hz) (hst.keep D1 D2 sp oth) hS₂ fun h' tk acc c as hk hS' hl hG hacc => hR h' tk acc c as (fun b o q e => hk b o q (oth b o q.1 e)) hS' hl hG hacc
theorem zl_call {Q : Value → Shared → Prop} (en : n = min n1 n2) (sz : ZipSep2 z TI TO i1 i2 fp1 fp2) (D1 : Draws prog w A.in1.in1.in1 i1 fp1 n1 P1 St1) (D2 : Draws prog w A.in1.in1.in1 i2 fp2 n2 P2 St2) (hn : n ≤ sizeLine) (f1 : ∀ b ∈ fp1, b < s.heap.objs.size) (f2 : ∀ b ∈ fp2, b < s.heap.objs.size)
    (hz : IsZip s.heap z TI TO .none) (hTI : IsTupOf2 s.heap TI (.ref i1) (.ref i2)) (hTO : ∃ a b, IsTupOf2 s.heap TO a b) (st1 : St1 0 s.heap) (st2 : St2 0 s.heap)
    (hQ : ∀ h' tk acc c as, (∀ b o, b ≠ z ∧ b ≠ i1 ∧ b ≠ i2 ∧ b ≠ TO → s.heap.get? b = some o → h'.get? b = some o) → h'.get? s.heap.objs.size = some { cls := .type "list", dict := none, data := .seq acc c, slots := #[] } → as.length = n → Made P1 P2 s.heap.objs.size h' as →
      acc.toList = as.map Value.ref → Q (.ref s.heap.objs.size) { s with heap := h', toks := tk }) :
    wpAny (model prog w) A (call (.type "list") [.ref z]) Q E s := by
  refine callType_codes (Q₁ := fun obj s₁ => obj = .ref s.heap.objs.size ∧ s₁ = { s with heap := s.heap.push { cls := .type "list", data := .seq #[] } }) PySem.F.called_list (PySem.F.typeCall_list_1 _) PySem.F.entry_list_init (code_list_new _ ⟨rfl, rfl⟩) fun obj s₁ h₁ => ?_
  obtain ⟨rfl, rfl⟩ := h₁
  have hS : (s.heap.push { cls := .type "list", data := .seq #[] }).get? s.heap.objs.size = some { cls := .type "list", data := .seq #[] } := Heap.get?_push_size _ rfl
  have up : ∀ b o, s.heap.get? b = some o → (s.heap.push { cls := .type "list", data := .seq #[] }).get? b = some o := fun b o e => Heap.get?_push_of_some _ e
  obtain ⟨a, b, hO⟩ := hTO
  have l1 : i1 < s.heap.objs.size := f1 _ sz.mem1
  have l2 : i2 < s.heap.objs.size := f2 _ sz.mem2
  refine ⟨⟨_, hS, rfl⟩, PySem.F.args_list_init_2 _ _, zl_init (A := A.in1) en sz ⟨Nat.ne_of_lt (Heap.lt_size hz), Nat.ne_of_lt (Heap.lt_size hTI), Nat.ne_of_lt (Heap.lt_size hO), fun h => Nat.lt_irrefl _ (f1 _ h), fun h => Nat.lt_irrefl _ (f2 _ h)⟩ D1 D2 (Heap.lt_size hz) (Heap.lt_size hO) l1 l2 hn (up _ _ hz)
    ⟨up _ _ hTI, D1.frame _ _ _ st1 fun b _ o e => up b o e, D2.frame _ _ _ st2 fun b _ o e => up b o e, .inl ⟨up _ _ hz, a, b, up _ _ hO⟩⟩ hS fun h' tk acc c as hk hS' hl hG hacc => ?_⟩
  exact ⟨rfl, hQ h' tk acc c as (fun b o q e => hk b o ⟨Nat.ne_of_lt (Heap.lt_size e), q⟩ (up b o e)) hS' hl hG hacc⟩
end
end Lz

set_option Elab.async false
set_option linter.all false
set_option maxRecDepth 100000
set_option maxHeartbeats 4000000
namespace Lz
open PySem PySem.Spec PyProof.Rows L2 PySem.W
/-- pairs tracked at their addresses -/
def putP : Hp → List Addr → List (V × V) → Hp
  | H, a :: as, p :: ps => putP (upd H a (.tup [p.1, p.2])) as ps
  | H, _, _ => H
theorem putP_off {b : Addr} : ∀ (as : List Addr) (ps : List (V × V)) (H : Hp), b ∉ as → putP H as ps b = H b
  | [], _, _, _ => rfl
  | _ :: _, [], _, _ => rfl
  | a :: as, p :: ps, H, h => by
    show putP (upd H a (.tup [p.1, p.2])) as ps b = H b
    rw [putP_off as ps _ (fun q => h (List.mem_cons_of_mem _ q)), upd_ne (fun q => h (by rw [q]; exact List.mem_cons_self))]
theorem putP_at : ∀ (as : List Addr) (ps : List (V × V)) (H : Hp), as.Nodup → ∀ (j : Nat) (t : Addr) (p : V × V), as[j]? = some t → ps[j]? = some p → putP H as ps t = some (.tup [p.1, p.2])
  | [], _, _, _, j, t, p, h, _ => by cases h
  | _ :: _, [], _, _, j, t, p, _, h => by cases h
  | a :: as, q :: ps, H, nd, 0, t, p, h, g => by
    have nd' := List.nodup_cons.mp nd
    cases h
    cases g
    show putP (upd H a (.tup [q.1, q.2])) as ps a = _
    rw [putP_off as ps _ nd'.1, upd_same]
  | a :: as, q :: ps, H, nd, j + 1, t, p, h, g => putP_at as ps _ (List.nodup_cons.mp nd).2 j t p h g
theorem vals_as : ∀ as : List Addr, Vals (as.map V.ref) (as.map Value.ref)
  | [] => .nil
  | _ :: as => .cons rfl (vals_as as)
/-- what list(zip(a, b)) leaves -/
def Zipped (H : Hp) (xs ys : List V) (p : Addr) (ts : List Addr) (H' : Hp) : Prop :=
  Same H H' ∧ H p = none ∧ (∀ t ∈ ts, H t = none) ∧ p ∉ ts ∧ H' p = some (.lst (ts.map V.ref)) ∧ ts.length = xs.length ∧ ∀ (j : Nat) (t : Addr), ts[j]? = some t → ∃ x y, xs[j]? = some x ∧ ys[j]? = some y ∧ H' t = some (.tup [x, y])
def tListZip (K : PySem.W.Frag) (ta : TA) : TE := fun σ H Q => ta σ H fun vs H1 => ∃ a b xs ys, vs = [.ref a, .ref b] ∧ ((SqT K H1 a xs ∧ SqT K H1 b ys) ∨ (SqL K H1 a xs ∧ SqL K H1 b ys)) ∧ xs.length = ys.length ∧
  ∀ H' p ts, Zipped H1 xs ys p ts H' → Q (.ref p) H'
section
variable {X : Cx} {pins : List (Addr × Obj)} {σ : L2.St} {H : Hp} {s : Shared}
theorem zips_laid {S : Addr} {h' : Heap} {tk : Nat} {xs ys : List V} {us ws : List Value} {acc : Array Value} {c : Nat} {as : List Addr} (I : Inv X pins σ H s) (hS0 : s.heap.objs.size ≤ S) (hz : xs.length ≤ sizeLine) (hxy : xs.length = ys.length) (r1 : Vals xs us) (r2 : Vals ys ws)
    (hk : ∀ b o, s.heap.get? b = some o → h'.get? b = some o) (hS : h'.get? S = some { cls := .type "list", dict := none, data := .seq acc c, slots := #[] }) (hl : as.length = xs.length) (hG : Made (fun i v => us.toArray[i]? = some v) (fun i v => ws.toArray[i]? = some v) S h' as) (hacc : acc.toList = as.map Value.ref) :
    ∃ H', Zipped H xs ys S as H' ∧ Inv X pins σ H' { s with heap := h', toks := tk } := by
  have nS : S ∉ as := fun q => Nat.lt_irrefl _ (hG.above _ q)
  have nd : as.Nodup := List.Pairwise.imp (fun {a b} (h : a < b) => Nat.ne_of_lt h) hG.rise
  have new : ∀ t ∈ as, H t = none := fun t ht => I.hok.fresh (Nat.le_trans hS0 (Nat.le_of_lt (hG.above t ht)))
  have newS : H S = none := I.hok.fresh hS0
  have lp : (xs.zip ys).length = xs.length := by rw [List.length_zip]; omega
  have off : ∀ b, b ∉ as → b ≠ S → putP (upd H S (.lst (as.map V.ref))) as (xs.zip ys) b = H b := fun b h1 h2 => by rw [putP_off as _ _ h1, upd_ne h2]
  have low : ∀ b o, s.heap.get? b = some o → b ∉ as ∧ b ≠ S := fun b o e => ⟨fun q => absurd (Heap.lt_size e) (Nat.not_lt.mpr (Nat.le_trans hS0 (Nat.le_of_lt (hG.above b q)))), Nat.ne_of_lt (Nat.lt_of_lt_of_le (Heap.lt_size e) hS0)⟩
  have kp : ∀ b u, H b = some u → (putP (upd H S (.lst (as.map V.ref))) as (xs.zip ys)) b = some u := fun b u e => by
    rw [off b (fun q => by rw [new b q] at e; cases e) (fun q => by rw [q, newS] at e; cases e)]
    exact e
  have eS : putP (upd H S (.lst (as.map V.ref))) as (xs.zip ys) S = some (.lst (as.map V.ref)) := by rw [putP_off as _ _ nS, upd_same]
  have atj : ∀ (j : Nat) (t : Addr), as[j]? = some t → ∃ x y, xs[j]? = some x ∧ ys[j]? = some y ∧ putP (upd H S (.lst (as.map V.ref))) as (xs.zip ys) t = some (.tup [x, y]) := fun j t e => by
    have hj : j < as.length := (List.getElem?_eq_some_iff.mp e).1
    have h1 : xs[j]? = some (xs[j]'(by omega)) := List.getElem?_eq_getElem _
    have h2 : ys[j]? = some (ys[j]'(by omega)) := List.getElem?_eq_getElem _
    exact ⟨_, _, h1, h2, putP_at as _ _ nd j t (_, _) e (List.getElem?_zip_eq_some.mpr ⟨h1, h2⟩)⟩
  refine ⟨putP (upd H S (.lst (as.map V.ref))) as (xs.zip ys), ⟨kp, newS, new, nS, eS, hl, atj⟩, ?_⟩
  refine I.call' (ch := []) rfl ⟨fun b o q _ _ _ => hk b o q, fun b o q _ _ _ => ⟨o.slots, hk b o q⟩, fun b o q n _ => ?_, fun b o q _ => ⟨o, hk b o q⟩, fun b xs q => kp b _ q, fun b o u q => kp b _ q, fun b ps q => ⟨#[], by rw [kp b _ q]; simp⟩⟩ (fun b u q => ?_) I.bare fun b q => by simp at q
  · obtain ⟨z1, z2⟩ := low b o q
    rw [off b z1 z2]
    exact n
  · by_cases hb : b ∈ as
    · obtain ⟨j, hj⟩ := List.mem_iff_getElem?.mp hb
      obtain ⟨x, y, e1, e2, e3⟩ := atj j b hj
      rw [e3] at q
      cases q
      obtain ⟨u, v, f1, f2, f3⟩ := hG.pairs j b hj
      obtain ⟨u', g1, g2⟩ := r1.get e1
      obtain ⟨v', k1, k2⟩ := r2.get e2
      have : u = u' := by
        have : us[j]? = some u := by simpa using f1
        rw [g1] at this
        exact (Option.some.inj this).symm
      subst this
      have : v = v' := by
        have : ws[j]? = some v := by simpa using f2
        rw [k1] at this
        exact (Option.some.inj this).symm
      subst this
      exact ⟨by show 2 ≤ sizeLine; decide, [u, v], .cons g2 (.cons k2 .nil), ⟨_, f3, rfl, _, rfl⟩⟩
    · by_cases hb2 : b = S
      · rw [hb2] at q ⊢
        rw [eS] at q
        cases q
        refine ⟨by rw [List.length_map]; omega, acc.toList, c, by rw [hacc]; exact vals_as as, ?_⟩
        rw [Array.toArray_toList]
        exact hS
      · rw [off b hb hb2] at q
        exact (I.hok b u q).stay (fun d v _ y => hk d v y) (fun d y => kp d _ y) fun d xs y => kp d _ y
variable {e e2 : Expr} {ta : TA} {p zp cpos pos : Pos}
theorem pe_listZip (hc : X.calm = true) (ha : PA X [e, e2] ta) (hg : Gl X "list") (hm : X.mg "list" = none) (hgz : Gl X "zip") (hmz : X.mg "zip" = none)
    (hs : starEach [.Call (.Name "zip" zp) [e, e2] [] cpos] X.env = (false, eval (.Call (.Name "zip" zp) [e, e2] [] cpos) X.env) :: starEach [] X.env := by rfl)
    (hs2 : starEach [e, e2] X.env = (false, eval e X.env) :: starEach [e2] X.env := by rfl) (hpl : (backTo cpos (starEach [e2] X.env)).any (·.1) = false := by rfl) :
    PE X (.Call (.Name "list" p) [.Call (.Name "zip" zp) [e, e2] [] cpos] [] pos) (tListZip X.K ta) := by
  refine ⟨fun pins s σ H Q I hq => wpAny_Call_Name_kw (ld_blt I hg hm PyProof.Rows.boot_list (PyProof.Rows.callWith_type1 ?_ hs rfl))⟩
  rw [hs]
  show wpAny _ _ (spliced ((false, eval (.Call (.Name "zip" zp) [e, e2] [] cpos) X.env) :: backTo pos (starEach [] X.env))) _ _ s
  refine Calls.spliced_cons (Call_ (ld_blt I hgz hmz PyProof.Rows.boot_zip (PyProof.Rows.callWith_type1 (thn (ha.run cpos pins s σ H _ I hq) fun us s1 ⟨vs, H1, I1, r1, q1⟩ => ?_) hs2 hpl)))
  obtain ⟨a, b, xs, ys, ex, hab, hl, q⟩ := q1
  subst ex
  obtain ⟨u1, u2, rfl, rx, ry⟩ := vals2 r1
  cases rx
  cases ry
  have hh := I1.ok.hd hc
  have ap : ∀ {v : Addr} {o : Obj}, s1.heap.get? v = some o → ∀ x ∈ [v], x < s1.heap.objs.size := fun e x hx => by rw [List.mem_singleton.mp hx]; exact Heap.lt_size e
  have fin : ∀ (h1 : Heap) (fp1 fp2 : List Addr) (us ws : List Value) (St1 St2 : Nat → Heap → Prop), xs.length ≤ sizeLine → Vals xs us → Vals ys ws → (∀ c ∈ fp1, c < s1.heap.objs.size) → (∀ c ∈ fp2, c < s1.heap.objs.size) →
      (∀ A : Around, A.handled = none → Draws X.prog X.w A s1.heap.objs.size (s1.heap.objs.size :: fp1) us.toArray.size (fun i v => us.toArray[i]? = some v) St1) → (∀ A : Around, A.handled = none → Draws X.prog X.w A (s1.heap.objs.size + 1) ((s1.heap.objs.size + 1) :: fp2) ws.toArray.size (fun i v => ws.toArray[i]? = some v) St2) →
      IsZip h1 (s1.heap.objs.size + 4) (s1.heap.objs.size + 2) (s1.heap.objs.size + 3) .none → IsTupOf2 h1 (s1.heap.objs.size + 2) (.ref s1.heap.objs.size) (.ref (s1.heap.objs.size + 1)) → IsTupOf2 h1 (s1.heap.objs.size + 3) .none .none → h1.objs.size = s1.heap.objs.size + 5 →
      (∀ c o, s1.heap.get? c = some o → h1.get? c = some o) → St1 0 h1 → St2 0 h1 → wpAny (model X.prog X.w) X.A (call (.type "list") [.ref (s1.heap.objs.size + 4)]) (EP X pins σ Q) X.xe { s1 with heap := h1 } := by
    intro h1 fp1 fp2 us ws St1 St2 hz rv1 rv2 f1 f2 D1 D2 hZ hTI hTO hsz hk st1 st2
    have b1 := rv1.length
    have b2 := rv2.length
    refine zl_call (n := xs.length) (by simp; omega) (zip_sep2 f1 f2) (D1 X.A.in1.in1.in1 hh) (D2 X.A.in1.in1.in1 hh) hz (fun c hc => ?_) (fun c hc => ?_) hZ hTI ⟨_, _, hTO⟩ st1 st2 fun h' tk acc c as hk' hS hl' hG hacc => ?_
    · rw [hsz]
      rcases List.mem_cons.mp hc with e | e
      · rw [e]; exact Nat.lt_add_of_pos_right (by decide)
      · exact Nat.lt_of_lt_of_le (f1 c e) (Nat.le_add_right _ _)
    · rw [hsz]
      rcases List.mem_cons.mp hc with e | e
      · rw [e]; exact Nat.add_lt_add_left (by decide) _
      · exact Nat.lt_of_lt_of_le (f2 c e) (Nat.le_add_right _ _)
    · have nw : ∀ b o, s1.heap.get? b = some o → h'.get? b = some o := fun b o e => hk' b o ⟨Nat.ne_of_lt (Nat.lt_of_lt_of_le (Heap.lt_size e) (Nat.le_add_right _ _)), Nat.ne_of_lt (Heap.lt_size e), Nat.ne_of_lt (Nat.lt_of_lt_of_le (Heap.lt_size e) (Nat.le_add_right _ _)), Nat.ne_of_lt (Nat.lt_of_lt_of_le (Heap.lt_size e) (Nat.le_add_right _ _))⟩ (hk b o e)
      obtain ⟨H', z, J⟩ := zips_laid (tk := tk) I1 (S := h1.objs.size) (by rw [hsz]; exact Nat.le_add_right _ _) hz hl rv1 rv2 nw hS hl' hG hacc
      exact ⟨.ref h1.objs.size, H', J, rfl, q H' _ as z⟩
  have N0 : ∀ c, c < s1.heap.objs.size → c ≠ s1.heap.objs.size ∧ c ≠ s1.heap.objs.size + 1 := fun c hc => ⟨Nat.ne_of_lt hc, by omega⟩
  rcases hab with ⟨h1, h2⟩ | ⟨h1, h2⟩
  · obtain ⟨us, rv1, p1, z1⟩ := I1.tuple h1
    obtain ⟨ws, rv2, p2, _⟩ := I1.tuple h2
    have la : a < s1.heap.objs.size := let ⟨_, e, _⟩ := p1; Heap.lt_size e
    have lb : b < s1.heap.objs.size := let ⟨_, e, _⟩ := p2; Heap.lt_size e
    refine zip_begins2 (begins_tuple a us.toArray) (begins_tuple b ws.toArray) p1 p2 fun h' hZ hTI hTO o1 o2 hsz hk => ?_
    refine Calls.spliced_nil ?_
    exact fin h' [a] [b] us ws _ _ z1 rv1 rv2 (by simpa using la) (by simpa using lb) (fun A hA => Draws.tuple hA _ a (N0 a la).1 us.toArray) (fun A hA => Draws.tuple hA _ b (N0 b lb).2 ws.toArray) hZ hTI hTO hsz hk ⟨⟨_, o1, rfl, rfl⟩, (let ⟨o, e, r⟩ := p1; ⟨o, hk _ o e, r⟩)⟩ ⟨⟨_, o2, rfl, rfl⟩, (let ⟨o, e, r⟩ := p2; ⟨o, hk _ o e, r⟩)⟩
  · obtain ⟨us, rv1, p1, z1⟩ := I1.list h1
    obtain ⟨ws, rv2, p2, _⟩ := I1.list h2
    refine zip_begins2 (begins_list a us.toArray) (begins_list b ws.toArray) p1.isList p2.isList fun h' hZ hTI hTO o1 o2 hsz hk => ?_
    refine Calls.spliced_nil ?_
    exact fin h' [a] [b] us ws _ _ z1 rv1 rv2 (by simpa using p1.lt) (by simpa using p2.lt) (fun A hA => Draws.list hA _ a (N0 a p1.lt).1 us.toArray) (fun A hA => Draws.list hA _ b (N0 b p2.lt).2 ws.toArray) hZ hTI hTO hsz hk ⟨⟨_, o1, rfl, rfl⟩, p1.isList.at fun o e => hk _ o e⟩ ⟨⟨_, o2, rfl, rfl⟩, p2.isList.at fun o e => hk _ o e⟩
end
end Lz

set_option Elab.async false
set_option linter.all false
set_option maxRecDepth 100000
set_option maxHeartbeats 4000000
/-! name = {k: v for ..} as a statement; its reading over a walk -/
namespace Sd
open PySem PySem.Spec PyProof.Rows L2
section
variable {X : Cx}
theorem ps_setDc {i : Nat} {y : Str} {py : Pos} {kx vx tg iter : Expr} {ifs : List Expr} {scope : Scope} {own : List (Str × Nat)} {pos spos : Pos} {wi : TI} {g : TG} {tt : TT} {tk tv : TE} (hc : X.calm = true) (hN : X.N.Nodup) (hy : X.N[i]? = some y) (hyl : X.env.scope.names.lookup y = some .local)
    (hsw : swapsWith (.DictComp kx vx [⟨tg, iter, ifs, 0⟩] scope pos) (some (.Name y py)) spos.line X.env = pure true) (hi : PI X tg iter wi) (ok : BlkOk X.N X.env.scope scope own)
    (hg : ∀ (s : Shared) (H : Hp) (C : Addr) (cl : List (Str × Addr)) (fp : List Addr), PG (X.blk s H scope (compEnvC scope cl C X.env) fp) tg g) (ht : ∀ (s : Shared) (H : Hp) (C : Addr) (cl : List (Str × Addr)) (fp : List Addr), PTs (X.blk s H scope (compEnvC scope cl C X.env) fp) ifs tt)
    (hk : ∀ (s : Shared) (H : Hp) (C : Addr) (cl : List (Str × Addr)) (fp : List Addr), PE (X.blk s H scope (compEnvC scope cl C X.env) fp) kx tk) (he : ∀ (s : Shared) (H : Hp) (C : Addr) (cl : List (Str × Addr)) (fp : List Addr), PE (X.blk s H scope (compEnvC scope cl C X.env) fp) vx tv)
    (hs : ∀ x, foldedSetIterable iter X.env x = pure x := by intro _; rfl) : PS X (.Assign [.Name y py] (.DictComp kx vx [⟨tg, iter, ifs, 0⟩] scope pos) spos) (tAsg (tDc wi g tt tk tv (own.map (·.2))) (gName i)) := by
  refine ⟨fun pins s σ H D I h => ?_⟩
  rw [exec_Assign_Name_used _ _ _ _ hsw]; refine wpAny_bind (wpAny_standAt (wpAny_bind ?_))
  show wpAny _ X.A (do let _ ← comprehension (.DictComp kx vx [⟨tg, iter, ifs, 0⟩] scope pos) scope X.env (firstIterPos [⟨tg, iter, ifs, 0⟩] pos) newDict false (eval iter X.env) (some (assign (.Name y py) X.env))) _ _ s
  have h : tDc wi g tt tk tv (own.map (·.2)) σ H (fun x H1 => gName i x σ H1 D.nx) := h
  refine wpAny_bind (thn (dc_core (Qf := fun _ s' => SP X pins D .next s') hc hN I hi ok hg ht hk he hs h fun L C s' m H' I' q hn f => ?_) fun _ s' hq => wpAny_pure (wpAny_pure hq))
  (show wpAny _ _ (assign (.Name y py) X.env (.ref L)) _ _ _); refine wpAny_assign_Name (store_ok2 (v := V.ref L) I' hN hy (.inl hyl) rfl (fun s2 I2 ⟨a, sb, ha⟩ => ?_) (.inr hyl))
  obtain ⟨f0, f1, f2, f3, f4, f5⟩ := f
  have hne : C ≠ a := ha.elim (fun z => by rw [z]; exact f1) fun z e => f4 y a z e.symm
  exact ⟨m, hn.sameBut sb hne, fun h3 sb3 => ⟨_, H', I2.turned (t' := s2.toks) (fun b o hb e => (sb3.2 b hb).trans e) f0 f1 f3 f4 f5, q⟩⟩
theorem sw_trueD {kx vx : Expr} {gs : List Comprehension} {scope : Scope} {pos py : Pos} {y : Str} {l : Nat} {env : Env} (hk : env.scope.kind = .function) (hy : env.scope.names.lookup y = some .local) (hl : (py.line == pos.line) = true)
    (ha : (scope.names.any fun (n, k) => n == y && (k == .local || k == .cell)) = false) : swapsWith (.DictComp kx vx gs scope pos) (some (.Name y py)) l env = pure true := by
  have ky : env.kindOf y = some .local := hy
  have hb : env.blockKind = .function := by unfold Env.blockKind; rw [hk]; rfl
  unfold swapsWith
  simp only [hb, ky, ha, Expr.pos, hl]; rfl
end
/-- over anything that is walked -/
theorem dc_it {J : It} {n : Nat} {G : Hp → Prop} {Y : Nat → Hp → V → Hp → Prop} (w : Walk J n G Y) {g : TG} {tt : TT} {tk tv : TE} {vs : List Nat} {σ : L2.St} {H1 : Hp} {D : Addr} {Qd : Hp → Prop} (Pv : Nat → Hp → Prop) (h0 : Pv 0 (upd H1 D (.dK []))) (hG : ∀ i H, i ≤ n → Pv i H → G H)
    (hs : ∀ i x H H', i < n → Pv i H → Y i H x H' → g x (wipe σ vs) H' fun σ2 H2 => wipe σ2 vs = wipe σ vs ∧ tt σ2 H2 fun b H3 =>
      if b = true then tk σ2 H3 fun y H4 => tv σ2 H4 fun z H5 => ∃ kvs k, y = kV k ∧ H5 D = some (.dK kvs) ∧ kvs.length < sizeLine ∧ Pv (i + 1) (upd H5 D (.dK (putK kvs k z))) else Pv (i + 1) H3) (hd : ∀ H, Pv n H → Qd H) :
    ∃ W : Nat → Nat → Hp → Prop, (∃ m, W 0 m (upd H1 D (.dK []))) ∧ ∀ i m H, W i m H →
      (J.stop i H ∧ Qd H) ∨ (J.go i H ∧ ∃ Nx : Hp → Prop, (∀ H', Nx H' → ∃ m', m' < m ∧ W (i + 1) m' H') ∧ ∀ x H', J.yld i H x H' → g x (wipe σ vs) H' fun σ2 H2 => wipe σ2 vs = wipe σ vs ∧ tt σ2 H2 fun b H3 =>
        if b = true then tk σ2 H3 fun y H4 => tv σ2 H4 fun z H5 => ∃ kvs k, y = kV k ∧ H5 D = some (.dK kvs) ∧ kvs.length < sizeLine ∧ Nx (upd H5 D (.dK (putK kvs k z))) else Nx H3) := by
  refine ⟨fun i m H => m = n - i ∧ i ≤ n ∧ Pv i H, ⟨n, (Nat.sub_zero n).symm, Nat.zero_le _, h0⟩, ?_⟩
  rintro i m H ⟨rfl, hi, p⟩
  rcases Nat.lt_or_ge i n with lt | ge
  · exact .inr ⟨w.goes i H lt (hG i H hi p), Pv (i + 1), fun H' p' => ⟨n - (i + 1), by omega, rfl, lt, p'⟩, fun x H' y => hs i x H H' lt p (w.yields i H x H' lt (hG i H hi p) y)⟩
  · have e : i = n := by omega
    subst e
    exact .inl ⟨w.stops H (hG i H hi p), hd H p⟩
end Sd

set_option Elab.async false
set_option linter.all false
set_option maxRecDepth 100000
set_option maxHeartbeats 4000000
/-! data as the program's equal goes through it -/
namespace Dq
open PySem PySem.Spec PyProof.Rows L2
inductive DV (OB : Type) where
  | non
  | bl (b : Bool)
  | int (i : Int)
  | str (s : Str)
  | ob (o : OB)
  | tup (l : List (DV OB))
  | lst (l : List (DV OB))
  | map (ks : List Str) (l : List (DV OB))
/-- objects with an own ==: where one stands, its class, what == answers of two of one class -/
structure Obs (OB : Type) where
  At : Hp → OB → V → Prop
  cls : OB → Addr
  eq : OB → OB → Bool
  K : PySem.W.Frag
variable {OB : Type}
mutual
def Dv (O : Obs OB) (H : Hp) : DV OB → V → Prop
  | .non, v => v = .non
  | .bl b, v => v = .bl b
  | .int i, v => v = .int i
  | .str s, v => v = .str s
  | .ob o, v => O.At H o v
  | .tup l, v => ∃ a us, v = .ref a ∧ SqT O.K H a us ∧ DvL O H l us
  | .lst l, v => ∃ a us, v = .ref a ∧ H a = some (.lst us) ∧ DvL O H l us
  | .map ks l, v => ∃ a kvs, v = .ref a ∧ H a = some (.dK kvs) ∧ ks.Nodup ∧ kvs.map (·.1) = ks.map Sum.inr ∧ DvL O H l (kvs.map (·.2))
def DvL (O : Obs OB) (H : Hp) : List (DV OB) → List V → Prop
  | [], us => us = []
  | x :: l, us => ∃ u us', us = u :: us' ∧ Dv O H x u ∧ DvL O H l us'
end
/-- what is kept at the key -/
def look : List Str → List (DV OB) → Str → Option (DV OB)
  | k :: ks, x :: l, z => if z = k then some x else look ks l z
  | _, _, _ => none
mutual
def eqD (O : Obs OB) : DV OB → DV OB → Bool
  | .non, .non => true
  | .bl a, .bl b => decide (a = b)
  | .int a, .int b => decide (a = b)
  | .str a, .str b => decide (a = b)
  | .ob a, .ob b => decide (O.cls a = O.cls b) && O.eq a b
  | .tup l, .tup m => eqL O l m
  | .lst l, .lst m => eqL O l m
  | .map ks l, .map js m => decide (ks.length = js.length) && eqM O ks l js m
  | _, _ => false
def eqL (O : Obs OB) : List (DV OB) → List (DV OB) → Bool
  | [], [] => true
  | x :: l, y :: m => eqD O x y && eqL O l m
  | _, _ => false
def eqM (O : Obs OB) (ks : List Str) : List (DV OB) → List Str → List (DV OB) → Bool
  | [], _, _ => true
  | x :: l, js, m => (match ks with | k :: _ => (match look js m k with | some y => eqD O x y | none => false) | [] => true) && eqM O (ks.drop 1) l js m
end
mutual
/-- how many pairs the way through a value can have at most -/
def wt : DV OB → Nat
  | .tup l => 1 + wtL l
  | .lst l => 1 + wtL l
  | .map ks l => 1 + ks.length + wtL l
  | _ => 1
def wtL : List (DV OB) → Nat
  | [] => 0
  | x :: l => wt x + wtL l
end
end Dq

set_option Elab.async false
set_option linter.all false
set_option maxRecDepth 100000
set_option maxHeartbeats 4000000
namespace Dq
open PySem PySem.Spec PyProof.Rows L2
structure ObsOk {OB : Type} (K : PySem.W.Frag) (O : Obs OB) : Prop where
  keep : ∀ {H H' : Hp} {o : OB} {v : V}, Same H H' → O.At H o v → O.At H' o v
  ins : ∀ {H : Hp} {o : OB} {v : V}, O.At H o v → ∃ a dx fs, v = .ref a ∧ H a = some (.ins (O.cls o) dx fs)
  insC : ∀ o, C8.InsC K (O.cls o)
  kT : ∀ o T, T ∈ ["list", "dict", "tuple"] → PySem.W.kitOne K (.ref (O.cls o)) (.type T) = some false
  makes : ∀ o, PySem.W.makesIn K (O.cls o) = true
  kk : O.K = K
/-- a tuple that is read stays -/
theorem SqT.same {K : PySem.W.Frag} {H H' : Hp} {a : Addr} {xs : List V} (h : SqT K H a xs) (e : Same H H') : SqT K H' a xs :=
  h.elim (fun h => .inl (h.elim (fun h => .inl (e _ _ h)) fun ⟨o, h⟩ => .inr ⟨o, e _ _ h⟩)) fun h => .inr h
theorem SqT.tyx {K : PySem.W.Frag} {H : Hp} {a : Addr} {xs : List V} (h : SqT K H a xs) : TyX K H (.ref a) (.type "tuple") := by
  rcases h with (h | ⟨o, h⟩) | ⟨o, its, n, hk, hc, _⟩
  · exact .base (.tup h)
  · exact .fTuple h
  · exact .kTuple hk hc
variable {OB : Type} {O : Obs OB} {K : PySem.W.Frag}
mutual
theorem Dv.keep (ok : ObsOk K O) {H H' : Hp} (k : Same H H') : ∀ (x : DV OB) (v : V), Dv O H x v → Dv O H' x v
  | .non, _, h => h
  | .bl _, _, h => h
  | .int _, _, h => h
  | .str _, _, h => h
  | .ob _, _, h => ok.keep k h
  | .tup l, _, ⟨a, us, e, h, p⟩ => ⟨a, us, e, SqT.same h k, DvL.keep ok k l us p⟩
  | .lst l, _, ⟨a, us, e, h, p⟩ => ⟨a, us, e, k _ _ h, DvL.keep ok k l us p⟩
  | .map _ l, _, ⟨a, kvs, e, h, nd, hk, p⟩ => ⟨a, kvs, e, k _ _ h, nd, hk, DvL.keep ok k l _ p⟩
theorem DvL.keep (ok : ObsOk K O) {H H' : Hp} (k : Same H H') : ∀ (l : List (DV OB)) (us : List V), DvL O H l us → DvL O H' l us
  | [], _, h => h
  | x :: l, _, ⟨u, us, e, h, p⟩ => ⟨u, us, e, Dv.keep ok k x u h, DvL.keep ok k l us p⟩
end
theorem DvL.len {H : Hp} : ∀ {l : List (DV OB)} {us : List V}, DvL O H l us → us.length = l.length
  | [], _, h => by cases h; rfl
  | x :: l, _, ⟨u, us, e, _, p⟩ => by subst e; exact congrArg (· + 1) (DvL.len p)
theorem DvL.at {H : Hp} : ∀ {l : List (DV OB)} {us : List V}, DvL O H l us → ∀ {i : Nat} {x : DV OB} {u : V}, l[i]? = some x → us[i]? = some u → Dv O H x u
  | [], _, h, i, x, u, e, _ => by cases e
  | y :: l, _, ⟨w, us, rfl, h, p⟩, 0, x, u, e, f => by cases e; cases f; exact h
  | y :: l, _, ⟨w, us, rfl, h, p⟩, i + 1, x, u, e, f => DvL.at (l := l) p (i := i) (by simpa using e) (by simpa using f)
/-- a value's class -/
def tyD (O : Obs OB) : DV OB → V
  | .non => .ty "NoneType"
  | .bl _ => .ty "bool"
  | .int _ => .ty "int"
  | .str _ => .ty "str"
  | .ob o => .ref (O.cls o)
  | .tup _ => .ty "tuple"
  | .lst _ => .ty "list"
  | .map _ _ => .ty "dict"
def tyU (O : Obs OB) : DV OB → Value
  | .non => .type "NoneType"
  | .bl _ => .type "bool"
  | .int _ => .type "int"
  | .str _ => .type "str"
  | .ob o => .ref (O.cls o)
  | .tup _ => .type "tuple"
  | .lst _ => .type "list"
  | .map _ _ => .type "dict"
def isSeq : DV OB → Bool
  | .tup _ => true
  | .lst _ => true
  | _ => false
def isMap : DV OB → Bool
  | .map _ _ => true
  | _ => false
theorem Dv.ty (ok : ObsOk K O) {H : Hp} {x : DV OB} {v : V} (h : Dv O H x v) : TyX K H v (tyU O x) := by
  cases x with
  | non => cases h; exact .base .non
  | bl b => cases h; exact .base (.bl b)
  | int i => cases h; exact .base (.int i)
  | str s => cases h; exact .base (.str s)
  | ob o =>
    obtain ⟨a, dx, fs, rfl, e⟩ := ok.ins h
    have U := ok.insC o
    exact .base (.ins e U.cl U.ha U.hn U.htk U.hm)
  | tup l => obtain ⟨a, us, rfl, e, _⟩ := h; exact SqT.tyx (ok.kk ▸ e)
  | lst l => obtain ⟨a, us, rfl, e, _⟩ := h; exact .base (.lst e)
  | map ks l => obtain ⟨a, us, rfl, e, _⟩ := h; exact .base (.dK e)
theorem kit_tab2 : ∀ a ∈ ["NoneType", "bool", "int", "str", "tuple", "list", "dict"], ∀ T ∈ ["list", "dict", "tuple"], kitB a T = some (a == T) := by decide +kernel
theorem kit_one (ok : ObsOk K O) (x : DV OB) {T : String} (hT : T ∈ ["list", "dict", "tuple"]) : PySem.W.kitOne K (tyU O x) (.type T) = some (decide (tyD O x = .ty T)) := by
  have go : ∀ a, a ∈ ["NoneType", "bool", "int", "str", "tuple", "list", "dict"] → PySem.W.kitOne K (.type a) (.type T) = some (decide (V.ty a = V.ty T)) := fun a ha => by
    have e : (a == T) = decide (V.ty a = V.ty T) := by rw [Bool.eq_iff_iff]; simp
    rw [← e]
    exact kit_ty (kit_tab2 a ha T hT)
  cases x with
  | ob o => simpa [tyU, tyD] using ok.kT o T hT
  | _ => exact go _ (by simp)
theorem kit_seq (ok : ObsOk K O) (x : DV OB) : PySem.W.kitAny K (tyU O x) [.type "tuple", .type "list"] = some (isSeq x) := by
  unfold PySem.W.kitAny
  rw [kit_one ok x (by simp)]
  unfold PySem.W.kitAny
  rw [kit_one ok x (by simp)]
  cases x <;> simp [tyD, isSeq, PySem.W.kitAny]
section
variable {X : Cx}
theorem call_isTL (ok : ObsOk X.K O) : CallR X (.builtin "isinstance") (fun xs H Q => ∃ v tp x, xs = [v, .ref tp] ∧ H tp = some (.tup [.ty "tuple", .ty "list"]) ∧ Dv O H x v ∧ Q (.bl (isSeq x)) H) := fun pins s σ H xs us Q I r ⟨v, tp, x, e, ht, h, q⟩ =>
  call_isiT pins s σ H xs us Q I r ⟨v, tp, _, tyU O x, [.type "tuple", .type "list"], isSeq x, e, ht, .cons (.ty _) (.cons (.ty _) .nil), h.ty ok, kit_seq ok x, q⟩
theorem call_isD (ok : ObsOk X.K O) : CallR X (.builtin "isinstance") (fun xs H Q => ∃ v x, xs = [v, .ty "dict"] ∧ Dv O H x v ∧ Q (.bl (isMap x)) H) := fun pins s σ H xs us Q I r ⟨v, x, e, h, q⟩ => by
  have : decide (tyD O x = .ty "dict") = isMap x := by cases x <;> simp [tyD, isMap]
  exact call_isi pins s σ H xs us Q I r ⟨v, .ty "dict", tyU O x, .type "dict", isMap x, e, .ty "dict", h.ty ok, by rw [← this]; exact kit_one ok x (by simp), q⟩
/-- type(x) -/
theorem call_tyD (ok : ObsOk X.K O) : CallR X (.type "type") (fun xs H Q => ∃ v x, xs = [v] ∧ Dv O H x v ∧ Q (tyD O x) H) := fun pins s σ H xs us Q I r ⟨v, x, e, h, q⟩ => by
  have go : ∀ T, TyB X.K H v T → tyD O x = .ty T → wpAny (model X.prog X.w) X.A (call (.type "type") us) (EP X pins σ Q) X.xe s := fun T t e2 => by
    rw [e2] at q
    exact call_type1 pins s σ H xs us Q I r ⟨v, T, e, t, q⟩
  cases x with
  | non => cases h; exact go _ .non rfl
  | bl b => cases h; exact go _ (.bl b) rfl
  | int i => cases h; exact go _ (.int i) rfl
  | str s => cases h; exact go _ (.str s) rfl
  | ob o =>
    obtain ⟨a, dx, fs, e3, ea⟩ := ok.ins h
    subst e3
    exact cr_type pins s σ H xs us Q I r ⟨a, _, dx, fs, e, ea, q⟩
  | tup l => obtain ⟨a, us, rfl, ea, _⟩ := h; exact go _ (.tup (ok.kk ▸ ea)) rfl
  | lst l => obtain ⟨a, us, rfl, ea, _⟩ := h; exact go _ (.lst (SqL.of ea)) rfl
  | map ks l => obtain ⟨a, us, rfl, ea, _⟩ := h; exact go _ (.dK ea) rfl
/-- of two classes: is -/
theorem op_isD (ok : ObsOk X.K O) : OpR X (compareOp .Is) (fun a b H Q => ∃ x y : DV OB, a = tyD O x ∧ b = tyD O y ∧ Q (.bl (decide (tyD O x = tyD O y))) H) := by
  intro pins s σ H a b v u Q I rx ry h
  obtain ⟨x, y, ea, eb, q⟩ := h
  have cl : ∀ z : DV OB, (∃ T, tyD O z = .ty T) ∨ ∃ o, tyD O z = .ref (O.cls o) := fun z => by
    cases z with
    | ob o => exact .inr ⟨o, rfl⟩
    | _ => exact .inl ⟨_, rfl⟩
  rcases cl x with ⟨T, e1⟩ | ⟨o, e1⟩ <;> rcases cl y with ⟨T', e2⟩ | ⟨o', e2⟩
  · rw [e1, e2] at q
    refine op_isTyB pins s σ H a b v u Q I rx ry ⟨T, T', ea.trans e1, eb.trans e2, ?_⟩
    have : decide (V.ty T = V.ty T') = decide (T = T') := by rw [Bool.eq_iff_iff]; simp
    rwa [this] at q
  · rw [e1, e2] at q
    have e3 := ea.trans e1
    have e4 := eb.trans e2
    subst e3 e4
    cases (show v = Value.type T from rx)
    cases (show u = Value.ref _ from ry)
    exact wpAny_is_other rfl (fun z => by cases z) ⟨.bl false, H, I, rfl, by simpa using q⟩
  · rw [e1, e2] at q
    have e3 := ea.trans e1
    have e4 := eb.trans e2
    subst e3 e4
    cases (show v = Value.ref _ from rx)
    cases (show u = Value.type T' from ry)
    exact wpAny_is_other rfl (fun z => by cases z) ⟨.bl false, H, I, rfl, by simpa using q⟩
  · rw [e1, e2] at q
    refine op_is_cls pins s σ H a b v u Q I rx ry ⟨_, _, ea.trans e1, eb.trans e2, .inr ⟨ok.makes o, ok.makes o'⟩, ?_⟩
    have : decide (V.ref (O.cls o) = V.ref (O.cls o')) = decide (O.cls o = O.cls o') := by rw [Bool.eq_iff_iff]; simp
    rwa [this] at q
/-- x == y of two objects of one class -/
def rOb (O : Obs OB) : R2 := fun x y H Q => ∃ a b, O.At H a x ∧ O.At H b y ∧ O.cls a = O.cls b ∧ ∀ H', Same H H' → Q (.bl (O.eq a b)) H'
/-- == of what is neither a tuple, a list nor a dict -/
theorem op_leaf (hu : X.A.units + 64 < cLine) (oe : OpR X (compareOp .Eq) (rOb O)) : OpR X (compareOp .Eq) (fun a b H Q => ∃ x y : DV OB, Dv O H x a ∧ Dv O H y b ∧ tyD O x = tyD O y ∧ isSeq x = false ∧ isMap x = false ∧ ∀ H', Same H H' → Q (.bl (eqD O x y)) H') := by
  intro pins s σ H a b v u Q I rx ry h
  obtain ⟨x, y, hx, hy, et, q1, q2, q⟩ := h
  have sca : ∀ a0 b0 : V, a = a0 → b = b0 → scal a0 b0 = true → decide (a0 = b0) = eqD O x y → wpAny (model X.prog X.w) X.A (compareOp .Eq v u) (EP X pins σ Q) X.xe s := fun a0 b0 e1 e2 sd e3 => by
    subst e1 e2
    refine op_eq pins s σ H a b v u Q I rx ry ⟨sd, ?_⟩
    rw [e3]
    exact q H (Same.refl H)
  cases x with
  | non =>
    cases y <;> simp [tyD] at et
    have q0 := q H (Same.refl H)
    rw [eqD] at q0
    exact op_eqD hu pins s σ H a b v u Q I rx ry ⟨.none, .none, by rw [show a = .non from hx]; exact .non, by rw [show b = .non from hy]; exact .non, rfl, rfl, q0⟩
  | bl c =>
    cases y <;> simp [tyD] at et
    rename_i d
    exact sca (.bl c) (.bl d) hx hy rfl (by simp [eqD])
  | int c =>
    cases y <;> simp [tyD] at et
    rename_i d
    exact sca (.int c) (.int d) hx hy rfl (by simp [eqD])
  | str c =>
    cases y <;> simp [tyD] at et
    rename_i d
    exact sca (.str c) (.str d) hx hy rfl (by simp [eqD])
  | ob o =>
    cases y <;> simp [tyD] at et
    rename_i o'
    have e : eqD O (.ob o) (.ob o') = O.eq o o' := by rw [eqD, decide_eq_true et]; rfl
    rw [e] at q
    exact oe pins s σ H a b v u Q I rx ry ⟨o, o', hx, hy, et, q⟩
  | tup l => cases q1
  | lst l => cases q1
  | map ks l => cases q2
end
end Dq

set_option Elab.async false
set_option linter.all false
set_option maxRecDepth 100000
set_option maxHeartbeats 4000000
namespace Dq
open PySem PySem.Spec PyProof.Rows L2
abbrev sPod : Stmt := Pf.top 2
/-- what two dicts are held against each other by -/
def podP : List (Key × V) → List (Key × V) → List (V × V)
  | [], _ => []
  | p :: ks, ls => (kV p.1, kV p.1) :: (p.2, (valV ls p.1).getD .non) :: podP ks ls
theorem podP_len : ∀ ks ls, (podP ks ls).length = 2 * ks.length
  | [], _ => rfl
  | _ :: ks, ls => by
    show (podP ks ls).length + 1 + 1 = 2 * (ks.length + 1)
    rw [podP_len ks ls]
    omega
theorem podP_snoc (p : Key × V) : ∀ ks ls, podP (ks ++ [p]) ls = podP ks ls ++ [(kV p.1, kV p.1), (p.2, (valV ls p.1).getD .non)]
  | [], _ => rfl
  | q :: ks, ls => by
    show _ :: _ :: podP (ks ++ [p]) ls = _
    rw [podP_snoc p ks ls]
    rfl
/-- the pairs stand in the list at D -/
def PrsAt (H : Hp) (D : Addr) (ps : List (V × V)) : Prop := ∃ ts : List Addr, H D = some (.lst (ts.map V.ref)) ∧ ts.length = ps.length ∧ ∀ (j : Nat) (t : Addr) (p : V × V), ts[j]? = some t → ps[j]? = some p → H t = some (.tup [p.1, p.2])
def spPod : Sp := fun vs H Q _ => ∃ (a b : Addr) (ks ls : List (Key × V)), vs = [.ref a, .ref b] ∧ H a = some (.dK ks) ∧ H b = some (.dK ls) ∧ (ks.map (·.1)).Nodup ∧ ks.length ≤ 100000 ∧ ls.length ≤ 100000 ∧
  ((ks.length ≠ ls.length ∨ ∃ p ∈ ks, valV ls p.1 = none) → ∀ H', Same H H' → Q .non H') ∧
  (ks.length = ls.length → (∀ p ∈ ks, valV ls p.1 ≠ none) → ∀ D H', Same H H' → H D = none → PrsAt H' D (podP ks ls) → Q (.ref D) H')
abbrev NPod : List Str := ["one", "other", "theirs", "pairs", "key"]
theorem scPod : FnScope NPod ["one", "other"] (defScope sPod) := ⟨rfl, rfl, rfl, by decide +kernel, rfl, by decide +kernel, by decide +kernel⟩
theorem find_at : ∀ {ks : List (Key × V)} {i : Nat} {k : Key} {v : V}, (ks.map (·.1)).Nodup → ks[i]? = some (k, v) → valV ks k = some v
  | [], _, _, _, _, h => by simp at h
  | p :: ks, 0, k, v, _, h => by
    simp only [List.getElem?_cons_zero, Option.some.injEq] at h
    subst h
    exact valV_pos rfl
  | p :: ks, i + 1, k, v, nd, h => by
    have h' : ks[i]? = some (k, v) := by simpa using h
    have nd' := List.nodup_cons.mp nd
    rw [valV_neg fun e => nd'.1 (by show p.1 ∈ _; rw [e]; exact List.mem_map.mpr ⟨(k, v), List.mem_of_getElem? h', rfl⟩)]
    exact find_at nd'.2 h'
theorem take_succ' {α : Type} {l : List α} {i : Nat} {x : α} (h : l[i]? = some x) : l.take (i + 1) = l.take i ++ [x] := by
  rw [List.take_add_one, h]
  rfl
structure TxtE (mg : Str → Option Value) : Prop where
  len : mg "len" = none
  list : mg "list" = none
  zip : mg "zip" = none
  type : mg "type" = none
  tuple : mg "tuple" = none
  dict : mg "dict" = none
  isi : mg "isinstance" = none
section
variable {P : Program} {w : World} {K : PySem.W.Frag} {mg : Str → Option Value} {base : Heap}
theorem ok_pod {f : Addr} {fd : FuncData} (F : Fun K "_pairs_of_dicts" "_pairs_of_dicts" sPod f fd) (T : TxtE mg) : FnOk P w K mg base CX0 1 f fd ["one", "other"] spPod := by
  refine F.ok scPod (fun vs H Q E h => ?_) (fun cdv A outer s H vs Q E hr h => ?_)
  · obtain ⟨a, b, ks, ls, rfl, _⟩ := h
    rfl
  · obtain ⟨a, b, ks, ls, rfl, ha, hb, nd, zk, zl, qn, qy⟩ := h
    have hu := hu_of hr
    refine ⟨_, (pss_cons (ps_if (pt_cmpR op_ne (pe_callB call_lenD (by rfl) T.len PySem.boot_len (pa_cons (pv 0) pa_nil)) (pe_callB call_lenD (by rfl) T.len PySem.boot_len (pa_cons (pv 1) pa_nil)) (nomark _)) (pss_one (ps_ret pe_non)) pss_nil)
      (pss_cons (ps_lock (Sd.ps_setDc (i := 2) (own := [("key", 4)]) (g := gName 4) (tt := tYes) rfl scPod.nd rfl rfl (Sd.sw_trueD rfl rfl rfl (by decide +kernel)) (pi_keys (pv 1)) (blkOk_by (N := NPod) (sc := defScope sPod) (by decide +kernel)) (fun _ _ _ _ _ => pg_name (i := 4) scPod.nd rfl (Or.inl rfl)) (fun _ _ _ _ _ => pts_nil) (fun _ _ _ _ _ => pv 4) (fun _ _ _ _ _ => pv 4)))
      (pss_cons (ps_set (i := 3) scPod.nd rfl (Or.inl rfl) (pe_lst pa_nil))
      (pss_cons (ps_lock (ps_for PassesOwn.never rfl (pi_keys (pv 0)) (pg_name (i := 4) scPod.nd rfl (Or.inl rfl))
        (pss_cons (ps_if (pt_cmp (pc_dnotin hu (pv 4) (pv 2))) (pss_one (ps_ret pe_non)) pss_nil)
        (pss_cons (ps_expr (pe_bm PySem.F.plainAttrs_list PySem.F.slot_list_append PySem.F.type_list_append mt_append (pv 3) (pa_cons (pe_tup (pa_cons (pv 4) (pa_cons (pe_dget hu (pv 2) (pv 4) (fun _ _ => rfl)) pa_nil))) pa_nil)))
        (pss_one (ps_expr (pe_bm PySem.F.plainAttrs_list PySem.F.slot_list_append PySem.F.type_list_append mt_append (pv 3) (pa_cons (pe_tup (pa_cons (pe_dget hu (pv 0) (pv 4) (fun _ _ => rfl)) (pa_cons (pe_dget hu (pv 1) (pv 4) (fun _ _ => rfl)) pa_nil))) pa_nil))))))))
      (pss_one (ps_ret (pv 3))))))), ?_⟩
    refine ⟨_, rfl, a, ks, rfl, ha, _, rfl, b, ls, rfl, hb, rfl, _, rfl, ?_⟩
    by_cases el : ks.length = ls.length
    case neg =>
      refine Vl.iteC (by simp; omega) ?_
      exact qn (.inl el) H (Same.refl H)
    refine Vl.iteN (by simp [el]) ?_
    refine ⟨b, .dK ls, hb, True.intro, fun ob => ⟨_, rfl, b, ob, rfl, .inl ⟨ls, upd_same, fun TH hTH => ?_⟩⟩⟩
    have nTb : TH ≠ b := fun e => by rw [e, upd_same] at hTH; cases hTH
    have hTH0 : H TH = none := by rwa [upd_ne nTb] at hTH
    refine Sd.dc_it (walk_keys (d := b) (o := ob) (kvs := ls)) (fun i H' => (H' b = some (.frz ob (.dK ls)) ∧ ∀ c o, c ≠ b → H c = some o → H' c = some o) ∧ ∃ ts, H' TH = some (.dK ts) ∧ ts.length ≤ i ∧ ∀ k, valV ts k = if valV (ls.take i) k = none then none else some (kV k))
      ⟨⟨(upd_ne (Ne.symm nTb)).trans upd_same, fun c o n e => (upd_ne (ne_of_none e hTH0)).trans ((upd_ne n).trans e)⟩, [], upd_same, Nat.le_refl _, fun k => by simp [valV]⟩ (fun i H' _ h => h.1.1) (fun i x H2 H3 hi h y => ?_) (fun H2 h => ?_)
    · obtain ⟨⟨e1, e2⟩, ts, e3, e4, e5⟩ := h
      obtain ⟨rfl, k, v, e6, rfl⟩ := y
      refine ⟨rfl, _, rfl, _, rfl, ts, k, rfl, e3, Nat.lt_of_le_of_lt (Nat.le_trans e4 (Nat.le_trans (Nat.le_of_lt hi) zl)) (by decide), ⟨(upd_ne (Ne.symm nTb)).trans e1, fun c o n e => (upd_ne (ne_of_none e hTH0)).trans (e2 c o n e)⟩, _, upd_same, Nat.le_trans (length_putK _ _ _) (by omega), fun k2 => ?_⟩
      rw [valV_put, e5, take_succ' e6]
      by_cases q : k2 = k
      · subst q
        have : valV (ls.take i ++ [(k2, v)]) k2 ≠ none := by
          unfold valV
          simp
        rw [if_pos rfl, if_neg this]
      · rw [if_neg q]
        have : valV (ls.take i ++ [(k, v)]) k2 = valV (ls.take i) k2 := by
          unfold valV
          rw [List.find?_append]
          have : List.find? (fun kv => decide (kv.1 = k2)) [(k, v)] = none := by simpa using fun e => q e.symm
          rw [this]
          simp
        rw [this]
    obtain ⟨⟨e1, e2⟩, ts, e3, e4, e5⟩ := h
    rw [List.take_length] at e5
    refine ⟨e1, Nat.zero_le _, fun D hD => ?_⟩
    have s1 : Same H (upd H2 b (.dK ls)) := fun c o e => by
      by_cases n : c = b
      · subst n
        rw [hb] at e
        cases e
        exact upd_same
      · exact (upd_ne n).trans (e2 c o n e)
    have t1 : (upd H2 b (.dK ls)) TH = some (.dK ts) := (upd_ne nTb).trans e3
    generalize (upd H2 b (.dK ls)) = H4 at s1 t1 hD
    have hD0 : H D = none := by
      cases e : H D with
      | none => rfl
      | some o => rw [s1 D o e] at hD; cases hD
    have nDa : D ≠ a := fun e => by rw [e, ha] at hD0; cases hD0
    have nDT : D ≠ TH := fun e => by rw [e, t1] at hD; cases hD
    have nTa : TH ≠ a := fun e => by rw [e, ha] at hTH0; cases hTH0
    have a5 : upd H4 D (.lst []) a = some (.dK ks) := (upd_ne (Ne.symm nDa)).trans (s1 _ _ ha)
    refine ⟨a, .dK ks, a5, True.intro, fun oa => ⟨_, rfl, a, oa, rfl, .inl ⟨ks, upd_same, ?_⟩⟩⟩
    refine for_it (walk_keys (d := a) (o := oa) (kvs := ks)) (fun i σ H' => (∃ w, σ = [some (.ref a), some (.ref b), some (.ref TH), some (.ref D), w]) ∧ (H' a = some (.frz oa (.dK ks)) ∧ ∀ c o, c ≠ a → H c = some o → H' c = some o) ∧ H' TH = some (.dK ts) ∧
        PrsAt H' D (podP (ks.take i) ls) ∧ ∀ p ∈ ks.take i, valV ls p.1 ≠ none)
      ⟨⟨_, rfl⟩, ⟨upd_same, fun c o n e => (upd_ne n).trans ((upd_ne (ne_of_none e hD0)).trans (s1 _ _ e))⟩, (upd_ne nTa).trans ((upd_ne (Ne.symm nDT)).trans t1), ⟨[], (upd_ne nDa).trans upd_same, rfl, fun j t p h => by simp at h⟩, fun p h => by simp at h⟩ (fun i σ H' _ h => h.2.1.1) (fun i x σ H0 H' hi h y => ?_) (fun σ H' h => ?_)
    · obtain ⟨⟨w4, rfl⟩, ⟨f1, f2⟩, f3, ⟨tl, g1, g2, g3⟩, f4⟩ := h
      obtain ⟨rfl, k, v, e6, rfl⟩ := y
      have hTh : DGet H' TH (kV k) (valV ts k) := DGet.k f3
      refine ⟨_, rfl, _, rfl, TH, _, rfl, hTh, _, rfl, ?_⟩
      have es : valV ts k = if valV ls k = none then none else some (kV k) := e5 k
      by_cases no : valV ls k = none
      · rw [if_pos no] at es
        rw [es]
        refine Vl.iteC rfl ⟨f1, ?_⟩
        refine qn (.inr ⟨(k, v), List.mem_of_getElem? e6, no⟩) _ fun c o e => ?_
        by_cases n : c = a
        · subst n
          rw [ha] at e
          cases e
          exact upd_same
        · exact (upd_ne n).trans (f2 c o n e)
      · rw [if_neg no] at es
        rw [es]
        refine Vl.iteN rfl ?_
        obtain ⟨v2, ev2⟩ : ∃ v2, valV ls k = some v2 := by
          cases e : valV ls k with
          | none => exact absurd e no
          | some v2 => exact ⟨v2, rfl⟩
        have nDt : ∀ t o, H' t = some o → (∀ xs, o ≠ .lst xs) → t ≠ D := fun t o e n q => by
          rw [q, g1] at e
          cases e
          exact n _ rfl
        have l2 : tl.length ≤ 200000 := by
          rw [g2, podP_len]
          have := List.length_take_le i ks
          omega
        refine ⟨_, rfl, .inl ⟨rfl, _, SqL.of g1⟩, _, rfl, _, rfl, _, rfl, TH, kV k, rfl, es ▸ hTh, by show 2 ≤ sizeLine; decide, fun t1 ht1 => ?_⟩
        have n1D : t1 ≠ D := fun e => by rw [e, g1] at ht1; cases ht1
        have n1a : t1 ≠ a := fun e => by rw [e, f1] at ht1; cases ht1
        have n1T : t1 ≠ TH := fun e => by rw [e, f3] at ht1; cases ht1
        have g1' : upd H' t1 (.tup [kV k, kV k]) D = some (.lst (tl.map V.ref)) := (upd_ne (Ne.symm n1D)).trans g1
        refine ⟨D, _, _, rfl, rfl, g1', by rw [List.length_map]; exact Nat.lt_of_le_of_lt l2 (by decide), ?_⟩
        generalize hH5 : upd (upd H' t1 (.tup [kV k, kV k])) D (.lst (tl.map V.ref ++ [.ref t1])) = H5
        have k5 : ∀ c o, c ≠ D → H' c = some o → H5 c = some o := fun c o n e => by rw [← hH5, upd_ne n, upd_ne (ne_of_none e ht1)]; exact e
        have d5 : H5 D = some (.lst (tl.map V.ref ++ [.ref t1])) := by rw [← hH5]; exact upd_same
        have t5 : H5 t1 = some (.tup [kV k, kV k]) := by rw [← hH5, upd_ne n1D]; exact upd_same
        clear hH5
        refine ⟨_, rfl, .inl ⟨rfl, _, SqL.of d5⟩, _, rfl, _, rfl, a, v, rfl, .inl ⟨ks, k, .inr ⟨oa, k5 _ _ (Ne.symm nDa) f1⟩, rfl, (find_at nd e6).symm⟩, _, rfl, _, rfl, b, v2, rfl, .inl ⟨ls, k, ?_, rfl, ev2.symm⟩, by show 2 ≤ sizeLine; decide, fun t2 ht2 => ?_⟩
        · by_cases n : b = a
          · subst n
            rw [ha] at hb
            cases hb
            exact .inr ⟨oa, k5 _ _ (Ne.symm nDa) f1⟩
          · have hbD : b ≠ D := fun e => by rw [← e, hb] at hD0; cases hD0
            exact .inl (k5 _ _ hbD (f2 b _ n hb))
        have n2D : t2 ≠ D := fun e => by rw [e, d5] at ht2; cases ht2
        refine ⟨D, _, _, rfl, rfl, (upd_ne (Ne.symm n2D)).trans d5, by rw [List.length_append, List.length_map]; exact Nat.lt_of_le_of_lt (show tl.length + 1 ≤ 200001 by omega) (by decide), ?_⟩
        have k6 : ∀ c o, c ≠ D → H5 c = some o → upd (upd H5 t2 (.tup [v, v2])) D (.lst (tl.map V.ref ++ [.ref t1] ++ [.ref t2])) c = some o := fun c o n e => by rw [upd_ne n, upd_ne (ne_of_none e ht2)]; exact e
        have ea : a ≠ D := Ne.symm nDa
        refine ⟨⟨_, rfl⟩, ⟨k6 _ _ ea (k5 _ _ ea f1), fun c o n e => ?_⟩, k6 _ _ (Ne.symm nDT) (k5 _ _ (Ne.symm nDT) f3), ?_, ?_⟩
        · have nD : c ≠ D := fun q => by rw [q, hD0] at e; cases e
          exact k6 c o nD (k5 c o nD (f2 c o n e))
        · refine ⟨tl ++ [t1, t2], by rw [upd_same]; simp, ?_, fun j t p ej ep => ?_⟩
          · rw [take_succ' e6, podP_snoc, List.length_append, List.length_append, g2]
            rfl
          · rw [take_succ' e6, podP_snoc] at ep
            by_cases lt : j < tl.length
            · rw [List.getElem?_append_left lt] at ej
              rw [List.getElem?_append_left (by omega)] at ep
              have := g3 j t p ej ep
              have nD := nDt t _ this fun xs z => by cases z
              exact k6 t _ nD (k5 t _ nD this)
            · rw [List.getElem?_append_right (by omega)] at ej
              rw [List.getElem?_append_right (by omega), ← g2] at ep
              generalize j - tl.length = m at ej ep
              match m with
              | 0 =>
                simp at ej ep
                subst ej ep
                exact k6 _ _ n1D t5
              | 1 =>
                simp at ej ep
                subst ej ep
                rw [upd_ne n2D, upd_same, ev2]
                rfl
              | n + 2 => simp at ej
        · intro p hp
          rw [take_succ' e6] at hp
          rcases List.mem_append.mp hp with hp | hp
          · exact f4 p hp
          · rw [List.mem_singleton.mp hp]
            exact no
    · obtain ⟨⟨w4, rfl⟩, ⟨f1, f2⟩, f3, pr, f4⟩ := h
      rw [List.take_length] at pr f4
      refine ⟨f1, _, rfl, ?_⟩
      refine qy el f4 D _ (fun c o e => ?_) hD0 ?_
      · by_cases n : c = a
        · subst n
          rw [ha] at e
          cases e
          exact upd_same
        · exact (upd_ne n).trans (f2 c o n e)
      · obtain ⟨tl, g1, g2, g3⟩ := pr
        refine ⟨tl, (upd_ne nDa).trans g1, g2, fun j t p ej ep => ?_⟩
        have := g3 j t p ej ep
        rw [upd_ne fun q => by rw [q, f1] at this; cases this]
        exact this
end
end Dq

set_option Elab.async false
set_option linter.all false
set_option maxRecDepth 100000
set_option maxHeartbeats 4000000
/-! the mathematics of equal -/
namespace Dq
open PySem PySem.Spec PyProof.Rows L2
variable {OB : Type} {O : Obs OB} {K : PySem.W.Frag}
def wts (ps : List (DV OB × DV OB)) : Nat := (ps.map fun p => wt p.1).sum
theorem wts_app (a b : List (DV OB × DV OB)) : wts (a ++ b) = wts a + wts b := by simp [wts]
theorem wt_pos (x : DV OB) : 1 ≤ wt x := by
  cases x <;> simp [wt] <;> omega
theorem wts_len : ∀ ps : List (DV OB × DV OB), ps.length ≤ wts ps
  | [] => Nat.le_refl _
  | p :: ps => by
    have := wts_len ps
    have := wt_pos p.1
    simp only [wts, List.map_cons, List.sum_cons, List.length_cons] at *
    omega
theorem wts_zip : ∀ (l m : List (DV OB)), l.length = m.length → wts (l.zip m) = wtL l
  | [], [], _ => rfl
  | x :: l, y :: m, h => by
    have := wts_zip l m (Nat.succ.inj h)
    simp only [wts, List.zip_cons_cons, List.map_cons, List.sum_cons, wtL] at *
    omega
  | [], _ :: _, h => by cases h
  | _ :: _, [], h => by cases h
theorem wtL_mem : ∀ {l : List (DV OB)} {x : DV OB}, x ∈ l → wt x ≤ wtL l
  | y :: l, x, h => by
    rw [wtL]
    rcases List.mem_cons.mp h with rfl | h
    · omega
    · have := wtL_mem h
      omega
theorem eqD_ty : ∀ (x y : DV OB), tyD O x ≠ tyD O y → eqD O x y = false := fun x y h => by
  cases x <;> cases y <;> simp [tyD, eqD] at h ⊢
  exact fun e => absurd e h
theorem eqL_len : ∀ (l m : List (DV OB)), l.length ≠ m.length → eqL O l m = false
  | [], [], h => absurd rfl h
  | [], _ :: _, _ => by simp [eqL]
  | _ :: _, [], _ => by simp [eqL]
  | x :: l, y :: m, h => by
    rw [eqL, eqL_len l m fun e => h (by simp [e]), Bool.and_false]
theorem eqL_zip : ∀ (l m : List (DV OB)), l.length = m.length → eqL O l m = (l.zip m).all fun p => eqD O p.1 p.2
  | [], [], _ => by simp [eqL]
  | x :: l, y :: m, h => by
    rw [eqL, eqL_zip l m (Nat.succ.inj h)]
    rfl
  | [], _ :: _, h => by cases h
  | _ :: _, [], h => by cases h
/-- the pairs of two maps -/
def pm (js : List Str) (m : List (DV OB)) : List Str → List (DV OB) → List (DV OB × DV OB)
  | k :: ks, x :: l => (.str k, .str k) :: (x, (look js m k).getD .non) :: pm js m ks l
  | _, _ => []
theorem pm_len (js : List Str) (m : List (DV OB)) : ∀ (ks : List Str) (l : List (DV OB)), ks.length = l.length → (pm js m ks l).length = 2 * ks.length
  | [], [], _ => rfl
  | k :: ks, x :: l, h => by
    have := pm_len js m ks l (Nat.succ.inj h)
    show (pm js m ks l).length + 1 + 1 = 2 * (ks.length + 1)
    omega
  | [], _ :: _, h => by cases h
  | _ :: _, [], h => by cases h
theorem pm_wts (js : List Str) (m : List (DV OB)) : ∀ (ks : List Str) (l : List (DV OB)), ks.length = l.length → wts (pm js m ks l) = ks.length + wtL l
  | [], [], _ => rfl
  | k :: ks, x :: l, h => by
    have := pm_wts js m ks l (Nat.succ.inj h)
    have e : wts (pm js m (k :: ks) (x :: l)) = 1 + (wt x + wts (pm js m ks l)) := by simp [pm, wts, wt]
    rw [e, wtL, List.length_cons]
    omega
  | [], _ :: _, h => by cases h
  | _ :: _, [], h => by cases h
theorem look_mem : ∀ {js : List Str} {m : List (DV OB)} {k : Str} {y : DV OB}, look js m k = some y → y ∈ m
  | j :: js, x :: m, k, y, h => by
    rw [look] at h
    split at h
    · cases h
      exact List.mem_cons_self
    · exact List.mem_cons_of_mem _ (look_mem h)
  | [], _, _, _, h => by simp [look] at h
  | _ :: _, [], _, _, h => by simp [look] at h
theorem pm_snd {N : Nat} (hN : 1 ≤ N) (js : List Str) (m : List (DV OB)) (hm : wtL m ≤ N) : ∀ (ks : List Str) (l : List (DV OB)), ∀ p ∈ pm js m ks l, wt p.2 ≤ N
  | [], _, p, h => by simp [pm] at h
  | _ :: _, [], p, h => by simp [pm] at h
  | k :: ks, x :: l, p, h => by
    rw [pm] at h
    rcases List.mem_cons.mp h with rfl | h
    · exact hN
    · rcases List.mem_cons.mp h with rfl | h
      · cases e : look js m k with
        | none => exact hN
        | some y => exact Nat.le_trans (wtL_mem (look_mem e)) hm
      · exact pm_snd hN js m hm ks l p h
theorem eqM_pm (js : List Str) (m : List (DV OB)) : ∀ (ks : List Str) (l : List (DV OB)), ks.length = l.length → (∀ k ∈ ks, look js m k ≠ none) → eqM O ks l js m = (pm js m ks l).all fun p => eqD O p.1 p.2
  | [], [], _, _ => by simp [eqM, pm]
  | k :: ks, x :: l, h, hk => by
    have ih := eqM_pm js m ks l (Nat.succ.inj h) fun k' h' => hk k' (List.mem_cons_of_mem _ h')
    cases e : look js m k with
    | none => exact absurd e (hk k List.mem_cons_self)
    | some y => simp [eqM, pm, e, ih, eqD]
  | [], _ :: _, h, _ => by cases h
  | _ :: _, [], h, _ => by cases h
theorem eqM_no (js : List Str) (m : List (DV OB)) : ∀ (ks : List Str) (l : List (DV OB)), ks.length = l.length → (∃ k ∈ ks, look js m k = none) → eqM O ks l js m = false
  | [], [], _, ⟨k, h, _⟩ => by cases h
  | k :: ks, x :: l, h, ⟨z, hz, e⟩ => by
    rcases List.mem_cons.mp hz with rfl | hz
    · simp [eqM, e]
    · have ih := eqM_no js m ks l (Nat.succ.inj h) ⟨z, hz, e⟩
      simp [eqM, ih]
  | [], _ :: _, h, _ => by cases h
  | _ :: _, [], h, _ => by cases h
theorem look_val {H : Hp} {k : Str} : ∀ {js : List Str} {m : List (DV OB)} {ls : List (Key × V)}, ls.map (·.1) = js.map Sum.inr → DvL O H m (ls.map (·.2)) → (look js m k = none ∧ valV ls (.inr k) = none) ∨ ∃ y v, look js m k = some y ∧ valV ls (.inr k) = some v ∧ Dv O H y v
  | [], m, [], _, _ => .inl ⟨by simp [look], rfl⟩
  | [], _, _ :: _, h, _ => by cases h
  | _ :: _, _, [], h, _ => by cases h
  | j :: js, [], q :: ls, _, h => by cases h
  | j :: js, x :: m, q :: ls, h, ⟨u, us, e, hu, hp⟩ => by
    simp only [List.map_cons, List.cons.injEq] at h e
    obtain ⟨h1, h2⟩ := h
    obtain ⟨e1, e2⟩ := e
    subst e1
    by_cases z : k = j
    · subst z
      exact .inr ⟨x, q.2, by simp [look], valV_pos h1, hu⟩
    · have nq : ¬ q.1 = Sum.inr k := fun e => z (by rw [h1] at e; exact (Sum.inr.inj e).symm)
      rw [look, if_neg z, valV_neg nq]
      exact look_val h2 (e2 ▸ hp)
theorem pm_at {H : Hp} {js : List Str} {m : List (DV OB)} {ls : List (Key × V)} (hj : ls.map (·.1) = js.map Sum.inr) (hm : DvL O H m (ls.map (·.2))) : ∀ {ks : List Str} {l : List (DV OB)} {kvs : List (Key × V)}, kvs.map (·.1) = ks.map Sum.inr → DvL O H l (kvs.map (·.2)) →
    ∀ (j : Nat) (p : DV OB × DV OB) (q : V × V), (pm js m ks l)[j]? = some p → (podP kvs ls)[j]? = some q → (∀ k ∈ ks, look js m k ≠ none) → Dv O H p.1 q.1 ∧ Dv O H p.2 q.2
  | [], _, _, _, _, j, p, q, h, _, _ => by simp [pm] at h
  | _ :: _, [], _, _, _, j, p, q, h, _, _ => by simp [pm] at h
  | _ :: _, _ :: _, [], h, _, _, _, _, _, _, _ => by cases h
  | k :: ks, x :: l, r :: kvs, h, ⟨u, us, e, hu, hp⟩, j, p, q, g1, g2, hk => by
    simp only [List.map_cons, List.cons.injEq] at h e
    obtain ⟨h1, h2⟩ := h
    obtain ⟨e1, e2⟩ := e
    subst e1
    rw [pm] at g1
    rw [podP] at g2
    match j with
    | 0 =>
      simp only [List.getElem?_cons_zero, Option.some.injEq] at g1 g2
      subst g1 g2
      have e : kV r.1 = V.str k := by
        show kV (r.1) = _
        rw [h1]
        rfl
      rw [e]
      exact ⟨rfl, rfl⟩
    | 1 =>
      simp only [List.getElem?_cons_succ, List.getElem?_cons_zero, Option.some.injEq] at g1 g2
      subst g1 g2
      refine ⟨hu, ?_⟩
      rcases look_val (k := k) hj hm with ⟨a, _⟩ | ⟨y, v, a, b, c⟩
      · exact absurd a (hk k List.mem_cons_self)
      · rw [show (r.1 : Key) = Sum.inr k from h1, a, b]
        exact c
    | j + 2 =>
      simp only [List.getElem?_cons_succ] at g1 g2
      exact pm_at hj hm h2 (e2 ▸ hp) j p q g1 g2 fun k' h' => hk k' (List.mem_cons_of_mem _ h')
/-- two rows of one sort -/
theorem seqs (ok : ObsOk K O) {H : Hp} {x y : DV OB} {v u : V} (hx : Dv O H x v) (hy : Dv O H y u) (et : tyD O x = tyD O y) (hs : isSeq x = true) : ∃ a b us ws l m, v = .ref a ∧ u = .ref b ∧ ((SqT K H a us ∧ SqT K H b ws) ∨ (H a = some (.lst us) ∧ H b = some (.lst ws))) ∧ DvL O H l us ∧ DvL O H m ws ∧ eqD O x y = eqL O l m ∧ wt x = 1 + wtL l ∧ wt y = 1 + wtL m := by
  cases x <;> cases y <;> simp [tyD, isSeq] at et hs
  · obtain ⟨a, us, rfl, ha, p⟩ := hx
    obtain ⟨b, ws, rfl, hb, q⟩ := hy
    exact ⟨a, b, us, ws, _, _, rfl, rfl, .inl ⟨ok.kk ▸ ha, ok.kk ▸ hb⟩, p, q, by rw [eqD], by rw [wt], by rw [wt]⟩
  · obtain ⟨a, us, rfl, ha, p⟩ := hx
    obtain ⟨b, ws, rfl, hb, q⟩ := hy
    exact ⟨a, b, us, ws, _, _, rfl, rfl, .inr ⟨ha, hb⟩, p, q, by rw [eqD], by rw [wt], by rw [wt]⟩
end Dq

set_option Elab.async false
set_option linter.all false
set_option maxRecDepth 100000
set_option maxHeartbeats 4000000
/-! the program's equal -/
namespace Dq
open PySem PySem.Spec PyProof.Rows L2
abbrev sEqual : Stmt := Pf.top 1
def spEqual {OB : Type} (O : Obs OB) : Sp := fun vs H Q _ => ∃ (v u : V) (x y : DV OB), vs = [v, u] ∧ Dv O H x v ∧ Dv O H y u ∧ wt x ≤ 90000 ∧ wt y ≤ 90000 ∧ ∀ H', Same H H' → Q (.bl (eqD O x y)) H'
abbrev NEqual : List Str := ["one", "other", "waiting", "left", "right", "pairs"]
theorem scEqual : FnScope NEqual ["one", "other"] (defScope sEqual) := ⟨rfl, rfl, rfl, by decide +kernel, rfl, by decide +kernel, by decide +kernel⟩
/-- the own == of the objects, called by equal -/
structure ObEq {OB : Type} (P : Program) (w : World) (K : PySem.W.Frag) (mg : Str → Option Value) (base : Heap) (k : Nat) (O : Obs OB) : Prop where
  op : ∀ {X : Cx}, X.prog = P → X.w = w → X.K = K → X.mg = mg → X.base = base → Room k X.A → OpR X (compareOp .Eq) (rOb O)
/-- the pairs that wait in the list at W -/
structure Wait {OB : Type} (O : Obs OB) (H H' : Hp) (W : Addr) (N : Nat) (ts : List Addr) (ps : List (DV OB × DV OB)) : Prop where
  same : Same H H'
  new : H W = none
  lst : H' W = some (.lst (ts.map V.ref))
  len : ts.length = ps.length
  at_ : ∀ (j : Nat) (t : Addr) (p : DV OB × DV OB), ts[j]? = some t → ps[j]? = some p → ∃ a b, H' t = some (.tup [a, b]) ∧ Dv O H p.1 a ∧ Dv O H p.2 b
  wt1 : wts ps ≤ N
  wt2 : ∀ p ∈ ps, wt p.2 ≤ N
theorem Wait.put {OB : Type} {O : Obs OB} {H H2 H5 : Hp} {W : Addr} {N : Nat} {ts t5 : List Addr} {ps p5 : List (DV OB × DV OB)} (x : Wait O H H2 W N ts ps) (k : Same H2 H5) (hl : t5.length = p5.length) (ha : ∀ (j : Nat) (t : Addr) (p : DV OB × DV OB), t5[j]? = some t → p5[j]? = some p → ∃ a b, H5 t = some (.tup [a, b]) ∧ Dv O H p.1 a ∧ Dv O H p.2 b)
    (h1 : wts ps + wts p5 ≤ N) (h2 : ∀ p ∈ p5, wt p.2 ≤ N) : Wait O H (upd H5 W (.lst (ts.map V.ref ++ t5.map V.ref))) W N (ts ++ t5) (ps ++ p5) := by
  have nW : ∀ t o, H5 t = some o → (∀ xs, o ≠ .lst xs) → upd H5 W (.lst (ts.map V.ref ++ t5.map V.ref)) t = some o := fun t o e n => by
    rw [upd_ne fun q => by
      rw [q, k _ _ x.lst] at e
      cases e
      exact n _ rfl]
    exact e
  refine ⟨fun c o e => ?_, x.new, by rw [upd_same, List.map_append], by rw [List.length_append, List.length_append, x.len, hl], fun j t p ej ep => ?_, by rw [wts_app]; exact h1, fun p hp => ?_⟩
  · rw [upd_ne fun q => by rw [q, x.new] at e; cases e]
    exact k _ _ (x.same _ _ e)
  · by_cases lt : j < ts.length
    · rw [List.getElem?_append_left lt] at ej
      rw [List.getElem?_append_left (by rw [← x.len]; exact lt)] at ep
      obtain ⟨a, b, e1, e2⟩ := x.at_ j t p ej ep
      exact ⟨a, b, nW _ _ (k _ _ e1) (fun _ z => by cases z), e2⟩
    · have ge : ts.length ≤ j := Nat.le_of_not_lt lt
      rw [List.getElem?_append_right ge] at ej
      rw [List.getElem?_append_right (by rw [← x.len]; exact ge), ← x.len] at ep
      obtain ⟨a, b, e1, e2⟩ := ha _ t p ej ep
      exact ⟨a, b, nW _ _ e1 (fun _ z => by cases z), e2⟩
  · rcases List.mem_append.mp hp with hp | hp
    · exact x.wt2 p hp
    · exact h2 p hp
section
variable {OB : Type} {O : Obs OB} {P : Program} {w : World} {K : PySem.W.Frag} {mg : Str → Option Value} {base : Heap}
theorem ok_equal {n : Nat} (hn : 1 ≤ n) {f fP : Addr} {fd fdP : FuncData} (F : Fun K "equal" "equal" sEqual f fd) (T : TxtE mg) (ok : ObsOk K O) (oe : ObEq P w K mg base n O) (DP : Vl.Def P w K mg base 1 "_pairs_of_dicts" fP fdP ["one", "other"] spPod) : FnOk P w K mg base CX0 (n + 1) f fd ["one", "other"] (spEqual O) := by
  refine F.ok scEqual (fun vs H Q E h => ?_) (fun cdv A outer s H vs Q E hr h => ?_)
  · obtain ⟨v, u, x, y, rfl, _⟩ := h
    rfl
  · obtain ⟨v, u, x, y, rfl, hx, hy, wx, wy, k⟩ := h
    refine ⟨_, (pss_cons (ps_set (i := 2) scEqual.nd rfl (Or.inl rfl) (pe_lst (pa_cons (pe_tup (pa_cons (pv 0) (pa_cons (pv 1) pa_nil))) pa_nil)))
      (pss_cons (ps_while PassesOwn.never (pt_truth (pv 2) (by intro _; rfl))
        (pss_cons (ps_asg (pe_bm0 PySem.F.plainAttrs_list PySem.F.slot_list_pop PySem.F.type_list_pop mt_pop (pv 2)) (pg_tup rfl (pgs_cons (pg_name (i := 3) scEqual.nd rfl (Or.inl rfl)) (pgs_cons (pg_name (i := 4) scEqual.nd rfl (Or.inl rfl)) pgs_nil))))
        (pss_cons (ps_if (pt_not (pt_cmpR (op_isD ok) (pe_callTy (call_tyD ok) (by rfl) T.type (by decide +kernel) (pa_cons (pv 3) pa_nil)) (pe_callTy (call_tyD ok) (by rfl) T.type (by decide +kernel) (pa_cons (pv 4) pa_nil)) (nomark _))) (pss_one (ps_ret pe_bl)) pss_nil)
        (pss_one (ps_if (pt_val (pe_callB (call_isTL ok) (by rfl) T.isi (by decide +kernel) (pa_cons (pv 3) (pa_cons (pe_tup (pa_cons (pe_bltn (v := .ty "tuple") (by rfl) T.tuple (by decide +kernel) rfl) (pa_cons (pe_bltn (v := .ty "list") (by rfl) T.list (by decide +kernel) rfl) pa_nil))) pa_nil))))
          (pss_cons (ps_if (pt_cmpR op_ne (pe_callB call_len_seq (by rfl) T.len PySem.boot_len (pa_cons (pv 3) pa_nil)) (pe_callB call_len_seq (by rfl) T.len PySem.boot_len (pa_cons (pv 4) pa_nil)) (nomark _)) (pss_one (ps_ret pe_bl)) pss_nil)
          (pss_one (ps_expr (pe_bm PySem.F.plainAttrs_list PySem.F.slot_list_extend PySem.F.type_list_extend mt_extend (pv 2) (pa_cons (Lz.pe_listZip rfl (pa_cons (pv 3) (pa_cons (pv 4) pa_nil)) (by rfl) T.list (by rfl) T.zip) pa_nil)))))
          (pss_one (ps_if (pt_val (pe_callB (call_isD ok) (by rfl) T.isi (by decide +kernel) (pa_cons (pv 3) (pa_cons (pe_bltn (v := .ty "dict") (by rfl) T.dict (by decide +kernel) rfl) pa_nil))))
            (pss_cons (ps_set (i := 5) scEqual.nd rfl (Or.inl rfl) (pe_call DP.ok (hr.mono hn) rfl DP.g DP.kp DP.b .nil pass0 (pa_cons (pv 3) (pa_cons (pv 4) pa_nil))))
            (pss_cons (ps_if (pt_cmpR op_isN (pv 5) pe_non (nomark _)) (pss_one (ps_ret pe_bl)) pss_nil)
            (pss_one (ps_expr (pe_bm PySem.F.plainAttrs_list PySem.F.slot_list_extend PySem.F.type_list_extend mt_extend (pv 2) (pa_cons (pv 5) pa_nil))))))
            (pss_one (ps_if (pt_not (pt_cmpR (op_leaf hr.units (oe.op rfl rfl rfl rfl rfl hr)) (pv 3) (pv 4) (nomark _))) (pss_one (ps_ret pe_bl)) pss_nil)))))))))
      (pss_one (ps_ret pe_bl)))), ?_⟩
    have fin : ∀ H', Same H H' → ∀ b, eqD O x y = b → Q (.bl b) H' := fun H' k' b e => e ▸ k H' k'
    refine ⟨_, rfl, _, rfl, by show 2 ≤ sizeLine; decide, fun t ht => ⟨by show 1 ≤ sizeLine; decide, fun W hW => ?_⟩⟩
    have ntW : t ≠ W := fun e => by rw [← e, upd_same] at hW; cases hW
    have hW0 : H W = none := by rwa [upd_ne (Ne.symm ntW)] at hW
    have w0 : Wait O H (upd (upd H t (.tup [v, u])) W (.lst [.ref t])) W 90000 [t] [(x, y)] := by
      refine ⟨fun c o e => by rw [upd_ne (ne_of_none e hW0), upd_ne (ne_of_none e ht)]; exact e, hW0, upd_same, rfl, fun j t' p ej ep => ?_, by simpa [wts] using wx, fun p hp => by rw [List.mem_singleton.mp hp]; exact wy⟩
      match j with
      | 0 =>
        simp at ej ep
        subst ej ep
        exact ⟨v, u, (upd_ne ntW).trans upd_same, hx, hy⟩
      | j + 1 => simp at ej
    refine ⟨fun m σ H' => ∃ ts ps w3 w4 w5, m = wts ps ∧ σ = [some v, some u, some (.ref W), w3, w4, w5] ∧ Wait O H H' W 90000 ts ps ∧ eqD O x y = ps.all fun p => eqD O p.1 p.2, ⟨_, [t], [(x, y)], _, _, _, rfl, rfl, w0, by simp⟩, ?_⟩
    rintro m σ H' ⟨ts, ps, w3, w4, w5, rfl, rfl, wa, er⟩
    rcases List.eq_nil_or_concat ps with rfl | ⟨ps', p, rfl⟩
    · have e0 : ts = [] := List.eq_nil_of_length_eq_zero wa.len
      subst e0
      refine ⟨_, rfl, false, .inl ⟨_, SqL.of wa.lst, rfl⟩, ?_⟩
      exact fin H' wa.same _ er
    obtain ⟨ts', tl, rfl⟩ : ∃ ts' tl, ts = ts' ++ [tl] := by
      rcases List.eq_nil_or_concat ts with rfl | ⟨a, b, e⟩
      · have := wa.len
        simp at this
      · exact ⟨a, b, e.trans (List.concat_eq_append ..)⟩
    rw [List.concat_eq_append] at *
    have hl' : ts'.length = ps'.length := by
      have := wa.len
      simpa using this
    obtain ⟨a, b, ht2, d1, d2⟩ := wa.at_ ts'.length tl p (by simp) (by rw [hl']; simp)
    have hWl : H' W = some (.lst (ts'.map V.ref ++ [.ref tl])) := by rw [wa.lst]; simp
    refine ⟨_, rfl, true, .inl ⟨_, SqL.of hWl, by simp⟩, fun σ' H2 => ∃ m', m' < wts (ps' ++ [p]) ∧ ∃ ts ps w3 w4 w5, m' = wts ps ∧ σ' = [some v, some u, some (.ref W), w3, w4, w5] ∧ Wait O H H2 W 90000 ts ps ∧ eqD O x y = ps.all fun p => eqD O p.1 p.2, fun σ' H2 h => h, ?_⟩
    refine ⟨_, rfl, .inl ⟨rfl, _, SqL.of hWl⟩, W, _, .ref tl, rfl, rfl, hWl, by simp, ?_⟩
    rw [List.dropLast_concat]
    have ntl : tl ≠ W := fun e => by rw [e, hWl] at ht2; cases ht2
    have er' : eqD O x y = ((ps'.all fun p => eqD O p.1 p.2) && eqD O p.1 p.2) := by rw [er]; simp
    have wp : wts (ps' ++ [p]) = wts ps' + wt p.1 := by rw [wts_app]; simp [wts]
    have wp1 : wts ps' + wt p.1 ≤ 90000 := wp ▸ wa.wt1
    have wp2 : wt p.2 ≤ 90000 := wa.wt2 p (by simp)
    have wb : Wait O H (upd H' W (.lst (ts'.map V.ref))) W 90000 ts' ps' := by
      refine ⟨fun c o e => ?_, wa.new, upd_same, hl', fun j t p ej ep => ?_, by omega, fun p hp => wa.wt2 p (List.mem_append_left _ hp)⟩
      · rw [upd_ne (ne_of_none e wa.new)]
        exact wa.same _ _ e
      · obtain ⟨a, b, e1, e2⟩ := wa.at_ j t p (by rw [List.getElem?_append_left (List.getElem?_eq_some_iff.mp ej).1]; exact ej) (by rw [List.getElem?_append_left (List.getElem?_eq_some_iff.mp ep).1]; exact ep)
        refine ⟨a, b, ?_, e2⟩
        rw [upd_ne fun q => by rw [q, hWl] at e1; cases e1]
        exact e1
    have ht3 : upd H' W (.lst (ts'.map V.ref)) tl = some (.tup [a, b]) := (upd_ne ntl).trans ht2
    clear wa hWl ht2 w0 hW
    generalize upd H' W (.lst (ts'.map V.ref)) = H2 at wb ht3
    refine ⟨tl, _, rfl, SqT.of ht3, rfl, _, _, rfl, _, _, rfl, rfl, ?_⟩
    have D1 := d1.keep ok wb.same
    have D2 := d2.keep ok wb.same
    refine ⟨_, rfl, _, p.1, rfl, D1, _, rfl, _, p.2, rfl, D2, p.1, p.2, rfl, rfl, _, rfl, ?_⟩
    by_cases et : tyD O p.1 = tyD O p.2
    case neg =>
      refine Vl.iteC (by simp [et]) ?_
      exact fin H2 wb.same _ (by rw [er', eqD_ty _ _ et, Bool.and_false])
    refine Vl.iteN (by simp [et]) ?_
    refine ⟨_, rfl, by show 2 ≤ sizeLine; decide, fun tp htp => ⟨_, tp, p.1, rfl, upd_same, D1.keep ok (Vl.sm_upd htp), _, rfl, ?_⟩⟩
    have k3 : Same H2 (upd H2 tp (.tup [.ty "tuple", .ty "list"])) := Vl.sm_upd htp
    have sm3 := Same.trans wb.same k3
    have E1 := d1.keep ok sm3
    have E2 := d2.keep ok sm3
    generalize upd H2 tp (.tup [.ty "tuple", .ty "list"]) = H3 at k3 sm3 E1 E2
    by_cases hs : isSeq p.1 = true
    · refine Vl.iteC hs ?_
      obtain ⟨a', b', us, ws, l, m, rfl, rfl, hab, dl, dm, ee, e1, e2⟩ := seqs ok E1 E2 et hs
      obtain ⟨a2, b2, us2, ws2, l2, m2, ea, eb, hT2, dl2, dm2, ee2, e12, e22⟩ := seqs ok d1 d2 et hs
      cases ea
      cases eb
      have luo := dl2.len
      have lwo := dm2.len
      have hq : ∀ H', Same H H' → ((SqT K H' a' us2 ∧ SqT K H' b' ws2) ∨ (SqL K H' a' us2 ∧ SqL K H' b' ws2)) := fun H' k' => by
        rcases hT2 with ⟨h1, h2⟩ | ⟨h1, h2⟩
        · exact .inl ⟨SqT.same h1 k', SqT.same h2 k'⟩
        · exact .inr ⟨SqL.of (k' _ _ h1), SqL.of (k' _ _ h2)⟩
      have hq3 := hq H3 sm3
      refine ⟨_, rfl, a', us2, rfl, hq3.elim (fun z => .inr z.1) (fun z => .inl z.1), _, rfl, b', ws2, rfl, hq3.elim (fun z => .inr z.2) (fun z => .inl z.2), rfl, _, rfl, ?_⟩
      by_cases le : us2.length = ws2.length
      case neg =>
        refine Vl.iteC (by simp; omega) ?_
        exact fin H3 sm3 _ (by rw [er', ee2, eqL_len l2 m2 (by omega), Bool.and_false])
      refine Vl.iteN (by simp [le]) ?_
      refine ⟨_, rfl, .inl ⟨rfl, _, SqL.of (k3 _ _ wb.lst)⟩, _, rfl, _, rfl, a', b', us2, ws2, rfl, hq3, le, fun H5 D ds z => ?_⟩
      obtain ⟨z1, z2, z3, z4, z5, z6, z7⟩ := z
      have wL : wts (l2.zip m2) = wtL l2 := wts_zip l2 m2 (by omega)
      have lenb := wts_len ps'
      have lenl := wts_len (l2.zip m2)
      have lz : (l2.zip m2).length = l2.length := by rw [List.length_zip]; omega
      refine ⟨W, D, _, _, rfl, rfl, z1 _ _ (k3 _ _ wb.lst), z5, by rw [List.length_map, List.length_map]; exact Nat.le_trans (show ts'.length + ds.length ≤ 90000 by omega) (by decide), ?_⟩
      refine ⟨_, ?_, ts' ++ ds, ps' ++ l2.zip m2, _, _, _, rfl, rfl, wb.put (Same.trans k3 z1) (by omega) (fun j t q ej ep => ?_) (by omega) (fun q hq => ?_), ?_⟩
      · rw [wp, wts_app, wL]
        omega
      · obtain ⟨x0, y0, f1, f2, f3⟩ := z7 j t ej
        obtain ⟨g1, g2⟩ := List.getElem?_zip_eq_some.mp ep
        exact ⟨x0, y0, f3, dl2.at g1 f1, dm2.at g2 f2⟩
      · have := wtL_mem (List.of_mem_zip hq).2
        omega
      · rw [er', ee2, eqL_zip l2 m2 (by omega), List.all_append]
    refine Vl.iteN ((Bool.not_eq_true _).mp hs) ?_
    refine ⟨_, rfl, _, p.1, rfl, E1, _, rfl, ?_⟩
    by_cases hm : isMap p.1 = true
    · refine Vl.iteC hm ?_
      obtain ⟨ks, l, e1⟩ : ∃ ks l, p.1 = .map ks l := by
        cases e : p.1 <;> rw [e] at hm <;> simp [isMap] at hm
        exact ⟨_, _, rfl⟩
      obtain ⟨js, m, e2⟩ : ∃ js m, p.2 = .map js m := by
        rw [e1] at et
        cases e : p.2 <;> rw [e] at et <;> simp [tyD] at et
        exact ⟨_, _, rfl⟩
      rw [e1] at d1
      rw [e2] at d2
      obtain ⟨a1, kvs, rfl, ha, nd, hk, dl⟩ := d1
      obtain ⟨b1, lvs, rfl, hb, nd2, hj, dm⟩ := d2
      have q1 : wt p.1 = 1 + ks.length + wtL l := by rw [e1, wt]
      have q2 : wt p.2 = 1 + js.length + wtL m := by rw [e2, wt]
      have lk : kvs.length = ks.length := by have := congrArg List.length hk; simpa using this
      have lj : lvs.length = js.length := by have := congrArg List.length hj; simpa using this
      have ll : ks.length = l.length := by have := dl.len; rw [List.length_map] at this; omega
      have ee : eqD O p.1 p.2 = (decide (ks.length = js.length) && eqM O ks l js m) := by rw [e1, e2, eqD]
      have ndk : (kvs.map (·.1)).Nodup := by
        rw [hk]
        exact List.Pairwise.map _ (fun a b h z => h (Sum.inr.inj z)) nd
      have mk : ∀ (k : Key), k ∈ kvs.map (·.1) ↔ ∃ z ∈ ks, k = Sum.inr z := fun k => by
        rw [hk]
        simp [eq_comm]
      refine ⟨_, rfl, _, rfl, a1, b1, kvs, lvs, rfl, sm3 _ _ ha, sm3 _ _ hb, ndk, by omega, by omega, fun no H5 k5 => ?_, fun yl yk D H5 k5 hD pr => ?_⟩
      · refine ⟨_, rfl, rfl, _, rfl, Vl.iteC (by simp) ?_⟩
        refine fin H5 (Same.trans sm3 k5) _ ?_
        rw [er', ee]
        rcases no with no | ⟨q, hq, hv⟩
        · rw [decide_eq_false (by omega)]
          simp
        · obtain ⟨z, hz, eq⟩ := (mk q.1).mp (List.mem_map_of_mem (f := (·.1)) hq)
          rcases look_val (O := O) (k := z) hj dm with ⟨c1, _⟩ | ⟨_, _, _, c2, _⟩
          · rw [eqM_no js m ks l ll ⟨z, hz, c1⟩]
            simp
          · rw [eq, c2] at hv
            cases hv
      · refine ⟨_, rfl, rfl, _, rfl, Vl.iteN (by simp) ?_⟩
        have hall : ∀ k ∈ ks, look js m k ≠ none := fun k hk' e => by
          obtain ⟨q, hq, eq⟩ := List.mem_map.mp ((mk (Sum.inr k)).mpr ⟨k, hk', rfl⟩)
          rcases look_val (O := O) (k := k) hj dm with ⟨_, c1⟩ | ⟨_, _, c2, _, _⟩
          · exact yk q hq (by rw [eq]; exact c1)
          · rw [c2] at e
            cases e
        obtain ⟨ds, r1, r2, r3⟩ := pr
        have hW5 := k5 _ _ (k3 _ _ wb.lst)
        have lp := podP_len kvs lvs
        have pl := pm_len js m ks l ll
        have pw := pm_wts js m ks l ll
        have lenb := wts_len ps'
        refine ⟨_, rfl, .inl ⟨rfl, _, SqL.of hW5⟩, _, rfl, W, D, _, _, rfl, rfl, hW5, r1, by rw [List.length_map, List.length_map]; exact Nat.le_trans (show ts'.length + ds.length ≤ 300000 by omega) (by decide), ?_⟩
        refine ⟨_, ?_, ts' ++ ds, ps' ++ pm js m ks l, _, _, _, rfl, rfl, wb.put (Same.trans k3 k5) (by omega) (fun j t q ej ep => ?_) (by omega) (fun q hq => ?_), ?_⟩
        · rw [wp, wts_app, pw]
          omega
        · have hj2 : j < (podP kvs lvs).length := by
            have := (List.getElem?_eq_some_iff.mp ej).1
            omega
          have eq := List.getElem?_eq_getElem hj2
          obtain ⟨c1, c2⟩ := pm_at hj dm hk dl j q _ ep eq hall
          exact ⟨_, _, r3 j t _ ej eq, c1, c2⟩
        · exact pm_snd (by decide) js m (by omega) ks l q hq
        · rw [er', ee, decide_eq_true (by omega), Bool.true_and, eqM_pm js m ks l ll hall, List.all_append]
    refine Vl.iteN ((Bool.not_eq_true _).mp hm) ?_
    refine ⟨_, rfl, _, rfl, p.1, p.2, E1, E2, et, (Bool.not_eq_true _).mp hs, (Bool.not_eq_true _).mp hm, fun H5 k5 => ⟨_, rfl, ?_⟩⟩
    have sm5 := Same.trans sm3 k5
    cases ev : eqD O p.1 p.2 with
    | false => exact fin H5 sm5 _ (by rw [er', ev, Bool.and_false])
    | true =>
      have wpo := wt_pos p.1
      refine ⟨_, ?_, ts', ps', _, _, _, rfl, rfl, ?_, by rw [er', ev, Bool.and_true]⟩
      · rw [wp]
        omega
      · have := wb.put (t5 := []) (p5 := []) (Same.trans k3 k5) rfl (fun j t q ej _ => by simp at ej) (by simpa [wts] using wb.wt1) (fun q hq => by cases hq)
        simp only [List.map_nil, List.append_nil] at this
        have e5 : upd H5 W (.lst (ts'.map V.ref)) = H5 := by
          funext c
          by_cases n : c = W
          · rw [n, upd_same]
            exact (Same.trans k3 k5 _ _ wb.lst).symm
          · exact upd_ne n
        rwa [e5] at this
end
end Dq

set_option Elab.async false
set_option linter.all false
set_option maxRecDepth 100000
set_option maxHeartbeats 4000000
/-! == and != of an instance whose class has an own __eq__ (and the __ne__ of object) -/
namespace Ow
open PySem PySem.Spec PyProof.Rows L2
/-- the class at C has the own __eq__ at f, the __ne__ of object -/
structure OwnQ (K : PySem.W.Frag) (C f : Addr) : Prop where
  at_ : PySem.W.findIn K (.ref C) "__eq__" = some (some (.ref f))
  fn : PySem.W.isFn K (.ref f) = true
  ne : PySem.W.findIn K (.ref C) "__ne__" = some (some (.builtin "object.__ne__"))
  ob : PySem.W.mroIn K C (.type "object") = some true
def kinds : List String := ["NoneType", "bool", "int", "str", "tuple", "list", "dict"]
theorem kinds_mro : ∀ T ∈ kinds, ((fastBuiltinMro T).map fun l => l.all fun v => match v with | .ref _ => false | _ => true) = some true := by decide +kernel
theorem first_kind {K : PySem.W.Frag} {C : Addr} {T : String} (h : T ∈ kinds) : PySem.W.notFirst K C (.type T) = true := by
  have e := kinds_mro T h
  refine Bool.or_eq_true_iff.mpr (.inr (beq_iff_eq.mpr ?_))
  show (fastBuiltinMro T).map (·.contains (.ref C)) = some false
  cases q : fastBuiltinMro T with
  | none => rw [q] at e; cases e
  | some l =>
    rw [q] at e
    have e : (l.all fun v => match v with | .ref _ => false | _ => true) = true := by simpa using e
    have : l.contains (.ref C) = false := by
      rw [Bool.eq_false_iff]
      intro z
      have z := List.contains_iff_mem.mp z
      have := List.all_eq_true.mp e _ z
      simp at this
    rw [Option.map_some, this]
section
variable {prog : Program} {w : World} {A : Around} {E : Value → Shared → Prop} {s : Shared} {K : PySem.W.Frag} {x C f L : Addr} {ox : Obj} {od : Option Obj} {m : Str → Option Value} {h₀ : Heap} {b tb : Value}
theorem ifBound_ne {M : Model} {args : List Value} {Q : Option Value → Shared → Prop} (X : K.In s.heap) (I : PySem.W.InstAt s.heap x ox C od) (hs : PySem.W.findIn K (.ref C) "__ne__" = some (some (.builtin "object.__ne__")))
    (h : wpAny M A (call (.builtin "object.__ne__") (.ref x :: args)) (fun v => Q (some v)) E s) : wpAny M A (callSpecialIfBound? (.ref x) "__ne__" args) Q E s := by
  simp only [callSpecialIfBound?, bindSpecialIfBound?]
  refine wpAny_holding (wpAny_bind (wpAny_bind (wpAny_bind (I.type.here ((PySem.W.looks_findIn X hs).here ?_)))))
  refine wpAny_bind (wpAny_askSetting (wpAny_ite ?_))
  have fin : wpAny M A (call (.builtin "object.__ne__") ([.ref x] ++ args) >>= fun v => pure (some v)) Q E s := wpAny_bind (wpAny_mono h (fun v s' h' => wpAny_pure h') fun _ _ h' => h')
  split
  · exact wpAny_bind (wpAny_of_eq (F.cmp_object.ne.bind _) (wpAny_pure (by exact fin)))
  · exact wpAny_tryCatch (wpAny_bind (wpAny_of_eq (F.cmp_object.ne.bind _) (wpAny_pure (by exact fin))))
theorem entry_ne (hu : A.units < cLine) (X : K.In s.heap) (I : PySem.W.InstAt s.heap x ox C od) (O : OwnQ K C f) {Q : Fin → Shared → Prop}
    (hcall : wpAny (model prog w) A (call (.ref f) [.ref x, b]) (fun v s' => ∃ c, v = .bool c ∧ Q (.done (.ret (.bool (!c)))) s') E s) :
    wpAny (model prog w) A (Builtin.«object.__ne__» ⟨[.ref x, b], []⟩) Q E s := by
  unfold Builtin.«object.__ne__»
  refine wpAny_bind (wpAny_of_eq (a := ((Value.ref x : Value), [b])) (by first | rfl | (simp only [slotArgs]; rfl)) ?_)
  dsimp only
  refine wpAny_bind (wpAny_cRoomFor hu ?_)
  refine wpAny_bind (m := callSpecialIfBound? (.ref x) (Str.ofString "__eq__") [b]) (PySem.W.ifBound_K X I O.at_ O.fn (wpAny_mono hcall (fun r s' hr => ?_) fun _ _ e => e))
  obtain ⟨c, rfl, hq⟩ := hr
  dsimp only
  exact wpAny_bind (wpAny_truthy_bool (wpAny_pure hq))
theorem ne_K {Q : Value → Shared → Prop} (hu : A.units + 1 < cLine) (Fm : Fr h₀ L s.heap m) (X₀ : K.In h₀) (I : PySem.W.InstAt s.heap x ox C od) (hb : PySem.W.Looks (model prog w) s.heap (typeOf b) tb) (hn : PySem.W.notFirst K C tb = true) (O : OwnQ K C f)
    (h : wpAny (model prog w) A.in1 (call (.ref f) [.ref x, b]) (fun v s' => ∃ c, v = .bool c ∧ Q (.bool (!c)) s') E s) : wpAny (model prog w) A (richCompare .NotEq (.ref x) b) Q E s := by
  have X := X₀.keeps Fm.keep
  have one : wpAny (model prog w) A (tryCompare (.ref x) (cmpInfo .NotEq).2.1 b) (fun r s' => ∃ v, r = some v ∧ Q v s') E s := by
    unfold tryCompare
    refine wpAny_bind (ifBound_ne X I O.ne (wpAny_call (codeAny_call_builtin F.cmp_object.ne.plain F.cmpEntry_ne (PySem.W.check_slot F.cmpKind_ne F.cmpSplit_ne (I.type.andThen (PySem.W.looks_mroIn X O.ob)) (F.cmpArgs_ne _ _)
      (entry_ne (A := A.in1) hu X I O (wpAny_mono h (fun v s' hv => ?_) fun _ _ e => e))))))
    obtain ⟨c, rfl, hq⟩ := hv
    first | exact ⟨c, rfl, wpAny_pure ⟨_, rfl, hq⟩⟩ | exact ⟨c, rfl, wpAny_pure (wpAny_pure ⟨_, rfl, hq⟩)⟩
  unfold richCompare
  simp only [oneThing_ref]
  refine wpAny_holding (wpAny_bind (wpAny_cRoomFor (Nat.lt_of_succ_lt hu) ?_))
  refine wpAny_bind (I.type.here (wpAny_bind (hb.here ?_)))
  split
  · rename_i q
    have e : PySem.W.subIn K tb (.ref C) = some false := by
      rcases Bool.or_eq_true_iff.mp hn with e | e
      · rw [beq_iff_eq.mp e] at q; simp at q
      · exact beq_iff_eq.mp e
    refine wpAny_bind ((PySem.W.looks_subIn X e).here ?_)
    simp only [Bool.false_eq_true, if_false]
    refine wpAny_bind (wpAny_mono one (fun r s' z => ?_) fun _ _ e => e)
    obtain ⟨v, rfl, hq⟩ := z
    exact wpAny_pure hq
  · refine wpAny_bind (wpAny_pure ?_)
    simp only [Bool.false_eq_true, if_false]
    refine wpAny_bind (wpAny_mono one (fun r s' z => ?_) fun _ _ e => e)
    obtain ⟨v, rfl, hq⟩ := z
    exact wpAny_pure hq
end
/-- x an instance of the class at C, y anything whose class goes not first; the own __eq__ keeps sp -/
def rOwnQ (K : PySem.W.Frag) (C : Addr) (sp : Sp) (neg : Bool) : R2 := fun x y H Q => ∃ a dx fs t, x = .ref a ∧ H a = some (.ins C dx fs) ∧ TyX K H y t ∧ PySem.W.notFirst K C t = true ∧ sp [x, y] H (fun v H' => ∃ b, v = .bl b ∧ Q (.bl (if neg = true then !b else b)) H') E0
section
variable {X : Cx} {C f : Addr} {fd : FuncData} {k : Nat} {ps : List Str} {sp : Sp}
theorem op_eqO (O : OwnQ X.K C f) (F : FnOk X.prog X.w X.K X.mg X.base CX0 k f fd ps sp) (hb : Binds X.K fd ps []) (hr : Room k X.A) : OpR X (compareOp .Eq) (rOwnQ X.K C sp false) := by
  intro pins s σ H x y v u Q I rx ry h
  obtain ⟨a, dx, fs, t, rfl, ha, hz, hn, q⟩ := h
  cases rx
  obtain ⟨mA, J, _⟩ := ins_get I.hok ha
  obtain ⟨od, J, _⟩ := J.look
  obtain ⟨m, hF⟩ := I.fr
  obtain ⟨P, Z, p, _⟩ := kit_of I ry hz
  have hy := Z.ty (model X.prog X.w) s.heap I.kIn p
  show wpAny (model X.prog X.w) X.A (richCompare .Eq (.ref a) u) (EP X pins σ Q) X.xe s
  refine PySem.W.cmp_K (op := .Eq) (tb := t) hr.units0 hF I.ok.mod.kin J hy hn O.at_ O.fn ?_
  refine wpAny_mono (run_fn (us := [.ref a, u]) (vs := [.ref a, y]) (E := E0) F hr hb .nil pass0 I (.cons rfl (.cons ry .nil)) (Q := fun v' H' => ∃ b, v' = .bl b ∧ Q (.bl b) H') (by simpa using q)) (fun w s' g => ?_) fun _ _ e => e
  obtain ⟨v', H', I', rv, b, rfl, q'⟩ := g
  cases (show w = Value.bool b from rv)
  exact ⟨.bl b, H', I', rfl, q'⟩
theorem op_neO (O : OwnQ X.K C f) (F : FnOk X.prog X.w X.K X.mg X.base CX0 k f fd ps sp) (hb : Binds X.K fd ps []) (hr : Room (k + 1) X.A) : OpR X (compareOp .NotEq) (rOwnQ X.K C sp true) := by
  intro pins s σ H x y v u Q I rx ry h
  obtain ⟨a, dx, fs, t, rfl, ha, hz, hn, q⟩ := h
  cases rx
  obtain ⟨mA, J, _⟩ := ins_get I.hok ha
  obtain ⟨od, J, _⟩ := J.look
  obtain ⟨m, hF⟩ := I.fr
  obtain ⟨P, Z, p, _⟩ := kit_of I ry hz
  have hy := Z.ty (model X.prog X.w) s.heap I.kIn p
  show wpAny (model X.prog X.w) X.A (richCompare .NotEq (.ref a) u) (EP X pins σ Q) X.xe s
  have FR : FnR X.prog X.w X.K X.mg X.base CX0 k f sp := fun A outer s H us vs Q E hr e0 r hs => by
    have hl : us.length = ps.length := by rw [← r.length]; exact F.len _ _ _ _ hs
    have := hb s us (e0.mod.kin.keeps fun b o e => (e0.bs b o e).1) (by simpa using hl)
    rw [List.append_nil] at this
    exact F.run A outer s H ⟨us, []⟩ us vs Q E hr e0 this r hs
  have z1 : X.A.units + 1 < cLine := by have := hr.un; omega
  refine ne_K (tb := t) z1 hF I.ok.mod.kin J hy hn O (wpAny_mono (wpAny_call (SlX.run_at (us := [.ref a, u]) (ws := [.ref a, y]) FR (Room.in1 hr) I.env0.in1 pass0 I (.cons rfl (.cons ry .nil)) (Q := fun v' H' => ∃ b, v' = .bl b ∧ Q (.bl (!b)) H') (by simpa using q))) (fun w s' g => ?_) fun _ _ e => e)
  obtain ⟨v', H', I', rv, b, rfl, q'⟩ := g
  cases (show w = Value.bool b from rv)
  exact ⟨b, rfl, .bl (!b), H', I', rfl, q'⟩
end
/-- what is never reached -/
theorem pe_nv {X : Cx} {e : Expr} : PE X e (fun _ _ _ => False) := ⟨fun _ _ _ _ _ _ h => h.elim⟩
theorem pi_nv {X : Cx} {tg e : Expr} : PI X tg e (fun _ _ _ => False) := ⟨by intros; rename_i h; exact h.elim⟩
theorem pg_nv {X : Cx} {tg : Expr} : PG X tg (fun _ _ _ _ => False) := ⟨by intros; rename_i h; exact h.elim⟩
theorem pss_nv {X : Cx} {b : List Stmt} : PSs X b (fun _ _ _ => False) := ⟨fun _ _ _ _ _ _ h => h.elim⟩
end Ow

set_option Elab.async false
set_option linter.all false
set_option maxRecDepth 100000
set_option maxHeartbeats 4000000
/-! walks of nothing; comprehensions whose items stand to their turns by a relation -/
namespace Vl
open PySem PySem.Spec PyProof.Rows L2 Dq
theorem SqL.same {K : PySem.W.Frag} {H H' : Hp} {a : Addr} {xs : List V} (h : SqL K H a xs) (e : Same H H') : SqL K H' a xs :=
  h.elim (fun h => .inl (h.elim (fun h => .inl (e _ _ h)) fun ⟨o, h⟩ => .inr ⟨o, e _ _ h⟩)) fun h => .inr h
theorem w_none {J : It} {G : Hp → Prop} {Y : Nat → Hp → V → Hp → Prop} (w : Walk J 0 G Y) {Z : (Nat → Nat → Hp → Prop) → Nat → Nat → Hp → Prop} {H0 : Hp} {Qd : Hp → Prop} (hG : G H0) (hq : Qd H0) :
    ∃ W : Nat → Nat → Hp → Prop, (∃ m, W 0 m H0) ∧ ∀ i m H, W i m H → (J.stop i H ∧ Qd H) ∨ Z W i m H :=
  ⟨fun i m H => i = 0 ∧ H = H0, ⟨0, rfl, rfl⟩, fun i m H ⟨e1, e2⟩ => by
    subst e1 e2
    exact .inl ⟨w.stops _ hG, hq⟩⟩
theorem w_noneF {J : It} {G : Hp → Prop} {Y : Nat → Hp → V → Hp → Prop} (w : Walk J 0 G Y) {Z : (Nat → Nat → L2.St → Hp → Prop) → Nat → Nat → L2.St → Hp → Prop} {σ : L2.St} {H0 : Hp} {Qd : L2.St → Hp → Prop} (hG : G H0) (hq : Qd σ H0) :
    ∃ W : Nat → Nat → L2.St → Hp → Prop, (∃ m, W 0 m σ H0) ∧ ∀ i m σ H, W i m σ H → (J.stop i H ∧ Qd σ H) ∨ Z W i m σ H :=
  ⟨fun i m τ H => i = 0 ∧ τ = σ ∧ H = H0, ⟨0, rfl, rfl, rfl⟩, fun i m τ H ⟨e1, e2, e3⟩ => by
    subst e1 e2 e3
    exact .inl ⟨w.stops _ hG, hq⟩⟩
theorem lc_none {J : It} {G : Hp → Prop} {Y : Nat → Hp → V → Hp → Prop} (w : Walk J 0 G Y) {Z : (Nat → Nat → Hp → Prop) → Nat → Nat → Hp → Prop} {H1 : Hp} {D : Addr} {Qd : Hp → Prop} (hD : H1 D = none) (hG : ∀ H, Same H1 H → G H)
    (hd : ∀ H, Same H1 H → H D = some (.lst []) → Qd H) : ∃ W : Nat → Nat → Hp → Prop, (∃ m, W 0 m (upd H1 D (.lst []))) ∧ ∀ i m H, W i m H → (J.stop i H ∧ Qd H) ∨ Z W i m H :=
  w_none w (hG _ (sm_upd hD)) (hd _ (sm_upd hD) upd_same)
end Vl

set_option Elab.async false
set_option linter.all false
set_option maxRecDepth 100000
set_option maxHeartbeats 4000000
/-! a Config of nothing: what its making looks at -/
namespace Cf
open PySem PySem.Spec PyProof.Rows L2 Dq Vl
structure TxtC (mg : Str → Option Value) : Prop where
  isi : mg "isinstance" = none
  tuple : mg "tuple" = none
  all : mg "all" = none
  any : mg "any" = none
  len : mg "len" = none
  set : mg "set" = none
/-- vs are empty tuples; the answer -/
def spE (n : Nat) (r : V) (K : PySem.W.Frag) : Sp := fun vs H Q _ => ∃ ts : List Addr, vs = ts.map V.ref ∧ ts.length = n ∧ (∀ t ∈ ts, SqT K H t []) ∧ ∀ H', Same H H' → Q r H'
def spL (r : V) (K : PySem.W.Frag) : Sp := fun vs H Q _ => ∃ l : Addr, vs = [.ref l] ∧ SqL K H l [] ∧ ∀ H', Same H H' → Q r H'
theorem one_of {ts : List Addr} (h : ts.length = 1) : ∃ a, ts = [a] := by
  match ts, h with
  | [a], _ => exact ⟨a, rfl⟩
theorem two_of {ts : List Addr} (h : ts.length = 2) : ∃ a b, ts = [a, b] := by
  match ts, h with
  | [a, b], _ => exact ⟨a, b, rfl⟩
theorem six_of {ts : List Addr} (h : ts.length = 6) : ∃ a b c d e f, ts = [a, b, c, d, e, f] := by
  match ts, h with
  | [a, b, c, d, e, f], _ => exact ⟨a, b, c, d, e, f, rfl⟩
section
variable {P : Program} {w : World} {K : PySem.W.Frag} {mg : Str → Option Value} {base : Heap}
abbrev sUnl : Stmt := Pf.top 10
abbrev NUnl : List Str := ["names"]
theorem scUnl : FnScope NUnl ["names"] (defScope sUnl) := ⟨rfl, rfl, rfl, by decide +kernel, rfl, by decide +kernel, by decide +kernel⟩
theorem ok_unl {f : Addr} {fd : FuncData} (F : Fun K "are_unlike" "are_unlike" sUnl f fd) (T : TxtC mg) : FnOk P w K mg base CX0 1 f fd ["names"] (spL (.bl true) K) := by
  refine F.ok scUnl (fun vs H Q E h => ?_) (fun cdv A outer s H vs Q E hr h => ?_)
  · obtain ⟨l, rfl, _⟩ := h
    rfl
  · obtain ⟨l, rfl, hl, k⟩ := h
    refine ⟨_, pss_one (ps_ret (pe_cmpR op_eq (pe_lenSet rfl rfl T.len rfl T.set (pv 0)) (pe_callB call_len_seq (by rfl) T.len PySem.boot_len (pa_cons (pv 0) pa_nil)) (nomark _))), ?_⟩
    exact ⟨_, rfl, l, [], rfl, .inl hl, Nat.zero_le _, _, rfl, l, [], rfl, .inl hl, rfl, k H (Same.refl H)⟩
abbrev sPar : Stmt := Pf.top 37
abbrev NPar : List Str := ["params", "one"]
theorem scPar : FnScope NPar ["params"] (defScope sPar) := ⟨rfl, rfl, rfl, by decide +kernel, rfl, by decide +kernel, by decide +kernel⟩
theorem ok_par {f fU : Addr} {fd fdU : FuncData} (F : Fun K "_are_params" "_are_params" sPar f fd) (T : TxtC mg) (DU : Def P w K mg base 1 "are_unlike" fU fdU ["names"] (spL (.bl true) K)) : FnOk P w K mg base CX0 2 f fd ["params"] (spE 1 (.bl true) K) := by
  refine F.ok scPar (fun vs H Q E h => ?_) (fun cdv A outer s H vs Q E hr h => ?_)
  · obtain ⟨ts, rfl, e, _⟩ := h
    rw [List.length_map, e]
    rfl
  · obtain ⟨ts, rfl, e, h0, k⟩ := h
    obtain ⟨a, rfl⟩ := one_of e
    have ha := h0 a (by simp)
    refine ⟨_, (pss_cons (ps_if (PW.pt (pw_or (pt_not (pt_val (pe_callB call_isi (by rfl) T.isi (by decide +kernel) (pa_cons (pv 0) (pa_cons (pe_bltn (v := .ty "tuple") (by rfl) T.tuple (by decide +kernel) rfl) pa_nil))))) (pw_or1 (pt_not (pt_val (pe_callB (cr_all rfl) (by rfl) T.all (by decide +kernel) (pa_cons (pe_lc (own := [("one", 1)]) (g := gName 1) (tt := tYes) rfl scPar.nd (pi_tup (pv 0)) (blkOk_by (N := NPar) (sc := defScope sPar) (by decide +kernel)) (fun _ _ _ _ _ => pg_name (i := 1) scPar.nd rfl (Or.inl rfl)) (fun _ _ _ _ _ => pts_nil) (fun _ _ _ _ _ => Ow.pe_nv)) pa_nil))))))) (pss_one (ps_ret pe_bl)) pss_nil)
      (pss_one (ps_ret (pe_call DU.ok (hr.mono (by omega)) rfl DU.g DU.kp DU.b .nil pass0 (pa_cons (pe_lc (own := [("one", 1)]) (g := gName 1) (tt := tYes) rfl scPar.nd (pi_tup (pv 0)) (blkOk_by (N := NPar) (sc := defScope sPar) (by decide +kernel)) (fun _ _ _ _ _ => pg_name (i := 1) scPar.nd rfl (Or.inl rfl)) (fun _ _ _ _ _ => pts_nil) (fun _ _ _ _ _ => Ow.pe_nv)) pa_nil))))), ?_⟩
    refine ⟨_, rfl, .ref a, .ty "tuple", .type "tuple", .type "tuple", true, rfl, .ty _, SqT.tyx ha, kit_ty (by decide +kernel), _, rfl, iteN rfl ?_⟩
    refine ⟨_, rfl, a, rfl, ⟨_, ha⟩, fun D hD => lc_none (walk_tup (xs := [])) hD (fun H k => SqT.same ha k) fun H1 k1 h1 => ?_⟩
    refine ⟨D, [], rfl, SqL.of h1, _, rfl, iteN rfl ?_⟩
    refine ⟨_, rfl, a, rfl, ⟨_, SqT.same ha k1⟩, fun D2 hD2 => lc_none (walk_tup (xs := [])) hD2 (fun H k => SqT.same (SqT.same ha k1) k) fun H2 k2 h2 => ?_⟩
    exact ⟨D2, rfl, SqL.of h2, fun H3 k3 => k H3 (Same.trans k1 (Same.trans k2 k3))⟩
abbrev sBlo : Stmt := Pf.top 39
abbrev NBlo : List Str := ["blocks", "one", "block"]
theorem scBlo : FnScope NBlo ["blocks"] (defScope sBlo) := ⟨rfl, rfl, rfl, by decide +kernel, rfl, by decide +kernel, by decide +kernel⟩
theorem ok_blo {f fU : Addr} {fd fdU : FuncData} (F : Fun K "_are_blocks" "_are_blocks" sBlo f fd) (T : TxtC mg) (DU : Def P w K mg base 1 "are_unlike" fU fdU ["names"] (spL (.bl true) K)) : FnOk P w K mg base CX0 2 f fd ["blocks"] (spE 1 (.bl true) K) := by
  refine F.ok scBlo (fun vs H Q E h => ?_) (fun cdv A outer s H vs Q E hr h => ?_)
  · obtain ⟨ts, rfl, e, _⟩ := h
    rw [List.length_map, e]
    rfl
  · obtain ⟨ts, rfl, e, h0, k⟩ := h
    obtain ⟨a, rfl⟩ := one_of e
    have ha := h0 a (by simp)
    refine ⟨_, (pss_cons (ps_if (PW.pt (pw_or (pt_not (pt_val (pe_callB call_isi (by rfl) T.isi (by decide +kernel) (pa_cons (pv 0) (pa_cons (pe_bltn (v := .ty "tuple") (by rfl) T.tuple (by decide +kernel) rfl) pa_nil))))) (pw_or1 (pt_not (pt_val (pe_callB (cr_all rfl) (by rfl) T.all (by decide +kernel) (pa_cons (pe_lc (own := [("one", 1)]) (g := gName 1) (tt := tYes) rfl scBlo.nd (pi_tup (pv 0)) (blkOk_by (N := NBlo) (sc := defScope sBlo) (by decide +kernel)) (fun _ _ _ _ _ => pg_name (i := 1) scBlo.nd rfl (Or.inl rfl)) (fun _ _ _ _ _ => pts_nil) (fun _ _ _ _ _ => Ow.pe_nv)) pa_nil))))))) (pss_one (ps_ret pe_bl)) pss_nil)
      (pss_one (ps_ret (pe_call DU.ok (hr.mono (by omega)) rfl DU.g DU.kp DU.b .nil pass0 (pa_cons (pe_lc (own := [("block", 2)]) (g := gName 2) (tt := tYes) rfl scBlo.nd (pi_tup (pv 0)) (blkOk_by (N := NBlo) (sc := defScope sBlo) (by decide +kernel)) (fun _ _ _ _ _ => pg_name (i := 2) scBlo.nd rfl (Or.inl rfl)) (fun _ _ _ _ _ => pts_nil) (fun _ _ _ _ _ => Ow.pe_nv)) pa_nil))))), ?_⟩
    refine ⟨_, rfl, .ref a, .ty "tuple", .type "tuple", .type "tuple", true, rfl, .ty _, SqT.tyx ha, kit_ty (by decide +kernel), _, rfl, iteN rfl ?_⟩
    refine ⟨_, rfl, a, rfl, ⟨_, ha⟩, fun D hD => lc_none (walk_tup (xs := [])) hD (fun H k => SqT.same ha k) fun H1 k1 h1 => ?_⟩
    refine ⟨D, [], rfl, SqL.of h1, _, rfl, iteN rfl ?_⟩
    refine ⟨_, rfl, a, rfl, ⟨_, SqT.same ha k1⟩, fun D2 hD2 => lc_none (walk_tup (xs := [])) hD2 (fun H k => SqT.same (SqT.same ha k1) k) fun H2 k2 h2 => ?_⟩
    exact ⟨D2, rfl, SqL.of h2, fun H3 k3 => k H3 (Same.trans k1 (Same.trans k2 k3))⟩
abbrev sRea : Stmt := Pf.top 41
abbrev NRea : List Str := ["readings", "blocks", "one"]
theorem scRea : FnScope NRea ["readings", "blocks"] (defScope sRea) := ⟨rfl, rfl, rfl, by decide +kernel, rfl, by decide +kernel, by decide +kernel⟩
theorem ok_rea {f fU : Addr} {fd fdU : FuncData} (F : Fun K "_are_readings" "_are_readings" sRea f fd) (T : TxtC mg) (DU : Def P w K mg base 1 "are_unlike" fU fdU ["names"] (spL (.bl true) K)) : FnOk P w K mg base CX0 2 f fd ["readings", "blocks"] (spE 2 (.bl true) K) := by
  refine F.ok scRea (fun vs H Q E h => ?_) (fun cdv A outer s H vs Q E hr h => ?_)
  · obtain ⟨ts, rfl, e, _⟩ := h
    rw [List.length_map, e]
    rfl
  · obtain ⟨ts, rfl, e, h0, k⟩ := h
    obtain ⟨a, b, rfl⟩ := two_of e
    have ha := h0 a (by simp)
    have hb := h0 b (by simp)
    refine ⟨_, (pss_cons (ps_if (PW.pt (pw_or (pt_not (pt_val (pe_callB call_isi (by rfl) T.isi (by decide +kernel) (pa_cons (pv 0) (pa_cons (pe_bltn (v := .ty "tuple") (by rfl) T.tuple (by decide +kernel) rfl) pa_nil))))) (pw_or1 (pt_not (pt_val (pe_callB (cr_all rfl) (by rfl) T.all (by decide +kernel) (pa_cons (pe_lc (own := [("one", 2)]) (g := gName 2) (tt := tYes) rfl scRea.nd (pi_tup (pv 0)) (blkOk_by (N := NRea) (sc := defScope sRea) (by decide +kernel)) (fun _ _ _ _ _ => pg_name (i := 2) scRea.nd rfl (Or.inl rfl)) (fun _ _ _ _ _ => pts_nil) (fun _ _ _ _ _ => Ow.pe_nv)) pa_nil))))))) (pss_one (ps_ret pe_bl)) pss_nil)
      (pss_one (ps_ret (pe_call DU.ok (hr.mono (by omega)) rfl DU.g DU.kp DU.b .nil pass0 (pa_cons (pe_lc (own := [("one", 2)]) (g := gName 2) (tt := tYes) rfl scRea.nd (pi_tup (pe_tup (StX.pa_star (pv 1) (StX.pa_star (pv 0) pa_nil)))) (blkOk_by (N := NRea) (sc := defScope sRea) (by decide +kernel)) (fun _ _ _ _ _ => pg_name (i := 2) scRea.nd rfl (Or.inl rfl)) (fun _ _ _ _ _ => pts_nil) (fun _ _ _ _ _ => Ow.pe_nv)) pa_nil))))), ?_⟩
    refine ⟨_, rfl, .ref a, .ty "tuple", .type "tuple", .type "tuple", true, rfl, .ty _, SqT.tyx ha, kit_ty (by decide +kernel), _, rfl, iteN rfl ?_⟩
    refine ⟨_, rfl, a, rfl, ⟨_, ha⟩, fun D hD => lc_none (walk_tup (xs := [])) hD (fun H k => SqT.same ha k) fun H1 k1 h1 => ?_⟩
    refine ⟨D, [], rfl, SqL.of h1, _, rfl, iteN rfl ?_⟩
    refine ⟨_, rfl, b, [], rfl, .inl (SqT.same hb k1), _, rfl, a, [], rfl, .inl (SqT.same ha k1), by show 0 ≤ sizeLine; decide, fun t ht => ?_⟩
    have kt := sm_upd (o := .tup ([] ++ ([] ++ []))) ht
    have et : (upd H1 t (.tup ([] ++ ([] ++ [])))) t = some (.tup []) := upd_same
    generalize upd H1 t (.tup ([] ++ ([] ++ []))) = H2 at kt et ⊢
    refine ⟨t, rfl, ⟨_, SqT.of et⟩, fun D2 hD2 => lc_none (walk_tup (xs := [])) hD2 (fun H k => SqT.of (k _ _ et)) fun H3 k3 h3 => ?_⟩
    exact ⟨D2, rfl, SqL.of h3, fun H4 k4 => k H4 (Same.trans k1 (Same.trans kt (Same.trans k3 k4)))⟩
abbrev sCal : Stmt := Pf.top 43
abbrev NCal : List Str := ["calls", "one", "call"]
theorem scCal : FnScope NCal ["calls"] (defScope sCal) := ⟨rfl, rfl, rfl, by decide +kernel, rfl, by decide +kernel, by decide +kernel⟩
theorem ok_cal {f fU : Addr} {fd fdU : FuncData} (F : Fun K "_are_calls" "_are_calls" sCal f fd) (T : TxtC mg) (DU : Def P w K mg base 1 "are_unlike" fU fdU ["names"] (spL (.bl true) K)) : FnOk P w K mg base CX0 2 f fd ["calls"] (spE 1 (.bl true) K) := by
  refine F.ok scCal (fun vs H Q E h => ?_) (fun cdv A outer s H vs Q E hr h => ?_)
  · obtain ⟨ts, rfl, e, _⟩ := h
    rw [List.length_map, e]
    rfl
  · obtain ⟨ts, rfl, e, h0, k⟩ := h
    obtain ⟨a, rfl⟩ := one_of e
    have ha := h0 a (by simp)
    refine ⟨_, (pss_cons (ps_if (PW.pt (pw_or (pt_not (pt_val (pe_callB call_isi (by rfl) T.isi (by decide +kernel) (pa_cons (pv 0) (pa_cons (pe_bltn (v := .ty "tuple") (by rfl) T.tuple (by decide +kernel) rfl) pa_nil))))) (pw_or1 (pt_not (pt_val (pe_callB (cr_all rfl) (by rfl) T.all (by decide +kernel) (pa_cons (pe_lc (own := [("one", 1)]) (g := gName 1) (tt := tYes) rfl scCal.nd (pi_tup (pv 0)) (blkOk_by (N := NCal) (sc := defScope sCal) (by decide +kernel)) (fun _ _ _ _ _ => pg_name (i := 1) scCal.nd rfl (Or.inl rfl)) (fun _ _ _ _ _ => pts_nil) (fun _ _ _ _ _ => Ow.pe_nv)) pa_nil))))))) (pss_one (ps_ret pe_bl)) pss_nil)
      (pss_one (ps_ret (pe_call DU.ok (hr.mono (by omega)) rfl DU.g DU.kp DU.b .nil pass0 (pa_cons (pe_lc (own := [("call", 2)]) (g := gName 2) (tt := tYes) rfl scCal.nd (pi_tup (pv 0)) (blkOk_by (N := NCal) (sc := defScope sCal) (by decide +kernel)) (fun _ _ _ _ _ => pg_name (i := 2) scCal.nd rfl (Or.inl rfl)) (fun _ _ _ _ _ => pts_nil) (fun _ _ _ _ _ => Ow.pe_nv)) pa_nil))))), ?_⟩
    refine ⟨_, rfl, .ref a, .ty "tuple", .type "tuple", .type "tuple", true, rfl, .ty _, SqT.tyx ha, kit_ty (by decide +kernel), _, rfl, iteN rfl ?_⟩
    refine ⟨_, rfl, a, rfl, ⟨_, ha⟩, fun D hD => lc_none (walk_tup (xs := [])) hD (fun H k => SqT.same ha k) fun H1 k1 h1 => ?_⟩
    refine ⟨D, [], rfl, SqL.of h1, _, rfl, iteN rfl ?_⟩
    refine ⟨_, rfl, a, rfl, ⟨_, SqT.same ha k1⟩, fun D2 hD2 => lc_none (walk_tup (xs := [])) hD2 (fun H k => SqT.same (SqT.same ha k1) k) fun H2 k2 h2 => ?_⟩
    exact ⟨D2, rfl, SqL.of h2, fun H3 k3 => k H3 (Same.trans k1 (Same.trans k2 k3))⟩
abbrev sOut : Stmt := Pf.top 45
abbrev NOut : List Str := ["outputs", "one", "output"]
theorem scOut : FnScope NOut ["outputs"] (defScope sOut) := ⟨rfl, rfl, rfl, by decide +kernel, rfl, by decide +kernel, by decide +kernel⟩
theorem ok_out {f fU : Addr} {fd fdU : FuncData} (F : Fun K "_are_outputs" "_are_outputs" sOut f fd) (T : TxtC mg) (DU : Def P w K mg base 1 "are_unlike" fU fdU ["names"] (spL (.bl true) K)) : FnOk P w K mg base CX0 2 f fd ["outputs"] (spE 1 (.bl true) K) := by
  refine F.ok scOut (fun vs H Q E h => ?_) (fun cdv A outer s H vs Q E hr h => ?_)
  · obtain ⟨ts, rfl, e, _⟩ := h
    rw [List.length_map, e]
    rfl
  · obtain ⟨ts, rfl, e, h0, k⟩ := h
    obtain ⟨a, rfl⟩ := one_of e
    have ha := h0 a (by simp)
    refine ⟨_, (pss_cons (ps_if (PW.pt (pw_or (pt_not (pt_val (pe_callB call_isi (by rfl) T.isi (by decide +kernel) (pa_cons (pv 0) (pa_cons (pe_bltn (v := .ty "tuple") (by rfl) T.tuple (by decide +kernel) rfl) pa_nil))))) (pw_or1 (pt_not (pt_val (pe_callB (cr_all rfl) (by rfl) T.all (by decide +kernel) (pa_cons (pe_lc (own := [("one", 1)]) (g := gName 1) (tt := tYes) rfl scOut.nd (pi_tup (pv 0)) (blkOk_by (N := NOut) (sc := defScope sOut) (by decide +kernel)) (fun _ _ _ _ _ => pg_name (i := 1) scOut.nd rfl (Or.inl rfl)) (fun _ _ _ _ _ => pts_nil) (fun _ _ _ _ _ => Ow.pe_nv)) pa_nil))))))) (pss_one (ps_ret pe_bl)) pss_nil)
      (pss_one (ps_ret (pe_call DU.ok (hr.mono (by omega)) rfl DU.g DU.kp DU.b .nil pass0 (pa_cons (pe_lc (own := [("output", 2)]) (g := gName 2) (tt := tYes) rfl scOut.nd (pi_tup (pv 0)) (blkOk_by (N := NOut) (sc := defScope sOut) (by decide +kernel)) (fun _ _ _ _ _ => pg_name (i := 2) scOut.nd rfl (Or.inl rfl)) (fun _ _ _ _ _ => pts_nil) (fun _ _ _ _ _ => Ow.pe_nv)) pa_nil))))), ?_⟩
    refine ⟨_, rfl, .ref a, .ty "tuple", .type "tuple", .type "tuple", true, rfl, .ty _, SqT.tyx ha, kit_ty (by decide +kernel), _, rfl, iteN rfl ?_⟩
    refine ⟨_, rfl, a, rfl, ⟨_, ha⟩, fun D hD => lc_none (walk_tup (xs := [])) hD (fun H k => SqT.same ha k) fun H1 k1 h1 => ?_⟩
    refine ⟨D, [], rfl, SqL.of h1, _, rfl, iteN rfl ?_⟩
    refine ⟨_, rfl, a, rfl, ⟨_, SqT.same ha k1⟩, fun D2 hD2 => lc_none (walk_tup (xs := [])) hD2 (fun H k => SqT.same (SqT.same ha k1) k) fun H2 k2 h2 => ?_⟩
    exact ⟨D2, rfl, SqL.of h2, fun H3 k3 => k H3 (Same.trans k1 (Same.trans k2 k3))⟩
abbrev sMix : Stmt := Pf.top 49
abbrev NMix : List Str := ["places", "one"]
theorem scMix : FnScope NMix ["places"] (defScope sMix) := ⟨rfl, rfl, rfl, by decide +kernel, rfl, by decide +kernel, by decide +kernel⟩
theorem ok_mix {f : Addr} {fd : FuncData} (F : Fun K "_are_mixed" "_are_mixed" sMix f fd) (T : TxtC mg) : FnOk P w K mg base CX0 1 f fd ["places"] (spL (.bl false) K) := by
  refine F.ok scMix (fun vs H Q E h => ?_) (fun cdv A outer s H vs Q E hr h => ?_)
  · obtain ⟨l, rfl, _⟩ := h
    rfl
  · obtain ⟨l, rfl, hl, k⟩ := h
    refine ⟨_, pss_one (ps_ret (pe_callB (cr_any rfl) (by rfl) T.any (by decide +kernel) (pa_cons (pe_lc (own := [("one", 1)]) (g := gName 1) (tt := tYes) rfl scMix.nd (pi_list (pv 0)) (blkOk_by (N := NMix) (sc := defScope sMix) (by decide +kernel)) (fun _ _ _ _ _ => pg_name (i := 1) scMix.nd rfl (Or.inl rfl)) (fun _ _ _ _ _ => pts_nil) (fun _ _ _ _ _ => Ow.pe_nv)) pa_nil))), ?_⟩
    refine ⟨_, rfl, l, rfl, ⟨_, hl⟩, fun D hD => lc_none (walk_list (xs := [])) hD (fun H k => SqL.same hl k) fun H1 k1 h1 => ?_⟩
    exact ⟨D, [], rfl, SqL.of h1, k H1 k1⟩
abbrev sRng : Stmt := Pf.top 50
abbrev NRng : List Str := ["moves", "goals", "move", "old", "new"]
theorem scRng : FnScope NRng ["moves"] (defScope sRng) := ⟨rfl, rfl, rfl, by decide +kernel, rfl, by decide +kernel, by decide +kernel⟩
theorem ok_rng {f : Addr} {fd : FuncData} (F : Fun K "_are_ringed" "_are_ringed" sRng f fd) (T : TxtC mg) : FnOk P w K mg base CX0 1 f fd ["moves"] (spE 1 (.bl false) K) := by
  refine F.ok scRng (fun vs H Q E h => ?_) (fun cdv A outer s H vs Q E hr h => ?_)
  · obtain ⟨ts, rfl, e, _⟩ := h
    rw [List.length_map, e]
    rfl
  · obtain ⟨ts, rfl, e, h0, k⟩ := h
    obtain ⟨a, rfl⟩ := one_of e
    have ha := h0 a (by simp)
    refine ⟨_, pss_cons (Sd.ps_setDc (i := 1) (own := [("move", 2)]) (g := gName 2) (tt := tYes) rfl scRng.nd rfl rfl (Sd.sw_trueD rfl rfl rfl (by decide +kernel)) (pi_tup (pv 0)) (blkOk_by (N := NRng) (sc := defScope sRng) (by decide +kernel)) (fun _ _ _ _ _ => pg_name (i := 2) scRng.nd rfl (Or.inl rfl)) (fun _ _ _ _ _ => pts_nil) (fun _ _ _ _ _ => Ow.pe_nv) (fun _ _ _ _ _ => Ow.pe_nv))
      (pss_cons (ps_lock (ps_for PassesOwn.never rfl (pi_keys (pv 1)) (pg_name (i := 3) scRng.nd rfl (Or.inl rfl)) pss_never)) (pss_one (ps_ret pe_bl))), ?_⟩
    refine ⟨_, rfl, a, rfl, ⟨_, ha⟩, fun D hD => ?_⟩
    refine w_none (walk_tup (K := K) (a := a) (xs := [])) (SqT.same ha (sm_upd hD)) ?_
    have k1 : Same H (upd H D (.dK [])) := sm_upd hD
    have e1 : (upd H D (.dK [])) D = some (.dK []) := upd_same
    generalize upd H D (.dK []) = H1 at k1 e1 ⊢
    refine ⟨D, .dK [], e1, True.intro, fun od => ⟨_, rfl, D, od, rfl, .inl ⟨[], upd_same, ?_⟩⟩⟩
    refine w_noneF (walk_keys (d := D) (o := od) (kvs := [])) upd_same ?_
    have k2 : Same H1 (upd (upd H1 D (.frz od (.dK []))) D (.dK [])) := fun b o e => by
      rw [upd_upd]
      by_cases n : b = D
      · subst n
        rw [e1] at e
        cases e
        exact upd_same
      · exact (upd_ne n).trans e
    exact ⟨upd_same, k _ (Same.trans k1 k2)⟩
abbrev sMov : Stmt := Pf.top 47
abbrev NMov : List Str := ["moves", "blocks", "olds", "news", "one", "move", "old", "block"]
theorem scMov : FnScope NMov ["moves", "blocks"] (defScope sMov) := ⟨rfl, rfl, rfl, by decide +kernel, rfl, by decide +kernel, by decide +kernel⟩
theorem ok_mov {f fU fM fR : Addr} {fd fdU fdM fdR : FuncData} (F : Fun K "_are_moves" "_are_moves" sMov f fd) (T : TxtC mg) (DU : Def P w K mg base 1 "are_unlike" fU fdU ["names"] (spL (.bl true) K)) (DM : Def P w K mg base 1 "_are_mixed" fM fdM ["places"] (spL (.bl false) K)) (DR : Def P w K mg base 1 "_are_ringed" fR fdR ["moves"] (spE 1 (.bl false) K)) :
    FnOk P w K mg base CX0 2 f fd ["moves", "blocks"] (spE 2 (.bl true) K) := by
  refine F.ok scMov (fun vs H Q E h => ?_) (fun cdv A outer s H vs Q E hr h => ?_)
  · obtain ⟨ts, rfl, e, _⟩ := h
    rw [List.length_map, e]
    rfl
  · obtain ⟨ts, rfl, e, h0, k⟩ := h
    obtain ⟨a, b, rfl⟩ := two_of e
    have ha := h0 a (by simp)
    have hb := h0 b (by simp)
    refine ⟨_, (pss_cons (ps_if (PW.pt (pw_or (pt_not (pt_val (pe_callB call_isi (by rfl) T.isi (by decide +kernel) (pa_cons (pv 0) (pa_cons (pe_bltn (v := .ty "tuple") (by rfl) T.tuple (by decide +kernel) rfl) pa_nil))))) (pw_or1 (pt_not (pt_val (pe_callB (cr_all rfl) (by rfl) T.all (by decide +kernel) (pa_cons (pe_lc (own := [("one", 4)]) (g := gName 4) (tt := tYes) rfl scMov.nd (pi_tup (pv 0)) (blkOk_by (N := NMov) (sc := defScope sMov) (by decide +kernel)) (fun _ _ _ _ _ => pg_name (i := 4) scMov.nd rfl (Or.inl rfl)) (fun _ _ _ _ _ => pts_nil) (fun _ _ _ _ _ => Ow.pe_nv)) pa_nil))))))) (pss_one (ps_ret pe_bl)) pss_nil)
      (pss_cons (ps_setLc (i := 2) (own := [("move", 5)]) (g := gName 5) (tt := tYes) rfl scMov.nd rfl rfl (sw_true rfl rfl rfl (by decide +kernel)) (pi_tup (pv 0)) (blkOk_by (N := NMov) (sc := defScope sMov) (by decide +kernel)) (fun _ _ _ _ _ => pg_name (i := 5) scMov.nd rfl (Or.inl rfl)) (fun _ _ _ _ _ => pts_nil) (fun _ _ _ _ _ => Ow.pe_nv)) (pss_cons (ps_setLc (i := 3) (own := [("move", 5)]) (g := gName 5) (tt := tYes) rfl scMov.nd rfl rfl (sw_true rfl rfl rfl (by decide +kernel)) (pi_tup (pv 0)) (blkOk_by (N := NMov) (sc := defScope sMov) (by decide +kernel)) (fun _ _ _ _ _ => pg_name (i := 5) scMov.nd rfl (Or.inl rfl)) (fun _ _ _ _ _ => pts_nil) (fun _ _ _ _ _ => Ow.pe_nv))
      (pss_cons (ps_if (PW.pt (pw_or (pt_not (pt_val (pe_call DU.ok (hr.mono (by omega)) rfl DU.g DU.kp DU.b .nil pass0 (pa_cons (pv 2) pa_nil)))) (pw_or (pt_not (pt_val (pe_call DU.ok (hr.mono (by omega)) rfl DU.g DU.kp DU.b .nil pass0 (pa_cons (pv 3) pa_nil)))) (pw_or (pt_val (pe_call DM.ok (hr.mono (by omega)) rfl DM.g DM.kp DM.b .nil pass0 (pa_cons (pe_op op_cat (pv 2) (pv 3)) pa_nil))) (pw_or1 (pt_val (pe_call DR.ok (hr.mono (by omega)) rfl DR.g DR.kp DR.b .nil pass0 (pa_cons (pv 0) pa_nil)))))))) (pss_one (ps_ret pe_bl)) pss_nil)
      (pss_one (ps_ret (pe_not (pe_callB (cr_any rfl) (by rfl) T.any (by decide +kernel) (pa_cons (pe_lc2 (own := [("old", 6), ("block", 7)]) (g := gName 6) (tt := tYes) (tt1 := tYes) (vs1 := [7]) rfl scMov.nd (pi_list (pv 2)) (blkOk_by (N := NMov) (sc := defScope sMov) (by decide +kernel)) (by decide) (fun _ _ _ _ _ => pg_name (i := 6) scMov.nd rfl (Or.inl rfl)) (fun _ _ _ _ _ => pts_nil) (fun _ _ _ _ _ => Ow.pi_nv) (fun _ _ _ _ _ => Ow.pg_nv) (fun _ _ _ _ _ => pts_nil) (fun _ _ _ _ _ => Ow.pe_nv)) pa_nil))))))))), ?_⟩
    refine ⟨_, rfl, .ref a, .ty "tuple", .type "tuple", .type "tuple", true, rfl, .ty _, SqT.tyx ha, kit_ty (by decide +kernel), _, rfl, iteN rfl ?_⟩
    refine ⟨_, rfl, a, rfl, ⟨_, ha⟩, fun D hD => lc_none (walk_tup (xs := [])) hD (fun H k => SqT.same ha k) fun H1 k1 h1 => ?_⟩
    refine ⟨D, [], rfl, SqL.of h1, _, rfl, iteN rfl ?_⟩
    have ha1 := SqT.same ha k1
    refine ⟨_, rfl, a, rfl, ⟨_, ha1⟩, fun D2 hD2 => lc_none (walk_tup (xs := [])) hD2 (fun H k => SqT.same ha1 k) fun H2 k2 h2 => ?_⟩
    have ha2 := SqT.same ha1 k2
    refine ⟨_, rfl, a, rfl, ⟨_, ha2⟩, fun D3 hD3 => lc_none (walk_tup (xs := [])) hD3 (fun H k => SqT.same ha2 k) fun H3 k3 h3 => ?_⟩
    have h23 := k3 _ _ h2
    refine ⟨_, rfl, D2, rfl, SqL.of h23, fun H4 k4 => ⟨_, rfl, iteN rfl ?_⟩⟩
    refine ⟨_, rfl, D3, rfl, SqL.of (k4 _ _ h3), fun H5 k5 => ⟨_, rfl, iteN rfl ?_⟩⟩
    have k45 := Same.trans k4 k5
    refine ⟨_, rfl, _, rfl, _, _, _, _, rfl, rfl, k45 _ _ h23, k45 _ _ h3, by show 0 ≤ sizeLine; decide, fun p hp => ?_⟩
    have kp := sm_upd (o := .lst ([] ++ [])) hp
    have ep : (upd H5 p (.lst ([] ++ []))) p = some (.lst []) := upd_same
    generalize upd H5 p (.lst ([] ++ [])) = H6 at kp ep ⊢
    refine ⟨p, rfl, SqL.of ep, fun H7 k7 => ⟨_, rfl, iteN rfl ?_⟩⟩
    have k37 := Same.trans k45 (Same.trans kp k7)
    have k07 := Same.trans k1 (Same.trans k2 (Same.trans k3 k37))
    refine ⟨_, rfl, [a], rfl, rfl, (fun t ht => by rw [List.mem_singleton.mp ht]; exact SqT.same ha k07), fun H8 k8 => ⟨_, rfl, iteN rfl ?_⟩⟩
    have e8 : H8 D2 = some (.lst []) := k8 _ _ (k37 _ _ h23)
    refine ⟨_, rfl, D2, rfl, ⟨_, SqL.of e8⟩, fun D4 hD4 => ?_⟩
    refine w_none (walk_list (K := K) (a := D2) (xs := [])) (SqL.of ((sm_upd hD4) _ _ e8)) ?_
    exact ⟨D4, [], rfl, SqL.of upd_same, _, rfl, k _ (Same.trans k07 (Same.trans k8 (sm_upd hD4)))⟩
abbrev sWro : Stmt := Pf.top 36
abbrev NWro : List Str := ["params", "blocks", "readings", "calls", "outputs", "moves"]
theorem scWro : FnScope NWro ["params", "blocks", "readings", "calls", "outputs", "moves"] (defScope sWro) := ⟨rfl, rfl, rfl, by decide +kernel, rfl, by decide +kernel, by decide +kernel⟩
theorem ok_wro {f fP fB fR fC fO fM : Addr} {fd fdP fdB fdR fdC fdO fdM : FuncData} (F : Fun K "_wrong_part" "_wrong_part" sWro f fd) (DPa : Def P w K mg base 2 "_are_params" fP fdP ["params"] (spE 1 (.bl true) K)) (DBl : Def P w K mg base 2 "_are_blocks" fB fdB ["blocks"] (spE 1 (.bl true) K))
    (DRe : Def P w K mg base 2 "_are_readings" fR fdR ["readings", "blocks"] (spE 2 (.bl true) K)) (DCa : Def P w K mg base 2 "_are_calls" fC fdC ["calls"] (spE 1 (.bl true) K)) (DOu : Def P w K mg base 2 "_are_outputs" fO fdO ["outputs"] (spE 1 (.bl true) K)) (DMo : Def P w K mg base 2 "_are_moves" fM fdM ["moves", "blocks"] (spE 2 (.bl true) K)) :
    FnOk P w K mg base CX0 3 f fd NWro (spE 6 .non K) := by
  refine F.ok scWro (fun vs H Q E h => ?_) (fun cdv A outer s H vs Q E hr h => ?_)
  · obtain ⟨ts, rfl, e, _⟩ := h
    rw [List.length_map, e]
    rfl
  · obtain ⟨ts, rfl, el, h0, k⟩ := h
    obtain ⟨a, b, c, d, e, g, rfl⟩ := six_of el
    have on : ∀ {x : Addr} {H' : Hp}, x ∈ [a, b, c, d, e, g] → Same H H' → ∀ t ∈ [x], SqT K H' t [] := fun hx k' t ht => by
      rw [List.mem_singleton.mp ht]
      exact SqT.same (h0 _ hx) k'
    have tw : ∀ {x y : Addr} {H' : Hp}, x ∈ [a, b, c, d, e, g] → y ∈ [a, b, c, d, e, g] → Same H H' → ∀ t ∈ [x, y], SqT K H' t [] := fun hx hy k' t ht => by
      simp only [List.mem_cons, List.not_mem_nil, or_false] at ht
      rcases ht with rfl | rfl
      · exact SqT.same (h0 _ hx) k'
      · exact SqT.same (h0 _ hy) k'
    refine ⟨_, (pss_cons (ps_if (pt_not (pt_val (pe_call DPa.ok (hr.mono (by omega)) rfl DPa.g DPa.kp DPa.b .nil pass0 (pa_cons (pv 0) pa_nil)))) (pss_one (ps_ret pe_str)) pss_nil)
      (pss_cons (ps_if (pt_not (pt_val (pe_call DBl.ok (hr.mono (by omega)) rfl DBl.g DBl.kp DBl.b .nil pass0 (pa_cons (pv 1) pa_nil)))) (pss_one (ps_ret pe_str)) pss_nil)
      (pss_cons (ps_if (pt_not (pt_val (pe_call DRe.ok (hr.mono (by omega)) rfl DRe.g DRe.kp DRe.b .nil pass0 (pa_cons (pv 2) (pa_cons (pv 1) pa_nil))))) (pss_one (ps_ret pe_str)) pss_nil)
      (pss_cons (ps_if (pt_not (pt_val (pe_call DCa.ok (hr.mono (by omega)) rfl DCa.g DCa.kp DCa.b .nil pass0 (pa_cons (pv 3) pa_nil)))) (pss_one (ps_ret pe_str)) pss_nil)
      (pss_cons (ps_if (pt_not (pt_val (pe_call DOu.ok (hr.mono (by omega)) rfl DOu.g DOu.kp DOu.b .nil pass0 (pa_cons (pv 4) pa_nil)))) (pss_one (ps_ret pe_str)) pss_nil)
      (pss_cons (ps_if (pt_not (pt_val (pe_call DMo.ok (hr.mono (by omega)) rfl DMo.g DMo.kp DMo.b .nil pass0 (pa_cons (pv 5) (pa_cons (pv 1) pa_nil))))) (pss_one (ps_ret pe_str)) pss_nil)
      (pss_one (ps_ret pe_non)))))))), ?_⟩
    refine ⟨_, rfl, [a], rfl, rfl, on (by simp) (Same.refl H), fun H1 k1 => ⟨_, rfl, iteN rfl ?_⟩⟩
    refine ⟨_, rfl, [b], rfl, rfl, on (by simp) k1, fun H2 k2 => ⟨_, rfl, iteN rfl ?_⟩⟩
    have k2 := Same.trans k1 k2
    refine ⟨_, rfl, _, rfl, [c, b], rfl, rfl, tw (by simp) (by simp) k2, fun H3 k3 => ⟨_, rfl, iteN rfl ?_⟩⟩
    have k3 := Same.trans k2 k3
    refine ⟨_, rfl, [d], rfl, rfl, on (by simp) k3, fun H4 k4 => ⟨_, rfl, iteN rfl ?_⟩⟩
    have k4 := Same.trans k3 k4
    refine ⟨_, rfl, [e], rfl, rfl, on (by simp) k4, fun H5 k5 => ⟨_, rfl, iteN rfl ?_⟩⟩
    have k5 := Same.trans k4 k5
    refine ⟨_, rfl, _, rfl, [g, b], rfl, rfl, tw (by simp) (by simp) k5, fun H6 k6 => ⟨_, rfl, iteN rfl ?_⟩⟩
    exact k H6 (Same.trans k5 k6)
abbrev sCfg : Stmt := inClass (Pf.top 35) 0
abbrev NCfg : List Str := ["self", "params", "blocks", "readings", "calls", "outputs", "moves", "at"]
abbrev psCfg : List Str := ["self", "params", "blocks", "readings", "calls", "outputs", "moves"]
theorem scCfg : FnScope NCfg psCfg (defScope sCfg) := ⟨rfl, rfl, rfl, by decide +kernel, rfl, by decide +kernel, by decide +kernel⟩
theorem lk_hd {f : Str} {v : V} {r : List (Str × V)} : ((f, v) :: r).lookup f = some v := by simp [List.lookup]
theorem lk_tl {f g : Str} {v : V} {r : List (Str × V)} (h : (f == g) = false) : ((g, v) :: r).lookup f = r.lookup f := by simp [List.lookup, h]
/-- the fields f named ns, put one behind another -/
def putAll : List (Str × V) → List (Str × V) → List (Str × V)
  | fs, [] => fs
  | fs, (n, v) :: r => putAll (putF n v fs) r
theorem putF_new {n : Str} {v : V} : ∀ {fs : List (Str × V)}, n ∉ fs.map (·.1) → putF n v fs = fs ++ [(n, v)]
  | [], _ => rfl
  | (m, x) :: r, h => by
    simp only [List.map_cons, List.mem_cons, not_or] at h
    show (if m = n then _ else _) = _
    rw [if_neg (fun e => h.1 e.symm), putF_new h.2]
    rfl
abbrev six (a b c d e g : Addr) : List (Str × V) := [("params", .ref a), ("blocks", .ref b), ("readings", .ref c), ("calls", .ref d), ("outputs", .ref e), ("moves", .ref g)]
theorem few {n : Str} {v : V} {k : Nat} : ∀ {fs : List (Str × V)}, fs.length ≤ k → (putF n v fs).length ≤ k + 1
  | [], h => by simp [putF]
  | (m, x) :: r, h => by
    show (if m = n then _ else _ : List (Str × V)).length ≤ _
    split
    · simp only [List.length_cons] at *; omega
    · have := few (n := n) (v := v) (k := k - 1) (fs := r) (by simp only [List.length_cons] at h; omega)
      simp only [List.length_cons] at *
      omega
theorem putAll_eq : ∀ (l fs : List (Str × V)), ((fs ++ l).map (·.1)).Nodup → putAll fs l = fs ++ l
  | [], fs, _ => (List.append_nil fs).symm
  | (n, v) :: r, fs, h => by
    have hn : n ∉ fs.map (·.1) := fun z => by
      rw [List.map_append, List.map_cons] at h
      exact (List.nodup_append.mp h).2.2 _ z _ List.mem_cons_self rfl
    show putAll (putF n v fs) r = _
    rw [putF_new hn, putAll_eq r (fs ++ [(n, v)]) (by simpa using h)]
    simp
theorem put_six {a b c d e g : Addr} : putF "moves" (V.ref g) (putF "outputs" (V.ref e) (putF "calls" (V.ref d) (putF "readings" (V.ref c) (putF "blocks" (V.ref b) (putF "params" (V.ref a) []))))) = six a b c d e g :=
  putAll_eq (six a b c d e g) [] (show (["params", "blocks", "readings", "calls", "outputs", "moves"] : List Str).Nodup by decide +kernel)
/-- a Config of nothing stands at p -/
def CfAt (K : PySem.W.Frag) (C : Addr) (H : Hp) (p : Addr) : Prop := ∃ dx a b c d e g, H p = some (.ins C dx (six a b c d e g)) ∧ ∀ t ∈ [a, b, c, d, e, g], SqT K H t []
theorem CfAt.keep {C : Addr} {H H' : Hp} {p : Addr} (h : CfAt K C H p) (k : Same H H') : CfAt K C H' p := by
  obtain ⟨dx, a, b, c, d, e, g, h1, h2⟩ := h
  exact ⟨dx, a, b, c, d, e, g, k _ _ h1, fun t ht => SqT.same (h2 t ht) k⟩
structure TxtF (K : PySem.W.Frag) (mg : Str → Option Value) (C : Addr) : Prop where
  cl : Cls K C
  no : ∀ f ∈ ["params", "blocks", "readings", "calls", "outputs", "moves"], NoAttr K C f
  mg : mg "Config" = some (.ref C)
def spCfg (K : PySem.W.Frag) (C : Addr) : Sp := fun vs H Q _ => ∃ (p dx : Addr) (ts : List Addr), vs = .ref p :: ts.map V.ref ∧ ts.length = 6 ∧ H p = some (.ins C dx []) ∧ (∀ t ∈ ts, SqT K H t []) ∧
  ∀ H', Pf.But p H H' → CfAt K C H' p → Q .non H'
theorem sqt_but {H H' : Hp} {p a : Addr} {o : HO} {xs : List V} (h : SqT K H a xs) (hp : H p = some o) (ho : o ≠ .tup xs ∧ ∀ b, o ≠ .frz b (.tup xs)) (k : Pf.But p H H') : SqT K H' a xs :=
  h.elim (fun h => .inl (h.elim (fun h => .inl (k _ _ h fun e => by rw [e, hp] at h; exact ho.1 (Option.some.inj h))) fun ⟨b, h⟩ => .inr ⟨b, k _ _ h fun e => by rw [e, hp] at h; exact ho.2 b (Option.some.inj h)⟩)) fun h => .inr h
theorem ok_cfg {f fW : Addr} {fd fdW : FuncData} {C : Addr} {kws : List (Str × V)} (F : FunD K "__init__" "Config.__init__" (defArgs sCfg) (defBody sCfg) (defScope sCfg) [] kws f fd) (T : TxtF K mg C) (DW : Def P w K mg base 3 "_wrong_part" fW fdW NWro (spE 6 .non K)) : FnOk P w K mg base CX0 4 f fd psCfg (spCfg K C) := by
  refine F.ok scCfg (fun vs H Q E h => ?_) (fun cdv A outer s H vs Q E hr h => ?_)
  · obtain ⟨p, dx, ts, rfl, e, _⟩ := h
    rw [List.length_cons, List.length_map, e]
    rfl
  · obtain ⟨p, dx, ts, rfl, el, hp, h0, k⟩ := h
    obtain ⟨a, b, c, d, e, g, rfl⟩ := six_of el
    refine ⟨_, (pss_cons (ps_set (i := 7) scCfg.nd rfl (Or.inl rfl) (pe_call DW.ok (hr.mono (by omega)) rfl DW.g DW.kp DW.b .nil pass0 (pa_cons (pv 1) (pa_cons (pv 2) (pa_cons (pv 3) (pa_cons (pv 4) (pa_cons (pv 5) (pa_cons (pv 6) pa_nil))))))))
      (pss_cons (ps_if (pt_cmpR op_notN (pv 7) pe_non (nomark _)) pss_never pss_nil)
      (pss_cons (ps_fld (pv 0) (pv 1) rfl) (pss_cons (ps_fld (pv 0) (pv 2) rfl) (pss_cons (ps_fld (pv 0) (pv 3) rfl) (pss_cons (ps_fld (pv 0) (pv 4) rfl) (pss_cons (ps_fld (pv 0) (pv 5) rfl) (pss_one (ps_fld (pv 0) (pv 6) rfl))))))))), ?_⟩
    refine ⟨_, rfl, _, rfl, _, rfl, _, rfl, _, rfl, _, rfl, [a, b, c, d, e, g], rfl, rfl, h0, fun H1 k1 => ?_⟩
    refine ⟨_, rfl, rfl, _, rfl, iteN (by simp) ?_⟩
    have p1 := k1 _ _ hp
    refine ⟨_, rfl, _, rfl, p, C, dx, _, rfl, p1, T.cl, T.no _ (by simp), Nat.lt_of_le_of_lt (show ([] : List (Str × V)).length ≤ 0 from Nat.le_refl 0) (by decide), ?_⟩
    refine ⟨_, rfl, _, rfl, p, C, dx, _, rfl, upd_same, T.cl, T.no _ (by simp), Nat.lt_of_le_of_lt (few (show ([] : List (Str × V)).length ≤ 0 from Nat.le_refl 0)) (by decide), ?_⟩
    refine ⟨_, rfl, _, rfl, p, C, dx, _, rfl, upd_same, T.cl, T.no _ (by simp), Nat.lt_of_le_of_lt (few (few (show ([] : List (Str × V)).length ≤ 0 from Nat.le_refl 0))) (by decide), ?_⟩
    refine ⟨_, rfl, _, rfl, p, C, dx, _, rfl, upd_same, T.cl, T.no _ (by simp), Nat.lt_of_le_of_lt (few (few (few (show ([] : List (Str × V)).length ≤ 0 from Nat.le_refl 0)))) (by decide), ?_⟩
    refine ⟨_, rfl, _, rfl, p, C, dx, _, rfl, upd_same, T.cl, T.no _ (by simp), Nat.lt_of_le_of_lt (few (few (few (few (show ([] : List (Str × V)).length ≤ 0 from Nat.le_refl 0))))) (by decide), ?_⟩
    refine ⟨_, rfl, _, rfl, p, C, dx, _, rfl, upd_same, T.cl, T.no _ (by simp), Nat.lt_of_le_of_lt (few (few (few (few (few (show ([] : List (Str × V)).length ≤ 0 from Nat.le_refl 0)))))) (by decide), ?_⟩
    rw [upd_upd, upd_upd, upd_upd, upd_upd, upd_upd, put_six]
    refine k _ (fun b o eb nb => (upd_ne nb).trans (k1 b o eb)) ⟨dx, a, b, c, d, e, g, upd_same, fun t ht => ?_⟩
    exact sqt_but (SqT.same (h0 t ht) k1) p1 ⟨fun z => (by cases z), fun b z => (by cases z)⟩ (fun b o eb nb => (upd_ne nb).trans eb)
end
end Cf

set_option Elab.async false
set_option linter.all false
set_option maxRecDepth 100000
set_option maxHeartbeats 4000000
/-! own classes whose objects are equal just if their parts are -/
namespace Vq
open PySem PySem.Spec PyProof.Rows L2 Dq Vl Ow Cf
/-- no objects -/
def O0 (K : PySem.W.Frag) : Obs Empty := ⟨fun _ o _ => o.elim, fun o => o.elim, fun o => o.elim, K⟩
theorem O0ok {K : PySem.W.Frag} : ObsOk K (O0 K) := ⟨fun {_ _ o _} _ _ => o.elim, fun {_ o _} _ => o.elim, fun o => o.elim, fun o => o.elim, fun o => o.elim, rfl⟩
/-- an object of the class at C at p: its fields named ns, of the data xs -/
def ObjAt {OB : Type} (C : Addr) (ns : List Str) (O : Obs OB) (H : Hp) (p : Addr) (xs : List (DV OB)) : Prop := ∃ dx ws, H p = some (.ins C dx (ns.zip ws)) ∧ ws.length = ns.length ∧ DvL O H xs ws
theorem ObjAt.keep {OB : Type} {K : PySem.W.Frag} {O : Obs OB} (ok : ObsOk K O) {C : Addr} {ns : List Str} {H H' : Hp} {p : Addr} {xs : List (DV OB)} (h : ObjAt C ns O H p xs) (k : Same H H') : ObjAt C ns O H' p xs := by
  obtain ⟨dx, ws, h1, h2, h3⟩ := h
  exact ⟨dx, ws, k _ _ h1, h2, DvL.keep ok k _ _ h3⟩
theorem lk_none {m : Str} : ∀ {ns : List Str} {ws : List V}, m ∉ ns → (ns.zip ws).lookup m = none
  | [], _, _ => by simp [List.lookup]
  | n :: ns, [], _ => by simp [List.lookup]
  | n :: ns, w :: ws, h => by
    simp only [List.mem_cons, not_or] at h
    have e : (m == n) = false := by simpa using h.1
    show List.lookup m ((n, w) :: ns.zip ws) = none
    rw [lk_tl e]
    exact lk_none h.2
structure TxtK (K : PySem.W.Frag) (C : Addr) (ns : List Str) : Prop where
  cl : Cls K C
  no : ∀ f ∈ ns, NoAttr K C f
def spInit (C : Addr) (ns : List Str) : Sp := fun vs H Q _ => ∃ (p dx : Addr) (ws : List V), vs = .ref p :: ws ∧ ws.length = ns.length ∧ H p = some (.ins C dx []) ∧ ∀ H', Pf.But p H H' → H' p = some (.ins C dx (ns.zip ws)) → Q .non H'
def spParts (C : Addr) (ns : List Str) : Sp := fun vs H Q _ => ∃ (p dx : Addr) (ws : List V), vs = [.ref p] ∧ H p = some (.ins C dx (ns.zip ws)) ∧ ws.length = ns.length ∧ ∀ t, H t = none → Q (.ref t) (upd H t (.tup ws))
section
variable {X : Cx}
theorem call_ty2 : CallR X (.type "type") (fun xs H Q => (∃ a D dx fs, xs = [.ref a] ∧ H a = some (.ins D dx fs) ∧ Q (.ref D) H) ∨ (∃ x T, xs = [x] ∧ TyB X.K H x T ∧ Q (.ty T) H)) := fun pins s σ H xs us Q I r h => by
  rcases h with ⟨a, D, dx, fs, e, ea, q⟩ | ⟨x, T, e, t, q⟩
  · exact cr_type pins s σ H xs us Q I r ⟨a, D, dx, fs, e, ea, q⟩
  · exact call_type1 pins s σ H xs us Q I r ⟨x, T, e, t, q⟩
theorem op_is2 : OpR X (compareOp .Is) (fun a b H Q => (∃ C D, a = .ref C ∧ b = .ref D ∧ PySem.W.makesIn X.K C = true ∧ PySem.W.makesIn X.K D = true ∧ Q (.bl (decide (C = D))) H) ∨ (∃ C T, a = .ref C ∧ b = .ty T ∧ Q (.bl false) H)) := fun pins s σ H a b v u Q I rx ry h => by
  rcases h with ⟨C, D, rfl, rfl, m1, m2, q⟩ | ⟨C, T, rfl, rfl, q⟩
  · refine op_is_cls pins s σ H _ _ v u Q I rx ry ⟨_, _, rfl, rfl, .inr ⟨m1, m2⟩, ?_⟩
    have : decide (V.ref C = V.ref D) = decide (C = D) := by rw [Bool.eq_iff_iff]; simp
    first | rwa [← this] at q | exact q
  · cases (show v = Value.ref C from rx)
    cases (show u = Value.type T from ry)
    exact wpAny_is_other rfl (fun z => by cases z) ⟨.bl false, H, I, rfl, q⟩
end
/-- == by the parts: of another object of the class; of anything else -/
def spVEq {OB : Type} (K : PySem.W.Frag) (C : Addr) (ns : List Str) (O : Obs OB) : Sp := fun vs H Q _ => ∃ (p : Addr) (u : V) (xs : List (DV OB)), vs = [.ref p, u] ∧ ObjAt C ns O H p xs ∧ wtL xs ≤ 80000 ∧
  ((∃ q ys, u = .ref q ∧ ObjAt C ns O H q ys ∧ wtL ys ≤ 80000 ∧ ∀ H', Same H H' → Q (.bl (eqL O xs ys)) H') ∨ (∃ q D dx fs, u = .ref q ∧ H q = some (.ins D dx fs) ∧ PySem.W.makesIn K D = true ∧ D ≠ C ∧ Q (.bl false) H) ∨ (∃ T, TyB K H u T ∧ Q (.bl false) H))
abbrev sVEq : Stmt := inClass (Pf.top 3) 1
theorem scVEq : FnScope ["self", "other"] ["self", "other"] (defScope sVEq) := ⟨rfl, rfl, rfl, by decide +kernel, rfl, by decide +kernel, by decide +kernel⟩
section
variable {P : Program} {w : World} {K : PySem.W.Frag} {mg : Str → Option Value} {base : Heap} {C : Addr} {ns : List Str}
theorem ok_veq {OB : Type} {O : Obs OB} {j k : Nat} (hj : 1 ≤ j) {f fP fE : Addr} {fd fdP fdE : FuncData} (F : Fun K "__eq__" "Valued.__eq__" sVEq f fd) (T : TxtK K C ns) (hn : ("parts" : Str) ∉ ns) (ht : mg "type" = none) (hm : PySem.W.makesIn K C = true) (ok : ObsOk K O) (M : Meth K C "parts" fP) (GP : FnOk P w K mg base CX0 1 fP fdP ["self"] (spParts C ns)) (bP : Binds K fdP ["self"] [])
    (DE : Def P w K mg base j "equal" fE fdE ["one", "other"] (spEqual O)) : FnOk P w K mg base CX0 (j + 1) f fd ["self", "other"] (spVEq K C ns O) := by
  refine F.ok scVEq (fun vs H Q E h => ?_) (fun cdv A outer s H vs Q E hr h => ?_)
  · obtain ⟨p, u, xs, rfl, _⟩ := h
    rfl
  · obtain ⟨p, u, xs, rfl, hp, wx, h⟩ := h
    refine ⟨_, pss_one (ps_ret (pe_and (pe_cmpR op_is2 (pe_callTy call_ty2 (by rfl) ht (by decide +kernel) (pa_cons (pv 0) pa_nil)) (pe_callTy call_ty2 (by rfl) ht (by decide +kernel) (pa_cons (pv 1) pa_nil)) (nomark _))
      (pe_one (pe_call DE.ok hr rfl DE.g DE.kp DE.b .nil pass0 (pa_cons (pe_meth0 (pv 0) T.cl M GP (hr.mono hj) bP .nil pass0) (pa_cons (pe_meth0 (pv 1) T.cl M GP (hr.mono hj) bP .nil pass0) pa_nil)))))), ?_⟩
    obtain ⟨dx, ws, ep, el, dl⟩ := id hp
    refine ⟨_, rfl, .inl ⟨p, C, dx, _, rfl, ep, ?_⟩⟩
    rcases h with ⟨q, ys, rfl, hq, wy, k⟩ | ⟨q, D, dx', fs', rfl, eq', mD, nD, k⟩ | ⟨T', ty, k⟩
    · obtain ⟨dx', ws', eq', el', dl'⟩ := id hq
      refine ⟨_, rfl, .inl ⟨q, C, dx', _, rfl, eq', .inl ⟨C, C, rfl, rfl, hm, hm, _, rfl, iteC (by simp) ?_⟩⟩⟩
      refine ⟨_, rfl, p, dx, _, rfl, ep, lk_none hn, p, dx, ws, rfl, ep, el, fun t1 h1 => ?_⟩
      have k1 := sm_upd (o := .tup ws) h1
      have e1 : (upd H t1 (.tup ws)) t1 = some (.tup ws) := upd_same
      generalize upd H t1 (.tup ws) = H1 at k1 e1 ⊢
      refine ⟨_, rfl, q, dx', _, rfl, k1 _ _ eq', lk_none hn, q, dx', ws', rfl, k1 _ _ eq', el', fun t2 h2 => ?_⟩
      have k2 := sm_upd (o := .tup ws') h2
      have e2 : (upd H1 t2 (.tup ws')) t2 = some (.tup ws') := upd_same
      generalize upd H1 t2 (.tup ws') = H2 at k2 e2 ⊢
      have k12 := Same.trans k1 k2
      refine ⟨.ref t1, .ref t2, .tup xs, .tup ys, rfl, ⟨t1, ws, rfl, SqT.of (k2 _ _ e1), DvL.keep ok k12 _ _ dl⟩, ⟨t2, ws', rfl, SqT.of e2, DvL.keep ok k12 _ _ dl'⟩, by rw [wt]; omega, by rw [wt]; omega, fun H3 k3 => ?_⟩
      rw [eqD]
      exact k H3 (Same.trans k12 k3)
    · refine ⟨_, rfl, .inl ⟨q, D, dx', _, rfl, eq', .inl ⟨C, D, rfl, rfl, hm, mD, _, rfl, iteN (by simp [Ne.symm nD]) k⟩⟩⟩
    · refine ⟨_, rfl, .inr ⟨u, T', rfl, ty, .inr ⟨C, T', rfl, rfl, _, rfl, iteN rfl k⟩⟩⟩
end
/-! ### Config objects, as parts of others -/
def OF (K : PySem.W.Frag) (C : Addr) : Obs Unit := ⟨fun H _ v => ∃ a, v = .ref a ∧ CfAt K C H a, fun _ => C, fun _ _ => true, K⟩
abbrev ns6 : List Str := ["params", "blocks", "readings", "calls", "outputs", "moves"]
def e6 : List (DV Empty) := [.tup [], .tup [], .tup [], .tup [], .tup [], .tup []]
theorem cf_obj {K : PySem.W.Frag} {C : Addr} {H : Hp} {a : Addr} (h : CfAt K C H a) : ObjAt C ns6 (O0 K) H a e6 := by
  obtain ⟨dx, t1, t2, t3, t4, t5, t6, h1, h2⟩ := h
  refine ⟨dx, [.ref t1, .ref t2, .ref t3, .ref t4, .ref t5, .ref t6], h1, rfl, ?_⟩
  have g : ∀ t ∈ [t1, t2, t3, t4, t5, t6], Dv (O0 K) H (.tup []) (.ref t) := fun t ht => ⟨t, [], rfl, h2 t ht, rfl⟩
  exact ⟨_, _, rfl, g _ (by simp), _, _, rfl, g _ (by simp), _, _, rfl, g _ (by simp), _, _, rfl, g _ (by simp), _, _, rfl, g _ (by simp), _, _, rfl, g _ (by simp), rfl⟩
theorem e6_eq {K : PySem.W.Frag} : eqL (O0 K) e6 e6 = true := by simp [e6, eqL, eqD]
theorem obeq_F {P : Program} {w : World} {K : PySem.W.Frag} {mg : Str → Option Value} {base : Heap} {C f : Addr} {fd : FuncData} {k : Nat} {ps : List Str} (O : OwnQ K C f) (IC : C8.InsC K C) (F : FnOk P w K mg base CX0 k f fd ps (spVEq K C ns6 (O0 K))) (hb : Binds K fd ps []) : ObEq P w K mg base k (OF K C) := by
  refine ⟨?_⟩
  intro Y e1 e2 e3 e4 e5 hr
  subst e1 e2 e3 e4 e5
  intro pins s σ H x y v u Q I rx ry h
  obtain ⟨_, _, ⟨a, rfl, ha⟩, ⟨b, rfl, hb'⟩, _, kq⟩ := h
  obtain ⟨dx, ws, ea, _⟩ := cf_obj ha
  obtain ⟨dx', ws', eb, _⟩ := cf_obj hb'
  refine op_eqO O F hb hr pins s σ H _ _ v u Q I rx ry ⟨a, dx, _, .ref C, rfl, ea, .base (.ins eb IC.cl IC.ha IC.hn IC.htk IC.hm), by simp [PySem.W.notFirst], a, _, e6, rfl, cf_obj ha, by simp [e6, wtL, wt], .inl ⟨b, e6, rfl, cf_obj hb', by simp [e6, wtL, wt], fun H' k' => ⟨_, rfl, ?_⟩⟩⟩
  rw [e6_eq]
  exact kq H' k'

abbrev nsBlock : List Str := ["kind", "name", "attributes", "many", "after", "first", "never", "ignored", "replaced_by", "ahead"]
abbrev sIBlock : Stmt := inClass (Pf.top 31) 0
abbrev sPBlock : Stmt := inClass (Pf.top 31) 1
theorem scIBlock : FnScope ("self" :: nsBlock) ("self" :: nsBlock) (defScope sIBlock) := ⟨rfl, rfl, rfl, by decide +kernel, rfl, by decide +kernel, by decide +kernel⟩
theorem scPBlock : FnScope ["self"] ["self"] (defScope sPBlock) := ⟨rfl, rfl, rfl, by decide +kernel, rfl, by decide +kernel, by decide +kernel⟩
theorem putBlock {v0 v1 v2 v3 v4 v5 v6 v7 v8 v9 : V} : (putF "ahead" v9 (putF "replaced_by" v8 (putF "ignored" v7 (putF "never" v6 (putF "first" v5 (putF "after" v4 (putF "many" v3 (putF "attributes" v2 (putF "name" v1 (putF "kind" v0 [])))))))))) = nsBlock.zip [v0, v1, v2, v3, v4, v5, v6, v7, v8, v9] :=
  putAll_eq (nsBlock.zip [v0, v1, v2, v3, v4, v5, v6, v7, v8, v9]) [] (show (nsBlock).Nodup by decide +kernel)
section
variable {P : Program} {w : World} {K : PySem.W.Frag} {mg : Str → Option Value} {base : Heap} {C : Addr}
theorem ok_IBlock {f : Addr} {fd : FuncData} {dvs : List V} {kws : List (Str × V)} (F : FunD K "__init__" "Block.__init__" (defArgs sIBlock) (defBody sIBlock) (defScope sIBlock) dvs kws f fd) (T : TxtK K C nsBlock) : FnOk P w K mg base CX0 1 f fd ("self" :: nsBlock) (spInit C nsBlock) := by
  refine F.ok scIBlock (fun vs H Q E h => ?_) (fun cdv A outer s H vs Q E hr h => ?_)
  · obtain ⟨p, dx, ws, rfl, el, _⟩ := h
    rw [List.length_cons, el]
    rfl
  · obtain ⟨p, dx, ws, rfl, el, hp, k⟩ := h
    match ws, el with
    | [v0, v1, v2, v3, v4, v5, v6, v7, v8, v9], _ =>
    refine ⟨_, (pss_cons (ps_fld (pv 0) (pv 1) rfl) (pss_cons (ps_fld (pv 0) (pv 2) rfl) (pss_cons (ps_fld (pv 0) (pv 3) rfl) (pss_cons (ps_fld (pv 0) (pv 4) rfl) (pss_cons (ps_fld (pv 0) (pv 5) rfl) (pss_cons (ps_fld (pv 0) (pv 6) rfl) (pss_cons (ps_fld (pv 0) (pv 7) rfl) (pss_cons (ps_fld (pv 0) (pv 8) rfl) (pss_cons (ps_fld (pv 0) (pv 9) rfl) (pss_one (ps_fld (pv 0) (pv 10) rfl))))))))))), ?_⟩
    refine ⟨_, rfl, _, rfl, p, C, dx, _, rfl, hp, T.cl, T.no _ (by simp), Nat.lt_of_le_of_lt (show ([] : List (Str × V)).length ≤ 0 from Nat.le_refl 0) (by decide), ?_⟩
    refine ⟨_, rfl, _, rfl, p, C, dx, _, rfl, upd_same, T.cl, T.no _ (by simp), Nat.lt_of_le_of_lt (few (show ([] : List (Str × V)).length ≤ 0 from Nat.le_refl 0)) (by decide), ?_⟩
    refine ⟨_, rfl, _, rfl, p, C, dx, _, rfl, upd_same, T.cl, T.no _ (by simp), Nat.lt_of_le_of_lt (few (few (show ([] : List (Str × V)).length ≤ 0 from Nat.le_refl 0))) (by decide), ?_⟩
    refine ⟨_, rfl, _, rfl, p, C, dx, _, rfl, upd_same, T.cl, T.no _ (by simp), Nat.lt_of_le_of_lt (few (few (few (show ([] : List (Str × V)).length ≤ 0 from Nat.le_refl 0)))) (by decide), ?_⟩
    refine ⟨_, rfl, _, rfl, p, C, dx, _, rfl, upd_same, T.cl, T.no _ (by simp), Nat.lt_of_le_of_lt (few (few (few (few (show ([] : List (Str × V)).length ≤ 0 from Nat.le_refl 0))))) (by decide), ?_⟩
    refine ⟨_, rfl, _, rfl, p, C, dx, _, rfl, upd_same, T.cl, T.no _ (by simp), Nat.lt_of_le_of_lt (few (few (few (few (few (show ([] : List (Str × V)).length ≤ 0 from Nat.le_refl 0)))))) (by decide), ?_⟩
    refine ⟨_, rfl, _, rfl, p, C, dx, _, rfl, upd_same, T.cl, T.no _ (by simp), Nat.lt_of_le_of_lt (few (few (few (few (few (few (show ([] : List (Str × V)).length ≤ 0 from Nat.le_refl 0))))))) (by decide), ?_⟩
    refine ⟨_, rfl, _, rfl, p, C, dx, _, rfl, upd_same, T.cl, T.no _ (by simp), Nat.lt_of_le_of_lt (few (few (few (few (few (few (few (show ([] : List (Str × V)).length ≤ 0 from Nat.le_refl 0)))))))) (by decide), ?_⟩
    refine ⟨_, rfl, _, rfl, p, C, dx, _, rfl, upd_same, T.cl, T.no _ (by simp), Nat.lt_of_le_of_lt (few (few (few (few (few (few (few (few (show ([] : List (Str × V)).length ≤ 0 from Nat.le_refl 0))))))))) (by decide), ?_⟩
    refine ⟨_, rfl, _, rfl, p, C, dx, _, rfl, upd_same, T.cl, T.no _ (by simp), Nat.lt_of_le_of_lt (few (few (few (few (few (few (few (few (few (show ([] : List (Str × V)).length ≤ 0 from Nat.le_refl 0)))))))))) (by decide), ?_⟩
    rw [upd_upd, upd_upd, upd_upd, upd_upd, upd_upd, upd_upd, upd_upd, upd_upd, upd_upd, putBlock]
    exact k _ (fun b o eb nb => (upd_ne nb).trans eb) upd_same
theorem ok_PBlock {f : Addr} {fd : FuncData} (F : Fun K "parts" "Block.parts" sPBlock f fd) (T : TxtK K C nsBlock) : FnOk P w K mg base CX0 1 f fd ["self"] (spParts C nsBlock) := by
  refine F.ok scPBlock (fun vs H Q E h => ?_) (fun cdv A outer s H vs Q E hr h => ?_)
  · obtain ⟨p, dx, ws, rfl, _⟩ := h
    rfl
  · obtain ⟨p, dx, ws, rfl, hp, el, k⟩ := h
    match ws, el with
    | [v0, v1, v2, v3, v4, v5, v6, v7, v8, v9], _ =>
    refine ⟨_, pss_one (ps_ret (pe_tup (pa_cons (pe_fld (pv 0) rfl) (pa_cons (pe_fld (pv 0) rfl) (pa_cons (pe_fld (pv 0) rfl) (pa_cons (pe_fld (pv 0) rfl) (pa_cons (pe_fld (pv 0) rfl) (pa_cons (pe_fld (pv 0) rfl) (pa_cons (pe_fld (pv 0) rfl) (pa_cons (pe_fld (pv 0) rfl) (pa_cons (pe_fld (pv 0) rfl) (pa_cons (pe_fld (pv 0) rfl) pa_nil)))))))))))), ?_⟩
    refine ⟨_, rfl, p, C, dx, _, _, rfl, hp, T.cl, T.no _ (by simp), lk_hd, ?_⟩
    refine ⟨_, rfl, p, C, dx, _, _, rfl, hp, T.cl, T.no _ (by simp), (lk_tl (by decide +kernel)).trans (lk_hd), ?_⟩
    refine ⟨_, rfl, p, C, dx, _, _, rfl, hp, T.cl, T.no _ (by simp), (lk_tl (by decide +kernel)).trans ((lk_tl (by decide +kernel)).trans (lk_hd)), ?_⟩
    refine ⟨_, rfl, p, C, dx, _, _, rfl, hp, T.cl, T.no _ (by simp), (lk_tl (by decide +kernel)).trans ((lk_tl (by decide +kernel)).trans ((lk_tl (by decide +kernel)).trans (lk_hd))), ?_⟩
    refine ⟨_, rfl, p, C, dx, _, _, rfl, hp, T.cl, T.no _ (by simp), (lk_tl (by decide +kernel)).trans ((lk_tl (by decide +kernel)).trans ((lk_tl (by decide +kernel)).trans ((lk_tl (by decide +kernel)).trans (lk_hd)))), ?_⟩
    refine ⟨_, rfl, p, C, dx, _, _, rfl, hp, T.cl, T.no _ (by simp), (lk_tl (by decide +kernel)).trans ((lk_tl (by decide +kernel)).trans ((lk_tl (by decide +kernel)).trans ((lk_tl (by decide +kernel)).trans ((lk_tl (by decide +kernel)).trans (lk_hd))))), ?_⟩
    refine ⟨_, rfl, p, C, dx, _, _, rfl, hp, T.cl, T.no _ (by simp), (lk_tl (by decide +kernel)).trans ((lk_tl (by decide +kernel)).trans ((lk_tl (by decide +kernel)).trans ((lk_tl (by decide +kernel)).trans ((lk_tl (by decide +kernel)).trans ((lk_tl (by decide +kernel)).trans (lk_hd)))))), ?_⟩
    refine ⟨_, rfl, p, C, dx, _, _, rfl, hp, T.cl, T.no _ (by simp), (lk_tl (by decide +kernel)).trans ((lk_tl (by decide +kernel)).trans ((lk_tl (by decide +kernel)).trans ((lk_tl (by decide +kernel)).trans ((lk_tl (by decide +kernel)).trans ((lk_tl (by decide +kernel)).trans ((lk_tl (by decide +kernel)).trans (lk_hd))))))), ?_⟩
    refine ⟨_, rfl, p, C, dx, _, _, rfl, hp, T.cl, T.no _ (by simp), (lk_tl (by decide +kernel)).trans ((lk_tl (by decide +kernel)).trans ((lk_tl (by decide +kernel)).trans ((lk_tl (by decide +kernel)).trans ((lk_tl (by decide +kernel)).trans ((lk_tl (by decide +kernel)).trans ((lk_tl (by decide +kernel)).trans ((lk_tl (by decide +kernel)).trans (lk_hd)))))))), ?_⟩
    refine ⟨_, rfl, p, C, dx, _, _, rfl, hp, T.cl, T.no _ (by simp), (lk_tl (by decide +kernel)).trans ((lk_tl (by decide +kernel)).trans ((lk_tl (by decide +kernel)).trans ((lk_tl (by decide +kernel)).trans ((lk_tl (by decide +kernel)).trans ((lk_tl (by decide +kernel)).trans ((lk_tl (by decide +kernel)).trans ((lk_tl (by decide +kernel)).trans ((lk_tl (by decide +kernel)).trans (lk_hd))))))))), ?_⟩
    exact ⟨by show 10 ≤ sizeLine; decide, k⟩
end
abbrev nsReading : List Str := ["kind", "name", "question", "after"]
abbrev sIReading : Stmt := inClass (Pf.top 32) 0
abbrev sPReading : Stmt := inClass (Pf.top 32) 1
theorem scIReading : FnScope ("self" :: nsReading) ("self" :: nsReading) (defScope sIReading) := ⟨rfl, rfl, rfl, by decide +kernel, rfl, by decide +kernel, by decide +kernel⟩
theorem scPReading : FnScope ["self"] ["self"] (defScope sPReading) := ⟨rfl, rfl, rfl, by decide +kernel, rfl, by decide +kernel, by decide +kernel⟩
theorem putReading {v0 v1 v2 v3 : V} : (putF "after" v3 (putF "question" v2 (putF "name" v1 (putF "kind" v0 [])))) = nsReading.zip [v0, v1, v2, v3] :=
  putAll_eq (nsReading.zip [v0, v1, v2, v3]) [] (show (nsReading).Nodup by decide +kernel)
section
variable {P : Program} {w : World} {K : PySem.W.Frag} {mg : Str → Option Value} {base : Heap} {C : Addr}
theorem ok_IReading {f : Addr} {fd : FuncData} {dvs : List V} {kws : List (Str × V)} (F : FunD K "__init__" "Reading.__init__" (defArgs sIReading) (defBody sIReading) (defScope sIReading) dvs kws f fd) (T : TxtK K C nsReading) : FnOk P w K mg base CX0 1 f fd ("self" :: nsReading) (spInit C nsReading) := by
  refine F.ok scIReading (fun vs H Q E h => ?_) (fun cdv A outer s H vs Q E hr h => ?_)
  · obtain ⟨p, dx, ws, rfl, el, _⟩ := h
    rw [List.length_cons, el]
    rfl
  · obtain ⟨p, dx, ws, rfl, el, hp, k⟩ := h
    match ws, el with
    | [v0, v1, v2, v3], _ =>
    refine ⟨_, (pss_cons (ps_fld (pv 0) (pv 1) rfl) (pss_cons (ps_fld (pv 0) (pv 2) rfl) (pss_cons (ps_fld (pv 0) (pv 3) rfl) (pss_one (ps_fld (pv 0) (pv 4) rfl))))), ?_⟩
    refine ⟨_, rfl, _, rfl, p, C, dx, _, rfl, hp, T.cl, T.no _ (by simp), Nat.lt_of_le_of_lt (show ([] : List (Str × V)).length ≤ 0 from Nat.le_refl 0) (by decide), ?_⟩
    refine ⟨_, rfl, _, rfl, p, C, dx, _, rfl, upd_same, T.cl, T.no _ (by simp), Nat.lt_of_le_of_lt (few (show ([] : List (Str × V)).length ≤ 0 from Nat.le_refl 0)) (by decide), ?_⟩
    refine ⟨_, rfl, _, rfl, p, C, dx, _, rfl, upd_same, T.cl, T.no _ (by simp), Nat.lt_of_le_of_lt (few (few (show ([] : List (Str × V)).length ≤ 0 from Nat.le_refl 0))) (by decide), ?_⟩
    refine ⟨_, rfl, _, rfl, p, C, dx, _, rfl, upd_same, T.cl, T.no _ (by simp), Nat.lt_of_le_of_lt (few (few (few (show ([] : List (Str × V)).length ≤ 0 from Nat.le_refl 0)))) (by decide), ?_⟩
    rw [upd_upd, upd_upd, upd_upd, putReading]
    exact k _ (fun b o eb nb => (upd_ne nb).trans eb) upd_same
theorem ok_PReading {f : Addr} {fd : FuncData} (F : Fun K "parts" "Reading.parts" sPReading f fd) (T : TxtK K C nsReading) : FnOk P w K mg base CX0 1 f fd ["self"] (spParts C nsReading) := by
  refine F.ok scPReading (fun vs H Q E h => ?_) (fun cdv A outer s H vs Q E hr h => ?_)
  · obtain ⟨p, dx, ws, rfl, _⟩ := h
    rfl
  · obtain ⟨p, dx, ws, rfl, hp, el, k⟩ := h
    match ws, el with
    | [v0, v1, v2, v3], _ =>
    refine ⟨_, pss_one (ps_ret (pe_tup (pa_cons (pe_fld (pv 0) rfl) (pa_cons (pe_fld (pv 0) rfl) (pa_cons (pe_fld (pv 0) rfl) (pa_cons (pe_fld (pv 0) rfl) pa_nil)))))), ?_⟩
    refine ⟨_, rfl, p, C, dx, _, _, rfl, hp, T.cl, T.no _ (by simp), lk_hd, ?_⟩
    refine ⟨_, rfl, p, C, dx, _, _, rfl, hp, T.cl, T.no _ (by simp), (lk_tl (by decide +kernel)).trans (lk_hd), ?_⟩
    refine ⟨_, rfl, p, C, dx, _, _, rfl, hp, T.cl, T.no _ (by simp), (lk_tl (by decide +kernel)).trans ((lk_tl (by decide +kernel)).trans (lk_hd)), ?_⟩
    refine ⟨_, rfl, p, C, dx, _, _, rfl, hp, T.cl, T.no _ (by simp), (lk_tl (by decide +kernel)).trans ((lk_tl (by decide +kernel)).trans ((lk_tl (by decide +kernel)).trans (lk_hd))), ?_⟩
    exact ⟨by show 4 ≤ sizeLine; decide, k⟩
end
abbrev nsCall : List Str := ["name", "config", "arguments", "after"]
abbrev sICall : Stmt := inClass (Pf.top 33) 0
abbrev sPCall : Stmt := inClass (Pf.top 33) 1
theorem scICall : FnScope ("self" :: nsCall) ("self" :: nsCall) (defScope sICall) := ⟨rfl, rfl, rfl, by decide +kernel, rfl, by decide +kernel, by decide +kernel⟩
theorem scPCall : FnScope ["self"] ["self"] (defScope sPCall) := ⟨rfl, rfl, rfl, by decide +kernel, rfl, by decide +kernel, by decide +kernel⟩
theorem putCall {v0 v1 v2 v3 : V} : (putF "after" v3 (putF "arguments" v2 (putF "config" v1 (putF "name" v0 [])))) = nsCall.zip [v0, v1, v2, v3] :=
  putAll_eq (nsCall.zip [v0, v1, v2, v3]) [] (show (nsCall).Nodup by decide +kernel)
section
variable {P : Program} {w : World} {K : PySem.W.Frag} {mg : Str → Option Value} {base : Heap} {C : Addr}
theorem ok_ICall {f : Addr} {fd : FuncData} {dvs : List V} {kws : List (Str × V)} (F : FunD K "__init__" "Call.__init__" (defArgs sICall) (defBody sICall) (defScope sICall) dvs kws f fd) (T : TxtK K C nsCall) : FnOk P w K mg base CX0 1 f fd ("self" :: nsCall) (spInit C nsCall) := by
  refine F.ok scICall (fun vs H Q E h => ?_) (fun cdv A outer s H vs Q E hr h => ?_)
  · obtain ⟨p, dx, ws, rfl, el, _⟩ := h
    rw [List.length_cons, el]
    rfl
  · obtain ⟨p, dx, ws, rfl, el, hp, k⟩ := h
    match ws, el with
    | [v0, v1, v2, v3], _ =>
    refine ⟨_, (pss_cons (ps_fld (pv 0) (pv 1) rfl) (pss_cons (ps_fld (pv 0) (pv 2) rfl) (pss_cons (ps_fld (pv 0) (pv 3) rfl) (pss_one (ps_fld (pv 0) (pv 4) rfl))))), ?_⟩
    refine ⟨_, rfl, _, rfl, p, C, dx, _, rfl, hp, T.cl, T.no _ (by simp), Nat.lt_of_le_of_lt (show ([] : List (Str × V)).length ≤ 0 from Nat.le_refl 0) (by decide), ?_⟩
    refine ⟨_, rfl, _, rfl, p, C, dx, _, rfl, upd_same, T.cl, T.no _ (by simp), Nat.lt_of_le_of_lt (few (show ([] : List (Str × V)).length ≤ 0 from Nat.le_refl 0)) (by decide), ?_⟩
    refine ⟨_, rfl, _, rfl, p, C, dx, _, rfl, upd_same, T.cl, T.no _ (by simp), Nat.lt_of_le_of_lt (few (few (show ([] : List (Str × V)).length ≤ 0 from Nat.le_refl 0))) (by decide), ?_⟩
    refine ⟨_, rfl, _, rfl, p, C, dx, _, rfl, upd_same, T.cl, T.no _ (by simp), Nat.lt_of_le_of_lt (few (few (few (show ([] : List (Str × V)).length ≤ 0 from Nat.le_refl 0)))) (by decide), ?_⟩
    rw [upd_upd, upd_upd, upd_upd, putCall]
    exact k _ (fun b o eb nb => (upd_ne nb).trans eb) upd_same
theorem ok_PCall {f : Addr} {fd : FuncData} (F : Fun K "parts" "Call.parts" sPCall f fd) (T : TxtK K C nsCall) : FnOk P w K mg base CX0 1 f fd ["self"] (spParts C nsCall) := by
  refine F.ok scPCall (fun vs H Q E h => ?_) (fun cdv A outer s H vs Q E hr h => ?_)
  · obtain ⟨p, dx, ws, rfl, _⟩ := h
    rfl
  · obtain ⟨p, dx, ws, rfl, hp, el, k⟩ := h
    match ws, el with
    | [v0, v1, v2, v3], _ =>
    refine ⟨_, pss_one (ps_ret (pe_tup (pa_cons (pe_fld (pv 0) rfl) (pa_cons (pe_fld (pv 0) rfl) (pa_cons (pe_fld (pv 0) rfl) (pa_cons (pe_fld (pv 0) rfl) pa_nil)))))), ?_⟩
    refine ⟨_, rfl, p, C, dx, _, _, rfl, hp, T.cl, T.no _ (by simp), lk_hd, ?_⟩
    refine ⟨_, rfl, p, C, dx, _, _, rfl, hp, T.cl, T.no _ (by simp), (lk_tl (by decide +kernel)).trans (lk_hd), ?_⟩
    refine ⟨_, rfl, p, C, dx, _, _, rfl, hp, T.cl, T.no _ (by simp), (lk_tl (by decide +kernel)).trans ((lk_tl (by decide +kernel)).trans (lk_hd)), ?_⟩
    refine ⟨_, rfl, p, C, dx, _, _, rfl, hp, T.cl, T.no _ (by simp), (lk_tl (by decide +kernel)).trans ((lk_tl (by decide +kernel)).trans ((lk_tl (by decide +kernel)).trans (lk_hd))), ?_⟩
    exact ⟨by show 4 ≤ sizeLine; decide, k⟩
end
abbrev nsMove : List Str := ["old", "new"]
abbrev sIMove : Stmt := inClass (Pf.top 34) 0
abbrev sPMove : Stmt := inClass (Pf.top 34) 1
theorem scIMove : FnScope ("self" :: nsMove) ("self" :: nsMove) (defScope sIMove) := ⟨rfl, rfl, rfl, by decide +kernel, rfl, by decide +kernel, by decide +kernel⟩
theorem scPMove : FnScope ["self"] ["self"] (defScope sPMove) := ⟨rfl, rfl, rfl, by decide +kernel, rfl, by decide +kernel, by decide +kernel⟩
theorem putMove {v0 v1 : V} : (putF "new" v1 (putF "old" v0 [])) = nsMove.zip [v0, v1] :=
  putAll_eq (nsMove.zip [v0, v1]) [] (show (nsMove).Nodup by decide +kernel)
section
variable {P : Program} {w : World} {K : PySem.W.Frag} {mg : Str → Option Value} {base : Heap} {C : Addr}
theorem ok_IMove {f : Addr} {fd : FuncData} {dvs : List V} {kws : List (Str × V)} (F : FunD K "__init__" "Move.__init__" (defArgs sIMove) (defBody sIMove) (defScope sIMove) dvs kws f fd) (T : TxtK K C nsMove) : FnOk P w K mg base CX0 1 f fd ("self" :: nsMove) (spInit C nsMove) := by
  refine F.ok scIMove (fun vs H Q E h => ?_) (fun cdv A outer s H vs Q E hr h => ?_)
  · obtain ⟨p, dx, ws, rfl, el, _⟩ := h
    rw [List.length_cons, el]
    rfl
  · obtain ⟨p, dx, ws, rfl, el, hp, k⟩ := h
    match ws, el with
    | [v0, v1], _ =>
    refine ⟨_, (pss_cons (ps_fld (pv 0) (pv 1) rfl) (pss_one (ps_fld (pv 0) (pv 2) rfl))), ?_⟩
    refine ⟨_, rfl, _, rfl, p, C, dx, _, rfl, hp, T.cl, T.no _ (by simp), Nat.lt_of_le_of_lt (show ([] : List (Str × V)).length ≤ 0 from Nat.le_refl 0) (by decide), ?_⟩
    refine ⟨_, rfl, _, rfl, p, C, dx, _, rfl, upd_same, T.cl, T.no _ (by simp), Nat.lt_of_le_of_lt (few (show ([] : List (Str × V)).length ≤ 0 from Nat.le_refl 0)) (by decide), ?_⟩
    rw [upd_upd, putMove]
    exact k _ (fun b o eb nb => (upd_ne nb).trans eb) upd_same
theorem ok_PMove {f : Addr} {fd : FuncData} (F : Fun K "parts" "Move.parts" sPMove f fd) (T : TxtK K C nsMove) : FnOk P w K mg base CX0 1 f fd ["self"] (spParts C nsMove) := by
  refine F.ok scPMove (fun vs H Q E h => ?_) (fun cdv A outer s H vs Q E hr h => ?_)
  · obtain ⟨p, dx, ws, rfl, _⟩ := h
    rfl
  · obtain ⟨p, dx, ws, rfl, hp, el, k⟩ := h
    match ws, el with
    | [v0, v1], _ =>
    refine ⟨_, pss_one (ps_ret (pe_tup (pa_cons (pe_fld (pv 0) rfl) (pa_cons (pe_fld (pv 0) rfl) pa_nil)))), ?_⟩
    refine ⟨_, rfl, p, C, dx, _, _, rfl, hp, T.cl, T.no _ (by simp), lk_hd, ?_⟩
    refine ⟨_, rfl, p, C, dx, _, _, rfl, hp, T.cl, T.no _ (by simp), (lk_tl (by decide +kernel)).trans (lk_hd), ?_⟩
    exact ⟨by show 2 ≤ sizeLine; decide, k⟩
end
abbrev sPConfig : Stmt := inClass (Pf.top 35) 1
theorem scPConfig : FnScope ["self"] ["self"] (defScope sPConfig) := ⟨rfl, rfl, rfl, by decide +kernel, rfl, by decide +kernel, by decide +kernel⟩
theorem ok_PConfig {P : Program} {w : World} {K : PySem.W.Frag} {mg : Str → Option Value} {base : Heap} {C : Addr} {f : Addr} {fd : FuncData} (F : Fun K "parts" "Config.parts" sPConfig f fd) (T : TxtK K C ns6) : FnOk P w K mg base CX0 1 f fd ["self"] (spParts C ns6) := by
  refine F.ok scPConfig (fun vs H Q E h => ?_) (fun cdv A outer s H vs Q E hr h => ?_)
  · obtain ⟨p, dx, ws, rfl, _⟩ := h
    rfl
  · obtain ⟨p, dx, ws, rfl, hp, el, k⟩ := h
    match ws, el with
    | [v0, v1, v2, v3, v4, v5], _ =>
    refine ⟨_, pss_one (ps_ret (pe_tup (pa_cons (pe_fld (pv 0) rfl) (pa_cons (pe_fld (pv 0) rfl) (pa_cons (pe_fld (pv 0) rfl) (pa_cons (pe_fld (pv 0) rfl) (pa_cons (pe_fld (pv 0) rfl) (pa_cons (pe_fld (pv 0) rfl) pa_nil)))))))), ?_⟩
    refine ⟨_, rfl, p, C, dx, _, _, rfl, hp, T.cl, T.no _ (by simp), lk_hd, ?_⟩
    refine ⟨_, rfl, p, C, dx, _, _, rfl, hp, T.cl, T.no _ (by simp), (lk_tl (by decide +kernel)).trans (lk_hd), ?_⟩
    refine ⟨_, rfl, p, C, dx, _, _, rfl, hp, T.cl, T.no _ (by simp), (lk_tl (by decide +kernel)).trans ((lk_tl (by decide +kernel)).trans (lk_hd)), ?_⟩
    refine ⟨_, rfl, p, C, dx, _, _, rfl, hp, T.cl, T.no _ (by simp), (lk_tl (by decide +kernel)).trans ((lk_tl (by decide +kernel)).trans ((lk_tl (by decide +kernel)).trans (lk_hd))), ?_⟩
    refine ⟨_, rfl, p, C, dx, _, _, rfl, hp, T.cl, T.no _ (by simp), (lk_tl (by decide +kernel)).trans ((lk_tl (by decide +kernel)).trans ((lk_tl (by decide +kernel)).trans ((lk_tl (by decide +kernel)).trans (lk_hd)))), ?_⟩
    refine ⟨_, rfl, p, C, dx, _, _, rfl, hp, T.cl, T.no _ (by simp), (lk_tl (by decide +kernel)).trans ((lk_tl (by decide +kernel)).trans ((lk_tl (by decide +kernel)).trans ((lk_tl (by decide +kernel)).trans ((lk_tl (by decide +kernel)).trans (lk_hd))))), ?_⟩
    exact ⟨by show 6 ≤ sizeLine; decide, k⟩
end Vq

set_option Elab.async false
set_option linter.all false
set_option maxRecDepth 100000
set_option maxHeartbeats 4000000
/-! the law's data and what it says of them -/
namespace Da
open PySem PySem.Spec PyProof.Rows L2 Dq Vl Vq
abbrev D := DV Unit
/-! ### equal data, without a place -/
mutual
def eqU : D → D → Bool
  | .non, .non => true
  | .bl a, .bl b => decide (a = b)
  | .int a, .int b => decide (a = b)
  | .str a, .str b => decide (a = b)
  | .ob _, .ob _ => true
  | .tup l, .tup m => eqUL l m
  | .lst l, .lst m => eqUL l m
  | .map ks l, .map js m => decide (ks.length = js.length) && eqUM ks l js m
  | _, _ => false
def eqUL : List D → List D → Bool
  | [], [] => true
  | x :: l, y :: m => eqU x y && eqUL l m
  | _, _ => false
def eqUM (ks : List Str) : List D → List Str → List D → Bool
  | [], _, _ => true
  | x :: l, js, m => (match ks with | k :: _ => (match look js m k with | some y => eqU x y | none => false) | [] => true) && eqUM (ks.drop 1) l js m
end
variable {K : PySem.W.Frag} {C : Addr}
mutual
theorem eqU_D : ∀ x y : D, eqD (OF K C) x y = eqU x y
  | .non, y => by cases y <;> rfl
  | .bl a, y => by cases y <;> rfl
  | .int a, y => by cases y <;> rfl
  | .str a, y => by cases y <;> rfl
  | .ob a, y => by cases y <;> simp [eqD, eqU, OF]
  | .tup l, y => by
    cases y <;> simp only [eqD, eqU]
    exact eqU_L l _
  | .lst l, y => by
    cases y <;> simp only [eqD, eqU]
    exact eqU_L l _
  | .map ks l, y => by
    cases y <;> simp only [eqD, eqU]
    rw [eqU_M ks l]
theorem eqU_L : ∀ x y : List D, eqL (OF K C) x y = eqUL x y
  | [], y => by cases y <;> simp [eqL, eqUL]
  | x :: l, [] => by simp [eqL, eqUL]
  | x :: l, y :: m => by rw [eqL, eqUL, eqU_D x y, eqU_L l m]
theorem eqU_M (ks : List Str) : ∀ (l : List D) (js : List Str) (m : List D), eqM (OF K C) ks l js m = eqUM ks l js m
  | [], js, m => by simp [eqM, eqUM]
  | x :: l, js, m => by
    have ih := eqU_M (ks.drop 1) l js m
    cases ks with
    | nil =>
      simp only [eqM, eqUM]
      rw [ih]
    | cons k ks =>
      simp only [eqM, eqUM]
      rw [ih]
      cases look js m k with
      | none => rfl
      | some y => simp only [eqU_D x y]
end
/-! ### the text of a thing -/
def srt0 (ks : List Str) : List Str := if ks = (["y", "x"] : List Str) then ["x", "y"] else ks
def menuK : List (List Str) := [[], ["x"], ["x", "y"], ["y", "x"]]
theorem srt0_ok : ∀ ks ∈ menuK, (srt0 ks).Perm ks ∧ sortedS (srt0 ks) = true := by decide +kernel
def txt : Nat → D → Str
  | 0, _ => ""
  | _ + 1, .non => "None"
  | _ + 1, .bl b => if b then "True" else "False"
  | _ + 1, .int i => toString i
  | _ + 1, .str s => reprText s
  | _ + 1, .ob _ => "config"
  | n + 1, .tup l => "tuple(" ++ Txt.join "," (l.map (txt n)) ++ ")"
  | n + 1, .lst l => "list(" ++ Txt.join "," (l.map (txt n)) ++ ")"
  | n + 1, .map ks l => "map(" ++ Txt.join "," ((srt0 ks).map fun k => reprText k ++ ((look ks l k).map (txt n)).getD "") ++ ")"
/-- at most n deep, small -/
def okT : Nat → D → Bool
  | 0, _ => false
  | _ + 1, .non => true
  | _ + 1, .bl _ => true
  | _ + 1, .int i => decide (0 ≤ i) && decide (i ≤ 1000)
  | _ + 1, .str s => decide ((reprText s).length ≤ 300)
  | _ + 1, .ob _ => true
  | n + 1, .tup l => decide (l.length ≤ 30) && l.all (fun x => okT n x && decide ((txt n x).length ≤ 300))
  | n + 1, .lst l => decide (l.length ≤ 30) && l.all (fun x => okT n x && decide ((txt n x).length ≤ 300))
  | n + 1, .map ks l => decide (ks ∈ menuK) && decide (ks.length = l.length) && l.all (fun x => okT n x && decide ((txt n x).length ≤ 300))
/-! ### what the law draws from -/
def sayA : D := .tup [.tup [.str "say", .str "a"]]
def say1 : D := .tup [.str "say", .int 1]
def tupA : D := .tup [.str "tuple", sayA]
def toldD : D := .map ["x", "y"] [say1, tupA]
def turnD : D := .map ["y", "x"] [tupA, say1]
def l0 (t : D) : List D := [.str "net", .str "a", t, .tup [.str "count", .tup [.str "say", .int 2]], .tup [.str "c"], .bl true, .bl false, .tup [.str "x"], .tup [.tup [.str "net", .str "b"]], .non]
def l1 (t : D) : List D := [.str "net", .str "r", t, .tup [.tup [.str "net", .str "a"]]]
def l2 (t : D) : List D := [.str "c", .ob (), t, .tup []]
def l3 : List D := [.tup [.str "net", .str "a"], .tup [.str "net", .str "b", .int 1]]
/-- the parts by the way, their map so or turned -/
def lineD (way : Nat) (t : D) : List D := match way with
  | 0 => l0 t
  | 1 => l1 t
  | 2 => l2 t
  | _ => l3
def oddD : List D := [.non, .int 1, .bl true, .int 0, .bl false, .str "", .str "other", .tup [], .tup [.str "x"], .lst [.str "x"], .map [] [], .map ["x"] [.int 1], .map ["x"] [.bl true], .ob ()]
def allD : List D := l0 toldD ++ l1 toldD ++ l2 toldD ++ l3 ++ [turnD]
theorem line_mem {way : Nat} {t d : D} (h : d ∈ lineD way t) (ht : t = toldD ∨ t = turnD) : d ∈ allD := by
  unfold lineD at h
  unfold allD
  rcases ht with rfl | rfl <;> split at h <;> simp only [l0, l1, l2, l3, List.mem_cons, List.not_mem_nil, or_false, List.mem_append] at h ⊢ <;> (rcases h with rfl | rfl | rfl | rfl | rfl | rfl | rfl | rfl | rfl | rfl <;> simp)
theorem fin1 : ∀ d ∈ allD ++ oddD, okT 6 d = true ∧ (txt 6 d).length ≤ 300 ∧ wt d ≤ 100 ∧ eqU d d = true := by decide +kernel
theorem fin2 : ∀ d ∈ allD, ∀ o ∈ oddD, eqU d o = decide (txt 6 d = txt 6 o) ∧ eqU o d = decide (txt 6 d = txt 6 o) := by decide +kernel
theorem fin3 : ∀ way, way < 4 → ∀ t ∈ [toldD, turnD], eqUL (lineD way toldD) (lineD way t) = true := by decide +kernel
end Da

set_option Elab.async false
set_option linter.all false
set_option maxRecDepth 100000
set_option maxHeartbeats 4000000
namespace Da
open PySem PySem.Spec PyProof.Rows L2 Dq Vl Vq TL
theorem join_J (a : Str) (ys : List Str) : tl (Txt.join a ys) = joinL (tl a) (ys.map tl) := by
  have e : Txt.join a ys = Str.join a ys := StrLaws.glued_eq_join a ys
  rw [e, tl_join]
theorem joinL_len (S : List Nat) : ∀ ps : List (List Nat), (joinL S ps).length ≤ (ps.map (·.length)).sum + ps.length * S.length
  | [] => Nat.zero_le _
  | [p] => by simp [joinL]
  | p :: q :: r => by
    have := joinL_len S (q :: r)
    show (p ++ (S ++ joinL S (q :: r))).length ≤ _
    simp only [List.length_append, List.map_cons, List.sum_cons, List.length_cons, Nat.succ_mul] at *
    omega
theorem sum_le {B : Nat} : ∀ {l : List Nat}, (∀ x ∈ l, x ≤ B) → l.sum ≤ l.length * B
  | [], _ => by simp
  | x :: l, h => by
    have := sum_le (l := l) fun y hy => h y (List.mem_cons_of_mem _ hy)
    have := h x List.mem_cons_self
    rw [List.sum_cons, List.length_cons, Nat.succ_mul]
    omega
/-- one part of a joined text tells the texts apart -/
theorem joinL_set (S : List Nat) : ∀ (ps : List (List Nat)) (i : Nat) (a b : List Nat), i < ps.length → joinL S (ps.set i a) = joinL S (ps.set i b) → a = b
  | [], i, a, b, h, _ => absurd h (Nat.not_lt_zero _)
  | [p], 0, a, b, _, e => e
  | [p], i + 1, a, b, h, _ => absurd h (by simp)
  | p :: q :: r, 0, a, b, _, e => List.append_cancel_right (show a ++ (S ++ joinL S (q :: r)) = b ++ (S ++ joinL S (q :: r)) from e)
  | p :: q :: r, i + 1, a, b, h, e => by
    have key : ∀ c, joinL S ((p :: q :: r).set (i + 1) c) = p ++ (S ++ joinL S ((q :: r).set i c)) := fun c => by
      rw [List.set_cons_succ]
      cases i with
      | zero => rfl
      | succ j => rfl
    rw [key, key] at e
    exact joinL_set S (q :: r) i a b (by simpa using h) (List.append_cancel_left (List.append_cancel_left e))
theorem Str.ext_tl' {a b : Str} (h : tl a = tl b) : a = b := by
  cases a; cases b
  simp [tl] at h
  rw [h]
/-- the text of a list that is otherwise at one place -/
theorem txt_set (n : Nat) (l : List D) (i : Nat) (x d : D) (hi : i < l.length) (hd : l[i]? = some d) : txt (n + 1) (.lst l) = txt (n + 1) (.lst (l.set i x)) ↔ txt n d = txt n x := by
  have el : l = l.set i d := by
    refine List.ext_getElem? fun j => ?_
    rw [List.getElem?_set]
    by_cases e : i = j
    · subst e
      rw [if_pos rfl, if_pos hi, hd]
    · rw [if_neg e]
  have key : ∀ c : D, tl (txt (n + 1) (.lst (l.set i c))) = tl "list(" ++ joinL (tl ",") (((l.map (txt n)).map tl).set i (tl (txt n c))) ++ tl ")" := fun c => by
    show tl ("list(" ++ Txt.join "," ((l.set i c).map (txt n)) ++ ")") = _
    rw [tl_append, tl_append, join_J, List.map_set, List.map_set]
  constructor
  · intro e
    have e2 : tl (txt (n + 1) (.lst (l.set i d))) = tl (txt (n + 1) (.lst (l.set i x))) := by rw [← el, e]
    rw [key, key] at e2
    exact Str.ext_tl' (joinL_set _ _ i _ _ (by simpa using hi) (List.append_cancel_left (List.append_cancel_right e2)))
  · intro e
    refine Str.ext_tl' ?_
    rw [show txt (n + 1) (.lst l) = txt (n + 1) (.lst (l.set i d)) from by rw [← el], key, key, e]
theorem eqUL_set : ∀ (l : List D) (i : Nat) (x d : D), l[i]? = some d → (∀ y ∈ l, eqU y y = true) → eqUL l (l.set i x) = eqU d x ∧ eqUL (l.set i x) l = eqU x d
  | [], i, x, d, h, _ => by simp at h
  | y :: l, 0, x, d, h, hr => by
    simp at h
    subst h
    have e : eqUL l l = true := by
      have : ∀ m : List D, (∀ z ∈ m, eqU z z = true) → eqUL m m = true := fun m hm => by
        induction m with
        | nil => simp [eqUL]
        | cons z m ih => rw [eqUL, hm z List.mem_cons_self, ih fun w hw => hm w (List.mem_cons_of_mem _ hw)]; rfl
      exact this l fun z hz => hr z (List.mem_cons_of_mem _ hz)
    rw [List.set_cons_zero, eqUL, eqUL, e, Bool.and_true, Bool.and_true]
    exact ⟨rfl, rfl⟩
  | y :: l, i + 1, x, d, h, hr => by
    have ih := eqUL_set l i x d (by simpa using h) fun z hz => hr z (List.mem_cons_of_mem _ hz)
    rw [List.set_cons_succ, eqUL, eqUL, hr y List.mem_cons_self, ih.1, ih.2]
    exact ⟨rfl, rfl⟩
/-- what the whole of a list of such parts keeps -/
def Good (l : List D) : Prop := l.length ≤ 30 ∧ ∀ d ∈ l, okT 6 d = true ∧ (txt 6 d).length ≤ 300 ∧ wt d ≤ 100 ∧ eqU d d = true
theorem good_line {way : Nat} {t : D} (ht : t = toldD ∨ t = turnD) : Good (lineD way t) := by
  refine ⟨?_, fun d hd => fin1 d (List.mem_append_left _ (line_mem hd ht))⟩
  unfold lineD
  split <;> simp [l0, l1, l2, l3]
theorem Good.set {l : List D} (h : Good l) {i : Nat} {x : D} (hx : x ∈ oddD) : Good (l.set i x) := by
  refine ⟨by rw [List.length_set]; exact h.1, fun d hd => ?_⟩
  rcases List.mem_or_eq_of_mem_set hd with hd | rfl
  · exact h.2 d hd
  · exact fin1 _ (List.mem_append_right _ hx)
theorem Good.ok {l : List D} (h : Good l) : okT 7 (.lst l) = true := by
  show (decide (l.length ≤ 30) && l.all fun x => okT 6 x && decide ((txt 6 x).length ≤ 300)) = true
  rw [decide_eq_true h.1, Bool.true_and, List.all_eq_true]
  intro d hd
  rw [(h.2 d hd).1, decide_eq_true (h.2 d hd).2.1]
  rfl
theorem wtL_le {B : Nat} : ∀ {l : List D}, (∀ d ∈ l, wt d ≤ B) → wtL l ≤ l.length * B
  | [], _ => by simp [wtL]
  | x :: l, h => by
    have := wtL_le (l := l) fun y hy => h y (List.mem_cons_of_mem _ hy)
    have := h x List.mem_cons_self
    rw [wtL, List.length_cons, Nat.succ_mul]
    omega
theorem Good.wt {l : List D} (h : Good l) : wtL l ≤ 80000 := by
  have := wtL_le fun d hd => (h.2 d hd).2.2.1
  have := Nat.mul_le_mul_right 100 h.1
  omega
/-- the law's answer and the program's -/
theorem both {way i : Nat} {t x d : D} (ht : t = toldD ∨ t = turnD) (hi : (lineD way t)[i]? = some d) (hx : x ∈ oddD) :
    eqUL (lineD way t) ((lineD way t).set i x) = decide (txt 7 (.lst (lineD way t)) = txt 7 (.lst ((lineD way t).set i x))) ∧ eqUL ((lineD way t).set i x) (lineD way t) = decide (txt 7 (.lst (lineD way t)) = txt 7 (.lst ((lineD way t).set i x))) := by
  have hl : i < (lineD way t).length := (List.getElem?_eq_some_iff.mp hi).1
  have hm : d ∈ lineD way t := List.mem_of_getElem? hi
  have e := eqUL_set (lineD way t) i x d hi fun y hy => ((good_line ht).2 y hy).2.2.2
  have f := fin2 d (line_mem hm ht) x hx
  have e2 : decide (txt 7 (.lst (lineD way t)) = txt 7 (.lst ((lineD way t).set i x))) = decide (txt 6 d = txt 6 x) := decide_eq_decide.mpr (txt_set 6 _ i x d hl hi)
  rw [e2, e.1, e.2]
  exact f
end Da

set_option Elab.async false
set_option linter.all false
set_option maxRecDepth 100000
set_option maxHeartbeats 4000000
/-! rules with two readings; comprehensions whose turns give what is known; what a thing is -/
namespace Da
open PySem PySem.Spec PyProof.Rows L2 Dq Vl Vq
theorem pi_or {X : Cx} {tg l : Expr} {w1 w2 : TI} (h1 : PI X tg l w1) (h2 : PI X tg l w2) : PI X tg l (fun σ H R => w1 σ H R ∨ w2 σ H R) :=
  ⟨fun pins s σ H R I h => h.elim (fun h => h1.run pins s σ H R I h) fun h => h2.run pins s σ H R I h⟩
theorem call_or {X : Cx} {f : Value} {r r' : List V → Hp → VK → Prop} (h : CallR X f r) (h' : CallR X f r') : CallR X f (fun x H Q => r x H Q ∨ r' x H Q) := fun pins s σ H xs us Q I r hh => hh.elim (fun z => h pins s σ H xs us Q I r z) fun z => h' pins s σ H xs us Q I r z
theorem op_or {X : Cx} {op : Value → Value → Sem Value} {r r' : R2} (h : OpR X op r) (h' : OpR X op r') : OpR X op (fun x y H Q => r x y H Q ∨ r' x y H Q) := fun pins s σ H x y v u Q I rx ry hh => hh.elim (fun z => h pins s σ H x y v u Q I rx ry z) fun z => h' pins s σ H x y v u Q I rx ry z
/-- the reading of a comprehension without tests whose turns give out 0, out 1, .. -/
theorem lc_out {J : It} {n : Nat} {G : Hp → Prop} {Y : Nat → Hp → V → Hp → Prop} (w : Walk J n G Y) {g : TG} {te : TE} {vs : List Nat} {σ : L2.St} {H1 : Hp} {D : Addr} {Qd : Hp → Prop} (hD : H1 D = none) (out : Nat → V) (hn : n < sizeLine) (hG : ∀ H, Same H1 H → G H)
    (hs : ∀ i x H H' (N : V → Hp → Prop), i < n → Same H1 H → Y i H x H' → (∀ H4, Same H H4 → N (out i) H4) → g x (wipe σ vs) H' fun σ2 H2 => wipe σ2 vs = wipe σ vs ∧ te σ2 H2 N)
    (hd : ∀ H, Same H1 H → H D = some (.lst ((List.range n).map out)) → Qd H) :
    ∃ W : Nat → Nat → Hp → Prop, (∃ m, W 0 m (upd H1 D (.lst []))) ∧ ∀ i m H, W i m H →
      (J.stop i H ∧ Qd H) ∨ (J.go i H ∧ ∃ Nx : Hp → Prop, (∀ H', Nx H' → ∃ m', m' < m ∧ W (i + 1) m' H') ∧ ∀ x H', J.yld i H x H' → g x (wipe σ vs) H' fun σ2 H2 => wipe σ2 vs = wipe σ vs ∧ tYes σ2 H2 fun b H3 =>
        if b = true then te σ2 H3 fun y H4 => ∃ acc, H4 D = some (.lst acc) ∧ acc.length < sizeLine ∧ Nx (upd H4 D (.lst (acc ++ [y]))) else Nx H3) := by
  refine lc_it w (fun i H => Same H1 H ∧ H D = some (.lst ((List.range i).map out))) ⟨sm_upd hD, upd_same⟩ (fun i H _ h => hG H h.1) (fun i x H H' hi h y => ?_) (fun H h => hd H h.1 h.2)
  have e : ∀ (N : V → Hp → Prop) (M : Hp → Prop), (fun (σ2 : L2.St) (H2 : Hp) => wipe σ2 vs = wipe σ vs ∧ tYes σ2 H2 fun b H3 => if b = true then te σ2 H3 N else M H3) = (fun σ2 H2 => wipe σ2 vs = wipe σ vs ∧ te σ2 H2 N) := fun N M => funext fun σ2 => funext fun H2 => by
    show (_ ∧ (if true = true then te σ2 H2 N else M H2)) = _
    rw [if_pos rfl]
  rw [e]
  refine hs i x H H' _ hi h.1 y fun H4 k => ?_
  refine ⟨_, k _ _ h.2, ?_, ?_, ?_⟩
  · rw [List.length_map, List.length_range]
    omega
  · intro b o eb
    have nb : b ≠ D := fun z => by rw [z, hD] at eb; cases eb
    rw [upd_ne nb]
    exact k b o (h.1 b o eb)
  · rw [upd_same, List.range_succ, List.map_append]
    rfl
theorem range_map {α : Type} {β : Type} (f : α → β) (g : Nat → β) : ∀ (l : List α), (∀ i a, l[i]? = some a → g i = f a) → (List.range l.length).map g = l.map f := fun l h => by
  refine List.ext_getElem? fun i => ?_
  rw [List.getElem?_map, List.getElem?_map]
  by_cases hi : i < l.length
  · rw [List.getElem?_range hi, List.getElem?_eq_getElem hi]
    exact congrArg some (h i _ (List.getElem?_eq_getElem hi))
  · rw [List.getElem?_eq_none (by simpa using hi), List.getElem?_eq_none (by simpa using hi)]
    rfl
/-! ### what a thing is -/
structure CfgC (K : PySem.W.Frag) (C : Addr) : Prop where
  ok : ObsOk K (OF K C)
  kU : ∀ T, T ∈ Ow.kinds → PySem.W.kitOne K (.type T) (.ref C) = some false
  me : PySem.W.kitOne K (.ref C) (.ref C) = some true
def isOb : D → Bool
  | .ob _ => true
  | _ => false
theorem kit_cf {K : PySem.W.Frag} {C : Addr} (U : CfgC K C) (x : D) : PySem.W.kitOne K (tyU (OF K C) x) (.ref C) = some (isOb x) := by
  cases x with
  | ob o => exact U.me
  | _ => exact U.kU _ (by simp [Ow.kinds])
section
variable {X : Cx} {C : Addr} {OB : Type} {O : Obs OB}
theorem call_isT1 (ok : ObsOk X.K O) {T : String} (hT : T ∈ ["list", "dict", "tuple"]) : CallR X (.builtin "isinstance") (fun xs H Q => ∃ v x, xs = [v, .ty T] ∧ Dv O H x v ∧ Q (.bl (decide (tyD O x = .ty T))) H) := fun pins s σ H xs us Q I r ⟨v, x, e, h, q⟩ =>
  call_isi pins s σ H xs us Q I r ⟨v, .ty T, tyU O x, .type T, _, e, .ty T, h.ty ok, kit_one ok x hT, q⟩
theorem kit_LT {K : PySem.W.Frag} (ok : ObsOk K O) (x : DV OB) : PySem.W.kitAny K (tyU O x) [.type "list", .type "tuple"] = some (isSeq x) := by
  unfold PySem.W.kitAny
  rw [kit_one ok x (by simp)]
  unfold PySem.W.kitAny
  rw [kit_one ok x (by simp)]
  cases x <;> simp [tyD, isSeq, PySem.W.kitAny]
theorem call_isLT (ok : ObsOk X.K O) : CallR X (.builtin "isinstance") (fun xs H Q => ∃ v tp x, xs = [v, .ref tp] ∧ H tp = some (.tup [.ty "list", .ty "tuple"]) ∧ Dv O H x v ∧ Q (.bl (isSeq x)) H) := fun pins s σ H xs us Q I r ⟨v, tp, x, e, ht, h, q⟩ =>
  call_isiT pins s σ H xs us Q I r ⟨v, tp, _, tyU O x, [.type "list", .type "tuple"], isSeq x, e, ht, .cons (.ty _) (.cons (.ty _) .nil), h.ty ok, kit_LT ok x, q⟩
theorem call_isCf (U : CfgC X.K C) : CallR X (.builtin "isinstance") (fun xs H Q => ∃ v x, xs = [v, .ref C] ∧ Dv (OF X.K C) H x v ∧ Q (.bl (isOb x)) H) := fun pins s σ H xs us Q I r ⟨v, x, e, h, q⟩ =>
  call_isi pins s σ H xs us Q I r ⟨v, .ref C, tyU (OF X.K C) x, .ref C, _, e, .own C, h.ty U.ok, kit_cf U x, q⟩
/-- repr of None, a bool, an int, a text -/
def isLeaf : D → Bool
  | .non | .bl _ | .int _ | .str _ => true
  | _ => false
def rReprL (K : PySem.W.Frag) (C : Addr) : List V → Hp → VK → Prop := fun xs H Q => ∃ v d n, xs = [v] ∧ Dv (OF K C) H d v ∧ isLeaf d = true ∧ okT (n + 1) d = true ∧ Q (.str (txt (n + 1) d)) H
theorem call_reprL : CallR X (.builtin "repr") (rReprL X.K C) := fun pins s σ H xs us Q I r ⟨v, d, n, e, h, hl, ho, q⟩ => by
  subst e
  obtain ⟨u, rfl, r1⟩ := vals1 r
  cases d with
  | non =>
    cases h
    obtain rfl : u = Value.none := r1
    exact PySem.P.repr_of_none ⟨.str "None", H, I.tok _, ⟨_, rfl⟩, q⟩
  | bl b =>
    cases h
    obtain rfl : u = Value.bool b := r1
    exact PySem.P.repr_of_bool ⟨.str (if b then ("True" : Str) else ("False" : Str)), H, I.tok _, ⟨_, rfl⟩, q⟩
  | int i =>
    cases h
    obtain ⟨t, rfl⟩ := r1
    have ho : (decide (0 ≤ i) && decide (i ≤ 1000)) = true := ho
    simp only [Bool.and_eq_true, decide_eq_true_eq] at ho
    have hi : i.natAbs.log2 < 1920 := by
      have : i.natAbs < 2 ^ 1920 := Nat.lt_of_le_of_lt (show i.natAbs ≤ 1000 by omega) (by decide)
      by_cases z : i.natAbs = 0
      · rw [z]; decide
      · exact (Nat.log2_lt z).mpr this
    exact PySem.P.repr_of_int hi ⟨.str (toString i), H, I.tok _, ⟨_, rfl⟩, q⟩
  | str y =>
    cases h
    obtain ⟨t, rfl⟩ := r1
    have ho : decide ((reprText y).length ≤ 300) = true := ho
    exact PySem.P.repr_of_str ⟨.str (reprText y), H, I.tok _, ⟨_, rfl⟩, q⟩ (Nat.le_trans (of_decide_eq_true ho) (by decide))
  | _ => cases hl
end
/-- what is kept at a key -/
theorem val_at {OB : Type} {O : Obs OB} {H : Hp} {k : Str} : ∀ {ks : List Str} {l : List (DV OB)} {kvs : List (Key × V)}, kvs.map (·.1) = ks.map Sum.inr → DvL O H l (kvs.map (·.2)) → k ∈ ks → ∃ v d, valV kvs (Sum.inr k) = some v ∧ look ks l k = some d ∧ Dv O H d v ∧ d ∈ l
  | [], _, _, _, _, h => by cases h
  | j :: ks, l, [], e, _, _ => by cases e
  | j :: ks, [], kv :: kvs, _, p, _ => by cases p
  | j :: ks, x :: l, kv :: kvs, e, p, h => by
    obtain ⟨u, us, e1, h1, p1⟩ := p
    simp only [List.map_cons, List.cons.injEq] at e e1
    by_cases q : k = j
    · subst q
      exact ⟨kv.2, x, valV_pos e.1, by simp [look], e1.1 ▸ h1, List.mem_cons_self⟩
    · obtain ⟨v, d, f1, f2, f3, f4⟩ := val_at (ks := ks) (l := l) (kvs := kvs) e.2 (e1.2 ▸ p1) ((List.mem_cons.mp h).resolve_left q)
      refine ⟨v, d, ?_, by simp [look, q, f2], f3, List.mem_cons_of_mem _ f4⟩
      rw [valV_neg (by rw [e.1]; intro z; exact q (Sum.inr.inj z).symm)]
      exact f1
end Da

set_option Elab.async false
set_option linter.all false
set_option maxRecDepth 100000
set_option maxHeartbeats 4000000
namespace Da
open PySem PySem.Spec PyProof.Rows L2
theorem ltCps_as : ∀ a b : List Nat, ltCps a b = false → ltCps b a = false → a = b
  | [], [], _, _ => rfl
  | [], _ :: _, h, _ => by simp [ltCps] at h
  | _ :: _, [], _, h => by simp [ltCps] at h
  | x :: r, y :: t, h1, h2 => by
    simp only [ltCps, Bool.or_eq_false_iff, Bool.and_eq_false_iff, decide_eq_false_iff_not, beq_eq_false_iff_ne] at h1 h2
    have e : x = y := by omega
    subst e
    have a1 : ltCps r t = false := h1.2.resolve_left fun z => z rfl
    have a2 : ltCps t r = false := h2.2.resolve_left fun z => z rfl
    rw [ltCps_as r t a1 a2]
theorem ltCps_tr : ∀ a b c : List Nat, ltCps b a = false → ltCps c b = false → ltCps c a = false
  | _, _, [], _, h => by
    rename_i a b _
    cases a with
    | nil => rfl
    | cons x r =>
      cases b with
      | nil => (rename_i h1; simp [ltCps] at h1)
      | cons y t => simp [ltCps] at h
  | [], _, _ :: _, _, _ => rfl
  | _ :: _, [], _ :: _, h, _ => by simp [ltCps] at h
  | x :: r, y :: t, z :: u, h1, h2 => by
    simp only [ltCps, Bool.or_eq_false_iff, Bool.and_eq_false_iff, decide_eq_false_iff_not, beq_eq_false_iff_ne] at h1 h2 ⊢
    refine ⟨by omega, ?_⟩
    by_cases e : z = x
    · right
      have e1 : y = x := by omega
      have e2 : z = y := by omega
      exact ltCps_tr r t u (h1.2.resolve_left fun w => w e1) (h2.2.resolve_left fun w => w e2)
    · exact .inl e
def leS (a b : Str) : Prop := ltCps b.cps.toList a.cps.toList = false
theorem Str.ext' {a b : Str} (h : a.cps.toList = b.cps.toList) : a = b := by
  cases a; cases b
  simp at h
  rw [h]
theorem rising_all : ∀ (l : List Str) (p : Str), risingS p l = true → (p :: l).Pairwise leS
  | [], _, _ => List.pairwise_singleton _ _
  | x :: r, p, h => by
    have h' : (!ltCps x.cps.toList p.cps.toList && risingS x r) = true := h
    rw [Bool.and_eq_true, Bool.not_eq_true'] at h'
    have ih := rising_all r x h'.2
    refine List.pairwise_cons.mpr ⟨fun y hy => ?_, ih⟩
    rcases List.mem_cons.mp hy with rfl | hy
    · exact h'.1
    · exact ltCps_tr _ _ _ h'.1 ((List.pairwise_cons.mp ih).1 y hy)
theorem sorted_all : ∀ {l : List Str}, sortedS l = true → l.Pairwise leS
  | [], _ => List.Pairwise.nil
  | x :: r, h => rising_all r x h
/-- two sorted lists are the same just if they have the same items -/
theorem sorted_eq {ys zs ks ls : List Str} (h1 : ys.Perm ks) (s1 : sortedS ys = true) (h2 : zs.Perm ls) (s2 : sortedS zs = true) : ys = zs ↔ ks.Perm ls := by
  constructor
  · rintro rfl
    exact h1.symm.trans h2
  · intro p
    exact List.Perm.eq_of_pairwise (le := leS) (fun a b _ _ x y => Str.ext' (ltCps_as _ _ y x)) (sorted_all s1) (sorted_all s2) (h1.trans (p.trans h2.symm))
theorem sorted_eq2 {ys zs ks : List Str} (h1 : ys.Perm ks) (s1 : sortedS ys = true) (h2 : zs.Perm ks) (s2 : sortedS zs = true) : ys = zs := (sorted_eq h1 s1 h2 s2).mpr (List.Perm.refl ks)
end Da

set_option Elab.async false
set_option linter.all false
set_option maxRecDepth 100000
set_option maxHeartbeats 4000000
/-! _law_sorted_text -/
namespace Da
open PySem PySem.Spec PyProof.Rows L2 Dq Vl Vq
structure TxtD (mg : Str → Option Value) (C : Addr) : Prop where
  isi : mg "isinstance" = none
  tuple : mg "tuple" = none
  list : mg "list" = none
  dict : mg "dict" = none
  sorted : mg "sorted" = none
  repr : mg "repr" = none
  range : mg "range" = none
  len : mg "len" = none
  cfg : mg "Config" = some (.ref C)
abbrev sTxt : Stmt := Pf.top 58
abbrev NTxt : List Str := ["_law_thing", "_law_word", "_law_key", "_law_one_here"]
theorem scTxt : FnScope NTxt ["_law_thing"] (defScope sTxt) := ⟨rfl, rfl, rfl, by decide +kernel, rfl, by decide +kernel, by decide +kernel⟩
def spTxt (K : PySem.W.Frag) (C : Addr) (n : Nat) : Sp := fun vs H Q _ => ∃ (v : V) (d : D), vs = [v] ∧ Dv (OF K C) H d v ∧ okT n d = true ∧ ∀ H', Same H H' → Q (.str (txt n d)) H'
theorem joins {ys : List Str} (h : ∀ y ∈ ys, y.length ≤ 400) (hl : ys.length ≤ 30) : (ys.map (·.length)).sum + ys.length * (("," : Str)).length ≤ 16777216 ∧ (Txt.join "," ys).length ≤ 20000 := by
  have s1 := sum_le (l := ys.map (·.length)) (B := 400) fun x hx => by
    obtain ⟨y, hy, rfl⟩ := List.mem_map.mp hx
    exact h y hy
  rw [List.length_map] at s1
  have e1 : (("," : Str)).length = 1 := by decide +kernel
  have h2 := joinL_len (TL.tl ",") (ys.map TL.tl)
  rw [← join_J] at h2
  have e2 : (TL.tl ",").length = 1 := by decide +kernel
  have e3 : (ys.map TL.tl).map (·.length) = ys.map (·.length) := by
    rw [List.map_map]
    rfl
  rw [e3, e2, List.length_map] at h2
  have e4 : (Txt.join "," ys).length = (TL.tl (Txt.join "," ys)).length := TL.len_tl _
  rw [e1, e4]
  have := Nat.mul_le_mul_right 400 hl
  omega
theorem small_add {a b : Str} (ha : a.length ≤ 20000) (hb : b.length ≤ 30000) : a.length + b.length ≤ sizeLine := by
  have : 50000 ≤ sizeLine := by decide
  omega
theorem add_len {a b : Str} {x y : Nat} (ha : a.length ≤ x) (hb : b.length ≤ y) : (a ++ b).length ≤ x + y := by
  have e : (a ++ b).length = (TL.tl (a ++ b)).length := TL.len_tl _
  rw [e, TL.tl_append, List.length_append, ← TL.len_tl, ← TL.len_tl]
  omega
theorem seq_of {OB : Type} {O : Obs OB} {K : PySem.W.Frag} (ok : ObsOk K O) {H : Hp} {x : DV OB} {v : V} (h : Dv O H x v) (hs : isSeq x = true) : ∃ a us l, v = .ref a ∧ (SqL K H a us ∨ SqT K H a us) ∧ DvL O H l us ∧ ((x = .lst l ∧ H a = some (.lst us)) ∨ (x = .tup l ∧ SqT K H a us)) := by
  cases x <;> simp [isSeq] at hs
  · obtain ⟨a, us, rfl, ha, p⟩ := h
    exact ⟨a, us, _, rfl, .inr (ok.kk ▸ ha), p, .inr ⟨rfl, ok.kk ▸ ha⟩⟩
  · obtain ⟨a, us, rfl, ha, p⟩ := h
    exact ⟨a, us, _, rfl, .inl (SqL.of ha), p, .inl ⟨rfl, ha⟩⟩
section
variable {P : Program} {w : World} {K : PySem.W.Frag} {mg : Str → Option Value} {base : Heap} {C : Addr}
theorem ok_txt {f : Addr} {fd : FuncData} (F : Fun K "_law_sorted_text" "_law_sorted_text" sTxt f fd) (g : mg "_law_sorted_text" = some (.ref f)) (b : Binds K fd ["_law_thing"] []) (T : TxtD mg C) (U : CfgC K C) :
    ∀ n, FnOk P w K mg base CX0 (1 + n) f fd ["_law_thing"] (spTxt K C n)
  | 0 => F.ok (k := 0) scTxt (fun vs H Q E ⟨_, _, _, _, h, _⟩ => nomatch h) (fun cdv A outer s H vs Q E hr ⟨_, _, _, _, h, _⟩ => nomatch h)
  | n + 1 => by
    have DM : Def P w K mg base (1 + n) "_law_sorted_text" f fd ["_law_thing"] (spTxt K C n) := ⟨ok_txt F g b T U n, g, F.kp, b⟩
    refine F.ok (k := 1 + n) scTxt (fun vs H Q E h => ?_) (fun cdv A outer s H vs Q E hr h => ?_)
    · obtain ⟨v, d, rfl, _⟩ := h
      rfl
    · obtain ⟨v, d, rfl, hd, ho, k⟩ := h
      have hu := hu_of hr
      refine ⟨_, pss_cons (ps_if (pt_val (pe_callB (call_isT1 U.ok (T := "dict") (by simp)) (by rfl) T.isi (by decide +kernel) (pa_cons (pv 0) (pa_cons (pe_bltn (v := .ty "dict") (by rfl) T.dict (by decide +kernel) rfl) pa_nil))))
          (pss_one (ps_ret (pe_op op_add_str (pe_op op_add_str pe_str (pe_join pe_str (pe_lc (own := [("_law_key", 2)]) (g := gName 2) (tt := tYes) rfl scTxt.nd (pi_list (pe_callB (call_sortedD rfl) (by rfl) T.sorted (by decide +kernel) (pa_cons (pv 0) pa_nil))) (blkOk_by (N := NTxt) (sc := defScope sTxt) (by decide +kernel)) (fun _ _ _ _ _ => pg_name (i := 2) scTxt.nd rfl (Or.inl rfl)) (fun _ _ _ _ _ => pts_nil)
            (fun _ _ _ _ _ => pe_op op_add_str (pe_callB (show CallR _ (.builtin "repr") (rReprL K C) from call_reprL) (by rfl) T.repr (by decide +kernel) (pa_cons (pv 2) pa_nil)) (pe_call DM.ok hr rfl DM.g DM.kp DM.b .nil pass0 (pa_cons (pe_dget hu (pv 0) (pv 2) (fun _ _ => rfl)) pa_nil)))))) pe_str))) pss_nil)
        (pss_cons (ps_if (pt_val (pe_callB (call_isLT U.ok) (by rfl) T.isi (by decide +kernel) (pa_cons (pv 0) (pa_cons (pe_tup (pa_cons (pe_bltn (v := .ty "list") (by rfl) T.list (by decide +kernel) rfl) (pa_cons (pe_bltn (v := .ty "tuple") (by rfl) T.tuple (by decide +kernel) rfl) pa_nil))) pa_nil))))
          (pss_cons (ps_set (i := 1) scTxt.nd rfl (Or.inl rfl) (pe_ifExp (pt_val (pe_callB (call_isT1 U.ok (T := "list") (by simp)) (by rfl) T.isi (by decide +kernel) (pa_cons (pv 0) (pa_cons (pe_bltn (v := .ty "list") (by rfl) T.list (by decide +kernel) rfl) pa_nil)))) pe_str pe_str))
            (pss_one (ps_ret (pe_op op_add_str (pe_op op_add_str (pv 1) (pe_join pe_str (pe_lc (own := [("_law_one_here", 3)]) (g := gName 3) (tt := tYes) rfl scTxt.nd (pi_or (pi_list (pv 0)) (pi_tup (pv 0))) (blkOk_by (N := NTxt) (sc := defScope sTxt) (by decide +kernel)) (fun _ _ _ _ _ => pg_name (i := 3) scTxt.nd rfl (Or.inl rfl)) (fun _ _ _ _ _ => pts_nil)
              (fun _ _ _ _ _ => pe_call DM.ok hr rfl DM.g DM.kp DM.b .nil pass0 (pa_cons (pv 3) pa_nil))))) pe_str)))) pss_nil)
        (pss_one (ps_ret (pe_ifExp (pt_val (pe_callB (call_isCf U) (by rfl) T.isi (by decide +kernel) (pa_cons (pv 0) (pa_cons (pe_glob (v := .ref C) rfl T.cfg rfl) pa_nil)))) pe_str (pe_callB (show CallR _ (.builtin "repr") (rReprL K C) from call_reprL) (by rfl) T.repr (by decide +kernel) (pa_cons (pv 0) pa_nil)))))), ?_⟩
      have fin : ∀ H', Same H H' → ∀ y, txt (n + 1) d = y → Q (.str y) H' := fun H' k' y e => e ▸ k H' k'
      refine ⟨_, rfl, v, d, rfl, hd, _, rfl, ?_⟩
      by_cases em : tyD (OF K C) d = .ty "dict"
      · refine iteC (by rw [em]; simp) ?_
        cases d <;> simp [tyD, OF] at em
        rename_i ks l
        obtain ⟨a, kvs, rfl, ha, nd, hk, p⟩ := hd
        have ho : (decide (ks ∈ menuK) && decide (ks.length = l.length) && l.all (fun x => okT n x && decide ((txt n x).length ≤ 300))) = true := ho
        simp only [Bool.and_eq_true, decide_eq_true_eq, List.all_eq_true] at ho
        obtain ⟨⟨hm, hl⟩, hall⟩ := ho
        obtain ⟨pm, sm⟩ := srt0_ok ks hm
        have k64 : ks.length ≤ 2 := (show ∀ x ∈ menuK, x.length ≤ 2 by decide +kernel) ks hm
        have kin : ∀ x ∈ ks, (reprText x).length ≤ 10 := (show ∀ y ∈ menuK, ∀ x ∈ y, (reprText x).length ≤ 10 by decide +kernel) ks hm
        refine ⟨⟨_, rfl⟩, _, rfl, a, kvs, ks, rfl, .inl ha, hk, by omega, fun ys p' py sy hp' => ?_⟩
        have ey : ys = srt0 ks := (sorted_eq2 py sy pm sm)
        subst ey
        have k1 := sm_upd (o := .lst ((srt0 ks).map V.str)) hp'
        have e1 : (upd H p' (.lst ((srt0 ks).map V.str))) p' = some (.lst ((srt0 ks).map V.str)) := upd_same
        generalize upd H p' (.lst ((srt0 ks).map V.str)) = H1 at k1 e1 ⊢
        refine ⟨p', rfl, ⟨_, SqL.of e1⟩, fun D hD => ?_⟩
        have len : (srt0 ks).length = ks.length := pm.length_eq
        refine lc_out (walk_list (xs := (srt0 ks).map V.str)) hD (fun i => .str (reprText ((srt0 ks).getD i "") ++ ((look ks l ((srt0 ks).getD i "")).map (txt n)).getD "")) (Nat.lt_of_le_of_lt (show ((srt0 ks).map V.str).length ≤ 2 by rw [List.length_map]; omega) (by decide)) (fun H2 k2 => SqL.of (k2 _ _ e1)) (fun i x H2 H2' N hi k2 y q => ?_) (fun H2 k2 h2 => ?_)
        · obtain ⟨rfl, ex⟩ := y
          rw [List.length_map] at hi
          rw [List.getElem?_map, List.getElem?_eq_getElem hi] at ex
          have ex : V.str (srt0 ks)[i] = x := Option.some.inj ex
          subst ex
          have eg : (srt0 ks).getD i "" = (srt0 ks)[i] := by simp [List.getD, List.getElem?_eq_getElem hi]
          have mk : (srt0 ks)[i] ∈ ks := pm.mem_iff.mp (List.getElem_mem hi)
          obtain ⟨v', d', f1, f2, f3, f4⟩ := val_at (O := OF K C) hk p mk
          have k02 := Same.trans k1 k2
          refine ⟨rfl, ?_⟩
          refine ⟨_, rfl, _, .str (srt0 ks)[i], n, rfl, rfl, rfl, ?_, ?_⟩
          · exact decide_eq_true (Nat.le_trans (kin _ mk) (by decide))
          have dg : DGet H2' a (V.str (srt0 ks)[i]) (some v') := f1 ▸ DGet.k (k := Sum.inr (srt0 ks)[i]) (k02 _ _ ha)
          refine ⟨_, rfl, _, rfl, a, _, rfl, dg, ?_⟩
          refine ⟨v', d', rfl, Dv.keep U.ok k02 _ _ f3, (hall d' f4).1, fun H3 k3 => ?_⟩
          refine ⟨_, _, rfl, rfl, small_add (Nat.le_trans (kin _ mk) (by decide)) (Nat.le_trans (hall d' f4).2 (by decide)), ?_⟩
          have := q H3 k3
          rw [eg, f2] at this
          exact this
        · have em : (List.range ((srt0 ks).map V.str).length).map (fun i => V.str (reprText ((srt0 ks).getD i "") ++ ((look ks l ((srt0 ks).getD i "")).map (txt n)).getD "")) = ((srt0 ks).map fun k => reprText k ++ ((look ks l k).map (txt n)).getD "").map V.str := by
            rw [List.length_map, List.map_map]
            refine range_map _ _ _ fun i a ha => ?_
            have : (srt0 ks).getD i "" = a := by simp [List.getD, ha]
            rw [this]
            rfl
          rw [em] at h2
          have hj := joins (ys := (srt0 ks).map fun k => reprText k ++ ((look ks l k).map (txt n)).getD "") (fun y hy => by
            obtain ⟨k', hk', rfl⟩ := List.mem_map.mp hy
            obtain ⟨v', d', f1, f2, f3, f4⟩ := val_at (O := OF K C) hk p (pm.mem_iff.mp hk')
            rw [f2]
            exact Nat.le_trans (add_len (kin _ (pm.mem_iff.mp hk')) ((hall d' f4).2)) (by decide)) (by rw [List.length_map]; omega)
          refine ⟨_, D, _, rfl, rfl, .inl (SqL.of h2), hj.1, ?_⟩
          refine ⟨_, _, rfl, rfl, small_add (show (("map(" : Str)).length ≤ 20000 by decide +kernel) (Nat.le_trans hj.2 (by decide)), ?_⟩
          refine ⟨_, _, rfl, rfl, ?_, fin H2 (Same.trans k1 k2) _ rfl⟩
          have := add_len (show (("map(" : Str)).length ≤ 4 by decide +kernel) hj.2
          exact Nat.le_trans (Nat.add_le_add this (show ((")" : Str)).length ≤ 1 by decide +kernel)) (by decide)
      · refine iteN (by simpa using em) ?_
        refine ⟨_, rfl, by show 2 ≤ sizeLine; decide, fun tp htp => ?_⟩
        have k1 := sm_upd (o := .tup [.ty "list", .ty "tuple"]) htp
        have e1 : (upd H tp (.tup [.ty "list", .ty "tuple"])) tp = some (.tup [.ty "list", .ty "tuple"]) := upd_same
        generalize upd H tp (.tup [.ty "list", .ty "tuple"]) = H1 at k1 e1 ⊢
        have hd1 := Dv.keep U.ok k1 _ _ hd
        refine ⟨v, tp, d, rfl, e1, hd1, _, rfl, ?_⟩
        by_cases es : isSeq d = true
        · refine iteC es ?_
          obtain ⟨a, us, l, rfl, hs, p, hx⟩ := seq_of U.ok hd1 es
          have hall : l.length ≤ 30 ∧ ∀ x ∈ l, okT n x = true ∧ (txt n x).length ≤ 300 := by
            have ho : (decide (l.length ≤ 30) && l.all (fun x => okT n x && decide ((txt n x).length ≤ 300))) = true := by
              rcases hx with ⟨rfl, _⟩ | ⟨rfl, _⟩ <;> exact ho
            simp only [Bool.and_eq_true, decide_eq_true_eq, List.all_eq_true] at ho
            exact ho
          have lu := p.len
          have skip : True := True.intro
          have hkeep : ∀ H2, Same H1 H2 → (SqL K H2 a us ∨ SqT K H2 a us) := fun H2 k2 => hs.elim (fun z => .inl (SqL.same z k2)) fun z => .inr (SqT.same z k2)
          have hj := joins (ys := l.map (txt n)) (fun y hy => by
            obtain ⟨x, hx', rfl⟩ := List.mem_map.mp hy
            exact Nat.le_trans (hall.2 x hx').2 (by decide)) (by rw [List.length_map]; exact hall.1)
          have em2 : (List.range us.length).map (fun i => V.str (txt n (l.getD i .non))) = (l.map (txt n)).map V.str := by
            rw [lu, List.map_map]
            refine range_map _ _ _ fun i x hx => ?_
            have : l.getD i .non = x := by simp [List.getD, hx]
            rw [this]
            rfl
          have turn : ∀ (i : Nat) (x : V) (H2 : Hp), i < us.length → us[i]? = some x → Same H1 H2 → ∃ d', Dv (OF K C) H2 d' x ∧ okT n d' = true ∧ txt n d' = txt n (l.getD i .non) := fun i x H2 hi ex k2 => by
            have hi' : i < l.length := by omega
            have e3 : l.getD i .non = l[i] := by simp [List.getD, List.getElem?_eq_getElem hi']
            exact ⟨l[i], Dv.keep U.ok k2 _ _ (DvL.at p (List.getElem?_eq_getElem hi') ex), (hall.2 _ (List.getElem_mem hi')).1, by rw [e3]⟩
          have tail : ∀ (word : Str), word.length ≤ 6 → txt (n + 1) d = word ++ Txt.join "," (l.map (txt n)) ++ ")" → ∀ (D : Addr) (H2 : Hp), Same H1 H2 → H2 D = some (.lst ((List.range us.length).map (fun i => V.str (txt n (l.getD i .non))))) →
              ∃ a p, ∃ ys : List Str, V.str "," = .str a ∧ [V.ref D] = [.ref p] ∧ (SqL K H2 p (ys.map V.str) ∨ SqT K H2 p (ys.map V.str)) ∧ (ys.map (·.length)).sum + ys.length * a.length ≤ 16777216 ∧ (∃ i j, V.str word = .str i ∧ V.str (Txt.join a ys) = .str j ∧ i.length + j.length ≤ sizeLine ∧ ∃ i' j', V.str (i ++ j) = .str i' ∧ V.str ")" = .str j' ∧ i'.length + j'.length ≤ sizeLine ∧ Q (.str (i' ++ j')) H2) := fun word hw ew D H2 k2 h2 => by
            rw [em2] at h2
            refine ⟨_, D, _, rfl, rfl, .inl (SqL.of h2), hj.1, ?_⟩
            refine ⟨_, _, rfl, rfl, small_add (Nat.le_trans hw (by decide)) (Nat.le_trans hj.2 (by decide)), ?_⟩
            refine ⟨_, _, rfl, rfl, ?_, fin H2 (Same.trans k1 k2) _ ew⟩
            have := add_len hw hj.2
            exact Nat.le_trans (Nat.add_le_add this (show ((")" : Str)).length ≤ 1 by decide +kernel)) (by decide)
          refine ⟨_, rfl, _, d, rfl, hd1, _, rfl, ?_⟩
          rcases hx with ⟨rfl, ha⟩ | ⟨rfl, ha⟩
          · refine iteC (by simp [tyD]) ?_
            refine ⟨_, rfl, ⟨_, rfl⟩, .inl ⟨_, rfl, a, rfl, ⟨us, SqL.of ha⟩, fun D hD => ?_⟩⟩
            refine lc_out (walk_list (xs := us)) hD (fun i => .str (txt n (l.getD i .non))) (Nat.lt_of_le_of_lt (show us.length ≤ 30 by omega) (by decide)) (fun H2 k2 => SqL.of (k2 _ _ ha)) (fun i x H2 H2' N hi k2 y q => ?_) (fun H2 k2 h2 => tail "list(" (by decide +kernel) rfl D H2 k2 h2)
            obtain ⟨rfl, ex⟩ := y
            obtain ⟨d', t1, t2, t3⟩ := turn i x _ hi ex k2
            exact ⟨rfl, _, rfl, x, d', rfl, t1, t2, fun H3 k3 => t3 ▸ q H3 k3⟩
          · refine iteN (by simp [tyD]) ?_
            refine ⟨_, rfl, ⟨_, rfl⟩, .inr ⟨_, rfl, a, rfl, ⟨us, ha⟩, fun D hD => ?_⟩⟩
            refine lc_out (walk_tup (xs := us)) hD (fun i => .str (txt n (l.getD i .non))) (Nat.lt_of_le_of_lt (show us.length ≤ 30 by omega) (by decide)) (fun H2 k2 => SqT.same ha k2) (fun i x H2 H2' N hi k2 y q => ?_) (fun H2 k2 h2 => tail "tuple(" (by decide +kernel) rfl D H2 k2 h2)
            obtain ⟨rfl, ex⟩ := y
            obtain ⟨d', t1, t2, t3⟩ := turn i x _ hi ex k2
            exact ⟨rfl, _, rfl, x, d', rfl, t1, t2, fun H3 k3 => t3 ▸ q H3 k3⟩
        · refine iteN ((Bool.not_eq_true _).mp es) ?_
          refine ⟨_, rfl, v, d, rfl, hd1, _, rfl, ?_⟩
          by_cases eo : isOb d = true
          · refine iteC eo ?_
            cases d <;> simp [isOb] at eo
            exact fin H1 k1 _ rfl
          · refine iteN ((Bool.not_eq_true _).mp eo) ?_
            have hl : isLeaf d = true := by
              cases d <;> simp [isLeaf, isSeq, isOb, tyD] at *
            exact ⟨_, rfl, v, d, n, rfl, hd1, hl, ho, fin H1 k1 _ rfl⟩
end
end Da

set_option Elab.async false
set_option linter.all false
set_option maxRecDepth 100000
set_option maxHeartbeats 4000000
/-! == of a thing with a dict -/
namespace Da
open PySem PySem.Spec PyProof.Rows L2 PySem.SeqAt
open AutoSeq1 (wpAny_loadPart')
open MeetsSeq
theorem sub_dict_None : isSubtype (.type "dict") (.type "NoneType") = pure false := by rw [isSubtype_type]; kernel_rfl
section
variable (l : Addr) (cl : Value) (dd : Option Addr) (es : Array DictEntry) (n : Nat) (sl : Array (Option Value))
theorem str_declines_d (b : Str) (u : Tok) : Meets (Builtin.«str.__eq__» ⟨[.str b u, .ref l], []⟩) (fun _ R s => s.heap.get? l = some { cls := cl, dict := dd, data := .dict es n, slots := sl } ∧ R (.ok (.ret .notImplemented)) s) :=
  .of_wp fun prog w A R s h => by
    obtain ⟨hp, g, d, tk, os⟩ := s
    obtain ⟨hl, h⟩ := h
    wp_walk using wpAny_loadPart' hl, wpAny_load hl
    exact ⟨_, rfl, h⟩
theorem int_declines_d (b : Bool) : Meets (Builtin.«int.__eq__» ⟨[.bool b, .ref l], []⟩) (fun _ R s => s.heap.get? l = some { cls := cl, dict := dd, data := .dict es n, slots := sl } ∧ R (.ok (.ret .notImplemented)) s) :=
  .of_wp fun prog w A R s h => by
    obtain ⟨hp, g, d, tk, os⟩ := s
    obtain ⟨hl, h⟩ := h
    wp_walk using wpAny_loadPart' hl, wpAny_load hl
    exact ⟨_, rfl, h⟩
theorem tuple_declines_d (b : Addr) (items : Array Value) (m : Nat) (d2 : Option Addr) (s2 : Array (Option Value)) : Meets (Builtin.«tuple.__eq__» ⟨[.ref b, .ref l], []⟩) (fun _ R s => s.heap.get? b = some { cls := .type "tuple", dict := d2, data := .seq items m, slots := s2 } ∧ s.heap.get? l = some { cls := .type "dict", dict := dd, data := .dict es n, slots := sl } ∧ R (.ok (.ret .notImplemented)) s) :=
  .of_wp fun prog w A R s h => by
    obtain ⟨hp, g, d, tk, os⟩ := s
    obtain ⟨hb, hl, h⟩ := h
    have f1 := F.sub_dict_tuple
    wp_walk using wpAny_loadPart' hb, wpAny_loadPart' hl, wpAny_load hl
    exact ⟨_, rfl, h⟩
end
section
variable (l : Addr) (o : Obj)
theorem d_declines_str (b : Str) (u : Tok) : Meets (Builtin.«dict.__eq__» ⟨[.ref l, .str b u], []⟩) (fun _ R s => (s.heap.get? l = some o ∧ o.cls = .type "dict") ∧ R (.ok (.ret .notImplemented)) s) :=
  .of_wp fun prog w A R s h => by
    obtain ⟨hp, g, d, tk, os⟩ := s
    obtain ⟨⟨hl, hc⟩, h⟩ := h
    have f1 := F.sub_str_dict
    wp_walk using wpAny_loadPart' hl, wpAny_load hl
    exact ⟨_, rfl, h⟩
theorem d_declines_bool (b : Bool) : Meets (Builtin.«dict.__eq__» ⟨[.ref l, .bool b], []⟩) (fun _ R s => (s.heap.get? l = some o ∧ o.cls = .type "dict") ∧ R (.ok (.ret .notImplemented)) s) :=
  .of_wp fun prog w A R s h => by
    obtain ⟨hp, g, d, tk, os⟩ := s
    obtain ⟨⟨hl, hc⟩, h⟩ := h
    have f1 := F.sub_bool_dict
    wp_walk using wpAny_loadPart' hl, wpAny_load hl
    exact ⟨_, rfl, h⟩
theorem d_declines_none : Meets (Builtin.«dict.__eq__» ⟨[.ref l, .none], []⟩) (fun _ R s => (s.heap.get? l = some o ∧ o.cls = .type "dict") ∧ R (.ok (.ret .notImplemented)) s) :=
  .of_wp fun prog w A R s h => by
    obtain ⟨hp, g, d, tk, os⟩ := s
    obtain ⟨⟨hl, hc⟩, h⟩ := h
    have f1 := F.sub_NoneType_dict
    wp_walk using wpAny_loadPart' hl, wpAny_load hl
    exact ⟨_, rfl, h⟩
theorem d_declines_tuple (b : Addr) (items : Array Value) (m : Nat) (d2 : Option Addr) (s2 : Array (Option Value)) : Meets (Builtin.«dict.__eq__» ⟨[.ref l, .ref b], []⟩) (fun _ R s => (s.heap.get? l = some o ∧ o.cls = .type "dict") ∧ s.heap.get? b = some { cls := .type "tuple", dict := d2, data := .seq items m, slots := s2 } ∧ R (.ok (.ret .notImplemented)) s) :=
  .of_wp fun prog w A R s h => by
    obtain ⟨hp, g, d, tk, os⟩ := s
    obtain ⟨⟨hl, hc⟩, hb, h⟩ := h
    have f1 := F.sub_tuple_dict
    wp_walk using wpAny_loadPart' hl, wpAny_load hl, wpAny_loadPart' hb
    exact ⟨_, rfl, h⟩
end
section
variable {A : Around} {s : Shared} {l : Addr} {es : Array DictEntry} {n : Nat} {o : Obj}
theorem rc_str_d (b : Str) (u : Tok) (ho : s.heap.get? l = some o) (hc : o.cls = .type "dict") (hd : o.data = .dict es n) (hu : A.units < cLine) : RcAt A s (.str b u) (.ref l) false := fun prog w E Q h => by
  obtain ⟨cls, dd, data, sl⟩ := o
  simp only at hc hd
  subst hc hd
  exact rc_eq_decline_or (k := false) (typeIs_str s b u) ⟨_, ho, rfl⟩ (by decide) F.sub_dict_str F.slot_str_eq F.slot_dict_eq_refl
    (fun _ hq => call_meets F.slot_str_eq (typeIs_str s b u) F.entry_str_eq (F.args_str_eq_2 _ _) (str_declines_d l (.type "dict") dd es n sl b u) ⟨ho, hq⟩)
    (fun _ hq => call_meets F.slot_dict_eq_refl ⟨_, ho, rfl⟩ F.entry_dict_eq (F.args_dict_eq_2 _ _) (d_declines_str l _ b u) ⟨⟨ho, rfl⟩, hq⟩)
    (fun _ hq => wpAny_of_eq (rfl : isSame (.str b u) (.ref l) = pure false) hq) (.inr hu) h
theorem rc_bool_d (b : Bool) (ho : s.heap.get? l = some o) (hc : o.cls = .type "dict") (hd : o.data = .dict es n) (hu : A.units < cLine) : RcAt A s (.bool b) (.ref l) false := fun prog w E Q h => by
  obtain ⟨cls, dd, data, sl⟩ := o
  simp only at hc hd
  subst hc hd
  exact rc_eq_decline_or (k := false) rfl ⟨_, ho, rfl⟩ (by decide) F.sub_dict_bool F.slot_bool_eq F.slot_dict_eq_refl
    (fun _ hq => call_meets F.slot_bool_eq rfl F.entry_int_eq (F.args_int_eq_2 _ _) (int_declines_d l (.type "dict") dd es n sl b) ⟨ho, hq⟩)
    (fun _ hq => call_meets F.slot_dict_eq_refl ⟨_, ho, rfl⟩ F.entry_dict_eq (F.args_dict_eq_2 _ _) (d_declines_bool l _ b) ⟨⟨ho, rfl⟩, hq⟩)
    (fun _ hq => wpAny_of_eq (rfl : isSame (.bool b) (.ref l) = pure false) hq) (.inr hu) h
theorem rc_none_d (ho : s.heap.get? l = some o) (hc : o.cls = .type "dict") (hd : o.data = .dict es n) (hu : A.units < cLine) : RcAt A s .none (.ref l) false := fun prog w E Q h => by
  obtain ⟨cls, dd, data, sl⟩ := o
  simp only at hc hd
  subst hc hd
  exact rc_eq_decline_or (k := false) rfl ⟨_, ho, rfl⟩ (by decide) sub_dict_None F.slot_NoneType_eq F.slot_dict_eq_refl
    (fun _ hq => call_gives F.slot_NoneType_eq rfl F.entry_NoneType_eq (F.args_NoneType_eq_2 _ _) (NoneType___eq___none_ref_0 l) hq)
    (fun _ hq => call_meets F.slot_dict_eq_refl ⟨_, ho, rfl⟩ F.entry_dict_eq (F.args_dict_eq_2 _ _) (d_declines_none l _) ⟨⟨ho, rfl⟩, hq⟩)
    (fun _ hq => wpAny_of_eq (rfl : isSame .none (.ref l) = pure false) hq) (.inr hu) h
theorem rc_tup_d {b : Addr} {items : Array Value} (hb : s.heap.IsTuple b items) (ho : s.heap.get? l = some o) (hc : o.cls = .type "dict") (hd : o.data = .dict es n) (hu : A.units < cLine) : RcAt A s (.ref b) (.ref l) false := fun prog w E Q h => by
  obtain ⟨⟨cls2, d2, data2, s2⟩, ho2, hc2, m, hd2⟩ := id hb
  simp only at hc2 hd2
  subst hc2 hd2
  have nbl : b ≠ l := fun e => by
    rw [e, ho] at ho2
    have e2 := Option.some.inj ho2
    rw [e2] at hd
    cases hd
  obtain ⟨cls, dd, data, sl⟩ := o
  simp only at hc hd
  subst hc hd
  exact rc_eq_decline_or (k := false) ⟨_, ho2, rfl⟩ ⟨_, ho, rfl⟩ (by decide) F.sub_dict_tuple F.slot_tuple_eq F.slot_dict_eq_refl
    (fun _ hq => call_meets F.slot_tuple_eq ⟨_, ho2, rfl⟩ F.entry_tuple_eq (F.args_tuple_eq_2 _ _) (tuple_declines_d l dd es n sl b items m d2 s2) ⟨ho2, ho, hq⟩)
    (fun _ hq => call_meets F.slot_dict_eq_refl ⟨_, ho, rfl⟩ F.entry_dict_eq (F.args_dict_eq_2 _ _) (d_declines_tuple l _ b items m d2 s2) ⟨⟨ho, rfl⟩, ho2, hq⟩)
    (fun _ hq => wpAny_isSame_ref_other' nbl ho2 ho (by simp) hq) (.inr hu) h
end
section
open Dq Vl Vq
variable {X : Cx} {C : Addr}
/-- x == a dict, x None, a bool, a text, a tuple -/
def notMap : D → Bool
  | .non | .bl _ | .str _ | .tup _ => true
  | _ => false
theorem op_eqM (hu : X.A.units < cLine) : OpR X (compareOp .Eq) (fun x y H Q => ∃ (d : D) (a : Addr) (kvs : List (Key × V)), Dv (OF X.K C) H d x ∧ notMap d = true ∧ y = .ref a ∧ H a = some (.dK kvs) ∧ Q (.bl false) H) := by
  intro pins s σ H x y v u Q I rx ry h
  obtain ⟨d, a, kvs, hd, hn, rfl, ha, q⟩ := h
  cases ry
  obtain ⟨_, _, vs, _, o, es, ep, h1, h2, h3, _⟩ := (show ObjOk X.prog X.w H s.heap a (.dK kvs) from I.hok a _ ha)
  cases d with
  | non =>
    cases hd
    cases (show v = Value.none from rx)
    exact rc_none_d h1 h2.1 h3 hu X.prog X.w X.xe _ ⟨.bl false, H, I, rfl, q⟩
  | bl b =>
    cases hd
    cases (show v = Value.bool b from rx)
    exact rc_bool_d b h1 h2.1 h3 hu X.prog X.w X.xe _ ⟨.bl false, H, I, rfl, q⟩
  | str b =>
    cases hd
    obtain ⟨t, rfl⟩ := rx
    exact rc_str_d b t h1 h2.1 h3 hu X.prog X.w X.xe _ ⟨.bl false, H, I, rfl, q⟩
  | tup l =>
    obtain ⟨b, us, rfl, hb, _⟩ := hd
    cases rx
    obtain ⟨its, rv, p, _⟩ := I.tuple hb
    exact rc_tup_d p h1 h2.1 h3 hu X.prog X.w X.xe _ ⟨.bl false, H, I, rfl, q⟩
  | _ => cases hn
end
end Da

set_option Elab.async false
set_option linter.all false
set_option maxRecDepth 100000
set_option maxHeartbeats 4000000
/-! the law's makers -/
namespace Da
open PySem PySem.Spec PyProof.Rows L2 Dq Vl Vq Ow Cf
/-- the four classes, and Config -/
structure W4 where
  b : Addr
  r : Addr
  c : Addr
  m : Addr
def W4.cl (W : W4) : Nat → Addr
  | 0 => W.b
  | 1 => W.r
  | 2 => W.c
  | _ => W.m
def nsW : Nat → List Str
  | 0 => nsBlock
  | 1 => nsReading
  | 2 => nsCall
  | _ => nsMove
/-- how an object of each class is made -/
structure TxtM (P : Program) (w : World) (K : PySem.W.Frag) (mg : Str → Option Value) (base : Heap) (W : W4) (iB iR iC iM : Addr) (dB dR dC dM : FuncData) (gB gR gC : List Value → List Value → List Value) : Prop where
  nB : mg "Block" = some (.ref W.b)
  nR : mg "Reading" = some (.ref W.r)
  nC : mg "Call" = some (.ref W.c)
  nM : mg "Move" = some (.ref W.m)
  mB : Mk K W.b iB
  mR : Mk K W.r iR
  mC : Mk K W.c iC
  mM : Mk K W.m iM
  fB : FnOk P w K mg base CX0 1 iB dB ("self" :: nsBlock) (spInit W.b nsBlock)
  fR : FnOk P w K mg base CX0 1 iR dR ("self" :: nsReading) (spInit W.r nsReading)
  fC : FnOk P w K mg base CX0 1 iC dC ("self" :: nsCall) (spInit W.c nsCall)
  fM : FnOk P w K mg base CX0 1 iM dM ("self" :: nsMove) (spInit W.m nsMove)
  kB : KBn K dB ("self" :: nsBlock) 4 ["many", "after", "first", "never", "ignored", "replaced_by", "ahead"] gB (fun vs zs => vs ++ zs)
  kR : KBn K dR ("self" :: nsReading) 4 ["after"] gR (fun vs zs => vs ++ zs)
  kC : KBn K dC ("self" :: nsCall) 4 ["after"] gC (fun vs zs => vs ++ zs)
  bM : Binds K dM ("self" :: nsMove) []
abbrev sLBlock : Stmt := Pf.top 59
abbrev sMade : Stmt := Pf.top 61
theorem scLBlock : FnScope ["_law_p"] ["_law_p"] (defScope sLBlock) := ⟨rfl, rfl, rfl, by decide +kernel, rfl, by decide +kernel, by decide +kernel⟩
theorem scMade : FnScope ["_law_way", "_law_p"] ["_law_way", "_law_p"] (defScope sMade) := ⟨rfl, rfl, rfl, by decide +kernel, rfl, by decide +kernel, by decide +kernel⟩
/-- an object of the class at C is made of the first of us -/
def spOf (C : Addr) (ns : List Str) (H : Hp) (us : List V) (Q : VK) : Prop := ∀ (q : Addr) (H' : Hp), H q = none → Same H H' → (∃ dx, H' q = some (.ins C dx (ns.zip (us.take ns.length)))) → Q (.ref q) H'
def spLBlock (W : W4) : Sp := fun vs H Q _ => ∃ (p : Addr) (us : List V), vs = [.ref p] ∧ H p = some (.lst us) ∧ 10 ≤ us.length ∧ spOf W.b nsBlock H us Q
def spMade (W : W4) : Sp := fun vs H Q _ => ∃ (n : Nat) (p : Addr) (us : List V), vs = [.int n, .ref p] ∧ n < 4 ∧ H p = some (.lst us) ∧ (nsW n).length ≤ us.length ∧ spOf (W.cl n) (nsW n) H us Q
theorem made_same {H H' : Hp} {C x dx : Addr} (hx : H x = none) (hd : H dx = none) (ne : dx ≠ x) (k : Pf.But x (upd (upd H dx (.own x)) x (.ins C dx [])) H') : Same H H' := fun b o e => by
  have nb := ne_of_none e hx
  refine k b o ?_ nb
  rw [upd_ne nb, upd_ne (ne_of_none e hd)]
  exact e
theorem atL {us : List V} {j : Nat} (h : j < us.length) : atI us (j : Int) = some us[j] := atI_nat (List.getElem?_eq_getElem h)
theorem take10 {us : List V} (h : 10 ≤ us.length) : us.take 10 = [us[0], us[1], us[2], us[3], us[4], us[5], us[6], us[7], us[8], us[9]] := by
  match us, h with
  | _ :: _ :: _ :: _ :: _ :: _ :: _ :: _ :: _ :: _ :: _, _ => rfl
theorem take4 {us : List V} (h : 4 ≤ us.length) : us.take 4 = [us[0], us[1], us[2], us[3]] := by
  match us, h with
  | _ :: _ :: _ :: _ :: _, _ => rfl
theorem take2 {us : List V} (h : 2 ≤ us.length) : us.take 2 = [us[0], us[1]] := by
  match us, h with
  | _ :: _ :: _, _ => rfl
section
variable {P : Program} {w : World} {K : PySem.W.Frag} {mg : Str → Option Value} {base : Heap} {W : W4} {iB iR iC iM : Addr} {dB dR dC dM : FuncData} {gB gR gC : List Value → List Value → List Value}
theorem ok_lblock {f : Addr} {fd : FuncData} (F : Fun K "_law_block" "_law_block" sLBlock f fd) (T : TxtM P w K mg base W iB iR iC iM dB dR dC dM gB gR gC) : FnOk P w K mg base CX0 3 f fd ["_law_p"] (spLBlock W) := by
  refine F.ok scLBlock (fun vs H Q E h => ?_) (fun cdv A outer s H vs Q E hr h => ?_)
  · obtain ⟨p, us, rfl, _⟩ := h
    rfl
  · obtain ⟨p, us, rfl, hp, hl, k⟩ := h
    refine ⟨_, pss_one (ps_ret (pe_makeK T.mB T.fB hr rfl T.nB T.kB pass0 (pa_cons (pe_ix ix_list (pv 0) pe_int (fun _ _ => rfl)) (pa_cons (pe_ix ix_list (pv 0) pe_int (fun _ _ => rfl)) (pa_cons (pe_ix ix_list (pv 0) pe_int (fun _ _ => rfl)) pa_nil))) (pk_cons (pe_ix ix_list (pv 0) pe_int (fun _ _ => rfl)) (pk_cons (pe_ix ix_list (pv 0) pe_int (fun _ _ => rfl)) (pk_cons (pe_ix ix_list (pv 0) pe_int (fun _ _ => rfl)) (pk_cons (pe_ix ix_list (pv 0) pe_int (fun _ _ => rfl)) (pk_cons (pe_ix ix_list (pv 0) pe_int (fun _ _ => rfl)) (pk_cons (pe_ix ix_list (pv 0) pe_int (fun _ _ => rfl)) (pk_cons (pe_ix ix_list (pv 0) pe_int (fun _ _ => rfl)) pk_nil))))))))), ?_⟩
    refine ⟨_, rfl, p, us, _, _, rfl, rfl, SqL.of hp, atL (j := 0) (show 0 < us.length by omega), ?_⟩
    refine ⟨_, rfl, p, us, _, _, rfl, rfl, SqL.of hp, atL (j := 1) (show 1 < us.length by omega), ?_⟩
    refine ⟨_, rfl, p, us, _, _, rfl, rfl, SqL.of hp, atL (j := 2) (show 2 < us.length by omega), ?_⟩
    refine ⟨_, rfl, p, us, _, _, rfl, rfl, SqL.of hp, atL (j := 3) (show 3 < us.length by omega), ?_⟩
    refine ⟨_, rfl, p, us, _, _, rfl, rfl, SqL.of hp, atL (j := 4) (show 4 < us.length by omega), ?_⟩
    refine ⟨_, rfl, p, us, _, _, rfl, rfl, SqL.of hp, atL (j := 5) (show 5 < us.length by omega), ?_⟩
    refine ⟨_, rfl, p, us, _, _, rfl, rfl, SqL.of hp, atL (j := 6) (show 6 < us.length by omega), ?_⟩
    refine ⟨_, rfl, p, us, _, _, rfl, rfl, SqL.of hp, atL (j := 7) (show 7 < us.length by omega), ?_⟩
    refine ⟨_, rfl, p, us, _, _, rfl, rfl, SqL.of hp, atL (j := 8) (show 8 < us.length by omega), ?_⟩
    refine ⟨_, rfl, p, us, _, _, rfl, rfl, SqL.of hp, atL (j := 9) (show 9 < us.length by omega), ?_⟩
    refine ⟨rfl, rfl, fun x dx nx ndx ne => ⟨x, dx, [us[0], us[1], us[2], us[3], us[4], us[5], us[6], us[7], us[8], us[9]], rfl, rfl, upd_same, fun H' bt e => ⟨rfl, ?_⟩⟩⟩
    refine k x H' nx (made_same nx ndx ne bt) ⟨dx, ?_⟩
    rw [e, show us.take nsBlock.length = us.take 10 from rfl, take10 hl]
theorem ok_made {f fB : Addr} {fd fdB : FuncData} (F : Fun K "_law_made" "_law_made" sMade f fd) (T : TxtM P w K mg base W iB iR iC iM dB dR dC dM gB gR gC) (DB : Def P w K mg base 3 "_law_block" fB fdB ["_law_p"] (spLBlock W)) : FnOk P w K mg base CX0 4 f fd ["_law_way", "_law_p"] (spMade W) := by
  refine F.ok scMade (fun vs H Q E h => ?_) (fun cdv A outer s H vs Q E hr h => ?_)
  · obtain ⟨n, p, us, rfl, _⟩ := h
    rfl
  · obtain ⟨n, p, us, rfl, hn, hp, hl, k⟩ := h
    refine ⟨_, pss_cons (ps_if (pt_cmpR op_eq (pv 0) pe_int (nomark _)) (pss_one (ps_ret (pe_call DB.ok hr rfl DB.g DB.kp DB.b .nil pass0 (pa_cons (pv 1) pa_nil)))) pss_nil)
      (pss_cons (ps_if (pt_cmpR op_eq (pv 0) pe_int (nomark _)) (pss_one (ps_ret (pe_makeK T.mR T.fR (hr.mono (by decide)) rfl T.nR T.kR pass0 (pa_cons (pe_ix ix_list (pv 1) pe_int (fun _ _ => rfl)) (pa_cons (pe_ix ix_list (pv 1) pe_int (fun _ _ => rfl)) (pa_cons (pe_ix ix_list (pv 1) pe_int (fun _ _ => rfl)) pa_nil))) (pk_cons (pe_ix ix_list (pv 1) pe_int (fun _ _ => rfl)) pk_nil)))) pss_nil)
      (pss_one (ps_ret (pe_ifExp (pt_cmpR op_eq (pv 0) pe_int (nomark _)) (pe_makeK T.mC T.fC (hr.mono (by decide)) rfl T.nC T.kC pass0 (pa_cons (pe_ix ix_list (pv 1) pe_int (fun _ _ => rfl)) (pa_cons (pe_ix ix_list (pv 1) pe_int (fun _ _ => rfl)) (pa_cons (pe_ix ix_list (pv 1) pe_int (fun _ _ => rfl)) pa_nil))) (pk_cons (pe_ix ix_list (pv 1) pe_int (fun _ _ => rfl)) pk_nil)) (pe_make T.mM T.fM (hr.mono (by decide)) rfl T.nM T.bM .nil pass0 (pa_cons (pe_ix ix_list (pv 1) pe_int (fun _ _ => rfl)) (pa_cons (pe_ix ix_list (pv 1) pe_int (fun _ _ => rfl)) pa_nil))))))), ?_⟩
    refine ⟨_, rfl, rfl, _, rfl, ?_⟩
    match n, hn with
    | 0, _ =>
      refine iteC (by simp) ?_
      exact ⟨_, rfl, p, us, rfl, hp, hl, k⟩
    | 1, _ =>
      have hl : 4 ≤ us.length := hl
      refine iteN (by simp) ⟨_, rfl, rfl, _, rfl, iteC (by simp) ?_⟩
      refine ⟨_, rfl, p, us, _, _, rfl, rfl, SqL.of hp, atL (j := 0) (show 0 < us.length by omega), ?_⟩
      refine ⟨_, rfl, p, us, _, _, rfl, rfl, SqL.of hp, atL (j := 1) (show 1 < us.length by omega), ?_⟩
      refine ⟨_, rfl, p, us, _, _, rfl, rfl, SqL.of hp, atL (j := 2) (show 2 < us.length by omega), ?_⟩
      refine ⟨_, rfl, p, us, _, _, rfl, rfl, SqL.of hp, atL (j := 3) (show 3 < us.length by omega), ?_⟩
      refine ⟨rfl, rfl, fun x dx nx ndx ne => ⟨x, dx, [us[0], us[1], us[2], us[3]], rfl, rfl, upd_same, fun H' bt e => ⟨rfl, k x H' nx (made_same nx ndx ne bt) ⟨dx, ?_⟩⟩⟩⟩
      rw [e, show us.take (nsW 1).length = us.take 4 from rfl, take4 hl]
      rfl
    | 2, _ =>
      have hl : 4 ≤ us.length := hl
      refine iteN (by simp) ⟨_, rfl, rfl, _, rfl, iteN (by simp) ⟨_, rfl, rfl, _, rfl, iteC (by simp) ?_⟩⟩
      refine ⟨_, rfl, p, us, _, _, rfl, rfl, SqL.of hp, atL (j := 0) (show 0 < us.length by omega), ?_⟩
      refine ⟨_, rfl, p, us, _, _, rfl, rfl, SqL.of hp, atL (j := 1) (show 1 < us.length by omega), ?_⟩
      refine ⟨_, rfl, p, us, _, _, rfl, rfl, SqL.of hp, atL (j := 2) (show 2 < us.length by omega), ?_⟩
      refine ⟨_, rfl, p, us, _, _, rfl, rfl, SqL.of hp, atL (j := 3) (show 3 < us.length by omega), ?_⟩
      refine ⟨rfl, rfl, fun x dx nx ndx ne => ⟨x, dx, [us[0], us[1], us[2], us[3]], rfl, rfl, upd_same, fun H' bt e => ⟨rfl, k x H' nx (made_same nx ndx ne bt) ⟨dx, ?_⟩⟩⟩⟩
      rw [e, show us.take (nsW 2).length = us.take 4 from rfl, take4 hl]
      rfl
    | 3, _ =>
      have hl : 2 ≤ us.length := hl
      refine iteN (by simp) ⟨_, rfl, rfl, _, rfl, iteN (by simp) ⟨_, rfl, rfl, _, rfl, iteN (by simp) ?_⟩⟩
      refine ⟨_, rfl, p, us, _, _, rfl, rfl, SqL.of hp, atL (j := 0) (show 0 < us.length by omega), ?_⟩
      refine ⟨_, rfl, p, us, _, _, rfl, rfl, SqL.of hp, atL (j := 1) (show 1 < us.length by omega), ?_⟩
      refine fun x dx nx ndx ne => ⟨x, dx, [us[0], us[1]], rfl, rfl, upd_same, fun H' bt e => ⟨rfl, k x H' nx (made_same nx ndx ne bt) ⟨dx, ?_⟩⟩⟩
      rw [e, show us.take (nsW 3).length = us.take 2 from rfl, take2 hl]
      rfl
end
end Da

set_option Elab.async false
set_option linter.all false
set_option maxRecDepth 100000
set_option maxHeartbeats 4000000
/-! _law_kept -/
namespace Da
open PySem PySem.Spec PyProof.Rows L2 Dq Vl Vq Ow Cf
/-- what is known of the four classes -/
structure ClsW (K : PySem.W.Frag) (W : W4) : Prop where
  tk : ∀ n, n < 4 → TxtK K (W.cl n) (nsW n)
  ic : ∀ n, n < 4 → C8.InsC K (W.cl n)
  ms : ∀ n, n < 4 → PySem.W.makesIn K (W.cl n) = true
  kit : ∀ n v, n < 4 → v < 3 → PySem.W.kitOne K (.ref (W.cl n)) (.ref (W.cl v)) = some (decide (n = v))
abbrev sKept : Stmt := Pf.top 60
abbrev NKept : List Str := ["_law_one_here", "_law_some", "_law_told"]
theorem scKept : FnScope NKept ["_law_one_here", "_law_some"] (defScope sKept) := ⟨rfl, rfl, rfl, by decide +kernel, rfl, by decide +kernel, by decide +kernel⟩
section
variable {X : Cx}
theorem call_isW {W : W4} (U : ClsW X.K W) : CallR X (.builtin "isinstance") (fun xs H Q => ∃ a n v dx fs, xs = [.ref a, .ref (W.cl v)] ∧ n < 4 ∧ v < 3 ∧ H a = some (.ins (W.cl n) dx fs) ∧ Q (.bl (decide (n = v))) H) := fun pins s σ H xs us Q I r ⟨a, n, v, dx, fs, e, hn, hv, ha, q⟩ => by
  have c := U.ic n hn
  exact call_isi pins s σ H xs us Q I r ⟨.ref a, .ref (W.cl v), .ref (W.cl n), .ref (W.cl v), _, e, .own _, .base (.ins ha c.cl c.ha c.hn c.htk c.hm), U.kit n v hn hv, q⟩
end
theorem list10 {ws : List V} (h : ws.length = 10) : ∃ v0 v1 v2 v3 v4 v5 v6 v7 v8 v9, ws = [v0, v1, v2, v3, v4, v5, v6, v7, v8, v9] := by
  match ws, h with
  | [v0, v1, v2, v3, v4, v5, v6, v7, v8, v9], _ => exact ⟨v0, v1, v2, v3, v4, v5, v6, v7, v8, v9, rfl⟩
theorem list4 {ws : List V} (h : ws.length = 4) : ∃ v0 v1 v2 v3, ws = [v0, v1, v2, v3] := by
  match ws, h with
  | [v0, v1, v2, v3], _ => exact ⟨v0, v1, v2, v3, rfl⟩
theorem list2 {ws : List V} (h : ws.length = 2) : ∃ v0 v1, ws = [v0, v1] := by
  match ws, h with
  | [v0, v1], _ => exact ⟨v0, v1, rfl⟩
def spKept (K : PySem.W.Frag) (C : Addr) (W : W4) : Sp := fun vs H Q _ => ∃ (n : Nat) (q p dx : Addr) (ws us : List V) (xs ys : List D), vs = [.ref q, .ref p] ∧ n < 4 ∧ H q = some (.ins (W.cl n) dx ((nsW n).zip ws)) ∧ ws.length = (nsW n).length ∧ DvL (OF K C) H xs ws ∧ Good xs ∧ H p = some (.lst us) ∧ DvL (OF K C) H ys us ∧ Good ys ∧
  ∀ H', Same H H' → Q (.bl (decide (txt 7 (.lst xs) = txt 7 (.lst ys)))) H'
section
variable {P : Program} {w : World} {K : PySem.W.Frag} {mg : Str → Option Value} {base : Heap} {W : W4} {C : Addr}
theorem ok_kept {f fT : Addr} {fd fdT : FuncData} (F : Fun K "_law_kept" "_law_kept" sKept f fd) (T : TxtD mg C) (U : CfgC K C) (UW : ClsW K W) (nB : mg "Block" = some (.ref W.b)) (nR : mg "Reading" = some (.ref W.r)) (nC : mg "Call" = some (.ref W.c)) (DT : Def P w K mg base 8 "_law_sorted_text" fT fdT ["_law_thing"] (spTxt K C 7)) : FnOk P w K mg base CX0 9 f fd ["_law_one_here", "_law_some"] (spKept K C W) := by
  refine F.ok scKept (fun vs H Q E h => ?_) (fun cdv A outer s H vs Q E hr h => ?_)
  · obtain ⟨n, q, p, dx, ws, us, xs, ys, rfl, _⟩ := h
    rfl
  · obtain ⟨n, q, p, dx, ws, us, xs, ys, rfl, hn, hq, el, dl, gx, hp, dm, gy, k⟩ := h
    refine ⟨_, (pss_cons (ps_if (pt_val (pe_callB (call_isW UW) (by rfl) T.isi (by decide +kernel) (pa_cons (pv 0) (pa_cons (pe_glob (v := .ref W.b) rfl nB rfl) pa_nil)))) (pss_cons (ps_set (i := 2) scKept.nd rfl (Or.inl rfl) (pe_lst (pa_cons (pe_fld (pv 0) rfl) (pa_cons (pe_fld (pv 0) rfl) (pa_cons (pe_fld (pv 0) rfl) (pa_cons (pe_fld (pv 0) rfl) (pa_cons (pe_fld (pv 0) rfl) (pa_cons (pe_fld (pv 0) rfl) (pa_cons (pe_fld (pv 0) rfl) (pa_cons (pe_fld (pv 0) rfl) pa_nil)))))))))) (pss_one (ps_set (i := 2) scKept.nd rfl (Or.inl rfl) (pe_op op_cat (pv 2) (pe_lst (pa_cons (pe_fld (pv 0) rfl) (pa_cons (pe_fld (pv 0) rfl) pa_nil)))))))
        (pss_one (ps_if (pt_val (pe_callB (call_isW UW) (by rfl) T.isi (by decide +kernel) (pa_cons (pv 0) (pa_cons (pe_glob (v := .ref W.r) rfl nR rfl) pa_nil)))) (pss_one (ps_set (i := 2) scKept.nd rfl (Or.inl rfl) (pe_lst (pa_cons (pe_fld (pv 0) rfl) (pa_cons (pe_fld (pv 0) rfl) (pa_cons (pe_fld (pv 0) rfl) (pa_cons (pe_fld (pv 0) rfl) pa_nil))))))) (pss_one (ps_if (pt_val (pe_callB (call_isW UW) (by rfl) T.isi (by decide +kernel) (pa_cons (pv 0) (pa_cons (pe_glob (v := .ref W.c) rfl nC rfl) pa_nil)))) (pss_one (ps_set (i := 2) scKept.nd rfl (Or.inl rfl) (pe_lst (pa_cons (pe_fld (pv 0) rfl) (pa_cons (pe_fld (pv 0) rfl) (pa_cons (pe_fld (pv 0) rfl) (pa_cons (pe_fld (pv 0) rfl) pa_nil))))))) (pss_one (ps_set (i := 2) scKept.nd rfl (Or.inl rfl) (pe_lst (pa_cons (pe_fld (pv 0) rfl) (pa_cons (pe_fld (pv 0) rfl) pa_nil))))))))))
      (pss_one (ps_ret (pe_cmpR op_eq (pe_call DT.ok hr rfl DT.g DT.kp DT.b .nil pass0 (pa_cons (pv 2) pa_nil)) (pe_call DT.ok hr rfl DT.g DT.kp DT.b .nil pass0 (pa_cons (pv 1) pa_nil)) (nomark _))))), ?_⟩
    have fin : ∀ (σ : L2.St) (l : Addr) (H1 : Hp), σ[1]? = some (some (.ref p)) → Same H H1 → H1 l = some (.lst ws) → ∃ v d, [V.ref l] = [v] ∧ Dv (OF K C) H1 d v ∧ okT 7 d = true ∧ ∀ H', Same H1 H' → (∃ y, σ[1]? = some (some y) ∧ ∃ v' d', [y] = [v'] ∧ Dv (OF K C) H' d' v' ∧ okT 7 d' = true ∧ ∀ H2, Same H' H2 → (scal (.str (txt 7 d)) (.str (txt 7 d')) = true ∧ Q (.bl (decide (V.str (txt 7 d) = V.str (txt 7 d')))) H2)) := fun σ l H1 hσ k1 hl => by
      refine ⟨_, .lst xs, rfl, ⟨l, ws, rfl, hl, DvL.keep U.ok k1 _ _ dl⟩, gx.ok, fun H2 k2 => ⟨_, hσ, _, .lst ys, rfl, ⟨p, us, rfl, k2 _ _ (k1 _ _ hp), DvL.keep U.ok (Same.trans k1 k2) _ _ dm⟩, gy.ok, fun H3 k3 => ⟨rfl, ?_⟩⟩⟩
      have e : decide (V.str (txt 7 (.lst xs)) = V.str (txt 7 (.lst ys))) = decide (txt 7 (.lst xs) = txt 7 (.lst ys)) := by rw [Bool.eq_iff_iff]; simp
      rw [e]
      exact k H3 (Same.trans k1 (Same.trans k2 k3))
    refine ⟨_, rfl, q, n, 0, dx, _, rfl, hn, by decide, hq, _, rfl, ?_⟩
    match n, hn with
    | 0, hn =>
      obtain ⟨v0, v1, v2, v3, v4, v5, v6, v7, v8, v9, rfl⟩ := list10 el
      refine iteC rfl ?_
      have tk := UW.tk 0 hn
      refine ⟨_, rfl, q, _, dx, _, _, rfl, hq, tk.cl, tk.no _ (by simp [nsW]), lk_hd, ?_⟩
      refine ⟨_, rfl, q, _, dx, _, _, rfl, hq, tk.cl, tk.no _ (by simp [nsW]), (lk_tl (by decide +kernel)).trans (lk_hd), ?_⟩
      refine ⟨_, rfl, q, _, dx, _, _, rfl, hq, tk.cl, tk.no _ (by simp [nsW]), (lk_tl (by decide +kernel)).trans ((lk_tl (by decide +kernel)).trans (lk_hd)), ?_⟩
      refine ⟨_, rfl, q, _, dx, _, _, rfl, hq, tk.cl, tk.no _ (by simp [nsW]), (lk_tl (by decide +kernel)).trans ((lk_tl (by decide +kernel)).trans ((lk_tl (by decide +kernel)).trans (lk_hd))), ?_⟩
      refine ⟨_, rfl, q, _, dx, _, _, rfl, hq, tk.cl, tk.no _ (by simp [nsW]), (lk_tl (by decide +kernel)).trans ((lk_tl (by decide +kernel)).trans ((lk_tl (by decide +kernel)).trans ((lk_tl (by decide +kernel)).trans (lk_hd)))), ?_⟩
      refine ⟨_, rfl, q, _, dx, _, _, rfl, hq, tk.cl, tk.no _ (by simp [nsW]), (lk_tl (by decide +kernel)).trans ((lk_tl (by decide +kernel)).trans ((lk_tl (by decide +kernel)).trans ((lk_tl (by decide +kernel)).trans ((lk_tl (by decide +kernel)).trans (lk_hd))))), ?_⟩
      refine ⟨_, rfl, q, _, dx, _, _, rfl, hq, tk.cl, tk.no _ (by simp [nsW]), (lk_tl (by decide +kernel)).trans ((lk_tl (by decide +kernel)).trans ((lk_tl (by decide +kernel)).trans ((lk_tl (by decide +kernel)).trans ((lk_tl (by decide +kernel)).trans ((lk_tl (by decide +kernel)).trans (lk_hd)))))), ?_⟩
      refine ⟨_, rfl, q, _, dx, _, _, rfl, hq, tk.cl, tk.no _ (by simp [nsW]), (lk_tl (by decide +kernel)).trans ((lk_tl (by decide +kernel)).trans ((lk_tl (by decide +kernel)).trans ((lk_tl (by decide +kernel)).trans ((lk_tl (by decide +kernel)).trans ((lk_tl (by decide +kernel)).trans ((lk_tl (by decide +kernel)).trans (lk_hd))))))), ?_⟩
      refine ⟨by show 8 ≤ sizeLine; decide, fun l hl => ?_⟩
      have k1 := sm_upd (o := .lst [v0, v1, v2, v3, v4, v5, v6, v7]) hl
      have e1 : (upd H l (.lst [v0, v1, v2, v3, v4, v5, v6, v7])) l = some (.lst [v0, v1, v2, v3, v4, v5, v6, v7]) := upd_same
      generalize upd H l (.lst [v0, v1, v2, v3, v4, v5, v6, v7]) = H1 at k1 e1 ⊢
      have hq1 := k1 _ _ hq
      refine ⟨_, rfl, ?_⟩
      refine ⟨_, rfl, q, _, dx, _, _, rfl, hq1, tk.cl, tk.no _ (by simp [nsW]), (lk_tl (by decide +kernel)).trans ((lk_tl (by decide +kernel)).trans ((lk_tl (by decide +kernel)).trans ((lk_tl (by decide +kernel)).trans ((lk_tl (by decide +kernel)).trans ((lk_tl (by decide +kernel)).trans ((lk_tl (by decide +kernel)).trans ((lk_tl (by decide +kernel)).trans (lk_hd)))))))), ?_⟩
      refine ⟨_, rfl, q, _, dx, _, _, rfl, hq1, tk.cl, tk.no _ (by simp [nsW]), (lk_tl (by decide +kernel)).trans ((lk_tl (by decide +kernel)).trans ((lk_tl (by decide +kernel)).trans ((lk_tl (by decide +kernel)).trans ((lk_tl (by decide +kernel)).trans ((lk_tl (by decide +kernel)).trans ((lk_tl (by decide +kernel)).trans ((lk_tl (by decide +kernel)).trans ((lk_tl (by decide +kernel)).trans (lk_hd))))))))), ?_⟩
      refine ⟨by show 2 ≤ sizeLine; decide, fun l2 hl2 => ?_⟩
      have k2 := sm_upd (o := .lst [v8, v9]) hl2
      have e2 : (upd H1 l2 (.lst [v8, v9])) l2 = some (.lst [v8, v9]) := upd_same
      generalize upd H1 l2 (.lst [v8, v9]) = H2 at k2 e2 ⊢
      refine ⟨_, _, _, _, rfl, rfl, k2 _ _ e1, e2, by show 10 ≤ sizeLine; decide, fun l3 hl3 => ?_⟩
      exact ⟨_, rfl, fin _ l3 _ rfl (Same.upd (Same.trans k1 k2) hl3) upd_same⟩
    | 1, hn =>
      obtain ⟨v0, v1, v2, v3, rfl⟩ := list4 el
      refine iteN rfl ?_
      refine ⟨_, rfl, q, 1, 1, dx, _, rfl, hn, by decide, hq, _, rfl, iteC rfl ?_⟩
      have tk := UW.tk 1 hn
      refine ⟨_, rfl, q, _, dx, _, _, rfl, hq, tk.cl, tk.no _ (by simp [nsW]), lk_hd, ?_⟩
      refine ⟨_, rfl, q, _, dx, _, _, rfl, hq, tk.cl, tk.no _ (by simp [nsW]), (lk_tl (by decide +kernel)).trans (lk_hd), ?_⟩
      refine ⟨_, rfl, q, _, dx, _, _, rfl, hq, tk.cl, tk.no _ (by simp [nsW]), (lk_tl (by decide +kernel)).trans ((lk_tl (by decide +kernel)).trans (lk_hd)), ?_⟩
      refine ⟨_, rfl, q, _, dx, _, _, rfl, hq, tk.cl, tk.no _ (by simp [nsW]), (lk_tl (by decide +kernel)).trans ((lk_tl (by decide +kernel)).trans ((lk_tl (by decide +kernel)).trans (lk_hd))), ?_⟩
      refine ⟨by show 4 ≤ sizeLine; decide, fun l hl => ?_⟩
      have k1 := sm_upd (o := .lst [v0, v1, v2, v3]) hl
      have e1 : (upd H l (.lst [v0, v1, v2, v3])) l = some (.lst [v0, v1, v2, v3]) := upd_same
      generalize upd H l (.lst [v0, v1, v2, v3]) = H1 at k1 e1 ⊢
      exact ⟨_, rfl, fin _ l H1 rfl k1 e1⟩
    | 2, hn =>
      obtain ⟨v0, v1, v2, v3, rfl⟩ := list4 el
      refine iteN rfl ?_
      refine ⟨_, rfl, q, 2, 1, dx, _, rfl, hn, by decide, hq, _, rfl, iteN rfl ?_⟩
      refine ⟨_, rfl, q, 2, 2, dx, _, rfl, hn, by decide, hq, _, rfl, iteC rfl ?_⟩
      have tk := UW.tk 2 hn
      refine ⟨_, rfl, q, _, dx, _, _, rfl, hq, tk.cl, tk.no _ (by simp [nsW]), lk_hd, ?_⟩
      refine ⟨_, rfl, q, _, dx, _, _, rfl, hq, tk.cl, tk.no _ (by simp [nsW]), (lk_tl (by decide +kernel)).trans (lk_hd), ?_⟩
      refine ⟨_, rfl, q, _, dx, _, _, rfl, hq, tk.cl, tk.no _ (by simp [nsW]), (lk_tl (by decide +kernel)).trans ((lk_tl (by decide +kernel)).trans (lk_hd)), ?_⟩
      refine ⟨_, rfl, q, _, dx, _, _, rfl, hq, tk.cl, tk.no _ (by simp [nsW]), (lk_tl (by decide +kernel)).trans ((lk_tl (by decide +kernel)).trans ((lk_tl (by decide +kernel)).trans (lk_hd))), ?_⟩
      refine ⟨by show 4 ≤ sizeLine; decide, fun l hl => ?_⟩
      have k1 := sm_upd (o := .lst [v0, v1, v2, v3]) hl
      have e1 : (upd H l (.lst [v0, v1, v2, v3])) l = some (.lst [v0, v1, v2, v3]) := upd_same
      generalize upd H l (.lst [v0, v1, v2, v3]) = H1 at k1 e1 ⊢
      exact ⟨_, rfl, fin _ l H1 rfl k1 e1⟩
    | 3, hn =>
      obtain ⟨v0, v1, rfl⟩ := list2 el
      refine iteN rfl ?_
      refine ⟨_, rfl, q, 3, 1, dx, _, rfl, hn, by decide, hq, _, rfl, iteN rfl ?_⟩
      refine ⟨_, rfl, q, 3, 2, dx, _, rfl, hn, by decide, hq, _, rfl, iteN rfl ?_⟩
      have tk := UW.tk 3 hn
      refine ⟨_, rfl, q, _, dx, _, _, rfl, hq, tk.cl, tk.no _ (by simp [nsW]), lk_hd, ?_⟩
      refine ⟨_, rfl, q, _, dx, _, _, rfl, hq, tk.cl, tk.no _ (by simp [nsW]), (lk_tl (by decide +kernel)).trans (lk_hd), ?_⟩
      refine ⟨by show 2 ≤ sizeLine; decide, fun l hl => ?_⟩
      have k1 := sm_upd (o := .lst [v0, v1]) hl
      have e1 : (upd H l (.lst [v0, v1])) l = some (.lst [v0, v1]) := upd_same
      generalize upd H l (.lst [v0, v1]) = H1 at k1 e1 ⊢
      exact ⟨_, rfl, fin _ l H1 rfl k1 e1⟩
end
end Da

set_option Elab.async false
set_option linter.all false
set_option maxRecDepth 100000
set_option maxHeartbeats 4000000
/-! data beside a well; Config(); _law_changed -/
namespace Da
open PySem PySem.Spec PyProof.Rows L2 Dq Vl Vq Ow Cf Pf
/-- no list of ints within -/
def isInt : D → Bool
  | .int _ => true
  | _ => false
mutual
def noI : D → Bool
  | .tup l => noIL l
  | .lst l => l.all (fun d => !isInt d) && noIL l
  | .map _ l => noIL l
  | _ => true
def noIL : List D → Bool
  | [] => true
  | x :: l => noI x && noIL l
end
theorem noIL_all : ∀ {l : List D}, (∀ d ∈ l, noI d = true) → noIL l = true
  | [], _ => by simp [noIL]
  | x :: l, h => by rw [noIL, h x List.mem_cons_self, noIL_all fun d hd => h d (List.mem_cons_of_mem _ hd)]; rfl
theorem fin4 : ∀ d ∈ allD ++ oddD, noI d = true := by decide +kernel
theorem cf_but {K : PySem.W.Frag} {C : Addr} {H H' : Hp} {a p : Addr} {us : List V} (h : CfAt K C H p) (ha : H a = some (.lst us)) (k : But a H H') : CfAt K C H' p := by
  obtain ⟨dx, t1, t2, t3, t4, t5, t6, h1, h2⟩ := h
  refine ⟨dx, t1, t2, t3, t4, t5, t6, k _ _ h1 (fun e => by rw [e, ha] at h1; cases h1), fun t ht => sqt_but (h2 t ht) ha ⟨fun z => (by cases z), fun b z => (by cases z)⟩ k⟩
theorem int_dv {K : PySem.W.Frag} {C : Addr} {H : Hp} {d : D} {i : Int} (h : Dv (OF K C) H d (.int i)) : isInt d = true := by
  cases d with
  | int j => rfl
  | non => cases h
  | bl b => cases h
  | str s => cases h
  | ob o => obtain ⟨a, e, _⟩ := h; cases e
  | tup l => obtain ⟨a, us, e, _⟩ := h; cases e
  | lst l => obtain ⟨a, us, e, _⟩ := h; cases e
  | map ks l => obtain ⟨a, us, e, _⟩ := h; cases e
section
variable {K : PySem.W.Frag} {C : Addr} {H H' : Hp} {a : Addr} {z : Int}
mutual
theorem Dv.but (hw : WellAt H a z) (k : But a H H') : ∀ (x : D) (v : V), noI x = true → Dv (OF K C) H x v → Dv (OF K C) H' x v
  | .non, _, _, h => h
  | .bl _, _, _, h => h
  | .int _, _, _, h => h
  | .str _, _, _, h => h
  | .ob _, _, _, ⟨p, e, h⟩ => by
    obtain ⟨x, y, hw, _⟩ := hw
    exact ⟨p, e, cf_but h hw k⟩
  | .tup l, _, n, ⟨b, us, e, h, p⟩ => by
    rw [noI] at n
    obtain ⟨x, y, ha, _⟩ := id hw
    exact ⟨b, us, e, sqt_but h ha ⟨fun z => (by cases z), fun b z => (by cases z)⟩ k, DvL.but hw k l us n p⟩
  | .lst l, _, n, ⟨b, us, e, h, p⟩ => by
    rw [noI, Bool.and_eq_true] at n
    obtain ⟨x, y, ha, _⟩ := id hw
    refine ⟨b, us, e, k _ _ h fun eb => ?_, DvL.but hw k l us n.2 p⟩
    rw [eb, ha] at h
    have h := HO.lst.inj (Option.some.inj h)
    subst h
    cases l with
    | nil => cases p
    | cons d l =>
      obtain ⟨u, us', e2, hd, _⟩ := p
      have e3 : u = .int x := (List.cons.inj e2).1.symm
      subst e3
      have := List.all_eq_true.mp n.1 d List.mem_cons_self
      rw [int_dv hd] at this
      cases this
  | .map _ l, _, n, ⟨b, kvs, e, h, nd, hk, p⟩ => by
    rw [noI] at n
    obtain ⟨x, y, ha, _⟩ := id hw
    exact ⟨b, kvs, e, k _ _ h (fun eb => by rw [eb, ha] at h; cases h), nd, hk, DvL.but hw k l _ n p⟩
theorem DvL.but (hw : WellAt H a z) (k : But a H H') : ∀ (l : List D) (us : List V), noIL l = true → DvL (OF K C) H l us → DvL (OF K C) H' l us
  | [], _, _, h => h
  | x :: l, _, n, ⟨u, us, e, h, p⟩ => by
    rw [noIL, Bool.and_eq_true] at n
    exact ⟨u, us, e, Dv.but hw k x u n.1 h, DvL.but hw k l us n.2 p⟩
end
end
theorem DvL.set {OB : Type} {O : Obs OB} {H : Hp} {x : DV OB} {v : V} (h : Dv O H x v) : ∀ {l : List (DV OB)} {us : List V} {i : Nat}, DvL O H l us → DvL O H (l.set i x) (us.set i v)
  | [], us, i, p => by cases p; simp [DvL]
  | y :: l, _, 0, ⟨u, us, e, h', p⟩ => by subst e; exact ⟨v, us, rfl, h, p⟩
  | y :: l, _, i + 1, ⟨u, us, e, h', p⟩ => by subst e; exact ⟨u, us.set i v, rfl, h', DvL.set h (i := i) p⟩
theorem Dv.mem {OB : Type} {O : Obs OB} {H : Hp} {v : V} : ∀ {l : List (DV OB)} {us : List V}, DvL O H l us → v ∈ us → ∃ d ∈ l, Dv O H d v
  | [], us, p, h => by cases p; cases h
  | y :: l, _, ⟨u, us, e, h', p⟩, h => by
    subst e
    rcases List.mem_cons.mp h with rfl | h
    · exact ⟨y, List.mem_cons_self, h'⟩
    · obtain ⟨d, h1, h2⟩ := Dv.mem (l := l) p h
      exact ⟨d, List.mem_cons_of_mem _ h1, h2⟩
/-! ### Config() -/
structure MkCf (P : Program) (w : World) (K : PySem.W.Frag) (mg : Str → Option Value) (base : Heap) (C fI : Addr) (fd : FuncData) (ts : List Addr) (ds : List Value) : Prop where
  n : mg "Config" = some (.ref C)
  mm : Mk K C fI
  f : FnOk P w K mg base CX0 4 fI fd psCfg (spCfg K C)
  b : Binds K fd psCfg ds
  v : Vals (ts.map V.ref) ds
  l : ts.length = 6
  t : ∀ H, ∀ t ∈ ts, SqT K H t []
def tCf (K : PySem.W.Frag) (C : Addr) : TE := fun _ H Q => ∀ (x : Addr) (H' : Hp), H x = none → Same H H' → CfAt K C H' x → Q (.ref x) H'
theorem pe_cf {X : Cx} {C fI : Addr} {fd : FuncData} {ts : List Addr} {ds : List Value} {p pos : Pos} (M : MkCf X.prog X.w X.K X.mg X.base C fI fd ts ds) (hr : Room 5 X.A) (hg : Gl X "Config") : PE X (.Call (.Name "Config" p) [] [] pos) (tCf X.K C) := by
  refine ⟨fun pins s σ H Q I h => ?_⟩
  refine (pe_make0 (k := 4) (x := "Config") (E := E0) M.mm M.f hr hg M.n M.b M.v pass0).run pins s σ H Q I ?_
  refine fun x dx nx ndx ne => ⟨x, dx, ts, rfl, M.l, upd_same, fun t ht => M.t _ t ht, fun H' bt hc => ⟨rfl, h x H' nx (made_same nx ndx ne bt) hc⟩⟩
/-! ### changed -/
abbrev sChg : Stmt := Pf.top 57
abbrev NChg : List Str := ["_law_well_here", "_law_some", "_law_at", "_law_found", "_law_odd"]
theorem scChg : FnScope NChg ["_law_well_here", "_law_some"] (defScope sChg) := ⟨rfl, rfl, rfl, by decide +kernel, rfl, by decide +kernel, by decide +kernel⟩
def spChg (K : PySem.W.Frag) (C : Addr) : Sp := fun vs H Q _ => ∃ (a p : Addr) (z : Int) (us : List V) (xs : List D), vs = [.ref a, .ref p] ∧ WellAt H a z ∧ 0 ≤ z ∧ z + 2 < 1000000 ∧ H p = some (.lst us) ∧ p ≠ a ∧ DvL (OF K C) H xs us ∧ 0 < us.length ∧ us.length ≤ 30 ∧ (∀ d ∈ xs, noI d = true) ∧
  ∀ (q : Addr) (us' : List V) (i : Nat) (o : D) (z' : Int) (H' : Hp), H q = none → i < xs.length → o ∈ oddD → H' q = some (.lst us') → DvL (OF K C) H' (xs.set i o) us' → WellAt H' a z' → z ≤ z' → z' ≤ z + 2 → But a H H' → Q (.ref q) H'
section
variable {P : Program} {w : World} {K : PySem.W.Frag} {mg : Str → Option Value} {base : Heap} {C : Addr}
theorem ok_chg {f fD f1 fI : Addr} {fd fdD fd1 fdI : FuncData} {ts : List Addr} {ds : List Value} (F : Fun K "_law_changed" "_law_changed" sChg f fd) (T : TxtD mg C) (U : CfgC K C) (MC : MkCf P w K mg base C fI fdI ts ds) (DD : Def P w K mg base 1 "_law_draw" fD fdD ["_law_well_here", "_law_below"] spDraw) (D1 : Def P w K mg base 2 "_law_one" f1 fd1 ["_law_well_here", "_law_some"] (spOne K)) :
    FnOk P w K mg base CX0 6 f fd ["_law_well_here", "_law_some"] (spChg K C) := by
  refine F.ok scChg (fun vs H Q E h => ?_) (fun cdv A outer s H vs Q E hr h => ?_)
  · obtain ⟨a, p, z, us, xs, rfl, _⟩ := h
    rfl
  · obtain ⟨a, p, z, us, xs, rfl, hw, z0, z1, hp, npa, dl, l0, l30, nx, k⟩ := h
    refine ⟨_, (pss_cons (ps_set (i := 2) scChg.nd rfl (Or.inl rfl) (pe_call DD.ok (hr.mono (by omega)) rfl DD.g DD.kp DD.b .nil pass0 (pa_cons (pv 0) (pa_cons (pe_callB call_len_seq (by rfl) T.len PySem.boot_len (pa_cons (pv 1) pa_nil)) pa_nil))))
      (pss_cons (ps_set (i := 3) scChg.nd rfl (Or.inl rfl) (pe_callTy call_list_of (by rfl) T.list (by decide +kernel) (pa_cons (pv 1) pa_nil)))
      (pss_cons (ps_set (i := 4) scChg.nd rfl (Or.inl rfl) (pe_lst (pa_cons pe_non (pa_cons pe_int (pa_cons (pe_cmpR op_eq pe_int pe_int (nomark _)) (pa_cons pe_int (pa_cons (pe_cmpR op_eq pe_int pe_int (nomark _)) (pa_cons pe_str (pa_cons pe_str (pa_cons (pe_tup pa_nil) (pa_cons (pe_tup (pa_cons pe_str pa_nil)) (pa_cons (pe_lst (pa_cons pe_str pa_nil)) (pa_cons pe_dnewK (pa_cons (pe_disp (pps_cons pe_str pe_int pps_nil) (by rfl) (by rfl) (fun z => by cases z) (by decide)) (pa_cons (pe_disp (pps_cons pe_str (pe_cmpR op_eq pe_int pe_int (nomark _)) pps_nil) (by rfl) (by rfl) (fun z => by cases z) (by decide)) (pa_cons (pe_cf MC (hr.mono (by omega)) rfl) pa_nil))))))))))))))))
      (pss_cons (ps_asg (pe_call D1.ok (hr.mono (by omega)) rfl D1.g D1.kp D1.b .nil pass0 (pa_cons (pv 0) (pa_cons (pv 4) pa_nil))) (pg_sub (pv 3) (pv 2) set_list))
      (pss_one (ps_ret (pv 3))))))), ?_⟩
    refine ⟨_, rfl, _, rfl, p, us, rfl, .inl (SqL.of hp), a, us.length, z, rfl, hw, by omega, by omega, by omega, by omega, fun d z' H1 d0 d1 za zb w1 b1 => ?_⟩
    have hp1 := b1 _ _ hp npa
    have dl1 := DvL.but hw b1 xs us (noIL_all nx) dl
    refine ⟨_, rfl, p, us, rfl, .inl (SqL.of hp1), fun l hl => ?_⟩
    have k2 := sm_upd (o := .lst us) hl
    have e2 : (upd H1 l (.lst us)) l = some (.lst us) := upd_same
    generalize upd H1 l (.lst us) = H2 at k2 e2 ⊢
    have na : l ≠ a := fun e => by
      obtain ⟨x, y, hw1, _⟩ := w1
      rw [e, hw1] at hl
      cases hl
    refine ⟨rfl, rfl, by show 0 ≤ sizeLine; decide, fun t1 h1 => ?_⟩
    have s1 := sm_upd (o := .tup []) h1
    have f1 : (upd H2 t1 (.tup [])) t1 = some (.tup []) := upd_same
    generalize upd H2 t1 (.tup []) = G1 at s1 f1 ⊢
    refine ⟨by show 1 ≤ sizeLine; decide, fun t2 h2 => ?_⟩
    have s2 := sm_upd (o := .tup [.str "x"]) h2
    have f2 : (upd G1 t2 (.tup [.str "x"])) t2 = some (.tup [.str "x"]) := upd_same
    generalize upd G1 t2 (.tup [.str "x"]) = G2 at s2 f2 ⊢
    refine ⟨by show 1 ≤ sizeLine; decide, fun t3 h3 => ?_⟩
    have s3 := sm_upd (o := .lst [.str "x"]) h3
    have f3 : (upd G2 t3 (.lst [.str "x"])) t3 = some (.lst [.str "x"]) := upd_same
    generalize upd G2 t3 (.lst [.str "x"]) = G3 at s3 f3 ⊢
    refine fun t4 h4 => ?_
    have s4 := sm_upd (o := .dK []) h4
    have f4 : (upd G3 t4 (.dK [])) t4 = some (.dK []) := upd_same
    generalize upd G3 t4 (.dK []) = G4 at s4 f4 ⊢
    refine fun t5 h5 => ⟨upd_same, [(Sum.inr "x", .int 1)], rfl, by show 1 ≤ 15; decide, ?_⟩
    have s5 : Same G4 (upd (upd G4 t5 (.dK [])) t5 (.dK (mergeK [] [(Sum.inr "x", .int 1)]))) := by
      rw [upd_upd]
      exact sm_upd h5
    have f5 : (upd (upd G4 t5 (.dK [])) t5 (.dK (mergeK [] [(Sum.inr "x", .int 1)]))) t5 = some (.dK [(Sum.inr "x", .int 1)]) := upd_same
    generalize (upd (upd G4 t5 (.dK [])) t5 (.dK (mergeK [] [(Sum.inr "x", .int 1)]))) = G5 at s5 f5 ⊢
    refine fun t6 h6 => ⟨rfl, upd_same, [(Sum.inr "x", .bl true)], rfl, by show 1 ≤ 15; decide, ?_⟩
    have s6 : Same G5 (upd (upd G5 t6 (.dK [])) t6 (.dK (mergeK [] [(Sum.inr "x", .bl true)]))) := by
      rw [upd_upd]
      exact sm_upd h6
    have f6 : (upd (upd G5 t6 (.dK [])) t6 (.dK (mergeK [] [(Sum.inr "x", .bl true)]))) t6 = some (.dK [(Sum.inr "x", .bl true)]) := upd_same
    generalize (upd (upd G5 t6 (.dK [])) t6 (.dK (mergeK [] [(Sum.inr "x", .bl true)]))) = G6 at s6 f6 ⊢
    refine fun x G7 hx s7 f7 => ?_
    refine ⟨by show 14 ≤ sizeLine; decide, fun lo hlo => ?_⟩
    generalize eo : ([.non, .int 1, .bl true, .int 0, .bl false, .str "", .str "other", .ref t1, .ref t2, .ref t3, .ref t4, .ref t5, .ref t6, .ref x] : List V) = odds
    have s8 := sm_upd (o := .lst odds) hlo
    have f8 : (upd G7 lo (.lst odds)) lo = some (.lst odds) := upd_same
    have eo2 : (upd G7 lo (.lst [.non, .int 1, .bl (decide ((1 : Int) = 1)), .int 0, .bl (decide ((0 : Int) = 1)), .str "", .str "other", .ref t1, .ref t2, .ref t3, .ref t4, .ref t5, .ref t6, .ref x])) = upd G7 lo (.lst odds) := by
      rw [← eo]
      rfl
    show _
    have sA := Same.trans k2 (Same.trans s1 (Same.trans s2 (Same.trans s3 (Same.trans s4 (Same.trans s5 (Same.trans s6 s7))))))
    have loa : lo ≠ a := fun e => by
      obtain ⟨x', y', hw1, _⟩ := w1
      have := sA _ _ hw1
      rw [← e, hlo] at this
      cases this
    have lol : lo ≠ l := fun e => by
      have := Same.trans s1 (Same.trans s2 (Same.trans s3 (Same.trans s4 (Same.trans s5 (Same.trans s6 s7))))) _ _ e2
      rw [← e, hlo] at this
      cases this
    have wl : WellAt (upd G7 lo (.lst odds)) a z' := by
      obtain ⟨x', y', hw1, hb⟩ := w1
      exact ⟨x', y', s8 _ _ (sA _ _ hw1), hb⟩
    have llen : odds.length = 14 := by rw [← eo]; rfl
    refine ⟨_, rfl, _, rfl, a, lo, z', odds, rfl, ?_, ?_, loa, by omega, by omega, by omega, by omega, fun v z'' H5 hv zc zd w5 b5 => ?_⟩
    · rw [← eo2] at wl
      exact wl
    · rw [← eo2] at f8
      exact f8
    have b5 : But a (upd G7 lo (.lst odds)) H5 := by
      rw [← eo2]
      exact b5
    have l8 : (upd G7 lo (.lst odds)) l = some (.lst us) := s8 _ _ (Same.trans s1 (Same.trans s2 (Same.trans s3 (Same.trans s4 (Same.trans s5 (Same.trans s6 s7))))) _ _ e2)
    have l5 := b5 _ _ l8 na
    have hd : d.toNat < us.length := by omega
    have hix : ixN us.length d = some d.toNat := by
      unfold ixN
      rw [if_pos (by omega), if_pos (by omega)]
    refine ⟨_, rfl, _, rfl, l, _, _, d.toNat, rfl, rfl, l5, hix, ?_⟩
    generalize eF : upd H5 l (.lst (us.set d.toNat v)) = Hf
    have kf : But a H1 Hf := fun b o e nb => by
      rw [← eF, upd_ne (ne_of_none e hl)]
      exact b5 b o (s8 _ _ (sA _ _ e)) nb
    have k2f : ∀ b o, (upd G7 lo (.lst odds)) b = some o → b ≠ a → b ≠ l → Hf b = some o := fun b o e nb nl => by
      rw [← eF, upd_ne nl]
      exact b5 b o e nb
    have dlf := DvL.but w1 kf xs us (noIL_all nx) dl1
    have wf : WellAt Hf a z'' := by
      obtain ⟨x', y', hw5, hb⟩ := w5
      exact ⟨x', y', by rw [← eF, upd_ne (Ne.symm na)]; exact hw5, hb⟩
    have ov : ∃ o ∈ oddD, Dv (OF K C) Hf o v := by
      obtain ⟨x', y', aw, _⟩ := w1
      have aw := k2 _ _ aw
      have q1 := s8
      have g7 := Same.trans s7 s8
      have g6 := Same.trans s6 g7
      have g5 := Same.trans s5 g6
      have g4 := Same.trans s4 g5
      have g3 := Same.trans s3 g4
      have g2 := Same.trans s2 g3
      have s12 := Same.trans s1 s2
      have s13 := Same.trans s12 s3
      have s14 := Same.trans s13 s4
      have s15 := Same.trans s14 s5
      have s16 := Same.trans s15 s6
      have d1 : Dv (OF K C) Hf (.tup []) (.ref t1) := ⟨t1, [], rfl, SqT.of (k2f _ _ (g2 _ _ f1) (ne_of_none aw h1).symm (ne_of_none e2 h1).symm), rfl⟩
      have d2 : Dv (OF K C) Hf (.tup [.str "x"]) (.ref t2) := ⟨t2, _, rfl, SqT.of (k2f _ _ (g3 _ _ f2) (ne_of_none (s1 _ _ aw) h2).symm (ne_of_none (s1 _ _ e2) h2).symm), _, _, rfl, rfl, rfl⟩
      have d3 : Dv (OF K C) Hf (.lst [.str "x"]) (.ref t3) := ⟨t3, _, rfl, k2f _ _ (g4 _ _ f3) (ne_of_none (s12 _ _ aw) h3).symm (ne_of_none (s12 _ _ e2) h3).symm, _, _, rfl, rfl, rfl⟩
      have d4 : Dv (OF K C) Hf (.map [] []) (.ref t4) := ⟨t4, _, rfl, k2f _ _ (g5 _ _ f4) (ne_of_none (s13 _ _ aw) h4).symm (ne_of_none (s13 _ _ e2) h4).symm, List.nodup_nil, rfl, rfl⟩
      have d5 : Dv (OF K C) Hf (.map ["x"] [.int 1]) (.ref t5) := ⟨t5, _, rfl, k2f _ _ (g6 _ _ f5) (ne_of_none (s14 _ _ aw) h5).symm (ne_of_none (s14 _ _ e2) h5).symm, by simp, rfl, _, _, rfl, rfl, rfl⟩
      have d6 : Dv (OF K C) Hf (.map ["x"] [.bl true]) (.ref t6) := ⟨t6, _, rfl, k2f _ _ (g7 _ _ f6) (ne_of_none (s15 _ _ aw) h6).symm (ne_of_none (s15 _ _ e2) h6).symm, by simp, rfl, _, _, rfl, rfl, rfl⟩
      have d7 : Dv (OF K C) Hf (.ob ()) (.ref x) := by
        refine ⟨x, rfl, ?_⟩
        have c1 := f7.keep s8
        have c2 := cf_but c1 (s8 _ _ (s7 _ _ (s16 _ _ aw))) b5
        exact cf_but c2 l5 (fun b o e nb => by rw [← eF, upd_ne nb]; exact e)
      rw [← eo] at hv
      simp only [List.mem_cons, List.not_mem_nil, or_false] at hv
      rcases hv with rfl | rfl | rfl | rfl | rfl | rfl | rfl | rfl | rfl | rfl | rfl | rfl | rfl | rfl
      · exact ⟨.non, by simp [oddD], rfl⟩
      · exact ⟨.int 1, by simp [oddD], rfl⟩
      · exact ⟨.bl true, by simp [oddD], rfl⟩
      · exact ⟨.int 0, by simp [oddD], rfl⟩
      · exact ⟨.bl false, by simp [oddD], rfl⟩
      · exact ⟨.str "", by simp [oddD], rfl⟩
      · exact ⟨.str "other", by simp [oddD], rfl⟩
      · exact ⟨_, by simp [oddD], d1⟩
      · exact ⟨_, by simp [oddD], d2⟩
      · exact ⟨_, by simp [oddD], d3⟩
      · exact ⟨_, by simp [oddD], d4⟩
      · exact ⟨_, by simp [oddD], d5⟩
      · exact ⟨_, by simp [oddD], d6⟩
      · exact ⟨_, by simp [oddD], d7⟩
    obtain ⟨o, ho, dvo⟩ := ov
    have lx : us.length = xs.length := dl.len
    have l0' : H l = none := by
      cases e : H l with
      | none => rfl
      | some u =>
        have := b1 _ _ e na
        rw [hl] at this
        cases this
    refine ⟨_, rfl, k l (us.set d.toNat v) d.toNat o z'' Hf l0' (by omega) ho (by rw [← eF, upd_same]) (DvL.set dvo dlf) wf (by omega) (by omega) fun b u e nb => kf _ _ (b1 _ _ e nb) nb⟩
end
end Da

set_option Elab.async false
set_option linter.all false
set_option maxRecDepth 100000
set_option maxHeartbeats 4000000
/-! == and != in the law -/
namespace Da
open PySem PySem.Spec PyProof.Rows L2 Dq Vl Vq Ow Cf Pf
structure EqW (P : Program) (w : World) (K : PySem.W.Frag) (mg : Str → Option Value) (base : Heap) (C : Addr) (W : W4) (fE : Addr) (fdE : FuncData) : Prop where
  cw : ClsW K W
  oq : ∀ n, n < 4 → OwnQ K (W.cl n) fE
  ge : ∀ n, n < 4 → FnOk P w K mg base CX0 5 fE fdE ["self", "other"] (spVEq K (W.cl n) (nsW n) (OF K C))
  be : Binds K fdE ["self", "other"] []
  nf : ∀ n m, n < 4 → m < 4 → PySem.W.notFirst K (W.cl n) (.ref (W.cl m)) = true
  ne : ∀ n m, n < 4 → m < 4 → n ≠ m → W.cl n ≠ W.cl m
  cq : OwnQ K C fE
  gc : FnOk P w K mg base CX0 3 fE fdE ["self", "other"] (spVEq K C ns6 (O0 K))
def rEq4 (K : PySem.W.Frag) (C : Addr) (W : W4) (neg : Bool) : R2 := fun x y H Q => ∃ n, n < 4 ∧ rOwnQ K (W.cl n) (spVEq K (W.cl n) (nsW n) (OF K C)) neg x y H Q
/-- part == told -/
def rEqP (K : PySem.W.Frag) (C : Addr) : R2 := fun x y H Q => ∃ (d : D) (a : Addr) (kvs : List (Key × V)), Dv (OF K C) H d x ∧ y = .ref a ∧ H a = some (.dK kvs) ∧ ((notMap d = true ∨ isOb d = true) ∧ Q (.bl false) H ∨ (x = .ref a ∧ (kvs.map (·.1)).Nodup ∧ (∀ p ∈ kvs, ∃ r, p.2 = .ref r) ∧ Q (.bl true) H))
section
variable {X : Cx} {C fE : Addr} {fdE : FuncData} {W : W4}
theorem op_eq4 (E : EqW X.prog X.w X.K X.mg X.base C W fE fdE) (hr : Room 5 X.A) : OpR X (compareOp .Eq) (rEq4 X.K C W false) := fun pins s σ H x y v u Q I rx ry ⟨n, hn, h⟩ => op_eqO (E.oq n hn) (E.ge n hn) E.be hr pins s σ H x y v u Q I rx ry h
theorem op_ne4 (E : EqW X.prog X.w X.K X.mg X.base C W fE fdE) (hr : Room 6 X.A) : OpR X (compareOp .NotEq) (rEq4 X.K C W true) := fun pins s σ H x y v u Q I rx ry ⟨n, hn, h⟩ => op_neO (E.oq n hn) (E.ge n hn) E.be hr pins s σ H x y v u Q I rx ry h
theorem op_eqP (E : EqW X.prog X.w X.K X.mg X.base C W fE fdE) (U : CfgC X.K C) (hr : Room 5 X.A) : OpR X (compareOp .Eq) (rEqP X.K C) := fun pins s σ H x y v u Q I rx ry ⟨d, a, kvs, hd, ey, ha, h⟩ => by
  subst ey
  rcases h with ⟨hn | ho, q⟩ | ⟨ex, nd, hr', q⟩
  · exact Da.op_eqM (C := C) hr.units0 pins s σ H x _ v u Q I rx ry ⟨d, a, kvs, hd, hn, rfl, ha, q⟩
  · cases d <;> simp [isOb] at ho
    obtain ⟨p, rfl, hp⟩ := hd
    obtain ⟨dx, ws, ep, _⟩ := cf_obj hp
    exact op_eqO E.cq E.gc E.be (hr.mono (by decide)) pins s σ H _ _ v u Q I rx ry ⟨p, dx, _, _, rfl, ep, .base (.dK ha), first_kind (by simp [kinds]), p, _, e6, rfl, cf_obj hp, by simp [e6, wtL, wt], .inr (.inr ⟨_, .dK ha, _, rfl, q⟩)⟩
  · subst ex
    refine op_eqV (by have := hr.un; omega) pins s σ H _ _ v u Q I rx ry ⟨1, by decide, .inr ⟨a, a, kvs, kvs, rfl, rfl, ha, ha, rfl, fun p hp => ⟨p.2, ?_, .inr (.inl ?_)⟩⟩, q⟩
    · obtain ⟨i, hi⟩ := List.mem_iff_getElem?.mp hp
      exact find_at nd hi
    · obtain ⟨r, e⟩ := hr' p hp
      exact ⟨r, e, e⟩
end
section
variable {P : Program} {w : World} {K : PySem.W.Frag} {mg : Str → Option Value} {base : Heap} {C fE : Addr} {fdE : FuncData} {W : W4}
theorem eq4_same (E : EqW P w K mg base C W fE fdE) {neg : Bool} {n : Nat} (hn : n < 4) {H : Hp} {p q : Addr} {xs ys : List D} {Q : VK} (hp : ObjAt (W.cl n) (nsW n) (OF K C) H p xs) (hq : ObjAt (W.cl n) (nsW n) (OF K C) H q ys) (wx : wtL xs ≤ 80000) (wy : wtL ys ≤ 80000)
    (k : ∀ H', Same H H' → Q (.bl (if neg = true then !eqUL xs ys else eqUL xs ys)) H') : rEq4 K C W neg (.ref p) (.ref q) H Q := by
  obtain ⟨dx, ws, ep, _⟩ := id hp
  obtain ⟨dx', ws', eq', _⟩ := id hq
  have c := E.cw.ic n hn
  refine ⟨n, hn, p, dx, _, .ref (W.cl n), rfl, ep, .base (.ins eq' c.cl c.ha c.hn c.htk c.hm), E.nf n n hn hn, p, _, xs, rfl, hp, wx, .inl ⟨q, ys, rfl, hq, wy, fun H' k' => ⟨_, rfl, ?_⟩⟩⟩
  rw [eqU_L]
  exact k H' k'
theorem eq4_other (E : EqW P w K mg base C W fE fdE) {n m : Nat} (hn : n < 4) (hm : m < 4) (nm : n ≠ m) {H : Hp} {p q dx : Addr} {fs : List (Str × V)} {xs : List D} {Q : VK} (hp : ObjAt (W.cl n) (nsW n) (OF K C) H p xs) (hq : H q = some (.ins (W.cl m) dx fs)) (wx : wtL xs ≤ 80000) (k : Q (.bl false) H) : rEq4 K C W false (.ref p) (.ref q) H Q := by
  obtain ⟨dx', ws, ep, _⟩ := id hp
  have c := E.cw.ic m hm
  exact ⟨n, hn, p, dx', _, .ref (W.cl m), rfl, ep, .base (.ins hq c.cl c.ha c.hn c.htk c.hm), E.nf n m hn hm, p, _, xs, rfl, hp, wx, .inr (.inl ⟨q, _, dx, fs, rfl, hq, E.cw.ms m hm, fun e => E.ne m n hm hn (Ne.symm nm) e, _, rfl, k⟩)⟩
theorem eq4_list (E : EqW P w K mg base C W fE fdE) {n : Nat} (hn : n < 4) {H : Hp} {p q : Addr} {us : List V} {xs : List D} {Q : VK} (hp : ObjAt (W.cl n) (nsW n) (OF K C) H p xs) (hq : H q = some (.lst us)) (wx : wtL xs ≤ 80000) (k : Q (.bl false) H) : rEq4 K C W false (.ref p) (.ref q) H Q := by
  obtain ⟨dx', ws, ep, _⟩ := id hp
  exact ⟨n, hn, p, dx', _, .type "list", rfl, ep, .base (.lst hq), first_kind (by simp [kinds]), p, _, xs, rfl, hp, wx, .inr (.inr ⟨_, .lst (SqL.of hq), _, rfl, k⟩)⟩
end
end Da

set_option Elab.async false
set_option linter.all false
set_option maxRecDepth 100000
set_option maxHeartbeats 8000000
/-! the law -/
namespace Da
open PySem PySem.Spec PyProof.Rows L2 Dq Vl Vq Ow Cf Pf
theorem well_same {H H' : Hp} {a : Addr} {z : Int} (w : WellAt H a z) (k : Same H H') : WellAt H' a z := by
  obtain ⟨x, y, h, b⟩ := w
  exact ⟨x, y, k _ _ h, b⟩
theorem but_trans {a : Addr} {H H1 H2 : Hp} (k1 : But a H H1) (k2 : But a H1 H2) : But a H H2 := fun b o e n => k2 b o (k1 b o e n) n
theorem but_same {a : Addr} {H H' : Hp} (k : Same H H') : But a H H' := fun b o e _ => k b o e
/-- what the law works with -/
structure SetL (K : PySem.W.Frag) (C : Addr) (H : Hp) (td tn ln : Addr) : Prop where
  kd : ∃ kvs, H td = some (.dK kvs) ∧ (kvs.map (·.1)).Nodup ∧ ∀ p ∈ kvs, ∃ r, p.2 = .ref r
  dt : Dv (OF K C) H toldD (.ref td)
  dn : Dv (OF K C) H turnD (.ref tn)
  ln : ∃ ls : List Addr, H ln = some (.lst (ls.map V.ref)) ∧ ls.length = 4 ∧ ∀ n l, ls[n]? = some l → ∃ us, H l = some (.lst us) ∧ DvL (OF K C) H (lineD n toldD) us ∧ (n < 3 → us[2]? = some (.ref td))
theorem SetL.keep {K : PySem.W.Frag} {C : Addr} {H H' : Hp} {td tn ln : Addr} (ok : ObsOk K (OF K C)) (s : SetL K C H td tn ln) (k : Same H H') : SetL K C H' td tn ln := by
  obtain ⟨⟨kvs, h1, h2⟩, dt, dn, ls, h3, h4, h5⟩ := s
  refine ⟨⟨kvs, k _ _ h1, h2⟩, Dv.keep ok k _ _ dt, Dv.keep ok k _ _ dn, ls, k _ _ h3, h4, fun n l e => ?_⟩
  obtain ⟨us, g1, g2, g3⟩ := h5 n l e
  exact ⟨us, k _ _ g1, DvL.keep ok k _ _ g2, g3⟩
theorem merge_xy {u v : V} : mergeK [] [((Sum.inr "x" : Key), u), (Sum.inr "y", v)] = [((Sum.inr "x" : Key), u), (Sum.inr "y", v)] := by
  have e : ¬ ("x" : Str) = "y" := by decide +kernel
  simp [mergeK, putK, e]
theorem merge_yx {u v : V} : mergeK [] [((Sum.inr "y" : Key), u), (Sum.inr "x", v)] = [((Sum.inr "y" : Key), u), (Sum.inr "x", v)] := by
  have e : ¬ ("y" : Str) = "x" := by decide +kernel
  simp [mergeK, putK, e]
theorem dv_say {K : PySem.W.Frag} {C a : Addr} {H : Hp} (h : H a = some (.tup [.str "say", .int 1])) : Dv (OF K C) H say1 (.ref a) := ⟨a, _, rfl, SqT.of h, _, _, rfl, rfl, _, _, rfl, rfl, rfl⟩
theorem dv_tupA {K : PySem.W.Frag} {C a b c : Addr} {H : Hp} (h1 : H a = some (.tup [.str "say", .str "a"])) (h2 : H b = some (.tup [.ref a])) (h3 : H c = some (.tup [.str "tuple", .ref b])) : Dv (OF K C) H tupA (.ref c) :=
  ⟨c, _, rfl, SqT.of h3, _, _, rfl, rfl, _, _, rfl, ⟨b, _, rfl, SqT.of h2, _, _, rfl, ⟨a, _, rfl, SqT.of h1, _, _, rfl, rfl, _, _, rfl, rfl, rfl⟩, rfl⟩, rfl⟩
theorem bl_t : V.bl (decide (V.int 1 = V.int 1)) = V.bl true := by simp
theorem bl_f : V.bl (decide (V.int 0 = V.int 1)) = V.bl false := by simp
theorem part_is : ∀ n, n < 4 → ∀ i, i < 10 → ∀ d, (lineD n toldD)[i]? = some d → (n < 3 ∧ i = 2 ∧ d = toldD) ∨ notMap d = true ∨ isOb d = true := by
  intro n hn i hi d e
  match n, hn with
  | 0, _ => match i, hi with
    | 2, _ => exact .inl ⟨by decide, rfl, (Option.some.inj e).symm⟩
    | 0, _ | 1, _ | 3, _ | 4, _ | 5, _ | 6, _ | 7, _ | 8, _ | 9, _ => exact .inr (.inl (by have := Option.some.inj e; rw [← this]; rfl))
  | 1, _ => match i, hi with
    | 2, _ => exact .inl ⟨by decide, rfl, (Option.some.inj e).symm⟩
    | 0, _ | 1, _ | 3, _ => exact .inr (.inl (by have := Option.some.inj e; rw [← this]; rfl))
    | 4, _ | 5, _ | 6, _ | 7, _ | 8, _ | 9, _ => cases e
  | 2, _ => match i, hi with
    | 2, _ => exact .inl ⟨by decide, rfl, (Option.some.inj e).symm⟩
    | 0, _ | 3, _ => exact .inr (.inl (by have := Option.some.inj e; rw [← this]; rfl))
    | 1, _ => exact .inr (.inr (by have := Option.some.inj e; rw [← this]; rfl))
    | 4, _ | 5, _ | 6, _ | 7, _ | 8, _ | 9, _ => cases e
  | 3, _ => match i, hi with
    | 0, _ | 1, _ => exact .inr (.inl (by have := Option.some.inj e; rw [← this]; rfl))
    | 2, _ | 3, _ | 4, _ | 5, _ | 6, _ | 7, _ | 8, _ | 9, _ => cases e
theorem line_len (n : Nat) (t : D) : (lineD n t).length = (nsW n).length := by
  match n with
  | 0 => rfl
  | 1 => rfl
  | 2 => rfl
  | _ + 3 => rfl
theorem nsW_len (n : Nat) : (nsW n).length ≤ 10 ∧ 0 < (nsW n).length := by
  match n with
  | 0 => decide
  | 1 => decide
  | 2 => decide
  | _ + 3 => exact ⟨show 2 ≤ 10 by decide, show 0 < 2 by decide⟩
theorem line_turn {n : Nat} (h : n < 3) : lineD n turnD = (lineD n toldD).set 2 turnD := by
  match n, h with
  | 0, _ | 1, _ | 2, _ => rfl
theorem line_noI {n : Nat} {t : D} (ht : t = toldD ∨ t = turnD) : ∀ d ∈ lineD n t, noI d = true := fun d hd => fin4 d (List.mem_append_left _ (line_mem hd ht))
/-- a made object of such parts -/
theorem obj_of {K : PySem.W.Frag} {C cl dx q : Addr} {ns : List Str} {H : Hp} {us : List V} {xs : List D} (h : H q = some (.ins cl dx (ns.zip (us.take ns.length)))) (hl : us.length = ns.length) (d : DvL (OF K C) H xs us) : ObjAt cl ns (OF K C) H q xs := by
  rw [List.take_of_length_le (by omega)] at h
  exact ⟨dx, us, h, hl, d⟩
/-- what the comprehension may have put in -/
theorem acc_is {us acc : List V} {n : Nat} {td tn : Addr} (hl : acc.length = us.length) (h : ∀ j, j < us.length → acc[j]? = us[j]? ∨ (n < 3 ∧ j = 2 ∧ acc[j]? = some (.ref tn))) : acc = us ∨ (n < 3 ∧ acc = us.set 2 (.ref tn)) := by
  by_cases e : acc = us
  · exact .inl e
  · have : ∃ j, ¬ acc[j]? = us[j]? := Classical.byContradiction fun z => e (List.ext_getElem? fun j => Classical.byContradiction fun q => z ⟨j, q⟩)
    obtain ⟨j, hj⟩ := this
    have lj : j < us.length := Classical.byContradiction fun z => hj (by rw [List.getElem?_eq_none (by omega), List.getElem?_eq_none (by omega)])
    obtain ⟨h3, rfl, e2⟩ := (h j lj).resolve_left hj
    refine .inr ⟨h3, List.ext_getElem? fun i => ?_⟩
    rw [List.getElem?_set]
    by_cases q : 2 = i
    · subst q
      rw [if_pos rfl, if_pos lj, e2]
    · rw [if_neg q]
      by_cases li : i < us.length
      · exact (h i li).resolve_right fun z => q z.2.1.symm
      · rw [List.getElem?_eq_none (by omega), List.getElem?_eq_none (by omega)]
theorem acc_data {K : PySem.W.Frag} {C : Addr} {H : Hp} {us acc : List V} {n : Nat} {tn : Addr} (hl : acc.length = us.length) (h : ∀ j, j < us.length → acc[j]? = us[j]? ∨ (n < 3 ∧ j = 2 ∧ acc[j]? = some (.ref tn))) (dl : DvL (OF K C) H (lineD n toldD) us) (dn : Dv (OF K C) H turnD (.ref tn)) :
    ∃ t, (t = toldD ∨ t = turnD) ∧ DvL (OF K C) H (lineD n t) acc := by
  rcases acc_is (td := 0) hl h with e | ⟨j3, e⟩
  · exact ⟨toldD, .inl rfl, e ▸ dl⟩
  · refine ⟨turnD, .inr rfl, ?_⟩
    rw [line_turn j3, e]
    exact DvL.set dn dl
/-- the reading of a comprehension without tests -/
theorem lc_yes {J : It} {n : Nat} {G : Hp → Prop} {Y : Nat → Hp → V → Hp → Prop} (w : Walk J n G Y) {g : TG} {te : TE} {vs : List Nat} {σ : L2.St} {H1 : Hp} {D : Addr} {Qd : Hp → Prop} (Pv : Nat → Hp → Prop) (h0 : Pv 0 (upd H1 D (.lst []))) (hG : ∀ i H, i ≤ n → Pv i H → G H)
    (hs : ∀ i x H H', i < n → Pv i H → Y i H x H' → g x (wipe σ vs) H' fun σ2 H2 => wipe σ2 vs = wipe σ vs ∧ te σ2 H2 fun y H4 => ∃ acc, H4 D = some (.lst acc) ∧ acc.length < sizeLine ∧ Pv (i + 1) (upd H4 D (.lst (acc ++ [y])))) (hd : ∀ H, Pv n H → Qd H) :
    ∃ W : Nat → Nat → Hp → Prop, (∃ m, W 0 m (upd H1 D (.lst []))) ∧ ∀ i m H, W i m H →
      (J.stop i H ∧ Qd H) ∨ (J.go i H ∧ ∃ Nx : Hp → Prop, (∀ H', Nx H' → ∃ m', m' < m ∧ W (i + 1) m' H') ∧ ∀ x H', J.yld i H x H' → g x (wipe σ vs) H' fun σ2 H2 => wipe σ2 vs = wipe σ vs ∧ tYes σ2 H2 fun b H3 =>
        if b = true then te σ2 H3 fun y H4 => ∃ acc, H4 D = some (.lst acc) ∧ acc.length < sizeLine ∧ Nx (upd H4 D (.lst (acc ++ [y]))) else Nx H3) := by
  refine lc_it w Pv h0 hG (fun i x H H' hi h y => ?_) hd
  have e : ∀ (N : V → Hp → Prop) (M : Hp → Prop), (fun (σ2 : L2.St) (H2 : Hp) => wipe σ2 vs = wipe σ vs ∧ tYes σ2 H2 fun b H3 => if b = true then te σ2 H3 N else M H3) = (fun σ2 H2 => wipe σ2 vs = wipe σ vs ∧ te σ2 H2 N) := fun N M => funext fun σ2 => funext fun H2 => by
    show (_ ∧ (if true = true then te σ2 H2 N else M H2)) = _
    rw [if_pos rfl]
  rw [e]
  exact hs i x H H' hi h y
theorem cut_mem {xs : List V} {lo hi : Option Int} {v : V} (h : v ∈ cutV xs lo hi) : v ∈ xs := by
  unfold cutV at h
  exact List.mem_of_mem_drop (List.mem_of_mem_take h)
theorem cell_of {ns : List Int} {lo hi : Option Int} {i : Nat} {x : V} (h : (cutV (ns.map V.int) lo hi ++ [V.int 0])[i]? = some x) : ∃ c : Int, x = .int c := by
  rcases List.mem_append.mp (List.mem_of_getElem? h) with m | m
  · obtain ⟨c, _, e⟩ := List.mem_map.mp (cut_mem m)
    exact ⟨c, e.symm⟩
  · exact ⟨0, List.mem_singleton.mp m⟩
abbrev sLaw : Stmt := Pf.top 62
def spLaw (K : PySem.W.Frag) : Sp := fun vs H Q _ => ∃ (a : Addr) (ns : List Int), vs = [.ref a] ∧ SqL K H a (ns.map V.int) ∧ ns.length ≤ 63 ∧ ∀ H', Q (.bl true) H'
abbrev NLaw : List Str := ["_law_script", "_law_told", "_law_turned", "_law_block_here", "_law_lines", "_law_cell", "_law_well_here", "_law_way", "_law_some", "_law_part", "_law_other", "_law_one_here", "_law_two", "_law_three", "_law_is_one", "_law_others", "_law_k"]
theorem scLaw : FnScope NLaw ["_law_script"] (defScope sLaw) := ⟨rfl, rfl, rfl, by decide +kernel, rfl, by decide +kernel, by decide +kernel⟩
section
variable {P : Program} {w : World} {K : PySem.W.Frag} {mg : Str → Option Value} {base : Heap} {C : Addr} {W : W4} {fE : Addr} {fdE : FuncData}
theorem ok_law {f fW fD f1 fC fM fK fT fI : Addr} {fd fdW fdD fd1 fdC fdM fdK fdT fdI : FuncData} {ts : List Addr} {ds : List Value} (F : Fun K "law" "law" sLaw f fd) (T : TxtD mg C) (U : CfgC K C) (EW : EqW P w K mg base C W fE fdE) (MC : MkCf P w K mg base C fI fdI ts ds)
    (DW : Def P w K mg base 1 "_law_well" fW fdW ["_law_cell"] spWell) (DD : Def P w K mg base 1 "_law_draw" fD fdD ["_law_well_here", "_law_below"] spDraw) (D1 : Def P w K mg base 2 "_law_one" f1 fd1 ["_law_well_here", "_law_some"] (spOne K))
    (DC : Def P w K mg base 6 "_law_changed" fC fdC ["_law_well_here", "_law_some"] (spChg K C)) (DM : Def P w K mg base 4 "_law_made" fM fdM ["_law_way", "_law_p"] (spMade W)) (DK : Def P w K mg base 9 "_law_kept" fK fdK ["_law_one_here", "_law_some"] (spKept K C W)) (DT : Def P w K mg base 8 "_law_sorted_text" fT fdT ["_law_thing"] (spTxt K C 7)) :
    FnOk P w K mg base CX0 10 f fd ["_law_script"] (spLaw K) := by
  refine F.ok scLaw (fun vs H Q E h => ?_) (fun cdv A outer s H vs Q E hr h => ?_)
  · obtain ⟨a, ns, rfl, _⟩ := h
    rfl
  · obtain ⟨a, ns, rfl, hl, h63, k⟩ := h
    refine ⟨_, (pss_cons (ps_set (i := 1) scLaw.nd rfl (Or.inr rfl) (pe_disp (pps_cons pe_str (pe_tup (pa_cons pe_str (pa_cons pe_int pa_nil))) (pps_cons pe_str (pe_tup (pa_cons pe_str (pa_cons (pe_tup (pa_cons (pe_tup (pa_cons pe_str (pa_cons pe_str pa_nil))) pa_nil)) pa_nil))) pps_nil)) (by rfl) (by rfl) (fun z => by cases z) (by decide)))
        (pss_cons (ps_set (i := 2) scLaw.nd rfl (Or.inr rfl) (pe_disp (pps_cons pe_str (pe_tup (pa_cons pe_str (pa_cons (pe_tup (pa_cons (pe_tup (pa_cons pe_str (pa_cons pe_str pa_nil))) pa_nil)) pa_nil))) (pps_cons pe_str (pe_tup (pa_cons pe_str (pa_cons pe_int pa_nil))) pps_nil)) (by rfl) (by rfl) (fun z => by cases z) (by decide)))
        (pss_cons (ps_set (i := 3) scLaw.nd rfl (Or.inl rfl) (pe_lst (pa_cons pe_str (pa_cons pe_str (pa_cons (pv 1) (pa_cons (pe_tup (pa_cons pe_str (pa_cons (pe_tup (pa_cons pe_str (pa_cons pe_int pa_nil))) pa_nil))) (pa_cons (pe_tup (pa_cons pe_str pa_nil)) (pa_cons (pe_cmpR op_eq pe_int pe_int (nomark _)) (pa_cons (pe_cmpR op_eq pe_int pe_int (nomark _)) (pa_cons (pe_tup (pa_cons pe_str pa_nil)) (pa_cons (pe_tup (pa_cons (pe_tup (pa_cons pe_str (pa_cons pe_str pa_nil))) pa_nil)) (pa_cons pe_non pa_nil))))))))))))
        (pss_cons (ps_set (i := 4) scLaw.nd rfl (Or.inl rfl) (pe_lst (pa_cons (pv 3) (pa_cons (pe_lst (pa_cons pe_str (pa_cons pe_str (pa_cons (pv 1) (pa_cons (pe_tup (pa_cons (pe_tup (pa_cons pe_str (pa_cons pe_str pa_nil))) pa_nil)) pa_nil))))) (pa_cons (pe_lst (pa_cons pe_str (pa_cons (pe_cf MC (hr.mono (by decide)) rfl) (pa_cons (pv 1) (pa_cons (pe_tup pa_nil) pa_nil))))) (pa_cons (pe_lst (pa_cons (pe_tup (pa_cons pe_str (pa_cons pe_str pa_nil))) (pa_cons (pe_tup (pa_cons pe_str (pa_cons pe_str (pa_cons pe_int pa_nil)))) pa_nil))) pa_nil))))))
        (pss_cons (ps_for PassesOwn.never rfl (pi_list (pe_op op_cat (pe_slice sl_list (pv 0) po_none (po_some pe_int)) (pe_lst (pa_cons pe_int pa_nil)))) (pg_name (i := 5) scLaw.nd rfl (Or.inl rfl)) (pss_cons (ps_set (i := 6) scLaw.nd rfl (Or.inr rfl) (pe_call DW.ok (hr.mono (by decide)) rfl DW.g DW.kp DW.b .nil pass0 (pa_cons (pv 5) pa_nil))) (pss_one (ps_for PassesOwn.never rfl (pi_range1 rfl T.range (pa_cons pe_int pa_nil)) (pg_name (i := 7) scLaw.nd rfl (Or.inr rfl)) (pss_cons (ps_setLc (i := 8) (own := [("_law_part", 9)]) (g := gName 9) (tt := tYes) rfl scLaw.nd rfl rfl (sw_true rfl rfl rfl (by decide +kernel)) (pi_list (pe_ix ix_list (pv 4) (pv 7) (fun _ _ => rfl))) (blkOk_by (N := NLaw) (sc := defScope sLaw) (by decide +kernel)) (fun _ _ _ _ _ => pg_name (i := 9) scLaw.nd rfl (Or.inl rfl)) (fun _ _ _ _ _ => pts_nil) (fun _ _ _ _ _ => pe_ifExp (PW.pt (pw_and (pt_cmpR (show OpR _ (compareOp .Eq) (rEqP K C) from op_eqP EW U (hr.mono (by decide))) (pv 9) (pv 1) (nomark _)) (pw_and1 (pt_cmpR op_eq (pe_call DD.ok (hr.mono (by decide)) rfl DD.g DD.kp DD.b .nil pass0 (pa_cons (pv 6) (pa_cons pe_int pa_nil))) pe_int (nomark _))))) (pv 2) (pv 9)))
        (pss_cons (ps_set (i := 10) scLaw.nd rfl (Or.inl rfl) (pe_call DC.ok (hr.mono (by decide)) rfl DC.g DC.kp DC.b .nil pass0 (pa_cons (pv 6) (pa_cons (pv 8) pa_nil))))
        (pss_cons (ps_par3 (i := 11) (j := 12) (l := 13) (by rfl) scLaw.nd rfl rfl rfl (by decide) (by decide) (by decide) rfl rfl rfl (pa_cons (pe_call DM.ok (hr.mono (by decide)) rfl DM.g DM.kp DM.b .nil pass0 (pa_cons (pv 7) (pa_cons (pe_ix ix_list (pv 4) (pv 7) (fun _ _ => rfl)) pa_nil))) (pa_cons (pe_call DM.ok (hr.mono (by decide)) rfl DM.g DM.kp DM.b .nil pass0 (pa_cons (pv 7) (pa_cons (pv 8) pa_nil))) (pa_cons (pe_call DM.ok (hr.mono (by decide)) rfl DM.g DM.kp DM.b .nil pass0 (pa_cons (pv 7) (pa_cons (pv 10) pa_nil))) pa_nil))) (by rfl))
        (pss_cons (ps_if (PW.pt (pw_or (pt_not (pt_cmpR (op_eq4 EW (hr.mono (by decide))) (pv 11) (pv 12) (nomark _))) (pw_or (pt_cmpR (op_ne4 EW (hr.mono (by decide))) (pv 11) (pv 12) (nomark _)) (pw_or (pt_not (pt_val (pe_call DK.ok (hr.mono (by decide)) rfl DK.g DK.kp DK.b .nil pass0 (pa_cons (pv 12) (pa_cons (pv 8) pa_nil))))) (pw_or1 (pt_not (pt_val (pe_call DK.ok (hr.mono (by decide)) rfl DK.g DK.kp DK.b .nil pass0 (pa_cons (pv 13) (pa_cons (pv 10) pa_nil)))))))))) (pss_one (ps_ret pe_bl)) pss_nil)
        (pss_cons (ps_set (i := 14) scLaw.nd rfl (Or.inl rfl) (pe_cmpR op_eq (pe_call DT.ok (hr.mono (by decide)) rfl DT.g DT.kp DT.b .nil pass0 (pa_cons (pv 8) pa_nil)) (pe_call DT.ok (hr.mono (by decide)) rfl DT.g DT.kp DT.b .nil pass0 (pa_cons (pv 10) pa_nil)) (nomark _)))
        (pss_cons (ps_if (PW.pt (pw_or (pt_cmpR op_ne (pe_cmpR (op_eq4 EW (hr.mono (by decide))) (pv 12) (pv 13) (nomark _)) (pv 14) (nomark _)) (pw_or (pt_cmpR op_ne (pe_cmpR (op_eq4 EW (hr.mono (by decide))) (pv 13) (pv 12) (nomark _)) (pv 14) (nomark _)) (pw_or1 (pt_cmpR op_eq (pe_cmpR (op_ne4 EW (hr.mono (by decide))) (pv 12) (pv 13) (nomark _)) (pv 14) (nomark _)))))) (pss_one (ps_ret pe_bl)) pss_nil)
        (pss_cons (ps_setLc (i := 15) (own := [("_law_k", 16)]) (g := gName 16) rfl scLaw.nd rfl rfl (sw_true rfl rfl rfl (by decide +kernel)) (pi_range1 rfl T.range (pa_cons pe_int pa_nil)) (blkOk_by (N := NLaw) (sc := defScope sLaw) (by decide +kernel)) (fun _ _ _ _ _ => pg_name (i := 16) scLaw.nd rfl (Or.inl rfl)) (fun _ _ _ _ _ => pts_one (pt_cmpR op_ne (pv 16) (pv 7) (nomark _))) (fun _ _ _ _ _ => (pv 16)))
        (pss_one (ps_if (PW.pt (pw_or (pt_cmpR (op_eq4 EW (hr.mono (by decide))) (pv 11) (pe_call DM.ok (hr.mono (by decide)) rfl DM.g DM.kp DM.b .nil pass0 (pa_cons (pe_call D1.ok (hr.mono (by decide)) rfl D1.g D1.kp D1.b .nil pass0 (pa_cons (pv 6) (pa_cons (pv 15) pa_nil))) (pa_cons (pe_op op_rep (pe_lst (pa_cons (pe_tup (pa_cons pe_str (pa_cons pe_str pa_nil))) pa_nil)) pe_int) pa_nil))) (nomark _)) (pw_or1 (pt_cmpR (op_eq4 EW (hr.mono (by decide))) (pv 11) (pv 8) (nomark _))))) (pss_one (ps_ret pe_bl)) pss_nil)))))))))))))
        (pss_one (ps_ret pe_bl))))))), ?_⟩
    refine fun td h_td => ?_
    have e1 : (upd H td (.dK [])) td = some (.dK []) := upd_same
    have r1 : Same H (upd H td (.dK [])) := sm_upd h_td
    generalize upd H td (.dK []) = Z1 at e1 r1 ⊢
    refine ⟨by show 2 ≤ sizeLine; decide, fun a1 h_a1 => ?_⟩
    have s2 := sm_upd (o := .tup [.str "say", .int 1]) h_a1
    have f2 : (upd Z1 a1 (.tup [.str "say", .int 1])) a1 = some (.tup [.str "say", .int 1]) := upd_same
    generalize upd Z1 a1 (.tup [.str "say", .int 1]) = G2 at s2 f2 ⊢
    refine ⟨by show 2 ≤ sizeLine; decide, fun a2 h_a2 => ?_⟩
    have s3 := sm_upd (o := .tup [.str "say", .str "a"]) h_a2
    have f3 : (upd G2 a2 (.tup [.str "say", .str "a"])) a2 = some (.tup [.str "say", .str "a"]) := upd_same
    generalize upd G2 a2 (.tup [.str "say", .str "a"]) = G3 at s3 f3 ⊢
    refine ⟨by show 1 ≤ sizeLine; decide, fun a3 h_a3 => ?_⟩
    have s4 := sm_upd (o := .tup [.ref a2]) h_a3
    have f4 : (upd G3 a3 (.tup [.ref a2])) a3 = some (.tup [.ref a2]) := upd_same
    generalize upd G3 a3 (.tup [.ref a2]) = G4 at s4 f4 ⊢
    refine ⟨by show 2 ≤ sizeLine; decide, fun a4 h_a4 => ?_⟩
    have s5 := sm_upd (o := .tup [.str "tuple", .ref a3]) h_a4
    have f5 : (upd G4 a4 (.tup [.str "tuple", .ref a3])) a4 = some (.tup [.str "tuple", .ref a3]) := upd_same
    generalize upd G4 a4 (.tup [.str "tuple", .ref a3]) = G5 at s5 f5 ⊢
    refine ⟨((Same.trans s2 (Same.trans s3 (Same.trans s4 s5))) _ _ e1), [(Sum.inr "x", .ref a1), (Sum.inr "y", .ref a4)], rfl, by show 2 ≤ 15; decide, ?_⟩
    rw [merge_xy]
    have s6 : Same H (upd G5 td (.dK [(Sum.inr "x", .ref a1), (Sum.inr "y", .ref a4)])) := fun b u eb => (upd_ne (ne_of_none eb h_td)).trans ((Same.trans r1 (Same.trans s2 (Same.trans s3 (Same.trans s4 s5)))) b u eb)
    have n_a1 : a1 ≠ td := (ne_of_none ((Same.refl _) _ _ e1) h_a1).symm
    have f_a1 : (upd G5 td (.dK [(Sum.inr "x", .ref a1), (Sum.inr "y", .ref a4)])) a1 = some _ := (upd_ne n_a1).trans ((Same.trans s3 (Same.trans s4 s5)) _ _ f2)
    have n_a2 : a2 ≠ td := (ne_of_none (s2 _ _ e1) h_a2).symm
    have f_a2 : (upd G5 td (.dK [(Sum.inr "x", .ref a1), (Sum.inr "y", .ref a4)])) a2 = some _ := (upd_ne n_a2).trans ((Same.trans s4 s5) _ _ f3)
    have n_a3 : a3 ≠ td := (ne_of_none ((Same.trans s2 s3) _ _ e1) h_a3).symm
    have f_a3 : (upd G5 td (.dK [(Sum.inr "x", .ref a1), (Sum.inr "y", .ref a4)])) a3 = some _ := (upd_ne n_a3).trans (s5 _ _ f4)
    have n_a4 : a4 ≠ td := (ne_of_none ((Same.trans s2 (Same.trans s3 s4)) _ _ e1) h_a4).symm
    have f_a4 : (upd G5 td (.dK [(Sum.inr "x", .ref a1), (Sum.inr "y", .ref a4)])) a4 = some _ := (upd_ne n_a4).trans f5
    have f_td : (upd G5 td (.dK [(Sum.inr "x", .ref a1), (Sum.inr "y", .ref a4)])) td = some (.dK [(Sum.inr "x", .ref a1), (Sum.inr "y", .ref a4)]) := upd_same
    generalize upd G5 td (.dK [(Sum.inr "x", .ref a1), (Sum.inr "y", .ref a4)]) = G6 at s6 f_a1 f_a2 f_a3 f_a4 f_td ⊢
    refine fun tn h_tn => ?_
    have e7 : (upd G6 tn (.dK [])) tn = some (.dK []) := upd_same
    have r7 : Same G6 (upd G6 tn (.dK [])) := sm_upd h_tn
    generalize upd G6 tn (.dK []) = Z7 at e7 r7 ⊢
    refine ⟨by show 2 ≤ sizeLine; decide, fun c2 h_c2 => ?_⟩
    have s8 := sm_upd (o := .tup [.str "say", .str "a"]) h_c2
    have f8 : (upd Z7 c2 (.tup [.str "say", .str "a"])) c2 = some (.tup [.str "say", .str "a"]) := upd_same
    generalize upd Z7 c2 (.tup [.str "say", .str "a"]) = G8 at s8 f8 ⊢
    refine ⟨by show 1 ≤ sizeLine; decide, fun c3 h_c3 => ?_⟩
    have s9 := sm_upd (o := .tup [.ref c2]) h_c3
    have f9 : (upd G8 c3 (.tup [.ref c2])) c3 = some (.tup [.ref c2]) := upd_same
    generalize upd G8 c3 (.tup [.ref c2]) = G9 at s9 f9 ⊢
    refine ⟨by show 2 ≤ sizeLine; decide, fun c4 h_c4 => ?_⟩
    have s10 := sm_upd (o := .tup [.str "tuple", .ref c3]) h_c4
    have f10 : (upd G9 c4 (.tup [.str "tuple", .ref c3])) c4 = some (.tup [.str "tuple", .ref c3]) := upd_same
    generalize upd G9 c4 (.tup [.str "tuple", .ref c3]) = G10 at s10 f10 ⊢
    refine ⟨by show 2 ≤ sizeLine; decide, fun c1 h_c1 => ?_⟩
    have s11 := sm_upd (o := .tup [.str "say", .int 1]) h_c1
    have f11 : (upd G10 c1 (.tup [.str "say", .int 1])) c1 = some (.tup [.str "say", .int 1]) := upd_same
    generalize upd G10 c1 (.tup [.str "say", .int 1]) = G11 at s11 f11 ⊢
    refine ⟨((Same.trans s8 (Same.trans s9 (Same.trans s10 s11))) _ _ e7), [(Sum.inr "y", .ref c4), (Sum.inr "x", .ref c1)], rfl, by show 2 ≤ 15; decide, ?_⟩
    rw [merge_yx]
    have s12 : Same G6 (upd G11 tn (.dK [(Sum.inr "y", .ref c4), (Sum.inr "x", .ref c1)])) := fun b u eb => (upd_ne (ne_of_none eb h_tn)).trans ((Same.trans r7 (Same.trans s8 (Same.trans s9 (Same.trans s10 s11)))) b u eb)
    have n_c2 : c2 ≠ tn := (ne_of_none ((Same.refl _) _ _ e7) h_c2).symm
    have f_c2 : (upd G11 tn (.dK [(Sum.inr "y", .ref c4), (Sum.inr "x", .ref c1)])) c2 = some _ := (upd_ne n_c2).trans ((Same.trans s9 (Same.trans s10 s11)) _ _ f8)
    have n_c3 : c3 ≠ tn := (ne_of_none (s8 _ _ e7) h_c3).symm
    have f_c3 : (upd G11 tn (.dK [(Sum.inr "y", .ref c4), (Sum.inr "x", .ref c1)])) c3 = some _ := (upd_ne n_c3).trans ((Same.trans s10 s11) _ _ f9)
    have n_c4 : c4 ≠ tn := (ne_of_none ((Same.trans s8 s9) _ _ e7) h_c4).symm
    have f_c4 : (upd G11 tn (.dK [(Sum.inr "y", .ref c4), (Sum.inr "x", .ref c1)])) c4 = some _ := (upd_ne n_c4).trans (s11 _ _ f10)
    have n_c1 : c1 ≠ tn := (ne_of_none ((Same.trans s8 (Same.trans s9 s10)) _ _ e7) h_c1).symm
    have f_c1 : (upd G11 tn (.dK [(Sum.inr "y", .ref c4), (Sum.inr "x", .ref c1)])) c1 = some _ := (upd_ne n_c1).trans f11
    have f_tn : (upd G11 tn (.dK [(Sum.inr "y", .ref c4), (Sum.inr "x", .ref c1)])) tn = some (.dK [(Sum.inr "y", .ref c4), (Sum.inr "x", .ref c1)]) := upd_same
    generalize upd G11 tn (.dK [(Sum.inr "y", .ref c4), (Sum.inr "x", .ref c1)]) = G12 at s12 f_c2 f_c3 f_c4 f_c1 f_tn ⊢
    refine ⟨_, rfl, ?_⟩
    refine ⟨by show 2 ≤ sizeLine; decide, fun b1 h_b1 => ?_⟩
    have s13 := sm_upd (o := .tup [.str "say", .int 2]) h_b1
    have f13 : (upd G12 b1 (.tup [.str "say", .int 2])) b1 = some (.tup [.str "say", .int 2]) := upd_same
    generalize upd G12 b1 (.tup [.str "say", .int 2]) = G13 at s13 f13 ⊢
    refine ⟨by show 2 ≤ sizeLine; decide, fun b2 h_b2 => ?_⟩
    have s14 := sm_upd (o := .tup [.str "count", .ref b1]) h_b2
    have f14 : (upd G13 b2 (.tup [.str "count", .ref b1])) b2 = some (.tup [.str "count", .ref b1]) := upd_same
    generalize upd G13 b2 (.tup [.str "count", .ref b1]) = G14 at s14 f14 ⊢
    refine ⟨by show 1 ≤ sizeLine; decide, fun b3 h_b3 => ?_⟩
    have s15 := sm_upd (o := .tup [.str "c"]) h_b3
    have f15 : (upd G14 b3 (.tup [.str "c"])) b3 = some (.tup [.str "c"]) := upd_same
    generalize upd G14 b3 (.tup [.str "c"]) = G15 at s15 f15 ⊢
    refine ⟨rfl, rfl, ?_⟩
    refine ⟨by show 1 ≤ sizeLine; decide, fun b4 h_b4 => ?_⟩
    have s16 := sm_upd (o := .tup [.str "x"]) h_b4
    have f16 : (upd G15 b4 (.tup [.str "x"])) b4 = some (.tup [.str "x"]) := upd_same
    generalize upd G15 b4 (.tup [.str "x"]) = G16 at s16 f16 ⊢
    refine ⟨by show 2 ≤ sizeLine; decide, fun b5 h_b5 => ?_⟩
    have s17 := sm_upd (o := .tup [.str "net", .str "b"]) h_b5
    have f17 : (upd G16 b5 (.tup [.str "net", .str "b"])) b5 = some (.tup [.str "net", .str "b"]) := upd_same
    generalize upd G16 b5 (.tup [.str "net", .str "b"]) = G17 at s17 f17 ⊢
    refine ⟨by show 1 ≤ sizeLine; decide, fun b6 h_b6 => ?_⟩
    have s18 := sm_upd (o := .tup [.ref b5]) h_b6
    have f18 : (upd G17 b6 (.tup [.ref b5])) b6 = some (.tup [.ref b5]) := upd_same
    generalize upd G17 b6 (.tup [.ref b5]) = G18 at s18 f18 ⊢
    refine ⟨by show 10 ≤ sizeLine; decide, fun bl h_bl => ?_⟩
    have s19 := sm_upd (o := .lst [.str "net", .str "a", .ref td, .ref b2, .ref b3, .bl (decide (V.int 1 = V.int 1)), .bl (decide (V.int 0 = V.int 1)), .ref b4, .ref b6, .non]) h_bl
    have f19 : (upd G18 bl (.lst [.str "net", .str "a", .ref td, .ref b2, .ref b3, .bl (decide (V.int 1 = V.int 1)), .bl (decide (V.int 0 = V.int 1)), .ref b4, .ref b6, .non])) bl = some (.lst [.str "net", .str "a", .ref td, .ref b2, .ref b3, .bl (decide (V.int 1 = V.int 1)), .bl (decide (V.int 0 = V.int 1)), .ref b4, .ref b6, .non]) := upd_same
    generalize upd G18 bl (.lst [.str "net", .str "a", .ref td, .ref b2, .ref b3, .bl (decide (V.int 1 = V.int 1)), .bl (decide (V.int 0 = V.int 1)), .ref b4, .ref b6, .non]) = G19 at s19 f19 ⊢
    refine ⟨_, rfl, _, rfl, ?_⟩
    refine ⟨by show 2 ≤ sizeLine; decide, fun r1 h_r1 => ?_⟩
    have s20 := sm_upd (o := .tup [.str "net", .str "a"]) h_r1
    have f20 : (upd G19 r1 (.tup [.str "net", .str "a"])) r1 = some (.tup [.str "net", .str "a"]) := upd_same
    generalize upd G19 r1 (.tup [.str "net", .str "a"]) = G20 at s20 f20 ⊢
    refine ⟨by show 1 ≤ sizeLine; decide, fun r2 h_r2 => ?_⟩
    have s21 := sm_upd (o := .tup [.ref r1]) h_r2
    have f21 : (upd G20 r2 (.tup [.ref r1])) r2 = some (.tup [.ref r1]) := upd_same
    generalize upd G20 r2 (.tup [.ref r1]) = G21 at s21 f21 ⊢
    refine ⟨by show 4 ≤ sizeLine; decide, fun lr h_lr => ?_⟩
    have s22 := sm_upd (o := .lst [.str "net", .str "r", .ref td, .ref r2]) h_lr
    have f22 : (upd G21 lr (.lst [.str "net", .str "r", .ref td, .ref r2])) lr = some (.lst [.str "net", .str "r", .ref td, .ref r2]) := upd_same
    generalize upd G21 lr (.lst [.str "net", .str "r", .ref td, .ref r2]) = G22 at s22 f22 ⊢
    refine fun cf Gc h_cf sc fc => ?_
    refine ⟨_, rfl, ?_⟩
    refine ⟨by show 0 ≤ sizeLine; decide, fun q1 h_q1 => ?_⟩
    have s23 := sm_upd (o := .tup []) h_q1
    have f23 : (upd Gc q1 (.tup [])) q1 = some (.tup []) := upd_same
    generalize upd Gc q1 (.tup []) = G23 at s23 f23 ⊢
    refine ⟨by show 4 ≤ sizeLine; decide, fun lc h_lc => ?_⟩
    have s24 := sm_upd (o := .lst [.str "c", .ref cf, .ref td, .ref q1]) h_lc
    have f24 : (upd G23 lc (.lst [.str "c", .ref cf, .ref td, .ref q1])) lc = some (.lst [.str "c", .ref cf, .ref td, .ref q1]) := upd_same
    generalize upd G23 lc (.lst [.str "c", .ref cf, .ref td, .ref q1]) = G24 at s24 f24 ⊢
    refine ⟨by show 2 ≤ sizeLine; decide, fun m1 h_m1 => ?_⟩
    have s25 := sm_upd (o := .tup [.str "net", .str "a"]) h_m1
    have f25 : (upd G24 m1 (.tup [.str "net", .str "a"])) m1 = some (.tup [.str "net", .str "a"]) := upd_same
    generalize upd G24 m1 (.tup [.str "net", .str "a"]) = G25 at s25 f25 ⊢
    refine ⟨by show 3 ≤ sizeLine; decide, fun m2 h_m2 => ?_⟩
    have s26 := sm_upd (o := .tup [.str "net", .str "b", .int 1]) h_m2
    have f26 : (upd G25 m2 (.tup [.str "net", .str "b", .int 1])) m2 = some (.tup [.str "net", .str "b", .int 1]) := upd_same
    generalize upd G25 m2 (.tup [.str "net", .str "b", .int 1]) = G26 at s26 f26 ⊢
    refine ⟨by show 2 ≤ sizeLine; decide, fun lm h_lm => ?_⟩
    have s27 := sm_upd (o := .lst [.ref m1, .ref m2]) h_lm
    have f27 : (upd G26 lm (.lst [.ref m1, .ref m2])) lm = some (.lst [.ref m1, .ref m2]) := upd_same
    generalize upd G26 lm (.lst [.ref m1, .ref m2]) = G27 at s27 f27 ⊢
    refine ⟨by show 4 ≤ sizeLine; decide, fun ln h_ln => ?_⟩
    have s28 := sm_upd (o := .lst [.ref bl, .ref lr, .ref lc, .ref lm]) h_ln
    have f28 : (upd G27 ln (.lst [.ref bl, .ref lr, .ref lc, .ref lm])) ln = some (.lst [.ref bl, .ref lr, .ref lc, .ref lm]) := upd_same
    generalize upd G27 ln (.lst [.ref bl, .ref lr, .ref lc, .ref lm]) = G28 at s28 f28 ⊢
    have SL : SetL K C G28 td tn ln := by
      have z_cf : CfAt K C G28 cf := fc.keep (Same.trans s23 (Same.trans s24 (Same.trans s25 (Same.trans s26 (Same.trans s27 s28)))))
      have dt : Dv (OF K C) G28 toldD (.ref td) := ⟨td, _, rfl, ((Same.trans s12 (Same.trans s13 (Same.trans s14 (Same.trans s15 (Same.trans s16 (Same.trans s17 (Same.trans s18 (Same.trans s19 (Same.trans s20 (Same.trans s21 (Same.trans s22 (Same.trans sc (Same.trans s23 (Same.trans s24 (Same.trans s25 (Same.trans s26 (Same.trans s27 s28))))))))))))))))) _ _ f_td), (show (["x", "y"] : List Str).Nodup by decide +kernel), rfl, _, _, rfl, dv_say ((Same.trans s12 (Same.trans s13 (Same.trans s14 (Same.trans s15 (Same.trans s16 (Same.trans s17 (Same.trans s18 (Same.trans s19 (Same.trans s20 (Same.trans s21 (Same.trans s22 (Same.trans sc (Same.trans s23 (Same.trans s24 (Same.trans s25 (Same.trans s26 (Same.trans s27 s28))))))))))))))))) _ _ f_a1), _, _, rfl, dv_tupA ((Same.trans s12 (Same.trans s13 (Same.trans s14 (Same.trans s15 (Same.trans s16 (Same.trans s17 (Same.trans s18 (Same.trans s19 (Same.trans s20 (Same.trans s21 (Same.trans s22 (Same.trans sc (Same.trans s23 (Same.trans s24 (Same.trans s25 (Same.trans s26 (Same.trans s27 s28))))))))))))))))) _ _ f_a2) ((Same.trans s12 (Same.trans s13 (Same.trans s14 (Same.trans s15 (Same.trans s16 (Same.trans s17 (Same.trans s18 (Same.trans s19 (Same.trans s20 (Same.trans s21 (Same.trans s22 (Same.trans sc (Same.trans s23 (Same.trans s24 (Same.trans s25 (Same.trans s26 (Same.trans s27 s28))))))))))))))))) _ _ f_a3) ((Same.trans s12 (Same.trans s13 (Same.trans s14 (Same.trans s15 (Same.trans s16 (Same.trans s17 (Same.trans s18 (Same.trans s19 (Same.trans s20 (Same.trans s21 (Same.trans s22 (Same.trans sc (Same.trans s23 (Same.trans s24 (Same.trans s25 (Same.trans s26 (Same.trans s27 s28))))))))))))))))) _ _ f_a4), rfl⟩
      have dn : Dv (OF K C) G28 turnD (.ref tn) := ⟨tn, _, rfl, ((Same.trans s13 (Same.trans s14 (Same.trans s15 (Same.trans s16 (Same.trans s17 (Same.trans s18 (Same.trans s19 (Same.trans s20 (Same.trans s21 (Same.trans s22 (Same.trans sc (Same.trans s23 (Same.trans s24 (Same.trans s25 (Same.trans s26 (Same.trans s27 s28)))))))))))))))) _ _ f_tn), (show (["y", "x"] : List Str).Nodup by decide +kernel), rfl, _, _, rfl, dv_tupA ((Same.trans s13 (Same.trans s14 (Same.trans s15 (Same.trans s16 (Same.trans s17 (Same.trans s18 (Same.trans s19 (Same.trans s20 (Same.trans s21 (Same.trans s22 (Same.trans sc (Same.trans s23 (Same.trans s24 (Same.trans s25 (Same.trans s26 (Same.trans s27 s28)))))))))))))))) _ _ f_c2) ((Same.trans s13 (Same.trans s14 (Same.trans s15 (Same.trans s16 (Same.trans s17 (Same.trans s18 (Same.trans s19 (Same.trans s20 (Same.trans s21 (Same.trans s22 (Same.trans sc (Same.trans s23 (Same.trans s24 (Same.trans s25 (Same.trans s26 (Same.trans s27 s28)))))))))))))))) _ _ f_c3) ((Same.trans s13 (Same.trans s14 (Same.trans s15 (Same.trans s16 (Same.trans s17 (Same.trans s18 (Same.trans s19 (Same.trans s20 (Same.trans s21 (Same.trans s22 (Same.trans sc (Same.trans s23 (Same.trans s24 (Same.trans s25 (Same.trans s26 (Same.trans s27 s28)))))))))))))))) _ _ f_c4), _, _, rfl, dv_say ((Same.trans s13 (Same.trans s14 (Same.trans s15 (Same.trans s16 (Same.trans s17 (Same.trans s18 (Same.trans s19 (Same.trans s20 (Same.trans s21 (Same.trans s22 (Same.trans sc (Same.trans s23 (Same.trans s24 (Same.trans s25 (Same.trans s26 (Same.trans s27 s28)))))))))))))))) _ _ f_c1), rfl⟩
      refine ⟨⟨_, ((Same.trans s12 (Same.trans s13 (Same.trans s14 (Same.trans s15 (Same.trans s16 (Same.trans s17 (Same.trans s18 (Same.trans s19 (Same.trans s20 (Same.trans s21 (Same.trans s22 (Same.trans sc (Same.trans s23 (Same.trans s24 (Same.trans s25 (Same.trans s26 (Same.trans s27 s28))))))))))))))))) _ _ f_td), (show ([Sum.inr "x", Sum.inr "y"] : List Key).Nodup by decide +kernel), fun p hp => ?_⟩, dt, dn, [bl, lr, lc, lm], f28, rfl, fun n l e => ?_⟩
      · simp only [List.mem_cons, List.not_mem_nil, or_false] at hp
        rcases hp with rfl | rfl <;> exact ⟨_, rfl⟩
      · match n, e with
        | 0, e =>
          cases e
          exact ⟨_, ((Same.trans s20 (Same.trans s21 (Same.trans s22 (Same.trans sc (Same.trans s23 (Same.trans s24 (Same.trans s25 (Same.trans s26 (Same.trans s27 s28))))))))) _ _ f19), ⟨_, _, rfl, rfl, _, _, rfl, rfl, _, _, rfl, dt, _, _, rfl, ⟨b2, _, rfl, SqT.of ((Same.trans s15 (Same.trans s16 (Same.trans s17 (Same.trans s18 (Same.trans s19 (Same.trans s20 (Same.trans s21 (Same.trans s22 (Same.trans sc (Same.trans s23 (Same.trans s24 (Same.trans s25 (Same.trans s26 (Same.trans s27 s28)))))))))))))) _ _ f14), _, _, rfl, rfl, _, _, rfl, ⟨b1, _, rfl, SqT.of ((Same.trans s14 (Same.trans s15 (Same.trans s16 (Same.trans s17 (Same.trans s18 (Same.trans s19 (Same.trans s20 (Same.trans s21 (Same.trans s22 (Same.trans sc (Same.trans s23 (Same.trans s24 (Same.trans s25 (Same.trans s26 (Same.trans s27 s28))))))))))))))) _ _ f13), _, _, rfl, rfl, _, _, rfl, rfl, rfl⟩, rfl⟩, _, _, rfl, ⟨b3, _, rfl, SqT.of ((Same.trans s16 (Same.trans s17 (Same.trans s18 (Same.trans s19 (Same.trans s20 (Same.trans s21 (Same.trans s22 (Same.trans sc (Same.trans s23 (Same.trans s24 (Same.trans s25 (Same.trans s26 (Same.trans s27 s28))))))))))))) _ _ f15), _, _, rfl, rfl, rfl⟩, _, _, rfl, bl_t, _, _, rfl, bl_f, _, _, rfl, ⟨b4, _, rfl, SqT.of ((Same.trans s17 (Same.trans s18 (Same.trans s19 (Same.trans s20 (Same.trans s21 (Same.trans s22 (Same.trans sc (Same.trans s23 (Same.trans s24 (Same.trans s25 (Same.trans s26 (Same.trans s27 s28)))))))))))) _ _ f16), _, _, rfl, rfl, rfl⟩, _, _, rfl, ⟨b6, _, rfl, SqT.of ((Same.trans s19 (Same.trans s20 (Same.trans s21 (Same.trans s22 (Same.trans sc (Same.trans s23 (Same.trans s24 (Same.trans s25 (Same.trans s26 (Same.trans s27 s28)))))))))) _ _ f18), _, _, rfl, ⟨b5, _, rfl, SqT.of ((Same.trans s18 (Same.trans s19 (Same.trans s20 (Same.trans s21 (Same.trans s22 (Same.trans sc (Same.trans s23 (Same.trans s24 (Same.trans s25 (Same.trans s26 (Same.trans s27 s28))))))))))) _ _ f17), _, _, rfl, rfl, _, _, rfl, rfl, rfl⟩, rfl⟩, _, _, rfl, rfl, rfl⟩, fun _ => rfl⟩
        | 1, e =>
          cases e
          exact ⟨_, ((Same.trans sc (Same.trans s23 (Same.trans s24 (Same.trans s25 (Same.trans s26 (Same.trans s27 s28)))))) _ _ f22), ⟨_, _, rfl, rfl, _, _, rfl, rfl, _, _, rfl, dt, _, _, rfl, ⟨r2, _, rfl, SqT.of ((Same.trans s22 (Same.trans sc (Same.trans s23 (Same.trans s24 (Same.trans s25 (Same.trans s26 (Same.trans s27 s28))))))) _ _ f21), _, _, rfl, ⟨r1, _, rfl, SqT.of ((Same.trans s21 (Same.trans s22 (Same.trans sc (Same.trans s23 (Same.trans s24 (Same.trans s25 (Same.trans s26 (Same.trans s27 s28)))))))) _ _ f20), _, _, rfl, rfl, _, _, rfl, rfl, rfl⟩, rfl⟩, rfl⟩, fun _ => rfl⟩
        | 2, e =>
          cases e
          exact ⟨_, ((Same.trans s25 (Same.trans s26 (Same.trans s27 s28))) _ _ f24), ⟨_, _, rfl, rfl, _, _, rfl, ⟨cf, rfl, z_cf⟩, _, _, rfl, dt, _, _, rfl, ⟨q1, _, rfl, SqT.of ((Same.trans s24 (Same.trans s25 (Same.trans s26 (Same.trans s27 s28)))) _ _ f23), rfl⟩, rfl⟩, fun _ => rfl⟩
        | 3, e =>
          cases e
          exact ⟨_, (s28 _ _ f27), ⟨_, _, rfl, ⟨m1, _, rfl, SqT.of ((Same.trans s26 (Same.trans s27 s28)) _ _ f25), _, _, rfl, rfl, _, _, rfl, rfl, rfl⟩, _, _, rfl, ⟨m2, _, rfl, SqT.of ((Same.trans s27 s28) _ _ f26), _, _, rfl, rfl, _, _, rfl, rfl, _, _, rfl, rfl, rfl⟩, rfl⟩, fun h => absurd h (by decide)⟩
    have SH : Same H G28 := (Same.trans s6 (Same.trans s12 (Same.trans s13 (Same.trans s14 (Same.trans s15 (Same.trans s16 (Same.trans s17 (Same.trans s18 (Same.trans s19 (Same.trans s20 (Same.trans s21 (Same.trans s22 (Same.trans sc (Same.trans s23 (Same.trans s24 (Same.trans s25 (Same.trans s26 (Same.trans s27 s28))))))))))))))))))
    clear f13 f14 f15 f16 f17 f18 f19 f20 f21 f22 f23 f24 f25 f26 f27 f28 f_a1 f_a2 f_a3 f_a4 f_c1 f_c2 f_c3 f_c4 f_td f_tn fc
    generalize G28 = Hs at SL SH ⊢
    have hlen : (cutV (ns.map V.int) none (some 10)).length ≤ 63 := by
      have z := cutV_length (ns.map V.int) none (some 10)
      rw [List.length_map] at z
      omega
    refine ⟨_, rfl, _, rfl, a, _, rfl, SqL.same hl SH, fun p1 hp1 => ?_⟩
    have k1 := sm_upd (o := .lst (cutV (ns.map V.int) none (some 10))) hp1
    have e1 : (upd Hs p1 (.lst (cutV (ns.map V.int) none (some 10)))) p1 = some (.lst (cutV (ns.map V.int) none (some 10))) := upd_same
    generalize (upd Hs p1 (.lst (cutV (ns.map V.int) none (some 10)))) = Hx1 at k1 e1 ⊢
    refine ⟨by show 1 ≤ sizeLine; decide, fun p2 hp2 => ?_⟩
    have k2 := sm_upd (o := .lst [V.int 0]) hp2
    have e2 : (upd Hx1 p2 (.lst [V.int 0])) p2 = some (.lst [V.int 0]) := upd_same
    generalize (upd Hx1 p2 (.lst [V.int 0])) = Hx2 at k2 e2 ⊢
    refine ⟨p1, p2, _, _, rfl, rfl, k2 _ _ e1, e2, ?_, fun p3 hp3 => ?_⟩
    · have z2 : (cutV (ns.map V.int) none (some 10)).length + 1 ≤ 64 := by omega
      exact Nat.le_trans z2 (by decide)
    have k3 := sm_upd (o := .lst (cutV (ns.map V.int) none (some 10) ++ [V.int 0])) hp3
    have g3 : (upd Hx2 p3 (.lst (cutV (ns.map V.int) none (some 10) ++ [V.int 0]))) p3 = some (.lst (cutV (ns.map V.int) none (some 10) ++ [V.int 0])) := upd_same
    generalize (upd Hx2 p3 (.lst (cutV (ns.map V.int) none (some 10) ++ [V.int 0]))) = H1 at k3 g3 ⊢
    have SL := SL.keep U.ok (Same.trans k1 (Same.trans k2 k3))
    clear k1 k2 k3 e1 e2
    obtain ⟨⟨kvs, gt, nd, rf⟩, dt, dn, ls, gln, lls, hls⟩ := id SL
    refine ⟨p3, rfl, ⟨_, SqL.of g3⟩, for_list (K := K) (a := p3) (xs := cutV (ns.map V.int) none (some 10) ++ [V.int 0]) (fun i σ H' => (∃ v5 v6 v7 v8 v9 v10 v11 v12 v13 v14 v15 v16 : Option V, σ = [some (.ref a), some (.ref td), some (.ref tn), some (.ref bl), some (.ref ln), v5, v6, v7, v8, v9, v10, v11, v12, v13, v14, v15, v16]) ∧ Same H1 H')
      ⟨⟨_, _, _, _, _, _, _, _, _, _, _, _, rfl⟩, Same.refl _⟩ (fun i σ H' _ hv => SqL.of (hv.2 _ _ g3)) ?_ ?_⟩
    rotate_left
    · rintro σ H' ⟨⟨v5, v6, v7, v8, v9, v10, v11, v12, v13, v14, v15, v16, rfl⟩, _⟩
      exact k _
    rintro i x σ H2 hx ⟨⟨v5, v6, v7, v8, v9, v10, v11, v12, v13, v14, v15, v16, rfl⟩, kT⟩
    obtain ⟨c, rfl⟩ := cell_of hx
    refine ⟨_, rfl, c, rfl, fun pw o hpw w0 => ?_⟩
    have s3 : Same H2 (upd H2 pw o) := sm_upd hpw
    have but3 : ∀ H', But pw (upd H2 pw o) H' → Same H2 H' := fun H' b p u e => b p u (s3 _ _ e) fun z => by
      rw [z, hpw] at e
      cases e
    generalize upd H2 pw o = H3 at w0 s3 but3 ⊢
    refine ⟨4, rfl, by decide, by decide, for_range (lo := 0) (n := 4) (fun j σ H' => (∃ v7 v8 v9 v10 v11 v12 v13 v14 v15 v16 : Option V, σ = [some (.ref a), some (.ref td), some (.ref tn), some (.ref bl), some (.ref ln), some (.int c), some (.ref pw), v7, v8, v9, v10, v11, v12, v13, v14, v15, v16]) ∧ (∃ z : Int, WellAt H' pw z ∧ 0 ≤ z ∧ z ≤ 100 * j) ∧ But pw H3 H')
      ⟨⟨_, _, _, _, _, _, _, _, _, _, rfl⟩, ⟨0, w0, by omega, by omega⟩, fun _ _ e _ => e⟩ (fun j σ H' hj hp => ?_) (fun σ H' hp => ?_)⟩
    rotate_left
    · obtain ⟨⟨v7, v8, v9, v10, v11, v12, v13, v14, v15, v16, rfl⟩, _, bq⟩ := hp
      exact ⟨⟨_, _, _, _, _, _, _, _, _, _, _, _, rfl⟩, Same.trans kT (but3 _ bq)⟩
    obtain ⟨⟨v7, v8, v9, v10, v11, v12, v13, v14, v15, v16, rfl⟩, ⟨z0, wz, z00, z01⟩, bq⟩ := hp
    have K4 : Same H1 H' := Same.trans kT (but3 _ bq)
    have K5 : ∀ H4, But pw H' H4 → Same H1 H4 := fun H4 b4 => Same.trans kT (but3 _ (but_trans bq b4))
    have npw : ∀ b u, H1 b = some u → b ≠ pw := fun b u e z => by
      have := kT _ _ e
      rw [z, hpw] at this
      cases this
    rw [Int.zero_add]
    obtain ⟨l, lj⟩ : ∃ l, ls[j]? = some l := ⟨_, List.getElem?_eq_getElem (show j < ls.length by omega)⟩
    obtain ⟨us, gl, dl, u2⟩ := hls j l lj
    have j4 : j < 4 := hj
    have lus : us.length = (nsW j).length := dl.len.trans (line_len j toldD)
    have l10 : us.length ≤ 10 := lus ▸ (nsW_len j).1
    have l2 : 0 < us.length := lus ▸ (nsW_len j).2
    have lat : atI (ls.map V.ref) (j : Int) = some (.ref l) := atI_nat (by rw [List.getElem?_map, lj]; rfl)
    refine ⟨_, rfl, _, rfl, ln, _, _, _, rfl, rfl, SqL.of (K4 _ _ gln), lat, l, rfl, ⟨us, SqL.of (K4 _ _ gl)⟩, fun D hD => ?_⟩
    have nDp : D ≠ pw := fun e => by
      obtain ⟨x', y', w', _⟩ := wz
      rw [e, w'] at hD
      cases hD
    refine lc_yes (walk_list (xs := us)) (fun i H4 => But pw H' H4 ∧ (∃ z', WellAt H4 pw z' ∧ z0 ≤ z' ∧ z' ≤ z0 + i) ∧ ∃ acc, H4 D = some (.lst acc) ∧ acc.length = i ∧ ∀ q, q < i → acc[q]? = us[q]? ∨ (j < 3 ∧ q = 2 ∧ acc[q]? = some (.ref tn)))
      ⟨but_same (sm_upd hD), ⟨z0, well_same wz (sm_upd hD), by omega, by omega⟩, [], upd_same, rfl, fun q h => absurd h (Nat.not_lt_zero _)⟩ (fun i H4 _ h => SqL.of (K5 _ h.1 _ _ gl)) (fun i x H4 H4' hi h y => ?_) (fun H4 h => ?_)
    · obtain ⟨b4, ⟨z', w4, z'0, z'1⟩, acc, ga, la, ra⟩ := h
      obtain ⟨rfl, ex⟩ := y
      have k14 := K5 _ b4
      have put : ∀ (v : V) (H5 : Hp) (z'' : Int), But pw H4' H5 → WellAt H5 pw z'' → z' ≤ z'' → z'' ≤ z' + 1 → (us[i]? = some v ∨ (j < 3 ∧ i = 2 ∧ v = .ref tn)) → ∃ acc, H5 D = some (.lst acc) ∧ acc.length < sizeLine ∧ (But pw H' (upd H5 D (.lst (acc ++ [v]))) ∧ (∃ z', WellAt (upd H5 D (.lst (acc ++ [v]))) pw z' ∧ z0 ≤ z' ∧ z' ≤ z0 + ((i + 1 : Nat) : Int)) ∧ ∃ acc', (upd H5 D (.lst (acc ++ [v]))) D = some (.lst acc') ∧ acc'.length = i + 1 ∧ ∀ q, q < i + 1 → acc'[q]? = us[q]? ∨ (j < 3 ∧ q = 2 ∧ acc'[q]? = some (.ref tn))) := fun v H5 z'' b5 w5 za zb hv => by
        refine ⟨acc, b5 _ _ ga nDp, Nat.lt_of_le_of_lt (show acc.length ≤ 10 by omega) (by decide), fun b u e nb => ?_, ⟨z'', ?_, by omega, by omega⟩, _, upd_same, by rw [List.length_append, la]; rfl, fun q hq => ?_⟩
        · rw [upd_ne (ne_of_none e hD)]
          exact b5 _ _ (b4 _ _ e nb) nb
        · obtain ⟨x', y', w', bb⟩ := w5
          exact ⟨x', y', (upd_ne (Ne.symm nDp)).trans w', bb⟩
        · by_cases eq : q = i
          · subst eq
            have e9 : (acc ++ [v])[q]? = some v := by rw [← la]; exact List.getElem?_concat_length
            rw [e9]
            rcases hv with hv | ⟨h1, h2, h3⟩
            · exact .inl hv.symm
            · exact .inr ⟨h1, h2, by rw [h3]⟩
          · rw [List.getElem?_append_left (by omega)]
            exact ra q (by omega)
      refine ⟨rfl, ?_⟩
      obtain ⟨d, hd⟩ : ∃ d, (lineD j toldD)[i]? = some d := ⟨_, List.getElem?_eq_getElem (by rw [← dl.len]; omega)⟩
      have dv : Dv (OF K C) H4' d x := Dv.keep U.ok k14 _ _ (DvL.at dl hd ex)
      refine ⟨_, rfl, _, rfl, d, td, kvs, dv, rfl, k14 _ _ gt, ?_⟩
      rcases part_is j j4 i (by omega) d hd with ⟨j3, rfl, rfl⟩ | hn
      · have ex2 : x = .ref td := by
          have := u2 j3
          rw [ex] at this
          exact Option.some.inj this
        refine .inr ⟨ex2, nd, rf, _, rfl, iteC rfl ?_⟩
        refine ⟨_, rfl, pw, 2, z', rfl, w4, by decide, by decide, by omega, by omega, fun d5 z5 H5 d50 d51 z50 z51 w5 b5 => ⟨rfl, _, rfl, ?_⟩⟩
        refine ite2 (fun _ => ?_) fun _ => ?_
        · exact ⟨_, rfl, put _ H5 z5 b5 w5 z50 z51 (.inr ⟨j3, rfl, rfl⟩)⟩
        · exact ⟨_, rfl, put _ H5 z5 b5 w5 z50 z51 (.inl ex)⟩
      · refine .inl ⟨hn, _, rfl, iteN rfl ?_⟩
        exact ⟨_, rfl, put _ H4' z' (fun _ _ e _ => e) w4 (by omega) (by omega) (.inl ex)⟩
    obtain ⟨b4, ⟨z4, w4, z40, z41⟩, acc, ga, la, ra⟩ := h
    have tt := acc_data (K := K) (C := C) (H := H1) la ra dl dn
    obtain ⟨t, ht, da⟩ := tt
    have gl0 : Good (lineD j toldD) := good_line (.inl rfl)
    have gxs : Good (lineD j t) := good_line ht
    have nxs : ∀ d ∈ lineD j t, noI d = true := line_noI ht
    have f3 : eqUL (lineD j toldD) (lineD j t) = true := fin3 j j4 t (by rcases ht with rfl | rfl <;> simp)
    have lax : acc.length = (nsW j).length := da.len.trans (line_len j t)
    have k14 := K5 _ b4
    refine ⟨_, rfl, _, rfl, pw, D, z4, acc, lineD j t, rfl, w4, by omega, by omega, ga, nDp, DvL.keep U.ok k14 _ _ da, by omega, by omega, nxs, fun q us' i o z5 H5 hq hi ho gq dq w5 z50 z51 b5 => ?_⟩
    have b45 : But pw H' H5 := but_trans b4 (fun b u e nb => b5 b u e nb)
    have k15 := K5 _ b45
    have gys : Good ((lineD j t).set i o) := gxs.set ho
    obtain ⟨d0, hd0⟩ : ∃ d, (lineD j t)[i]? = some d := ⟨_, List.getElem?_eq_getElem hi⟩
    obtain ⟨e23, e32⟩ := both ht hd0 ho
    have lqx : us'.length = (nsW j).length := dq.len.trans ((List.length_set ..).trans (line_len j t))
    have wxs := gxs.wt
    have wys := gys.wt
    have wl0 := gl0.wt
    have oxs := gxs.ok
    have oys := gys.ok
    generalize lineD j t = xs at *
    generalize xs.set i o = ys at *
    generalize eB : decide (txt 7 (.lst xs) = txt 7 (.lst ys)) = B at *
    -- three objects
    refine ⟨_, rfl, _, rfl, _, rfl, ln, _, _, _, rfl, rfl, SqL.of (k15 _ _ gln), lat, j, l, us, rfl, j4, k15 _ _ gl, Nat.le_of_eq lus.symm, fun q1 H6 hq1 k6 o1 => ?_⟩
    refine ⟨_, rfl, _, rfl, j, D, acc, rfl, j4, k6 _ _ (b5 _ _ ga nDp), Nat.le_of_eq lax.symm, fun q2 H7 hq2 k7 o2 => ?_⟩
    refine ⟨_, rfl, _, rfl, j, q, us', rfl, j4, k7 _ _ (k6 _ _ gq), Nat.le_of_eq lqx.symm, fun q3 H8 hq3 k8 o3 => ⟨_, _, _, rfl, ?_⟩⟩
    obtain ⟨dx1, o1⟩ := o1
    obtain ⟨dx2, o2⟩ := o2
    obtain ⟨dx3, o3⟩ := o3
    have k58 := Same.trans k6 (Same.trans k7 k8)
    have k18 := Same.trans k15 k58
    have O1 : ObjAt (W.cl j) (nsW j) (OF K C) H8 q1 (lineD j toldD) := obj_of (k8 _ _ (k7 _ _ o1)) lus (DvL.keep U.ok k18 _ _ dl)
    have O2 : ObjAt (W.cl j) (nsW j) (OF K C) H8 q2 xs := obj_of (k8 _ _ o2) lax (DvL.keep U.ok k18 _ _ da)
    have O3 : ObjAt (W.cl j) (nsW j) (OF K C) H8 q3 ys := obj_of o3 lqx (DvL.keep U.ok k58 _ _ dq)
    have gD8 : H8 D = some (.lst acc) := k58 _ _ (b5 _ _ ga nDp)
    have gq8 : H8 q = some (.lst us') := k58 _ _ gq
    have dD8 := DvL.keep U.ok k18 _ _ da
    have dq8 := DvL.keep U.ok k58 _ _ dq
    have w8 := well_same w5 k58
    -- the first tests
    refine ⟨_, rfl, _, rfl, eq4_same EW (neg := false) j4 O1 O2 wl0 wxs fun H9 k9 => ⟨_, rfl, iteN (by simp [f3]) ?_⟩⟩
    refine ⟨_, rfl, _, rfl, eq4_same EW (neg := true) j4 (O1.keep U.ok k9) (O2.keep U.ok k9) wl0 wxs fun H10 k10 => ⟨_, rfl, iteN (by simp [f3]) ?_⟩⟩
    have k810 := Same.trans k9 k10
    obtain ⟨dy2, ws2, p2', l2', d2'⟩ := O2.keep U.ok k810
    refine ⟨_, rfl, _, rfl, j, q2, D, dy2, ws2, acc, xs, xs, rfl, j4, p2', l2', d2', gxs, k810 _ _ gD8, DvL.keep U.ok k810 _ _ dD8, gxs, fun H11 k11 => ⟨_, rfl, iteN (by simp) ?_⟩⟩
    have k811 := Same.trans k810 k11
    obtain ⟨dy3, ws3, p3', l3', d3'⟩ := O3.keep U.ok k811
    refine ⟨_, rfl, _, rfl, j, q3, q, dy3, ws3, us', ys, ys, rfl, j4, p3', l3', d3', gys, k811 _ _ gq8, DvL.keep U.ok k811 _ _ dq8, gys, fun H12 k12 => ⟨_, rfl, iteN (by simp) ?_⟩⟩
    have k812 := Same.trans k811 k12
    -- is_one
    refine ⟨_, rfl, _, .lst xs, rfl, ⟨D, acc, rfl, k812 _ _ gD8, DvL.keep U.ok k812 _ _ dD8⟩, oxs, fun H13 k13 => ?_⟩
    have k813 := Same.trans k812 k13
    refine ⟨_, rfl, _, .lst ys, rfl, ⟨q, us', rfl, k813 _ _ gq8, DvL.keep U.ok k813 _ _ dq8⟩, oys, fun H14 k14' => ⟨rfl, ?_⟩⟩
    have k814 := Same.trans k813 k14'
    have eV : decide (V.str (txt 7 (.lst xs)) = V.str (txt 7 (.lst ys))) = B := by
      rw [← eB, Bool.eq_iff_iff]
      simp
    rw [eV]
    -- the second tests
    refine ⟨_, rfl, _, rfl, eq4_same EW (neg := false) j4 (O2.keep U.ok k814) (O3.keep U.ok k814) wxs wys fun H15 k15' => ⟨_, rfl, rfl, _, rfl, iteN (by simp [e23]) ?_⟩⟩
    have k815 := Same.trans k814 k15'
    refine ⟨_, rfl, _, rfl, eq4_same EW (neg := false) j4 (O3.keep U.ok k815) (O2.keep U.ok k815) wys wxs fun H16 k16 => ⟨_, rfl, rfl, _, rfl, iteN (by simp [e32]) ?_⟩⟩
    have k816 := Same.trans k815 k16
    refine ⟨_, rfl, _, rfl, eq4_same EW (neg := true) j4 (O2.keep U.ok k816) (O3.keep U.ok k816) wxs wys fun H17 k17 => ⟨_, rfl, rfl, _, rfl, iteN (by cases B <;> simp [e23]) ?_⟩⟩
    have k817 := Same.trans k816 k17
    -- the others
    refine ⟨4, rfl, by decide, by decide, fun D2 hD2 => ?_⟩
    refine lc_it (walk_range (lo := 0) (n := 4)) (fun i H' => Same H17 H' ∧ ∃ acc, H' D2 = some (.lst acc) ∧ acc.length ≤ i ∧ i ≤ acc.length + (if j < i then 1 else 0) ∧ ∀ v ∈ acc, ∃ m : Nat, m < 4 ∧ j ≠ m ∧ v = .int m) ⟨sm_upd hD2, [], upd_same, Nat.le_refl _, Nat.zero_le _, fun v h => nomatch h⟩ (fun _ _ _ _ => True.intro) (fun i x Ha Hb hi hq y => ?_) (fun Ha hq => ?_)
    · obtain ⟨ka, acc2, g2, la1, la2, ra2⟩ := hq
      obtain ⟨rfl, ex⟩ := y
      have ex : x = .int (i : Nat) := ex.trans (congrArg V.int (Int.zero_add _))
      subst ex
      refine ⟨rfl, _, rfl, _, rfl, rfl, _, rfl, ?_⟩
      refine ite2 (fun he => ?_) fun he => ?_
      · have nij : j ≠ i := fun e => by simp [e] at he
        refine ⟨_, rfl, acc2, g2, Nat.lt_of_le_of_lt (show acc2.length ≤ 4 by omega) (by decide), fun b u e => ?_, _, upd_same, by rw [List.length_append]; exact Nat.add_le_add_right la1 1, ?_, fun v hv => ?_⟩
        · rw [upd_ne (ne_of_none e hD2)]
          exact ka _ _ e
        · rw [List.length_append, List.length_singleton]
          by_cases h1 : j < i
          · rw [if_pos h1] at la2
            rw [if_pos (by omega)]
            omega
          · rw [if_neg h1] at la2
            omega
        · rcases List.mem_append.mp hv with hv | hv
          · exact ra2 v hv
          · exact ⟨i, hi, nij, List.mem_singleton.mp hv⟩
      · have eij : j = i := Classical.byContradiction fun n => by
          have : ¬ (i : Int) = (j : Int) := by omega
          simp [this] at he
        subst eij
        refine ⟨ka, acc2, g2, by omega, ?_, ra2⟩
        rw [if_neg (by omega)] at la2
        rw [if_pos (by omega)]
        omega
    obtain ⟨ka, acc2, g2, la1, la2, ra2⟩ := hq
    have pos2 : 0 < acc2.length := by
      by_cases h1 : j < 4
      · rw [if_pos h1] at la2
        omega
      · omega
    have k8a := Same.trans k817 ka
    have wa := well_same w8 k8a
    have nD2 : D2 ≠ pw := fun e => by
      obtain ⟨x', y', w', _⟩ := well_same w8 k817
      rw [e, w'] at hD2
      cases hD2
    refine ⟨_, rfl, _, rfl, _, rfl, pw, D2, z5, acc2, rfl, wa, g2, nD2, pos2, by omega, by omega, by omega, fun v z6 Hc hv z60 z61 w6 b6 => ?_⟩
    obtain ⟨m, m4, jm, rfl⟩ := ra2 v hv
    have k1a := Same.trans k18 k8a
    have bto : But pw H' Ha := but_trans b45 (but_same (Same.trans k58 k8a))
    have b4c : But pw H' Hc := but_trans bto (fun b u e nb => b6 b u e nb)
    have k1c := K5 _ b4c
    refine ⟨by show 2 ≤ sizeLine; decide, fun x1 hx1 => ?_⟩
    have t1 := sm_upd (o := .tup [.str "net", .str "a"]) hx1
    generalize upd Hc x1 (.tup [.str "net", .str "a"]) = Hd at t1 ⊢
    refine ⟨by show 1 ≤ sizeLine; decide, fun x2 hx2 => ?_⟩
    have t2 := sm_upd (o := .lst [.ref x1]) hx2
    have e2 : (upd Hd x2 (.lst [.ref x1])) x2 = some (.lst [.ref x1]) := upd_same
    generalize upd Hd x2 (.lst [.ref x1]) = He at t2 e2 ⊢
    refine ⟨x2, 10, [.ref x1], rfl, rfl, e2, by decide, by decide, by show 10 ≤ sizeLine; decide, fun x3 hx3 => ?_⟩
    have t3 := sm_upd (o := .lst (List.replicate (10 : Int).toNat [V.ref x1]).flatten) hx3
    have e3 : (upd He x3 (.lst (List.replicate (10 : Int).toNat [V.ref x1]).flatten)) x3 = some (.lst (List.replicate (10 : Int).toNat [V.ref x1]).flatten) := upd_same
    generalize upd He x3 (.lst (List.replicate (10 : Int).toNat [V.ref x1]).flatten) = Hf at t3 e3 ⊢
    refine ⟨m, x3, _, rfl, m4, e3, (nsW_len m).1, fun q4 Hg hq4 k4 o4 => ?_⟩
    obtain ⟨dx4, o4⟩ := o4
    have tcg := Same.trans t1 (Same.trans t2 (Same.trans t3 k4))
    have O1g : ObjAt (W.cl j) (nsW j) (OF K C) Hg q1 (lineD j toldD) := by
      obtain ⟨dz, wz', p1', l1', d1'⟩ := O1
      have nq1 : q1 ≠ pw := fun e => by
        obtain ⟨x', y', w', _⟩ := w8
        rw [e, w'] at p1'
        cases p1'
      refine obj_of (us := us) (dx := dx1) (tcg _ _ (b6 _ _ (k8a _ _ (k8 _ _ (k7 _ _ o1))) nq1)) lus (DvL.keep U.ok (Same.trans k1c tcg) _ _ dl)
    refine eq4_other EW j4 m4 jm O1g o4 wl0 ⟨_, rfl, iteN rfl ?_⟩
    have gDg : Hg D = some (.lst acc) := tcg _ _ (b6 _ _ (k8a _ _ gD8) nDp)
    refine ⟨_, rfl, _, rfl, eq4_list EW j4 O1g gDg wl0 ⟨_, rfl, iteN rfl ?_⟩⟩
    exact ⟨⟨_, _, _, _, _, _, _, _, _, _, rfl⟩, ⟨z6, well_same w6 tcg, by omega, by omega⟩, but_trans bq (but_trans b4c (but_same tcg))⟩

end
end Da

set_option Elab.async false
set_option linter.all false
set_option maxRecDepth 100000
set_option maxHeartbeats 4000000
/-! binding -/
namespace Da
open PySem PySem.Spec PyProof.Rows L2 Dq Vl Vq Ow Cf Pf
section
variable {K : PySem.W.Frag} {f : Addr} {fd : FuncData} {kws : List (Str × V)}
theorem kb_R (F : FunD K "__init__" "Reading.__init__" (defArgs sIReading) (defBody sIReading) (defScope sIReading) [] kws f fd) (hk : kws ≠ []) : ∃ g, KBn K fd ("self" :: nsReading) 4 ["after"] g (fun vs zs => vs ++ zs) := by
  obtain ⟨mv, h⟩ := F.kbinds0 (ps := "self" :: nsReading) 4 ["after"] [] (fun vs _ zs => vs ++ zs) hk (fun q h => nomatch h) (fun r1 _ r3 => r1.append r3) (fun D doc pm an cdv ct us mv ws h1 h2 h3 => by
    match us, h1, ws, h3 with
    | [_, _, _, _], _, [_], _ => rfl)
  exact ⟨_, h⟩
theorem kb_C (F : FunD K "__init__" "Call.__init__" (defArgs sICall) (defBody sICall) (defScope sICall) [] kws f fd) (hk : kws ≠ []) : ∃ g, KBn K fd ("self" :: nsCall) 4 ["after"] g (fun vs zs => vs ++ zs) := by
  obtain ⟨mv, h⟩ := F.kbinds0 (ps := "self" :: nsCall) 4 ["after"] [] (fun vs _ zs => vs ++ zs) hk (fun q h => nomatch h) (fun r1 _ r3 => r1.append r3) (fun D doc pm an cdv ct us mv ws h1 h2 h3 => by
    match us, h1, ws, h3 with
    | [_, _, _, _], _, [_], _ => rfl)
  exact ⟨_, h⟩
theorem kb_B (F : FunD K "__init__" "Block.__init__" (defArgs sIBlock) (defBody sIBlock) (defScope sIBlock) [] kws f fd) (hk : kws ≠ []) : ∃ g, KBn K fd ("self" :: nsBlock) 4 ["many", "after", "first", "never", "ignored", "replaced_by", "ahead"] g (fun vs zs => vs ++ zs) := by
  obtain ⟨mv, h⟩ := F.kbinds0 (ps := "self" :: nsBlock) 4 ["many", "after", "first", "never", "ignored", "replaced_by", "ahead"] [] (fun vs _ zs => vs ++ zs) hk (fun q h => nomatch h) (fun r1 _ r3 => r1.append r3) (fun D doc pm an cdv ct us mv ws h1 h2 h3 => by
    match us, h1, ws, h3 with
    | [_, _, _, _], _, [_, _, _, _, _, _, _], _ => rfl)
  exact ⟨_, h⟩
theorem b_cfg {t1 t2 t3 t4 t5 t6 : Addr} (F : FunD K "__init__" "Config.__init__" (defArgs sCfg) (defBody sCfg) (defScope sCfg) [] [("params", .ref t1), ("blocks", .ref t2), ("readings", .ref t3), ("calls", .ref t4), ("outputs", .ref t5), ("moves", .ref t6)] f fd) :
    ∃ ds, Vals ([t1, t2, t3, t4, t5, t6].map V.ref) ds ∧ Binds K fd psCfg ds := by
  refine F.binds0 (ps := psCfg) 1 (by simp) rfl (fun D doc pm an cdv ct us ks h1 h2 => ?_)
  match us, h1, ks, h2 with
  | [_], _, [_, _, _, _, _, _], _ =>
    refine ⟨_, _, _, _, _, _, rfl, rfl, ?_⟩
    refine ⟨_, _, _, _, _, _, rfl, rfl, ?_⟩
    refine ⟨_, _, _, _, _, _, rfl, rfl, ?_⟩
    refine ⟨_, _, _, _, _, _, rfl, rfl, ?_⟩
    refine ⟨_, _, _, _, _, _, rfl, rfl, ?_⟩
    refine ⟨_, _, _, _, _, _, rfl, rfl, ?_⟩
    rfl
end
end Da

set_option Elab.async false
set_option linter.all false
set_option maxRecDepth 100000
set_option maxHeartbeats 8000000
namespace Da
open PySem PySem.Spec PyProof.Rows L2 Dq Vl Vq Ow Cf Pf
theorem kitT_of {K : PySem.W.Frag} {C : Addr} {T : String} (h : PySem.W.mroIn K C (.type T) = some false) (e : PySem.W.kitMeta T = true) : PySem.W.kitOne K (.ref C) (.type T) = some false := by
  show (if ((Value.ref C) == Value.type T) = true then some true else if PySem.W.kitMeta T = true then PySem.W.subIn K (.ref C) (.type T) else none) = some false
  rw [if_neg (by intro z; cases z), if_pos e]
  exact h
theorem kitU_of {K : PySem.W.Frag} {C : Addr} {T : String} (c : PySem.W.isClsIn K C = true) (t : PySem.W.typeIn K (.ref C) = some (.type "type")) (h : PySem.W.subIn K (.type T) (.ref C) = some false) : PySem.W.kitOne K (.type T) (.ref C) = some false := by
  have e1 : ((PySem.W.clsIn K C).isSome && PySem.W.typeIn K (.ref C) == some (.type "type")) = true := by rw [show (PySem.W.clsIn K C).isSome = true from c, t]; rfl
  show (if ((Value.type T) == Value.ref C) = true then some true else if ((PySem.W.clsIn K C).isSome && PySem.W.typeIn K (.ref C) == some (.type "type")) = true then PySem.W.subIn K (.type T) (.ref C) else none) = some false
  rw [if_neg (by intro z; cases z), if_pos e1]
  exact h
theorem kitC_of {K : PySem.W.Frag} {C D : Addr} (n : C ≠ D) (c : PySem.W.isClsIn K D = true) (t : PySem.W.typeIn K (.ref D) = some (.type "type")) (h : PySem.W.subIn K (.ref C) (.ref D) = some false) : PySem.W.kitOne K (.ref C) (.ref D) = some false := by
  have e1 : ((PySem.W.clsIn K D).isSome && PySem.W.typeIn K (.ref D) == some (.type "type")) = true := by rw [show (PySem.W.clsIn K D).isSome = true from c, t]; rfl
  show (if ((Value.ref C) == Value.ref D) = true then some true else if ((PySem.W.clsIn K D).isSome && PySem.W.typeIn K (.ref D) == some (.type "type")) = true then PySem.W.subIn K (.ref C) (.ref D) else none) = some false
  rw [if_neg (by intro z; exact n (Value.ref.inj (beq_iff_eq.mp z))), if_pos e1]
  exact h
theorem kitS_of {K : PySem.W.Frag} {C : Addr} : PySem.W.kitOne K (.ref C) (.ref C) = some true := by unfold PySem.W.kitOne; rw [if_pos (beq_self_eq_true _)]
theorem nf_of {K : PySem.W.Frag} {C D : Addr} (h : PySem.W.subIn K (.ref D) (.ref C) = some false) : PySem.W.notFirst K C (.ref D) = true := Bool.or_eq_true_iff.mpr (.inr (beq_iff_eq.mpr h))
theorem nf_self {K : PySem.W.Frag} {C : Addr} : PySem.W.notFirst K C (.ref C) = true := Bool.or_eq_true_iff.mpr (.inl (beq_self_eq_true _))
theorem sqt_k {K : PySem.W.Frag} {T : Addr} {od : Option Addr} {n : Nat} {sl : Array (Option Value)} (h : K.lookup T = some ⟨.type "tuple", od, .seq #[] n, sl⟩) (H : Hp) : SqT K H T [] := .inr ⟨_, _, _, h, rfl, rfl, Nat.zero_le _, .nil⟩
theorem all_mk {l : PySem.W.OpenLaw} {w : World} {K : PySem.W.Frag} {h : Heap} {mg : Str → Option Value} {fa cB cR cC cM cF fEq fPod fUnl fWro fPar fBlo fRea fCal fOut fMov fMix fRng fWel fDrw fOne fChg fTxt fLBl fKep fMad fLaw fPB fPR fPC fPM fPF fVE fIM fIB fIR fIC fIF DB DR DC DF TR TC T1 T2 T3 T4 T5 T6 : Addr} (X : K.In h) (G : h.Ns mainGlobals mg) (hfa : mg "law" = some (.ref fa))
    {odEq anEq odPod anPod odUnl anUnl odWro anWro odPar anPar odBlo anBlo odRea anRea odCal anCal odOut anOut odMov anMov odMix anMix odRng anRng odWel anWel odDrw anDrw odOne anOne odChg anChg odTxt anTxt odLBl anLBl odKep anKep odMad anMad odLaw anLaw odPB anPB odPR anPR odPC anPC odPM anPM odPF anPF odVE anVE odIM anIM odIB anIB odIR anIR odIC anIC odIF anIF odT1 odT2 odT3 odT4 odT5 odT6 : Option Addr} {slEq slPod slUnl slWro slPar slBlo slRea slCal slOut slMov slMix slRng slWel slDrw slOne slChg slTxt slLBl slKep slMad slLaw slPB slPR slPC slPM slPF slVE slIM slIB slIR slIC slIF slT1 slT2 slT3 slT4 slT5 slT6 : Array (Option Value)} {ocEq kVEq dcEq pmEq cdEq ctEq ocPod kVPod dcPod pmPod cdPod ctPod ocUnl kVUnl dcUnl pmUnl cdUnl ctUnl ocWro kVWro dcWro pmWro cdWro ctWro ocPar kVPar dcPar pmPar cdPar ctPar ocBlo kVBlo dcBlo pmBlo cdBlo ctBlo ocRea kVRea dcRea pmRea cdRea ctRea ocCal kVCal dcCal pmCal cdCal ctCal ocOut kVOut dcOut pmOut cdOut ctOut ocMov kVMov dcMov pmMov cdMov ctMov ocMix kVMix dcMix pmMix cdMix ctMix ocRng kVRng dcRng pmRng cdRng ctRng ocWel kVWel dcWel pmWel cdWel ctWel ocDrw kVDrw dcDrw pmDrw cdDrw ctDrw ocOne kVOne dcOne pmOne cdOne ctOne ocChg kVChg dcChg pmChg cdChg ctChg ocTxt kVTxt dcTxt pmTxt cdTxt ctTxt ocLBl kVLBl dcLBl pmLBl cdLBl ctLBl ocKep kVKep dcKep pmKep cdKep ctKep ocMad kVMad dcMad pmMad cdMad ctMad ocLaw kVLaw dcLaw pmLaw cdLaw ctLaw ocPB kVPB dcPB pmPB cdPB ctPB ocPR kVPR dcPR pmPR cdPR ctPR ocPC kVPC dcPC pmPC cdPC ctPC ocPM kVPM dcPM pmPM cdPM ctPM ocPF kVPF dcPF pmPF cdPF ctPF ocVE kVVE dcVE pmVE cdVE ctVE ocIM kVIM dcIM pmIM cdIM ctIM ocIB dcIB pmIB cdIB ctIB ocIR dcIR pmIR cdIR ctIR ocIC dcIC pmIC cdIC ctIC ocIF dcIF pmIF cdIF ctIF : Value}
    {nT1 nT2 nT3 nT4 nT5 nT6 : Nat}
    (aEq : PySem.W.nsIn K mainGlobals "equal" = some (some (.ref fEq)))
    (lEq : K.lookup fEq = some ⟨ocEq, odEq, .func (PySem.W.fnOf "equal" "equal" (defArgs Dq.sEqual) (defBody Dq.sEqual) (defScope Dq.sEqual) .none kVEq dcEq pmEq anEq cdEq ctEq), slEq⟩)
    (cEq : PySem.W.codeIn K cdEq "equal" = true)
    (kEq : PySem.W.keepIn K (.ref fEq) = true)
    (aPod : PySem.W.nsIn K mainGlobals "_pairs_of_dicts" = some (some (.ref fPod)))
    (lPod : K.lookup fPod = some ⟨ocPod, odPod, .func (PySem.W.fnOf "_pairs_of_dicts" "_pairs_of_dicts" (defArgs Dq.sPod) (defBody Dq.sPod) (defScope Dq.sPod) .none kVPod dcPod pmPod anPod cdPod ctPod), slPod⟩)
    (cPod : PySem.W.codeIn K cdPod "_pairs_of_dicts" = true)
    (kPod : PySem.W.keepIn K (.ref fPod) = true)
    (aUnl : PySem.W.nsIn K mainGlobals "are_unlike" = some (some (.ref fUnl)))
    (lUnl : K.lookup fUnl = some ⟨ocUnl, odUnl, .func (PySem.W.fnOf "are_unlike" "are_unlike" (defArgs Cf.sUnl) (defBody Cf.sUnl) (defScope Cf.sUnl) .none kVUnl dcUnl pmUnl anUnl cdUnl ctUnl), slUnl⟩)
    (cUnl : PySem.W.codeIn K cdUnl "are_unlike" = true)
    (kUnl : PySem.W.keepIn K (.ref fUnl) = true)
    (aWro : PySem.W.nsIn K mainGlobals "_wrong_part" = some (some (.ref fWro)))
    (lWro : K.lookup fWro = some ⟨ocWro, odWro, .func (PySem.W.fnOf "_wrong_part" "_wrong_part" (defArgs Cf.sWro) (defBody Cf.sWro) (defScope Cf.sWro) .none kVWro dcWro pmWro anWro cdWro ctWro), slWro⟩)
    (cWro : PySem.W.codeIn K cdWro "_wrong_part" = true)
    (kWro : PySem.W.keepIn K (.ref fWro) = true)
    (aPar : PySem.W.nsIn K mainGlobals "_are_params" = some (some (.ref fPar)))
    (lPar : K.lookup fPar = some ⟨ocPar, odPar, .func (PySem.W.fnOf "_are_params" "_are_params" (defArgs Cf.sPar) (defBody Cf.sPar) (defScope Cf.sPar) .none kVPar dcPar pmPar anPar cdPar ctPar), slPar⟩)
    (cPar : PySem.W.codeIn K cdPar "_are_params" = true)
    (kPar : PySem.W.keepIn K (.ref fPar) = true)
    (aBlo : PySem.W.nsIn K mainGlobals "_are_blocks" = some (some (.ref fBlo)))
    (lBlo : K.lookup fBlo = some ⟨ocBlo, odBlo, .func (PySem.W.fnOf "_are_blocks" "_are_blocks" (defArgs Cf.sBlo) (defBody Cf.sBlo) (defScope Cf.sBlo) .none kVBlo dcBlo pmBlo anBlo cdBlo ctBlo), slBlo⟩)
    (cBlo : PySem.W.codeIn K cdBlo "_are_blocks" = true)
    (kBlo : PySem.W.keepIn K (.ref fBlo) = true)
    (aRea : PySem.W.nsIn K mainGlobals "_are_readings" = some (some (.ref fRea)))
    (lRea : K.lookup fRea = some ⟨ocRea, odRea, .func (PySem.W.fnOf "_are_readings" "_are_readings" (defArgs Cf.sRea) (defBody Cf.sRea) (defScope Cf.sRea) .none kVRea dcRea pmRea anRea cdRea ctRea), slRea⟩)
    (cRea : PySem.W.codeIn K cdRea "_are_readings" = true)
    (kRea : PySem.W.keepIn K (.ref fRea) = true)
    (aCal : PySem.W.nsIn K mainGlobals "_are_calls" = some (some (.ref fCal)))
    (lCal : K.lookup fCal = some ⟨ocCal, odCal, .func (PySem.W.fnOf "_are_calls" "_are_calls" (defArgs Cf.sCal) (defBody Cf.sCal) (defScope Cf.sCal) .none kVCal dcCal pmCal anCal cdCal ctCal), slCal⟩)
    (cCal : PySem.W.codeIn K cdCal "_are_calls" = true)
    (kCal : PySem.W.keepIn K (.ref fCal) = true)
    (aOut : PySem.W.nsIn K mainGlobals "_are_outputs" = some (some (.ref fOut)))
    (lOut : K.lookup fOut = some ⟨ocOut, odOut, .func (PySem.W.fnOf "_are_outputs" "_are_outputs" (defArgs Cf.sOut) (defBody Cf.sOut) (defScope Cf.sOut) .none kVOut dcOut pmOut anOut cdOut ctOut), slOut⟩)
    (cOut : PySem.W.codeIn K cdOut "_are_outputs" = true)
    (kOut : PySem.W.keepIn K (.ref fOut) = true)
    (aMov : PySem.W.nsIn K mainGlobals "_are_moves" = some (some (.ref fMov)))
    (lMov : K.lookup fMov = some ⟨ocMov, odMov, .func (PySem.W.fnOf "_are_moves" "_are_moves" (defArgs Cf.sMov) (defBody Cf.sMov) (defScope Cf.sMov) .none kVMov dcMov pmMov anMov cdMov ctMov), slMov⟩)
    (cMov : PySem.W.codeIn K cdMov "_are_moves" = true)
    (kMov : PySem.W.keepIn K (.ref fMov) = true)
    (aMix : PySem.W.nsIn K mainGlobals "_are_mixed" = some (some (.ref fMix)))
    (lMix : K.lookup fMix = some ⟨ocMix, odMix, .func (PySem.W.fnOf "_are_mixed" "_are_mixed" (defArgs Cf.sMix) (defBody Cf.sMix) (defScope Cf.sMix) .none kVMix dcMix pmMix anMix cdMix ctMix), slMix⟩)
    (cMix : PySem.W.codeIn K cdMix "_are_mixed" = true)
    (kMix : PySem.W.keepIn K (.ref fMix) = true)
    (aRng : PySem.W.nsIn K mainGlobals "_are_ringed" = some (some (.ref fRng)))
    (lRng : K.lookup fRng = some ⟨ocRng, odRng, .func (PySem.W.fnOf "_are_ringed" "_are_ringed" (defArgs Cf.sRng) (defBody Cf.sRng) (defScope Cf.sRng) .none kVRng dcRng pmRng anRng cdRng ctRng), slRng⟩)
    (cRng : PySem.W.codeIn K cdRng "_are_ringed" = true)
    (kRng : PySem.W.keepIn K (.ref fRng) = true)
    (aWel : PySem.W.nsIn K mainGlobals "_law_well" = some (some (.ref fWel)))
    (lWel : K.lookup fWel = some ⟨ocWel, odWel, .func (PySem.W.fnOf "_law_well" "_law_well" (defArgs Pf.sWell) (defBody Pf.sWell) (defScope Pf.sWell) .none kVWel dcWel pmWel anWel cdWel ctWel), slWel⟩)
    (cWel : PySem.W.codeIn K cdWel "_law_well" = true)
    (kWel : PySem.W.keepIn K (.ref fWel) = true)
    (aDrw : PySem.W.nsIn K mainGlobals "_law_draw" = some (some (.ref fDrw)))
    (lDrw : K.lookup fDrw = some ⟨ocDrw, odDrw, .func (PySem.W.fnOf "_law_draw" "_law_draw" (defArgs Pf.sDraw) (defBody Pf.sDraw) (defScope Pf.sDraw) .none kVDrw dcDrw pmDrw anDrw cdDrw ctDrw), slDrw⟩)
    (cDrw : PySem.W.codeIn K cdDrw "_law_draw" = true)
    (kDrw : PySem.W.keepIn K (.ref fDrw) = true)
    (aOne : PySem.W.nsIn K mainGlobals "_law_one" = some (some (.ref fOne)))
    (lOne : K.lookup fOne = some ⟨ocOne, odOne, .func (PySem.W.fnOf "_law_one" "_law_one" (defArgs Pf.sOne) (defBody Pf.sOne) (defScope Pf.sOne) .none kVOne dcOne pmOne anOne cdOne ctOne), slOne⟩)
    (cOne : PySem.W.codeIn K cdOne "_law_one" = true)
    (kOne : PySem.W.keepIn K (.ref fOne) = true)
    (aChg : PySem.W.nsIn K mainGlobals "_law_changed" = some (some (.ref fChg)))
    (lChg : K.lookup fChg = some ⟨ocChg, odChg, .func (PySem.W.fnOf "_law_changed" "_law_changed" (defArgs Da.sChg) (defBody Da.sChg) (defScope Da.sChg) .none kVChg dcChg pmChg anChg cdChg ctChg), slChg⟩)
    (cChg : PySem.W.codeIn K cdChg "_law_changed" = true)
    (kChg : PySem.W.keepIn K (.ref fChg) = true)
    (aTxt : PySem.W.nsIn K mainGlobals "_law_sorted_text" = some (some (.ref fTxt)))
    (lTxt : K.lookup fTxt = some ⟨ocTxt, odTxt, .func (PySem.W.fnOf "_law_sorted_text" "_law_sorted_text" (defArgs Da.sTxt) (defBody Da.sTxt) (defScope Da.sTxt) .none kVTxt dcTxt pmTxt anTxt cdTxt ctTxt), slTxt⟩)
    (cTxt : PySem.W.codeIn K cdTxt "_law_sorted_text" = true)
    (kTxt : PySem.W.keepIn K (.ref fTxt) = true)
    (aLBl : PySem.W.nsIn K mainGlobals "_law_block" = some (some (.ref fLBl)))
    (lLBl : K.lookup fLBl = some ⟨ocLBl, odLBl, .func (PySem.W.fnOf "_law_block" "_law_block" (defArgs Da.sLBlock) (defBody Da.sLBlock) (defScope Da.sLBlock) .none kVLBl dcLBl pmLBl anLBl cdLBl ctLBl), slLBl⟩)
    (cLBl : PySem.W.codeIn K cdLBl "_law_block" = true)
    (kLBl : PySem.W.keepIn K (.ref fLBl) = true)
    (aKep : PySem.W.nsIn K mainGlobals "_law_kept" = some (some (.ref fKep)))
    (lKep : K.lookup fKep = some ⟨ocKep, odKep, .func (PySem.W.fnOf "_law_kept" "_law_kept" (defArgs Da.sKept) (defBody Da.sKept) (defScope Da.sKept) .none kVKep dcKep pmKep anKep cdKep ctKep), slKep⟩)
    (cKep : PySem.W.codeIn K cdKep "_law_kept" = true)
    (kKep : PySem.W.keepIn K (.ref fKep) = true)
    (aMad : PySem.W.nsIn K mainGlobals "_law_made" = some (some (.ref fMad)))
    (lMad : K.lookup fMad = some ⟨ocMad, odMad, .func (PySem.W.fnOf "_law_made" "_law_made" (defArgs Da.sMade) (defBody Da.sMade) (defScope Da.sMade) .none kVMad dcMad pmMad anMad cdMad ctMad), slMad⟩)
    (cMad : PySem.W.codeIn K cdMad "_law_made" = true)
    (kMad : PySem.W.keepIn K (.ref fMad) = true)
    (aLaw : PySem.W.nsIn K mainGlobals "law" = some (some (.ref fLaw)))
    (lLaw : K.lookup fLaw = some ⟨ocLaw, odLaw, .func (PySem.W.fnOf "law" "law" (defArgs Da.sLaw) (defBody Da.sLaw) (defScope Da.sLaw) .none kVLaw dcLaw pmLaw anLaw cdLaw ctLaw), slLaw⟩)
    (cLaw : PySem.W.codeIn K cdLaw "law" = true)
    (kLaw : PySem.W.keepIn K (.ref fLaw) = true)
    (z_isinstance : PySem.W.nsIn K mainGlobals "isinstance" = some none)
    (z_len : PySem.W.nsIn K mainGlobals "len" = some none)
    (z_int : PySem.W.nsIn K mainGlobals "int" = some none)
    (z_dict : PySem.W.nsIn K mainGlobals "dict" = some none)
    (z_tuple : PySem.W.nsIn K mainGlobals "tuple" = some none)
    (z_list : PySem.W.nsIn K mainGlobals "list" = some none)
    (z_all : PySem.W.nsIn K mainGlobals "all" = some none)
    (z_any : PySem.W.nsIn K mainGlobals "any" = some none)
    (z_set : PySem.W.nsIn K mainGlobals "set" = some none)
    (z_range : PySem.W.nsIn K mainGlobals "range" = some none)
    (z_sorted : PySem.W.nsIn K mainGlobals "sorted" = some none)
    (z_repr : PySem.W.nsIn K mainGlobals "repr" = some none)
    (z_zip : PySem.W.nsIn K mainGlobals "zip" = some none)
    (z_type : PySem.W.nsIn K mainGlobals "type" = some none)
    (acB : PySem.W.nsIn K mainGlobals "Block" = some (some (.ref cB)))
    (pgcB : PySem.W.plainGet K cB Str.empty = true)
    (hdcB : PySem.W.hasDictIn K cB = true)
    (pocB : PySem.W.plainOver K cB = true)
    (sacB : PySem.W.findIn K (.ref cB) "__setattr__" = some (some (.builtin "object.__setattr__")))
    (hacB : PySem.W.findIn K (.ref cB) "__class__" = some (some (.builtin "object.__class__")))
    (hmcB : PySem.W.mroIn K cB (.type "object") = some true)
    (mkcB : PySem.W.makesIn K cB = true)
    (kccB : PySem.W.keepIn K (.ref cB) = true)
    (iccB : PySem.W.isClsIn K cB = true)
    (tycB : PySem.W.typeIn K (.ref cB) = some (.type "type"))
    (necB : PySem.W.findIn K (.ref cB) "__ne__" = some (some (.builtin "object.__ne__")))
    (ncB_kind : PySem.W.findIn K (.ref cB) "kind" = some none)
    (ncB_name : PySem.W.findIn K (.ref cB) "name" = some none)
    (ncB_attributes : PySem.W.findIn K (.ref cB) "attributes" = some none)
    (ncB_many : PySem.W.findIn K (.ref cB) "many" = some none)
    (ncB_after : PySem.W.findIn K (.ref cB) "after" = some none)
    (ncB_first : PySem.W.findIn K (.ref cB) "first" = some none)
    (ncB_never : PySem.W.findIn K (.ref cB) "never" = some none)
    (ncB_ignored : PySem.W.findIn K (.ref cB) "ignored" = some none)
    (ncB_replaced_by : PySem.W.findIn K (.ref cB) "replaced_by" = some none)
    (ncB_ahead : PySem.W.findIn K (.ref cB) "ahead" = some none)
    (acR : PySem.W.nsIn K mainGlobals "Reading" = some (some (.ref cR)))
    (pgcR : PySem.W.plainGet K cR Str.empty = true)
    (hdcR : PySem.W.hasDictIn K cR = true)
    (pocR : PySem.W.plainOver K cR = true)
    (sacR : PySem.W.findIn K (.ref cR) "__setattr__" = some (some (.builtin "object.__setattr__")))
    (hacR : PySem.W.findIn K (.ref cR) "__class__" = some (some (.builtin "object.__class__")))
    (hmcR : PySem.W.mroIn K cR (.type "object") = some true)
    (mkcR : PySem.W.makesIn K cR = true)
    (kccR : PySem.W.keepIn K (.ref cR) = true)
    (iccR : PySem.W.isClsIn K cR = true)
    (tycR : PySem.W.typeIn K (.ref cR) = some (.type "type"))
    (necR : PySem.W.findIn K (.ref cR) "__ne__" = some (some (.builtin "object.__ne__")))
    (ncR_kind : PySem.W.findIn K (.ref cR) "kind" = some none)
    (ncR_name : PySem.W.findIn K (.ref cR) "name" = some none)
    (ncR_question : PySem.W.findIn K (.ref cR) "question" = some none)
    (ncR_after : PySem.W.findIn K (.ref cR) "after" = some none)
    (eqcR : PySem.W.findIn K (.ref cR) "__eq__" = some (some (.ref fVE)))
    (acC : PySem.W.nsIn K mainGlobals "Call" = some (some (.ref cC)))
    (pgcC : PySem.W.plainGet K cC Str.empty = true)
    (hdcC : PySem.W.hasDictIn K cC = true)
    (pocC : PySem.W.plainOver K cC = true)
    (sacC : PySem.W.findIn K (.ref cC) "__setattr__" = some (some (.builtin "object.__setattr__")))
    (hacC : PySem.W.findIn K (.ref cC) "__class__" = some (some (.builtin "object.__class__")))
    (hmcC : PySem.W.mroIn K cC (.type "object") = some true)
    (mkcC : PySem.W.makesIn K cC = true)
    (kccC : PySem.W.keepIn K (.ref cC) = true)
    (iccC : PySem.W.isClsIn K cC = true)
    (tycC : PySem.W.typeIn K (.ref cC) = some (.type "type"))
    (necC : PySem.W.findIn K (.ref cC) "__ne__" = some (some (.builtin "object.__ne__")))
    (ncC_name : PySem.W.findIn K (.ref cC) "name" = some none)
    (ncC_config : PySem.W.findIn K (.ref cC) "config" = some none)
    (ncC_arguments : PySem.W.findIn K (.ref cC) "arguments" = some none)
    (ncC_after : PySem.W.findIn K (.ref cC) "after" = some none)
    (eqcC : PySem.W.findIn K (.ref cC) "__eq__" = some (some (.ref fVE)))
    (acM : PySem.W.nsIn K mainGlobals "Move" = some (some (.ref cM)))
    (pgcM : PySem.W.plainGet K cM Str.empty = true)
    (hdcM : PySem.W.hasDictIn K cM = true)
    (pocM : PySem.W.plainOver K cM = true)
    (sacM : PySem.W.findIn K (.ref cM) "__setattr__" = some (some (.builtin "object.__setattr__")))
    (hacM : PySem.W.findIn K (.ref cM) "__class__" = some (some (.builtin "object.__class__")))
    (hmcM : PySem.W.mroIn K cM (.type "object") = some true)
    (mkcM : PySem.W.makesIn K cM = true)
    (kccM : PySem.W.keepIn K (.ref cM) = true)
    (iccM : PySem.W.isClsIn K cM = true)
    (tycM : PySem.W.typeIn K (.ref cM) = some (.type "type"))
    (necM : PySem.W.findIn K (.ref cM) "__ne__" = some (some (.builtin "object.__ne__")))
    (ncM_old : PySem.W.findIn K (.ref cM) "old" = some none)
    (ncM_new : PySem.W.findIn K (.ref cM) "new" = some none)
    (eqcM : PySem.W.findIn K (.ref cM) "__eq__" = some (some (.ref fVE)))
    (acF : PySem.W.nsIn K mainGlobals "Config" = some (some (.ref cF)))
    (pgcF : PySem.W.plainGet K cF Str.empty = true)
    (hdcF : PySem.W.hasDictIn K cF = true)
    (pocF : PySem.W.plainOver K cF = true)
    (sacF : PySem.W.findIn K (.ref cF) "__setattr__" = some (some (.builtin "object.__setattr__")))
    (hacF : PySem.W.findIn K (.ref cF) "__class__" = some (some (.builtin "object.__class__")))
    (hmcF : PySem.W.mroIn K cF (.type "object") = some true)
    (mkcF : PySem.W.makesIn K cF = true)
    (kccF : PySem.W.keepIn K (.ref cF) = true)
    (iccF : PySem.W.isClsIn K cF = true)
    (tycF : PySem.W.typeIn K (.ref cF) = some (.type "type"))
    (necF : PySem.W.findIn K (.ref cF) "__ne__" = some (some (.builtin "object.__ne__")))
    (ncF_params : PySem.W.findIn K (.ref cF) "params" = some none)
    (ncF_blocks : PySem.W.findIn K (.ref cF) "blocks" = some none)
    (ncF_readings : PySem.W.findIn K (.ref cF) "readings" = some none)
    (ncF_calls : PySem.W.findIn K (.ref cF) "calls" = some none)
    (ncF_outputs : PySem.W.findIn K (.ref cF) "outputs" = some none)
    (ncF_moves : PySem.W.findIn K (.ref cF) "moves" = some none)
    (eqcF : PySem.W.findIn K (.ref cF) "__eq__" = some (some (.ref fVE)))
    (hn : PySem.W.specialIn K (.builtin "object.__class__") "__get__" = some (some (.builtin "getset_descriptor.__get__")))
    (htk : PySem.W.takesIn K (.builtin "object.__class__") = some true)
    (mT_list : PySem.W.mroIn K cF (.type "list") = some false)
    (mT_dict : PySem.W.mroIn K cF (.type "dict") = some false)
    (mT_tuple : PySem.W.mroIn K cF (.type "tuple") = some false)
    (sU_NoneType : PySem.W.subIn K (.type "NoneType") (.ref cF) = some false)
    (sU_bool : PySem.W.subIn K (.type "bool") (.ref cF) = some false)
    (sU_int : PySem.W.subIn K (.type "int") (.ref cF) = some false)
    (sU_str : PySem.W.subIn K (.type "str") (.ref cF) = some false)
    (sU_tuple : PySem.W.subIn K (.type "tuple") (.ref cF) = some false)
    (sU_list : PySem.W.subIn K (.type "list") (.ref cF) = some false)
    (sU_dict : PySem.W.subIn K (.type "dict") (.ref cF) = some false)
    (sBR : PySem.W.subIn K (.ref cB) (.ref cR) = some false)
    (dBR : cB ≠ cR)
    (sBC : PySem.W.subIn K (.ref cB) (.ref cC) = some false)
    (dBC : cB ≠ cC)
    (sBM : PySem.W.subIn K (.ref cB) (.ref cM) = some false)
    (dBM : cB ≠ cM)
    (sRB : PySem.W.subIn K (.ref cR) (.ref cB) = some false)
    (dRB : cR ≠ cB)
    (sRC : PySem.W.subIn K (.ref cR) (.ref cC) = some false)
    (dRC : cR ≠ cC)
    (sRM : PySem.W.subIn K (.ref cR) (.ref cM) = some false)
    (dRM : cR ≠ cM)
    (sCB : PySem.W.subIn K (.ref cC) (.ref cB) = some false)
    (dCB : cC ≠ cB)
    (sCR : PySem.W.subIn K (.ref cC) (.ref cR) = some false)
    (dCR : cC ≠ cR)
    (sCM : PySem.W.subIn K (.ref cC) (.ref cM) = some false)
    (dCM : cC ≠ cM)
    (sMB : PySem.W.subIn K (.ref cM) (.ref cB) = some false)
    (dMB : cM ≠ cB)
    (sMR : PySem.W.subIn K (.ref cM) (.ref cR) = some false)
    (dMR : cM ≠ cR)
    (sMC : PySem.W.subIn K (.ref cM) (.ref cC) = some false)
    (dMC : cM ≠ cC)
    (aPB : PySem.W.findIn K (.ref cB) "parts" = some (some (.ref fPB)))
    (iPB : PySem.W.isFn K (.ref fPB) = true)
    (lPB : K.lookup fPB = some ⟨ocPB, odPB, .func (PySem.W.fnOf "parts" "Block.parts" (defArgs Vq.sPBlock) (defBody Vq.sPBlock) (defScope Vq.sPBlock) .none kVPB dcPB pmPB anPB cdPB ctPB), slPB⟩)
    (cPB : PySem.W.codeIn K cdPB "Block.parts" = true)
    (kPB : PySem.W.keepIn K (.ref fPB) = true)
    (aPR : PySem.W.findIn K (.ref cR) "parts" = some (some (.ref fPR)))
    (iPR : PySem.W.isFn K (.ref fPR) = true)
    (lPR : K.lookup fPR = some ⟨ocPR, odPR, .func (PySem.W.fnOf "parts" "Reading.parts" (defArgs Vq.sPReading) (defBody Vq.sPReading) (defScope Vq.sPReading) .none kVPR dcPR pmPR anPR cdPR ctPR), slPR⟩)
    (cPR : PySem.W.codeIn K cdPR "Reading.parts" = true)
    (kPR : PySem.W.keepIn K (.ref fPR) = true)
    (aPC : PySem.W.findIn K (.ref cC) "parts" = some (some (.ref fPC)))
    (iPC : PySem.W.isFn K (.ref fPC) = true)
    (lPC : K.lookup fPC = some ⟨ocPC, odPC, .func (PySem.W.fnOf "parts" "Call.parts" (defArgs Vq.sPCall) (defBody Vq.sPCall) (defScope Vq.sPCall) .none kVPC dcPC pmPC anPC cdPC ctPC), slPC⟩)
    (cPC : PySem.W.codeIn K cdPC "Call.parts" = true)
    (kPC : PySem.W.keepIn K (.ref fPC) = true)
    (aPM : PySem.W.findIn K (.ref cM) "parts" = some (some (.ref fPM)))
    (iPM : PySem.W.isFn K (.ref fPM) = true)
    (lPM : K.lookup fPM = some ⟨ocPM, odPM, .func (PySem.W.fnOf "parts" "Move.parts" (defArgs Vq.sPMove) (defBody Vq.sPMove) (defScope Vq.sPMove) .none kVPM dcPM pmPM anPM cdPM ctPM), slPM⟩)
    (cPM : PySem.W.codeIn K cdPM "Move.parts" = true)
    (kPM : PySem.W.keepIn K (.ref fPM) = true)
    (aPF : PySem.W.findIn K (.ref cF) "parts" = some (some (.ref fPF)))
    (iPF : PySem.W.isFn K (.ref fPF) = true)
    (lPF : K.lookup fPF = some ⟨ocPF, odPF, .func (PySem.W.fnOf "parts" "Config.parts" (defArgs Vq.sPConfig) (defBody Vq.sPConfig) (defScope Vq.sPConfig) .none kVPF dcPF pmPF anPF cdPF ctPF), slPF⟩)
    (cPF : PySem.W.codeIn K cdPF "Config.parts" = true)
    (kPF : PySem.W.keepIn K (.ref fPF) = true)
    (aVE : PySem.W.findIn K (.ref cB) "__eq__" = some (some (.ref fVE)))
    (iVE : PySem.W.isFn K (.ref fVE) = true)
    (lVE : K.lookup fVE = some ⟨ocVE, odVE, .func (PySem.W.fnOf "__eq__" "Valued.__eq__" (defArgs Vq.sVEq) (defBody Vq.sVEq) (defScope Vq.sVEq) .none kVVE dcVE pmVE anVE cdVE ctVE), slVE⟩)
    (cVE : PySem.W.codeIn K cdVE "Valued.__eq__" = true)
    (kVE : PySem.W.keepIn K (.ref fVE) = true)
    (aIM : PySem.W.findIn K (.ref cM) "__init__" = some (some (.ref fIM)))
    (iIM : PySem.W.isFn K (.ref fIM) = true)
    (lIM : K.lookup fIM = some ⟨ocIM, odIM, .func (PySem.W.fnOf "__init__" "Move.__init__" (defArgs Vq.sIMove) (defBody Vq.sIMove) (defScope Vq.sIMove) .none kVIM dcIM pmIM anIM cdIM ctIM), slIM⟩)
    (cIM : PySem.W.codeIn K cdIM "Move.__init__" = true)
    (kIM : PySem.W.keepIn K (.ref fIM) = true)
    (aIB : PySem.W.findIn K (.ref cB) "__init__" = some (some (.ref fIB)))
    (iIB : PySem.W.isFn K (.ref fIB) = true)
    (lIB : K.lookup fIB = some ⟨ocIB, odIB, .func (PySem.W.fnOf "__init__" "Block.__init__" (defArgs Vq.sIBlock) (defBody Vq.sIBlock) (defScope Vq.sIBlock) .none (.ref DB) dcIB pmIB anIB cdIB ctIB), slIB⟩)
    (cIB : PySem.W.codeIn K cdIB "Block.__init__" = true)
    (kIB : PySem.W.keepIn K (.ref fIB) = true)
    (vIB_first : PySem.W.nsIn K DB "first" = some (some (.bool false)))
    (aIR : PySem.W.findIn K (.ref cR) "__init__" = some (some (.ref fIR)))
    (iIR : PySem.W.isFn K (.ref fIR) = true)
    (lIR : K.lookup fIR = some ⟨ocIR, odIR, .func (PySem.W.fnOf "__init__" "Reading.__init__" (defArgs Vq.sIReading) (defBody Vq.sIReading) (defScope Vq.sIReading) .none (.ref DR) dcIR pmIR anIR cdIR ctIR), slIR⟩)
    (cIR : PySem.W.codeIn K cdIR "Reading.__init__" = true)
    (kIR : PySem.W.keepIn K (.ref fIR) = true)
    (vIR_after : PySem.W.nsIn K DR "after" = some (some (.ref TR)))
    (aIC : PySem.W.findIn K (.ref cC) "__init__" = some (some (.ref fIC)))
    (iIC : PySem.W.isFn K (.ref fIC) = true)
    (lIC : K.lookup fIC = some ⟨ocIC, odIC, .func (PySem.W.fnOf "__init__" "Call.__init__" (defArgs Vq.sICall) (defBody Vq.sICall) (defScope Vq.sICall) .none (.ref DC) dcIC pmIC anIC cdIC ctIC), slIC⟩)
    (cIC : PySem.W.codeIn K cdIC "Call.__init__" = true)
    (kIC : PySem.W.keepIn K (.ref fIC) = true)
    (vIC_after : PySem.W.nsIn K DC "after" = some (some (.ref TC)))
    (aIF : PySem.W.findIn K (.ref cF) "__init__" = some (some (.ref fIF)))
    (iIF : PySem.W.isFn K (.ref fIF) = true)
    (lIF : K.lookup fIF = some ⟨ocIF, odIF, .func (PySem.W.fnOf "__init__" "Config.__init__" (defArgs Cf.sCfg) (defBody Cf.sCfg) (defScope Cf.sCfg) .none (.ref DF) dcIF pmIF anIF cdIF ctIF), slIF⟩)
    (cIF : PySem.W.codeIn K cdIF "Config.__init__" = true)
    (kIF : PySem.W.keepIn K (.ref fIF) = true)
    (vIF_params : PySem.W.nsIn K DF "params" = some (some (.ref T1)))
    (vIF_blocks : PySem.W.nsIn K DF "blocks" = some (some (.ref T2)))
    (vIF_readings : PySem.W.nsIn K DF "readings" = some (some (.ref T3)))
    (vIF_calls : PySem.W.nsIn K DF "calls" = some (some (.ref T4)))
    (vIF_outputs : PySem.W.nsIn K DF "outputs" = some (some (.ref T5)))
    (vIF_moves : PySem.W.nsIn K DF "moves" = some (some (.ref T6)))
    (lT1 : K.lookup T1 = some ⟨.type "tuple", odT1, .seq #[] nT1, slT1⟩)
    (lT2 : K.lookup T2 = some ⟨.type "tuple", odT2, .seq #[] nT2, slT2⟩)
    (lT3 : K.lookup T3 = some ⟨.type "tuple", odT3, .seq #[] nT3, slT3⟩)
    (lT4 : K.lookup T4 = some ⟨.type "tuple", odT4, .seq #[] nT4, slT4⟩)
    (lT5 : K.lookup T5 = some ⟨.type "tuple", odT5, .seq #[] nT5, slT5⟩)
    (lT6 : K.lookup T6 = some ⟨.type "tuple", odT6, .seq #[] nT6, slT6⟩)
    : ∃ fd : FuncData, (∀ (s : Shared) (v : Value), BindsTo s fd ⟨[v], []⟩ [("_law_script", v)]) ∧ ∀ base : Heap, K.In base → base.Ns mainGlobals mg → FnOk l.prog w K mg base CX0 10 fa fd ["_law_script"] (spLaw K) := by
  have e := hfa.symm.trans (PySem.W.mg_of X G aLaw)
  cases e
  have FEq := fun_mk (st := Dq.sEqual) lEq cEq kEq
  have FPod := fun_mk (st := Dq.sPod) lPod cPod kPod
  have FUnl := fun_mk (st := Cf.sUnl) lUnl cUnl kUnl
  have FWro := fun_mk (st := Cf.sWro) lWro cWro kWro
  have FPar := fun_mk (st := Cf.sPar) lPar cPar kPar
  have FBlo := fun_mk (st := Cf.sBlo) lBlo cBlo kBlo
  have FRea := fun_mk (st := Cf.sRea) lRea cRea kRea
  have FCal := fun_mk (st := Cf.sCal) lCal cCal kCal
  have FOut := fun_mk (st := Cf.sOut) lOut cOut kOut
  have FMov := fun_mk (st := Cf.sMov) lMov cMov kMov
  have FMix := fun_mk (st := Cf.sMix) lMix cMix kMix
  have FRng := fun_mk (st := Cf.sRng) lRng cRng kRng
  have FWel := fun_mk (st := Pf.sWell) lWel cWel kWel
  have FDrw := fun_mk (st := Pf.sDraw) lDrw cDrw kDrw
  have FOne := fun_mk (st := Pf.sOne) lOne cOne kOne
  have FChg := fun_mk (st := Da.sChg) lChg cChg kChg
  have FTxt := fun_mk (st := Da.sTxt) lTxt cTxt kTxt
  have FLBl := fun_mk (st := Da.sLBlock) lLBl cLBl kLBl
  have FKep := fun_mk (st := Da.sKept) lKep cKep kKep
  have FMad := fun_mk (st := Da.sMade) lMad cMad kMad
  have FLaw := fun_mk (st := Da.sLaw) lLaw cLaw kLaw
  have FPB := fun_mk (st := Vq.sPBlock) lPB cPB kPB
  have FPR := fun_mk (st := Vq.sPReading) lPR cPR kPR
  have FPC := fun_mk (st := Vq.sPCall) lPC cPC kPC
  have FPM := fun_mk (st := Vq.sPMove) lPM cPM kPM
  have FPF := fun_mk (st := Vq.sPConfig) lPF cPF kPF
  have FVE := fun_mk (st := Vq.sVEq) lVE cVE kVE
  have FIM := fun_mk (st := Vq.sIMove) lIM cIM kIM
  have bEq := FEq.binds (ps := ["one", "other"]) fun _ _ _ _ _ _ us hl => match us, hl with | [_, _], _ => rfl
  have bPod := FPod.binds (ps := ["one", "other"]) fun _ _ _ _ _ _ us hl => match us, hl with | [_, _], _ => rfl
  have bUnl := FUnl.binds (ps := ["names"]) fun _ _ _ _ _ _ us hl => match us, hl with | [_], _ => rfl
  have bWro := FWro.binds (ps := ["params", "blocks", "readings", "calls", "outputs", "moves"]) fun _ _ _ _ _ _ us hl => match us, hl with | [_, _, _, _, _, _], _ => rfl
  have bPar := FPar.binds (ps := ["params"]) fun _ _ _ _ _ _ us hl => match us, hl with | [_], _ => rfl
  have bBlo := FBlo.binds (ps := ["blocks"]) fun _ _ _ _ _ _ us hl => match us, hl with | [_], _ => rfl
  have bRea := FRea.binds (ps := ["readings", "blocks"]) fun _ _ _ _ _ _ us hl => match us, hl with | [_, _], _ => rfl
  have bCal := FCal.binds (ps := ["calls"]) fun _ _ _ _ _ _ us hl => match us, hl with | [_], _ => rfl
  have bOut := FOut.binds (ps := ["outputs"]) fun _ _ _ _ _ _ us hl => match us, hl with | [_], _ => rfl
  have bMov := FMov.binds (ps := ["moves", "blocks"]) fun _ _ _ _ _ _ us hl => match us, hl with | [_, _], _ => rfl
  have bMix := FMix.binds (ps := ["places"]) fun _ _ _ _ _ _ us hl => match us, hl with | [_], _ => rfl
  have bRng := FRng.binds (ps := ["moves"]) fun _ _ _ _ _ _ us hl => match us, hl with | [_], _ => rfl
  have bWel := FWel.binds (ps := ["_law_cell"]) fun _ _ _ _ _ _ us hl => match us, hl with | [_], _ => rfl
  have bDrw := FDrw.binds (ps := ["_law_well_here", "_law_below"]) fun _ _ _ _ _ _ us hl => match us, hl with | [_, _], _ => rfl
  have bOne := FOne.binds (ps := ["_law_well_here", "_law_some"]) fun _ _ _ _ _ _ us hl => match us, hl with | [_, _], _ => rfl
  have bChg := FChg.binds (ps := ["_law_well_here", "_law_some"]) fun _ _ _ _ _ _ us hl => match us, hl with | [_, _], _ => rfl
  have bTxt := FTxt.binds (ps := ["_law_thing"]) fun _ _ _ _ _ _ us hl => match us, hl with | [_], _ => rfl
  have bLBl := FLBl.binds (ps := ["_law_p"]) fun _ _ _ _ _ _ us hl => match us, hl with | [_], _ => rfl
  have bKep := FKep.binds (ps := ["_law_one_here", "_law_some"]) fun _ _ _ _ _ _ us hl => match us, hl with | [_, _], _ => rfl
  have bMad := FMad.binds (ps := ["_law_way", "_law_p"]) fun _ _ _ _ _ _ us hl => match us, hl with | [_, _], _ => rfl
  have bLaw := FLaw.binds (ps := ["_law_script"]) fun _ _ _ _ _ _ us hl => match us, hl with | [_], _ => rfl
  have bPB := FPB.binds (ps := ["self"]) fun _ _ _ _ _ _ us hl => match us, hl with | [_], _ => rfl
  have bPR := FPR.binds (ps := ["self"]) fun _ _ _ _ _ _ us hl => match us, hl with | [_], _ => rfl
  have bPC := FPC.binds (ps := ["self"]) fun _ _ _ _ _ _ us hl => match us, hl with | [_], _ => rfl
  have bPM := FPM.binds (ps := ["self"]) fun _ _ _ _ _ _ us hl => match us, hl with | [_], _ => rfl
  have bPF := FPF.binds (ps := ["self"]) fun _ _ _ _ _ _ us hl => match us, hl with | [_], _ => rfl
  have bVE := FVE.binds (ps := ["self", "other"]) fun _ _ _ _ _ _ us hl => match us, hl with | [_, _], _ => rfl
  have bIM := FIM.binds (ps := ["self", "old", "new"]) fun _ _ _ _ _ _ us hl => match us, hl with | [_, _, _], _ => rfl
  have gEq := PySem.W.mg_of X G aEq
  have gPod := PySem.W.mg_of X G aPod
  have gUnl := PySem.W.mg_of X G aUnl
  have gWro := PySem.W.mg_of X G aWro
  have gPar := PySem.W.mg_of X G aPar
  have gBlo := PySem.W.mg_of X G aBlo
  have gRea := PySem.W.mg_of X G aRea
  have gCal := PySem.W.mg_of X G aCal
  have gOut := PySem.W.mg_of X G aOut
  have gMov := PySem.W.mg_of X G aMov
  have gMix := PySem.W.mg_of X G aMix
  have gRng := PySem.W.mg_of X G aRng
  have gWel := PySem.W.mg_of X G aWel
  have gDrw := PySem.W.mg_of X G aDrw
  have gOne := PySem.W.mg_of X G aOne
  have gChg := PySem.W.mg_of X G aChg
  have gTxt := PySem.W.mg_of X G aTxt
  have gLBl := PySem.W.mg_of X G aLBl
  have gKep := PySem.W.mg_of X G aKep
  have gMad := PySem.W.mg_of X G aMad
  have gLaw := PySem.W.mg_of X G aLaw
  have n_isinstance := PySem.W.mg_none_of X G z_isinstance
  have n_len := PySem.W.mg_none_of X G z_len
  have n_int := PySem.W.mg_none_of X G z_int
  have n_dict := PySem.W.mg_none_of X G z_dict
  have n_tuple := PySem.W.mg_none_of X G z_tuple
  have n_list := PySem.W.mg_none_of X G z_list
  have n_all := PySem.W.mg_none_of X G z_all
  have n_any := PySem.W.mg_none_of X G z_any
  have n_set := PySem.W.mg_none_of X G z_set
  have n_range := PySem.W.mg_none_of X G z_range
  have n_sorted := PySem.W.mg_none_of X G z_sorted
  have n_repr := PySem.W.mg_none_of X G z_repr
  have n_zip := PySem.W.mg_none_of X G z_zip
  have n_type := PySem.W.mg_none_of X G z_type
  have gcB := PySem.W.mg_of X G acB
  have gcR := PySem.W.mg_of X G acR
  have gcC := PySem.W.mg_of X G acC
  have gcM := PySem.W.mg_of X G acM
  have gcF := PySem.W.mg_of X G acF
  have FIB : FunD K "__init__" "Block.__init__" (defArgs Vq.sIBlock) (defBody Vq.sIBlock) (defScope Vq.sIBlock) [] [(("first" : Str), (.bl false : V))] fIB _ := ⟨⟨ocIB, odIB, .none, .ref DB, dcIB, pmIB, anIB, cdIB, ctIB, slIB, rfl, lIB, cIB, .inl ⟨rfl, rfl⟩, .inr ⟨DB, rfl, fun q hq => by
    simp only [List.mem_cons, List.not_mem_nil, or_false] at hq
    subst hq
    exact ⟨_, vIB_first, rfl⟩
    ⟩⟩, kIB⟩
  have FIR : FunD K "__init__" "Reading.__init__" (defArgs Vq.sIReading) (defBody Vq.sIReading) (defScope Vq.sIReading) [] [(("after" : Str), (.ref TR : V))] fIR _ := ⟨⟨ocIR, odIR, .none, .ref DR, dcIR, pmIR, anIR, cdIR, ctIR, slIR, rfl, lIR, cIR, .inl ⟨rfl, rfl⟩, .inr ⟨DR, rfl, fun q hq => by
    simp only [List.mem_cons, List.not_mem_nil, or_false] at hq
    subst hq
    exact ⟨_, vIR_after, rfl⟩
    ⟩⟩, kIR⟩
  have FIC : FunD K "__init__" "Call.__init__" (defArgs Vq.sICall) (defBody Vq.sICall) (defScope Vq.sICall) [] [(("after" : Str), (.ref TC : V))] fIC _ := ⟨⟨ocIC, odIC, .none, .ref DC, dcIC, pmIC, anIC, cdIC, ctIC, slIC, rfl, lIC, cIC, .inl ⟨rfl, rfl⟩, .inr ⟨DC, rfl, fun q hq => by
    simp only [List.mem_cons, List.not_mem_nil, or_false] at hq
    subst hq
    exact ⟨_, vIC_after, rfl⟩
    ⟩⟩, kIC⟩
  have FIF : FunD K "__init__" "Config.__init__" (defArgs Cf.sCfg) (defBody Cf.sCfg) (defScope Cf.sCfg) [] [(("params" : Str), (.ref T1 : V)), (("blocks" : Str), (.ref T2 : V)), (("readings" : Str), (.ref T3 : V)), (("calls" : Str), (.ref T4 : V)), (("outputs" : Str), (.ref T5 : V)), (("moves" : Str), (.ref T6 : V))] fIF _ := ⟨⟨ocIF, odIF, .none, .ref DF, dcIF, pmIF, anIF, cdIF, ctIF, slIF, rfl, lIF, cIF, .inl ⟨rfl, rfl⟩, .inr ⟨DF, rfl, fun q hq => by
    simp only [List.mem_cons, List.not_mem_nil, or_false] at hq
    rcases hq with rfl | rfl | rfl | rfl | rfl | rfl
    · exact ⟨_, vIF_params, rfl⟩
    · exact ⟨_, vIF_blocks, rfl⟩
    · exact ⟨_, vIF_readings, rfl⟩
    · exact ⟨_, vIF_calls, rfl⟩
    · exact ⟨_, vIF_outputs, rfl⟩
    · exact ⟨_, vIF_moves, rfl⟩
    ⟩⟩, kIF⟩
  have TN : TxtN mg := ⟨n_int, n_len⟩
  have TE : TxtE mg := ⟨n_len, n_list, n_zip, n_type, n_tuple, n_dict, n_isinstance⟩
  have TC' : TxtC mg := ⟨n_isinstance, n_tuple, n_all, n_any, n_len, n_set⟩
  have TD : TxtD mg cF := ⟨n_isinstance, n_tuple, n_list, n_dict, n_sorted, n_repr, n_range, n_len, gcF⟩
  have clcB : Cls K cB := ⟨pgcB, hdcB, pocB, sacB⟩
  have IcB : C8.InsC K cB := ⟨clcB, hacB, hn, htk, hmcB, kitS_of⟩
  have tkcB : TxtK K cB nsBlock := ⟨clcB, fun f hf => by
    simp only [List.mem_cons, List.not_mem_nil, or_false] at hf
    rcases hf with rfl | rfl | rfl | rfl | rfl | rfl | rfl | rfl | rfl | rfl <;> assumption⟩
  have oqcB : OwnQ K cB fVE := ⟨aVE, iVE, necB, hmcB⟩
  have clcR : Cls K cR := ⟨pgcR, hdcR, pocR, sacR⟩
  have IcR : C8.InsC K cR := ⟨clcR, hacR, hn, htk, hmcR, kitS_of⟩
  have tkcR : TxtK K cR nsReading := ⟨clcR, fun f hf => by
    simp only [List.mem_cons, List.not_mem_nil, or_false] at hf
    rcases hf with rfl | rfl | rfl | rfl <;> assumption⟩
  have oqcR : OwnQ K cR fVE := ⟨eqcR, iVE, necR, hmcR⟩
  have clcC : Cls K cC := ⟨pgcC, hdcC, pocC, sacC⟩
  have IcC : C8.InsC K cC := ⟨clcC, hacC, hn, htk, hmcC, kitS_of⟩
  have tkcC : TxtK K cC nsCall := ⟨clcC, fun f hf => by
    simp only [List.mem_cons, List.not_mem_nil, or_false] at hf
    rcases hf with rfl | rfl | rfl | rfl <;> assumption⟩
  have oqcC : OwnQ K cC fVE := ⟨eqcC, iVE, necC, hmcC⟩
  have clcM : Cls K cM := ⟨pgcM, hdcM, pocM, sacM⟩
  have IcM : C8.InsC K cM := ⟨clcM, hacM, hn, htk, hmcM, kitS_of⟩
  have tkcM : TxtK K cM nsMove := ⟨clcM, fun f hf => by
    simp only [List.mem_cons, List.not_mem_nil, or_false] at hf
    rcases hf with rfl | rfl <;> assumption⟩
  have oqcM : OwnQ K cM fVE := ⟨eqcM, iVE, necM, hmcM⟩
  have clcF : Cls K cF := ⟨pgcF, hdcF, pocF, sacF⟩
  have IcF : C8.InsC K cF := ⟨clcF, hacF, hn, htk, hmcF, kitS_of⟩
  have tkcF : TxtK K cF ns6 := ⟨clcF, fun f hf => by
    simp only [List.mem_cons, List.not_mem_nil, or_false] at hf
    rcases hf with rfl | rfl | rfl | rfl | rfl | rfl <;> assumption⟩
  have oqcF : OwnQ K cF fVE := ⟨eqcF, iVE, necF, hmcF⟩
  have kT_list := kitT_of (K := K) (C := cF) (T := "list") mT_list (by decide +kernel)
  have kT_dict := kitT_of (K := K) (C := cF) (T := "dict") mT_dict (by decide +kernel)
  have kT_tuple := kitT_of (K := K) (C := cF) (T := "tuple") mT_tuple (by decide +kernel)
  have kU_NoneType := kitU_of (K := K) (C := cF) (T := "NoneType") iccF tycF sU_NoneType
  have kU_bool := kitU_of (K := K) (C := cF) (T := "bool") iccF tycF sU_bool
  have kU_int := kitU_of (K := K) (C := cF) (T := "int") iccF tycF sU_int
  have kU_str := kitU_of (K := K) (C := cF) (T := "str") iccF tycF sU_str
  have kU_tuple := kitU_of (K := K) (C := cF) (T := "tuple") iccF tycF sU_tuple
  have kU_list := kitU_of (K := K) (C := cF) (T := "list") iccF tycF sU_list
  have kU_dict := kitU_of (K := K) (C := cF) (T := "dict") iccF tycF sU_dict
  have OK : ObsOk K (OF K cF) := ⟨fun k ⟨a, e, s⟩ => ⟨a, e, s.keep k⟩, fun ⟨a, e, ⟨dx, t1, t2, t3, t4, t5, t6, s, _⟩⟩ => ⟨a, dx, _, e, s⟩, fun _ => IcF, fun _ T hT => by
    simp only [List.mem_cons, List.not_mem_nil, or_false] at hT
    rcases hT with rfl | rfl | rfl <;> assumption, fun _ => mkcF, rfl⟩
  have U : CfgC K cF := ⟨OK, fun T hT => by
    simp only [kinds, List.mem_cons, List.not_mem_nil, or_false] at hT
    rcases hT with rfl | rfl | rfl | rfl | rfl | rfl | rfl <;> assumption, kitS_of⟩
  refine ⟨PySem.W.fnOf "law" "law" (defArgs Da.sLaw) (defBody Da.sLaw) (defScope Da.sLaw) .none kVLaw dcLaw pmLaw anLaw cdLaw ctLaw, fun s v => .of_eq rfl, fun base _ _ => ?_⟩
  have DPod : Def l.prog w K mg base 1 "_pairs_of_dicts" fPod _ ["one", "other"] spPod := ⟨ok_pod FPod TE, gPod, FPod.kp, bPod⟩
  have OE0 : ObEq l.prog w K mg base 1 (O0 K) := ⟨fun _ _ _ _ _ _ => fun _ _ _ _ _ _ _ _ _ _ _ _ ⟨o, _⟩ => Empty.elim o⟩
  have DEq0 : Def l.prog w K mg base 2 "equal" fEq _ ["one", "other"] (spEqual (O0 K)) := ⟨ok_equal (Nat.le_refl 1) FEq TE O0ok OE0 DPod, gEq, FEq.kp, bEq⟩
  have GPF := ok_PConfig (P := l.prog) (w := w) (mg := mg) (base := base) FPF tkcF
  have GVF := ok_veq (j := 2) (k := 0) (by decide) FVE tkcF (by decide +kernel) n_type mkcF O0ok ⟨aPF, iPF, kPF⟩ GPF bPF DEq0
  have OEF : ObEq l.prog w K mg base 3 (OF K cF) := obeq_F oqcF IcF GVF bVE
  have DEq : Def l.prog w K mg base 4 "equal" fEq _ ["one", "other"] (spEqual (OF K cF)) := ⟨ok_equal (by decide) FEq TE OK OEF DPod, gEq, FEq.kp, bEq⟩
  have GPB := ok_PBlock (P := l.prog) (w := w) (mg := mg) (base := base) FPB tkcB
  have GVB := ok_veq (j := 4) (k := 0) (by decide) FVE tkcB (by decide +kernel) n_type mkcB OK ⟨aPB, iPB, kPB⟩ GPB bPB DEq
  have GPR := ok_PReading (P := l.prog) (w := w) (mg := mg) (base := base) FPR tkcR
  have GVR := ok_veq (j := 4) (k := 0) (by decide) FVE tkcR (by decide +kernel) n_type mkcR OK ⟨aPR, iPR, kPR⟩ GPR bPR DEq
  have GPC := ok_PCall (P := l.prog) (w := w) (mg := mg) (base := base) FPC tkcC
  have GVC := ok_veq (j := 4) (k := 0) (by decide) FVE tkcC (by decide +kernel) n_type mkcC OK ⟨aPC, iPC, kPC⟩ GPC bPC DEq
  have GPM := ok_PMove (P := l.prog) (w := w) (mg := mg) (base := base) FPM tkcM
  have GVM := ok_veq (j := 4) (k := 0) (by decide) FVE tkcM (by decide +kernel) n_type mkcM OK ⟨aPM, iPM, kPM⟩ GPM bPM DEq
  have CW : ClsW K ⟨cB, cR, cC, cM⟩ := ⟨fun n hn => (match n, hn with | 0, _ => tkcB | 1, _ => tkcR | 2, _ => tkcC | 3, _ => tkcM), fun n hn => (match n, hn with | 0, _ => IcB | 1, _ => IcR | 2, _ => IcC | 3, _ => IcM), fun n hn => (match n, hn with | 0, _ => mkcB | 1, _ => mkcR | 2, _ => mkcC | 3, _ => mkcM),
    fun n v hn hv => (match n, v, hn, hv with
      | 0, 0, _, _ => kitS_of | 0, 1, _, _ => kitC_of dBR iccR tycR sBR | 0, 2, _, _ => kitC_of dBC iccC tycC sBC
      | 1, 0, _, _ => kitC_of dRB iccB tycB sRB | 1, 1, _, _ => kitS_of | 1, 2, _, _ => kitC_of dRC iccC tycC sRC
      | 2, 0, _, _ => kitC_of dCB iccB tycB sCB | 2, 1, _, _ => kitC_of dCR iccR tycR sCR | 2, 2, _, _ => kitS_of
      | 3, 0, _, _ => kitC_of dMB iccB tycB sMB | 3, 1, _, _ => kitC_of dMR iccR tycR sMR | 3, 2, _, _ => kitC_of dMC iccC tycC sMC)⟩
  have EW : EqW l.prog w K mg base cF ⟨cB, cR, cC, cM⟩ fVE _ := ⟨CW, fun n hn => (match n, hn with | 0, _ => oqcB | 1, _ => oqcR | 2, _ => oqcC | 3, _ => oqcM), fun n hn => (match n, hn with | 0, _ => GVB | 1, _ => GVR | 2, _ => GVC | 3, _ => GVM), bVE,
    fun n m hn hm => (match n, m, hn, hm with
      | 0, 0, _, _ => nf_self | 0, 1, _, _ => nf_of sRB | 0, 2, _, _ => nf_of sCB | 0, 3, _, _ => nf_of sMB
      | 1, 0, _, _ => nf_of sBR | 1, 1, _, _ => nf_self | 1, 2, _, _ => nf_of sCR | 1, 3, _, _ => nf_of sMR
      | 2, 0, _, _ => nf_of sBC | 2, 1, _, _ => nf_of sRC | 2, 2, _, _ => nf_self | 2, 3, _, _ => nf_of sMC
      | 3, 0, _, _ => nf_of sBM | 3, 1, _, _ => nf_of sRM | 3, 2, _, _ => nf_of sCM | 3, 3, _, _ => nf_self),
    fun n m hn hm q => (match n, m, hn, hm, q with
      | 0, 0, _, _, q => absurd rfl q | 0, 1, _, _, _ => dBR | 0, 2, _, _, _ => dBC | 0, 3, _, _, _ => dBM
      | 1, 0, _, _, _ => dRB | 1, 1, _, _, q => absurd rfl q | 1, 2, _, _, _ => dRC | 1, 3, _, _, _ => dRM
      | 2, 0, _, _, _ => dCB | 2, 1, _, _, _ => dCR | 2, 2, _, _, q => absurd rfl q | 2, 3, _, _, _ => dCM
      | 3, 0, _, _, _ => dMB | 3, 1, _, _, _ => dMR | 3, 2, _, _, _ => dMC | 3, 3, _, _, q => absurd rfl q), oqcF, GVF⟩
  have DUn : Def l.prog w K mg base 1 "are_unlike" fUnl _ ["names"] (spL (.bl true) K) := ⟨ok_unl FUnl TC', gUnl, FUnl.kp, bUnl⟩
  have DPa : Def l.prog w K mg base 2 "_are_params" fPar _ ["params"] (spE 1 (.bl true) K) := ⟨ok_par FPar TC' DUn, gPar, FPar.kp, bPar⟩
  have DBl : Def l.prog w K mg base 2 "_are_blocks" fBlo _ ["blocks"] (spE 1 (.bl true) K) := ⟨ok_blo FBlo TC' DUn, gBlo, FBlo.kp, bBlo⟩
  have DRe : Def l.prog w K mg base 2 "_are_readings" fRea _ ["readings", "blocks"] (spE 2 (.bl true) K) := ⟨ok_rea FRea TC' DUn, gRea, FRea.kp, bRea⟩
  have DCa : Def l.prog w K mg base 2 "_are_calls" fCal _ ["calls"] (spE 1 (.bl true) K) := ⟨ok_cal FCal TC' DUn, gCal, FCal.kp, bCal⟩
  have DOu : Def l.prog w K mg base 2 "_are_outputs" fOut _ ["outputs"] (spE 1 (.bl true) K) := ⟨ok_out FOut TC' DUn, gOut, FOut.kp, bOut⟩
  have DMx : Def l.prog w K mg base 1 "_are_mixed" fMix _ ["places"] (spL (.bl false) K) := ⟨ok_mix FMix TC', gMix, FMix.kp, bMix⟩
  have DRn : Def l.prog w K mg base 1 "_are_ringed" fRng _ ["moves"] (spE 1 (.bl false) K) := ⟨ok_rng FRng TC', gRng, FRng.kp, bRng⟩
  have DMo : Def l.prog w K mg base 2 "_are_moves" fMov _ ["moves", "blocks"] (spE 2 (.bl true) K) := ⟨ok_mov FMov TC' DUn DMx DRn, gMov, FMov.kp, bMov⟩
  have DWr : Def l.prog w K mg base 3 "_wrong_part" fWro _ NWro (spE 6 .non K) := ⟨ok_wro FWro DPa DBl DRe DCa DOu DMo, gWro, FWro.kp, bWro⟩
  have GF := ok_cfg FIF ⟨clcF, fun f hf => tkcF.no _ (by
    simp only [List.mem_cons, List.not_mem_nil, or_false] at hf
    rcases hf with rfl | rfl | rfl | rfl | rfl | rfl <;> simp), gcF⟩ DWr
  obtain ⟨dsF, vF, bF⟩ := b_cfg FIF
  have MC : MkCf l.prog w K mg base cF fIF _ [T1, T2, T3, T4, T5, T6] dsF := ⟨gcF, ⟨mkcF, aIF, iIF, kccF⟩, GF, bF, vF, rfl, fun H t ht => by
    simp only [List.mem_cons, List.not_mem_nil, or_false] at ht
    rcases ht with rfl | rfl | rfl | rfl | rfl | rfl
    · exact sqt_k lT1 H
    · exact sqt_k lT2 H
    · exact sqt_k lT3 H
    · exact sqt_k lT4 H
    · exact sqt_k lT5 H
    · exact sqt_k lT6 H⟩
  obtain ⟨gB, kB⟩ := kb_B FIB (by simp)
  obtain ⟨gR, kR⟩ := kb_R FIR (by simp)
  obtain ⟨gC, kC⟩ := kb_C FIC (by simp)
  have GIM := ok_IMove (P := l.prog) (w := w) (mg := mg) (base := base) (dvs := []) (kws := []) (fd := PySem.W.fnOf "__init__" "Move.__init__" (defArgs sIMove) (defBody sIMove) (defScope sIMove) .none kVIM dcIM pmIM anIM cdIM ctIM) ⟨⟨ocIM, odIM, .none, kVIM, dcIM, pmIM, anIM, cdIM, ctIM, slIM, rfl, lIM, cIM, .inl ⟨rfl, rfl⟩, .inl rfl⟩, kIM⟩ tkcM
  have TM : TxtM l.prog w K mg base ⟨cB, cR, cC, cM⟩ fIB fIR fIC fIM _ _ _ _ gB gR gC := ⟨gcB, gcR, gcC, gcM, ⟨mkcB, aIB, iIB, kccB⟩, ⟨mkcR, aIR, iIR, kccR⟩, ⟨mkcC, aIC, iIC, kccC⟩, ⟨mkcM, aIM, iIM, kccM⟩, ok_IBlock FIB tkcB, ok_IReading FIR tkcR, ok_ICall FIC tkcC, GIM, kB, kR, kC, bIM⟩
  have DW : Def l.prog w K mg base 1 "_law_well" fWel _ ["_law_cell"] spWell := ⟨ok_well FWel TN, gWel, FWel.kp, bWel⟩
  have DD : Def l.prog w K mg base 1 "_law_draw" fDrw _ ["_law_well_here", "_law_below"] spDraw := ⟨ok_draw FDrw TN, gDrw, FDrw.kp, bDrw⟩
  have D1 : Def l.prog w K mg base 2 "_law_one" fOne _ ["_law_well_here", "_law_some"] (spOne K) := ⟨ok_one (fL := fOne) FOne TN FDrw bDrw gDrw, gOne, FOne.kp, bOne⟩
  have DT : Def l.prog w K mg base 8 "_law_sorted_text" fTxt _ ["_law_thing"] (spTxt K cF 7) := ⟨ok_txt FTxt gTxt bTxt TD U 7, gTxt, FTxt.kp, bTxt⟩
  have DLB : Def l.prog w K mg base 3 "_law_block" fLBl _ ["_law_p"] (spLBlock ⟨cB, cR, cC, cM⟩) := ⟨ok_lblock FLBl TM, gLBl, FLBl.kp, bLBl⟩
  have DM : Def l.prog w K mg base 4 "_law_made" fMad _ ["_law_way", "_law_p"] (spMade ⟨cB, cR, cC, cM⟩) := ⟨ok_made FMad TM DLB, gMad, FMad.kp, bMad⟩
  have DK : Def l.prog w K mg base 9 "_law_kept" fKep _ ["_law_one_here", "_law_some"] (spKept K cF ⟨cB, cR, cC, cM⟩) := ⟨ok_kept FKep TD U CW gcB gcR gcC DT, gKep, FKep.kp, bKep⟩
  have DC : Def l.prog w K mg base 6 "_law_changed" fChg _ ["_law_well_here", "_law_some"] (spChg K cF) := ⟨ok_chg FChg TD U MC DD D1, gChg, FChg.kp, bChg⟩
  exact ok_law FLaw TD U EW MC DW DD D1 DC DM DK DT
end Da

open PySem PySem.W PyProof.Rows
set_option Elab.async false
set_option maxRecDepth 100000 in
set_option maxHeartbeats 0 in
theorem PySem.Challenge.cw_planfirst_k15_parts_that_are_equal_holds : PySem.Challenge.rw_planfirst_k15_parts_that_are_equal.Holds := by
  w_on; o_law; k_head; (case hw => w_witness2)
  k_fill
  refine L2.walk_of (l := PySem.Challenge.rw_planfirst_k15_parts_that_are_equal) (n := 63) (k := 10) (x := "_law_script") (CX := fun _ => L2.CX0) (sp := fun w => Da.spLaw _) rfl (by decide) rfl ⟨rfl, by decide, by decide⟩ (fun w h Y => PySem.W.kIn_of Y) ?F (fun _ _ a ns hl _ hS => ⟨a, ns, rfl, hS, hl, fun _ => rfl⟩) (fun _ _ _ _ _ h => h)
  case F =>
    intro w mg fa h KX G hmg
    refine' Da.all_mk KX G hmg ?aEq ?lEq ?cEq ?kEq ?aPod ?lPod ?cPod ?kPod ?aUnl ?lUnl ?cUnl ?kUnl ?aWro ?lWro ?cWro ?kWro ?aPar ?lPar ?cPar ?kPar ?aBlo ?lBlo ?cBlo ?kBlo ?aRea ?lRea ?cRea ?kRea ?aCal ?lCal ?cCal ?kCal ?aOut ?lOut ?cOut ?kOut ?aMov ?lMov ?cMov ?kMov ?aMix ?lMix ?cMix ?kMix ?aRng ?lRng ?cRng ?kRng ?aWel ?lWel ?cWel ?kWel ?aDrw ?lDrw ?cDrw ?kDrw ?aOne ?lOne ?cOne ?kOne ?aChg ?lChg ?cChg ?kChg ?aTxt ?lTxt ?cTxt ?kTxt ?aLBl ?lLBl ?cLBl ?kLBl ?aKep ?lKep ?cKep ?kKep ?aMad ?lMad ?cMad ?kMad ?aLaw ?lLaw ?cLaw ?kLaw ?z_isinstance ?z_len ?z_int ?z_dict ?z_tuple ?z_list ?z_all ?z_any ?z_set ?z_range ?z_sorted ?z_repr ?z_zip ?z_type ?acB ?pgcB ?hdcB ?pocB ?sacB ?hacB ?hmcB ?mkcB ?kccB ?iccB ?tycB ?necB ?ncB_kind ?ncB_name ?ncB_attributes ?ncB_many ?ncB_after ?ncB_first ?ncB_never ?ncB_ignored ?ncB_replaced_by ?ncB_ahead ?acR ?pgcR ?hdcR ?pocR ?sacR ?hacR ?hmcR ?mkcR ?kccR ?iccR ?tycR ?necR ?ncR_kind ?ncR_name ?ncR_question ?ncR_after ?eqcR ?acC ?pgcC ?hdcC ?pocC ?sacC ?hacC ?hmcC ?mkcC ?kccC ?iccC ?tycC ?necC ?ncC_name ?ncC_config ?ncC_arguments ?ncC_after ?eqcC ?acM ?pgcM ?hdcM ?pocM ?sacM ?hacM ?hmcM ?mkcM ?kccM ?iccM ?tycM ?necM ?ncM_old ?ncM_new ?eqcM ?acF ?pgcF ?hdcF ?pocF ?sacF ?hacF ?hmcF ?mkcF ?kccF ?iccF ?tycF ?necF ?ncF_params ?ncF_blocks ?ncF_readings ?ncF_calls ?ncF_outputs ?ncF_moves ?eqcF ?hn ?htk ?mT_list ?mT_dict ?mT_tuple ?sU_NoneType ?sU_bool ?sU_int ?sU_str ?sU_tuple ?sU_list ?sU_dict ?sBR ?dBR ?sBC ?dBC ?sBM ?dBM ?sRB ?dRB ?sRC ?dRC ?sRM ?dRM ?sCB ?dCB ?sCR ?dCR ?sCM ?dCM ?sMB ?dMB ?sMR ?dMR ?sMC ?dMC ?aPB ?iPB ?lPB ?cPB ?kPB ?aPR ?iPR ?lPR ?cPR ?kPR ?aPC ?iPC ?lPC ?cPC ?kPC ?aPM ?iPM ?lPM ?cPM ?kPM ?aPF ?iPF ?lPF ?cPF ?kPF ?aVE ?iVE ?lVE ?cVE ?kVE ?aIM ?iIM ?lIM ?cIM ?kIM ?aIB ?iIB ?lIB ?cIB ?kIB ?vIB_first ?aIR ?iIR ?lIR ?cIR ?kIR ?vIR_after ?aIC ?iIC ?lIC ?cIC ?kIC ?vIC_after ?aIF ?iIF ?lIF ?cIF ?kIF ?vIF_params ?vIF_blocks ?vIF_readings ?vIF_calls ?vIF_outputs ?vIF_moves ?lT1 ?lT2 ?lT3 ?lT4 ?lT5 ?lT6
    (case aEq => k_is)
    (case lEq => k_is)
    (case cEq => k_is)
    (case kEq => k_is)
    (case aPod => k_is)
    (case lPod => k_is)
    (case cPod => k_is)
    (case kPod => k_is)
    (case aUnl => k_is)
    (case lUnl => k_is)
    (case cUnl => k_is)
    (case kUnl => k_is)
    (case aWro => k_is)
    (case lWro => k_is)
    (case cWro => k_is)
    (case kWro => k_is)
    (case aPar => k_is)
    (case lPar => k_is)
    (case cPar => k_is)
    (case kPar => k_is)
    (case aBlo => k_is)
    (case lBlo => k_is)
    (case cBlo => k_is)
    (case kBlo => k_is)
    (case aRea => k_is)
    (case lRea => k_is)
    (case cRea => k_is)
    (case kRea => k_is)
    (case aCal => k_is)
    (case lCal => k_is)
    (case cCal => k_is)
    (case kCal => k_is)
    (case aOut => k_is)
    (case lOut => k_is)
    (case cOut => k_is)
    (case kOut => k_is)
    (case aMov => k_is)
    (case lMov => k_is)
    (case cMov => k_is)
    (case kMov => k_is)
    (case aMix => k_is)
    (case lMix => k_is)
    (case cMix => k_is)
    (case kMix => k_is)
    (case aRng => k_is)
    (case lRng => k_is)
    (case cRng => k_is)
    (case kRng => k_is)
    (case aWel => k_is)
    (case lWel => k_is)
    (case cWel => k_is)
    (case kWel => k_is)
    (case aDrw => k_is)
    (case lDrw => k_is)
    (case cDrw => k_is)
    (case kDrw => k_is)
    (case aOne => k_is)
    (case lOne => k_is)
    (case cOne => k_is)
    (case kOne => k_is)
    (case aChg => k_is)
    (case lChg => k_is)
    (case cChg => k_is)
    (case kChg => k_is)
    (case aTxt => k_is)
    (case lTxt => (apply Eq.trans; k_is; rfl))
    (case cTxt => k_is)
    (case kTxt => k_is)
    (case aLBl => k_is)
    (case lLBl => k_is)
    (case cLBl => k_is)
    (case kLBl => k_is)
    (case aKep => k_is)
    (case lKep => k_is)
    (case cKep => k_is)
    (case kKep => k_is)
    (case aMad => k_is)
    (case lMad => k_is)
    (case cMad => k_is)
    (case kMad => k_is)
    (case aLaw => k_is)
    (case lLaw => k_is)
    (case cLaw => k_is)
    (case kLaw => k_is)
    (case z_isinstance => k_is)
    (case z_len => k_is)
    (case z_int => k_is)
    (case z_dict => k_is)
    (case z_tuple => k_is)
    (case z_list => k_is)
    (case z_all => k_is)
    (case z_any => k_is)
    (case z_set => k_is)
    (case z_range => k_is)
    (case z_sorted => k_is)
    (case z_repr => k_is)
    (case z_zip => k_is)
    (case z_type => k_is)
    (case acB => k_is)
    (case pgcB => k_is)
    (case hdcB => k_is)
    (case pocB => k_is)
    (case sacB => k_is)
    (case hacB => k_is)
    (case hmcB => k_is)
    (case mkcB => k_is)
    (case kccB => k_is)
    (case iccB => k_is)
    (case tycB => k_is)
    (case necB => k_is)
    (case ncB_kind => k_is)
    (case ncB_name => k_is)
    (case ncB_attributes => k_is)
    (case ncB_many => k_is)
    (case ncB_after => k_is)
    (case ncB_first => k_is)
    (case ncB_never => k_is)
    (case ncB_ignored => k_is)
    (case ncB_replaced_by => k_is)
    (case ncB_ahead => k_is)
    (case acR => k_is)
    (case pgcR => k_is)
    (case hdcR => k_is)
    (case pocR => k_is)
    (case sacR => k_is)
    (case hacR => k_is)
    (case hmcR => k_is)
    (case mkcR => k_is)
    (case kccR => k_is)
    (case iccR => k_is)
    (case tycR => k_is)
    (case necR => k_is)
    (case ncR_kind => k_is)
    (case ncR_name => k_is)
    (case ncR_question => k_is)
    (case ncR_after => k_is)
    (case eqcR => k_is)
    (case acC => k_is)
    (case pgcC => k_is)
    (case hdcC => k_is)
    (case pocC => k_is)
    (case sacC => k_is)
    (case hacC => k_is)
    (case hmcC => k_is)
    (case mkcC => k_is)
    (case kccC => k_is)
    (case iccC => k_is)
    (case tycC => k_is)
    (case necC => k_is)
    (case ncC_name => k_is)
    (case ncC_config => k_is)
    (case ncC_arguments => k_is)
    (case ncC_after => k_is)
    (case eqcC => k_is)
    (case acM => k_is)
    (case pgcM => k_is)
    (case hdcM => k_is)
    (case pocM => k_is)
    (case sacM => k_is)
    (case hacM => k_is)
    (case hmcM => k_is)
    (case mkcM => k_is)
    (case kccM => k_is)
    (case iccM => k_is)
    (case tycM => k_is)
    (case necM => k_is)
    (case ncM_old => k_is)
    (case ncM_new => k_is)
    (case eqcM => k_is)
    (case acF => k_is)
    (case pgcF => k_is)
    (case hdcF => k_is)
    (case pocF => k_is)
    (case sacF => k_is)
    (case hacF => k_is)
    (case hmcF => k_is)
    (case mkcF => k_is)
    (case kccF => k_is)
    (case iccF => k_is)
    (case tycF => k_is)
    (case necF => k_is)
    (case ncF_params => k_is)
    (case ncF_blocks => k_is)
    (case ncF_readings => k_is)
    (case ncF_calls => k_is)
    (case ncF_outputs => k_is)
    (case ncF_moves => k_is)
    (case eqcF => k_is)
    (case hn => k_is)
    (case htk => k_is)
    (case mT_list => k_is)
    (case mT_dict => k_is)
    (case mT_tuple => k_is)
    (case sU_NoneType => k_is)
    (case sU_bool => k_is)
    (case sU_int => k_is)
    (case sU_str => k_is)
    (case sU_tuple => k_is)
    (case sU_list => k_is)
    (case sU_dict => k_is)
    (case sBR => k_is)
    (case dBR => decide)
    (case sBC => k_is)
    (case dBC => decide)
    (case sBM => k_is)
    (case dBM => decide)
    (case sRB => k_is)
    (case dRB => decide)
    (case sRC => k_is)
    (case dRC => decide)
    (case sRM => k_is)
    (case dRM => decide)
    (case sCB => k_is)
    (case dCB => decide)
    (case sCR => k_is)
    (case dCR => decide)
    (case sCM => k_is)
    (case dCM => decide)
    (case sMB => k_is)
    (case dMB => decide)
    (case sMR => k_is)
    (case dMR => decide)
    (case sMC => k_is)
    (case dMC => decide)
    (case aPB => k_is)
    (case iPB => k_is)
    (case lPB => k_is)
    (case cPB => k_is)
    (case kPB => k_is)
    (case aPR => k_is)
    (case iPR => k_is)
    (case lPR => k_is)
    (case cPR => k_is)
    (case kPR => k_is)
    (case aPC => k_is)
    (case iPC => k_is)
    (case lPC => k_is)
    (case cPC => k_is)
    (case kPC => k_is)
    (case aPM => k_is)
    (case iPM => k_is)
    (case lPM => k_is)
    (case cPM => k_is)
    (case kPM => k_is)
    (case aPF => k_is)
    (case iPF => k_is)
    (case lPF => k_is)
    (case cPF => k_is)
    (case kPF => k_is)
    (case aVE => k_is)
    (case iVE => k_is)
    (case lVE => k_is)
    (case cVE => k_is)
    (case kVE => k_is)
    (case aIM => k_is)
    (case iIM => k_is)
    (case lIM => k_is)
    (case cIM => k_is)
    (case kIM => k_is)
    (case aIB => k_is)
    (case iIB => k_is)
    (case lIB => k_is)
    (case cIB => k_is)
    (case kIB => k_is)
    (case vIB_first => k_is)
    (case aIR => k_is)
    (case iIR => k_is)
    (case lIR => k_is)
    (case cIR => k_is)
    (case kIR => k_is)
    (case vIR_after => k_is)
    (case aIC => k_is)
    (case iIC => k_is)
    (case lIC => k_is)
    (case cIC => k_is)
    (case kIC => k_is)
    (case vIC_after => k_is)
    (case aIF => k_is)
    (case iIF => k_is)
    (case lIF => k_is)
    (case cIF => k_is)
    (case kIF => k_is)
    (case vIF_params => k_is)
    (case vIF_blocks => k_is)
    (case vIF_readings => k_is)
    (case vIF_calls => k_is)
    (case vIF_outputs => k_is)
    (case vIF_moves => k_is)
    (case lT1 => (apply Eq.trans; k_is; rfl))
    (case lT2 => (apply Eq.trans; k_is; rfl))
    (case lT3 => (apply Eq.trans; k_is; rfl))
    (case lT4 => (apply Eq.trans; k_is; rfl))
    (case lT5 => (apply Eq.trans; k_is; rfl))
    (case lT6 => (apply Eq.trans; k_is; rfl))

