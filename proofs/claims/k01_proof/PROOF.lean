import PyProof.Rows.All
import Wide.All
import OpenK.AllK
import Wide.FinOn
import HandS.ForMost
import HandS.Wide
import HandS.IsInst
import HandS.Codes
import HandS.Walk
import HandS.Text
import HandS.Comp
import HandS.More
import KE.KDictList
import HandS.DictComp
import KE.KDictZip
import KE.GoesEnum
import HandS.Zip
import PySem.Challenge.RW_planfirst_k01_values_that_are_the_same
set_option Elab.async false
set_option linter.all false
set_option maxRecDepth 100000
set_option maxHeartbeats 4000000
namespace Pf
open PySem L2
def top (i : Nat) : Stmt := PySem.Challenge.pw_planfirst_k01_values_that_are_the_same.main.body.getD i (.Pass ⟨0, 0, 0, 0⟩)
abbrev sWell : Stmt := top 22
abbrev sDraw : Stmt := top 23
abbrev sOne : Stmt := top 24

/-! ### drawn numbers -/
/-- a well stands at a: three whole numbers, drawn z times -/
def WellAt (H : Hp) (a : Addr) (z : Int) : Prop := ∃ x y : Int, H a = some (.lst [.int x, .int y, .int z]) ∧ 0 ≤ y ∧ y < 2147483647
/-- all that was tracked, but at a, is as it was -/
def But (a : Addr) (H H' : Hp) : Prop := ∀ b o, H b = some o → b ≠ a → H' b = some o
theorem But.upd {H : Hp} {a : Addr} {o : HO} : But a H (upd H a o) := fun b u e hb => (upd_ne hb).trans e
theorem But.new {H H1 : Hp} {a l : Addr} {o : HO} (k : But a H H1) (hl : H1 l = none) : But a H (L2.upd H1 l o) := fun b u e hb => (upd_ne (ne_of_none (k b u e hb) hl)).trans (k b u e hb)
structure TxtN (mg : Str → Option Value) : Prop where
  int : mg "int" = none
  len : mg "len" = none
def spWell : Sp := fun vs H Q _ => ∃ (c : Int), vs = [.int c] ∧ ∀ (p : Addr) (o : HO), H p = none → WellAt (upd H p o) p 0 → Q (.ref p) (upd H p o)
def spDraw : Sp := fun vs H Q _ => ∃ (a : Addr) (n z : Int), vs = [.ref a, .int n] ∧ WellAt H a z ∧ 0 < n ∧ n < 1000000 ∧ 0 ≤ z ∧ z < 1000000 ∧
  ∀ (d z' : Int) (H' : Hp), 0 ≤ d → d < n → z ≤ z' → z' ≤ z + 1 → WellAt H' a z' → But a H H' → Q (.int d) H'
def spOne (K : PySem.W.Frag) : Sp := fun vs H Q _ => ∃ (a l : Addr) (z : Int) (xs : List V), vs = [.ref a, .ref l] ∧ WellAt H a z ∧ H l = some (.lst xs) ∧ l ≠ a ∧ 0 < xs.length ∧ xs.length < 1000000 ∧ 0 ≤ z ∧ z < 1000000 ∧
  ∀ (v : V) (z' : Int) (H' : Hp), v ∈ xs → z ≤ z' → z' ≤ z + 1 → WellAt H' a z' → But a H H' → Q v H'
section
variable {P : Program} {w : World} {K : PySem.W.Frag} {mg : Str → Option Value} {base : Heap}
theorem scWell : FnScope ["_law_cell"] ["_law_cell"] (defScope sWell) := ⟨rfl, rfl, rfl, by decide +kernel, rfl, by decide +kernel, by decide +kernel⟩
theorem scDraw : FnScope ["_law_well_here", "_law_below", "_law_digit", "_law_prime", "_law_number"] ["_law_well_here", "_law_below"] (defScope sDraw) := ⟨rfl, rfl, rfl, by decide +kernel, rfl, by decide +kernel, by decide +kernel⟩
theorem scOne : FnScope ["_law_well_here", "_law_some"] ["_law_well_here", "_law_some"] (defScope sOne) := ⟨rfl, rfl, rfl, by decide +kernel, rfl, by decide +kernel, by decide +kernel⟩

theorem ok_well {f : Addr} {fd : FuncData} (F : Fun K "_law_well" "_law_well" sWell f fd) (T : TxtN mg) : FnOk P w K mg base CX0 1 f fd ["_law_cell"] spWell := by
  refine F.ok scWell (fun vs H Q E h => ?_) (fun cdv A outer s H vs Q E hr h => ?_)
  · obtain ⟨c, rfl, _⟩ := h
    rfl
  · obtain ⟨c, rfl, k⟩ := h
    refine ⟨_, pss_one (ps_ret (pe_lst (pa_cons
      (pe_op op_mul (pv 0) (pe_callTy call_int1 (by rfl) T.int (by decide +kernel) (pa_cons (pe_cmpR op_ge (pv 0) (pe_op op_pow pe_int pe_int) (nomark _)) pa_nil)))
      (pa_cons (pe_op op_mod (pe_callTy call_int1 (by rfl) T.int (by decide +kernel) (pa_cons (pv 0) pa_nil)) pe_int) (pa_cons pe_int pa_nil))))), ?_⟩
    refine ⟨_, rfl, _, rfl, _, _, rfl, rfl, ⟨by decide, by decide, by decide⟩, _, _, rfl, rfl, .inr ⟨_, rfl, ?_⟩⟩
    refine ⟨_, _, rfl, rfl, .inr (by split <;> decide), _, rfl, .inl ⟨_, rfl, _, _, rfl, rfl, (by show (0 : Int) < 2147483647; decide), ?_⟩⟩
    refine ⟨by show 3 ≤ sizeLine; decide, fun p hp => ?_⟩
    exact k p _ hp ⟨_, _, upd_same, Int.emod_nonneg _ (by decide), Int.emod_lt_of_pos _ (by decide)⟩
theorem pow5_ok {b : Int} (h0 : 0 ≤ b) (h : b < 100000000000) : CPow b 5 := ⟨by decide, by decide, by
  have : b.natAbs < 100000000000 := by omega
  exact Nat.lt_trans this (by decide)⟩
theorem primes_get {i : Int} (h0 : 0 ≤ i) (h : i < 7) : ∃ p : Int, atI [V.int 2147483647, V.int 2147483629, V.int 2147483587, V.int 2147483579, V.int 2147483563, V.int 2147483549, V.int 2147483543] i = some (V.int p) ∧ 0 < p ∧ p ≤ 2147483647 := by
  have hi : i = 0 ∨ i = 1 ∨ i = 2 ∨ i = 3 ∨ i = 4 ∨ i = 5 ∨ i = 6 := by omega
  rcases hi with rfl | rfl | rfl | rfl | rfl | rfl | rfl <;> exact ⟨_, rfl, by decide, by decide⟩
theorem ok_draw {f : Addr} {fd : FuncData} (F : Fun K "_law_draw" "_law_draw" sDraw f fd) (T : TxtN mg) : FnOk P w K mg base CX0 1 f fd ["_law_well_here", "_law_below"] spDraw := by
  refine F.ok scDraw (fun vs H Q E h => ?_) (fun cdv A outer s H vs Q E hr h => ?_)
  · obtain ⟨a, n, z, rfl, _⟩ := h
    rfl
  · obtain ⟨a, n, z, rfl, ⟨x, y, ha, hy0, hy1⟩, hn0, hn1, hz0, hz1, k⟩ := h
    refine ⟨_, pss_cons (ps_if (pt_cmpR op_gt (pe_ix ix_list (pv 0) pe_int (fun _ _ => rfl)) pe_int (nomark _))
        (pss_cons (ps_set (i := 2) scDraw.nd rfl (Or.inl rfl) (pe_op op_mod (pe_callTy call_int1 (by rfl) T.int (by decide +kernel) (pa_cons (pe_ix ix_list (pv 0) pe_int (fun _ _ => rfl)) pa_nil)) (pv 1)))
        (pss_cons (ps_asg (pe_op op_fdivW (pe_ix ix_list (pv 0) pe_int (fun _ _ => rfl)) (pv 1)) (pg_sub (pv 0) pe_int set_list))
        (pss_one (ps_ret (pv 2)))))
        pss_nil)
      (pss_cons (ps_asg (pe_op op_add (pe_ix ix_list (pv 0) pe_int (fun _ _ => rfl)) pe_int) (pg_sub (pv 0) pe_int set_list))
      (pss_cons (ps_set (i := 3) scDraw.nd rfl (Or.inl rfl) (pe_ix ix_list (pe_lst (pa_cons pe_int (pa_cons pe_int (pa_cons pe_int (pa_cons pe_int (pa_cons pe_int (pa_cons pe_int (pa_cons pe_int pa_nil))))))))
          (pe_op op_mod (pe_callTy call_int1 (by rfl) T.int (by decide +kernel) (pa_cons (pe_ix ix_list (pv 0) pe_int (fun _ _ => rfl)) pa_nil)) pe_int) (fun _ _ => rfl)))
      (pss_cons (ps_set (i := 4) scDraw.nd rfl (Or.inl rfl) (pe_op op_mod (pe_callTy call_int1 (by rfl) T.int (by decide +kernel) (pa_cons
          (pe_op op_pow (pe_op op_add (pe_op op_add (pe_ix ix_list (pv 0) pe_int (fun _ _ => rfl)) (pe_op op_mul pe_int (pe_ix ix_list (pv 0) pe_int (fun _ _ => rfl)))) pe_int) pe_int) pa_nil)) (pv 3)))
      (pss_cons (ps_set (i := 4) scDraw.nd rfl (Or.inl rfl) (pe_op op_mod (pe_callTy call_int1 (by rfl) T.int (by decide +kernel) (pa_cons
          (pe_op op_mul (pe_op op_add (pv 4) (pe_ix ix_list (pv 0) pe_int (fun _ _ => rfl))) (pe_op op_add (pe_op op_fdiv (pv 4) pe_int) pe_int)) pa_nil)) (pv 3)))
      (pss_one (ps_ret (pe_op op_mod (pe_callTy call_int1 (by rfl) T.int (by decide +kernel) (pa_cons (pe_op op_fdiv (pv 4) pe_int) pa_nil)) (pv 1)))))))), ?_⟩
    refine ⟨_, rfl, a, _, _, _, rfl, rfl, SqL.of ha, atI_nat (j := 0) rfl, _, _, rfl, rfl, _, rfl, ?_⟩
    refine ite2 (fun hx => ?_) fun hx => ?_
    · have hx : 0 < x := of_decide_eq_true hx
      refine ⟨_, rfl, a, _, _, _, rfl, rfl, SqL.of ha, atI_nat (j := 0) rfl, .inl ⟨_, rfl, _, rfl, _, _, rfl, rfl, hn0, ?_⟩⟩
      refine ⟨_, rfl, a, _, _, _, rfl, rfl, SqL.of ha, atI_nat (j := 0) rfl, _, rfl, _, _, rfl, rfl, wide_div hn0 (b := 20) (by omega) (by decide) (by decide), ?_⟩
      refine ⟨_, rfl, a, _, _, _, rfl, rfl, ha, rfl, ?_⟩
      refine ⟨_, rfl, ?_⟩
      exact k _ z _ (Int.emod_nonneg _ (by omega)) (Int.emod_lt_of_pos _ hn0) (by omega) (by omega) ⟨x / n, y, upd_same, hy0, hy1⟩ But.upd
    · refine ⟨_, rfl, a, _, _, _, rfl, rfl, SqL.of ha, atI_nat (j := 2) rfl, _, _, rfl, rfl, ?_⟩
      refine ⟨_, rfl, a, _, _, _, rfl, rfl, ha, rfl, ?_⟩
      have hb : upd H a (.lst [.int x, .int y, .int (z + 1)]) a = some (.lst [.int x, .int y, .int (z + 1)]) := upd_same
      obtain ⟨p, hp, hp0, hp1⟩ := primes_get (i := (z + 1) % 7) (Int.emod_nonneg _ (by decide)) (Int.emod_lt_of_pos _ (by decide))
      refine ⟨by show 7 ≤ sizeLine; decide, fun l hl => ?_⟩
      have hal : a ≠ l := ne_of_none hb hl
      have hc : upd (upd H a (.lst [.int x, .int y, .int (z + 1)])) l (.lst [V.int 2147483647, V.int 2147483629, V.int 2147483587, V.int 2147483579, V.int 2147483563, V.int 2147483549, V.int 2147483543]) a = some (.lst [.int x, .int y, .int (z + 1)]) := (upd_ne hal).trans hb
      refine ⟨_, rfl, a, _, _, _, rfl, rfl, SqL.of hc, atI_nat (j := 2) rfl, .inl ⟨_, rfl, _, _, rfl, rfl, (by show (0 : Int) < 7; decide), l, _, _, _, rfl, rfl, SqL.of upd_same, hp, ?_⟩⟩
      refine ⟨_, rfl, a, _, _, _, rfl, rfl, SqL.of hc, atI_nat (j := 1) rfl, _, rfl, a, _, _, _, rfl, rfl, SqL.of hc, atI_nat (j := 2) rfl, _, _, rfl, rfl, .inl ⟨by decide, by decide⟩, _, _, rfl, rfl, _, _, rfl, rfl, ?_⟩
      refine ⟨_, _, rfl, rfl, pow5_ok (by omega) (by omega), .inl ⟨_, rfl, _, rfl, _, _, rfl, rfl, hp0, ?_⟩⟩
      generalize hq : ((y + 7919 * (z + 1) + 1) ^ (Int.toNat 5)) % p = q
      have q0 : 0 ≤ q := by rw [← hq]; exact Int.emod_nonneg _ (by omega)
      have q1 : q < p := by rw [← hq]; exact Int.emod_lt_of_pos _ hp0
      refine ⟨_, rfl, _, rfl, a, _, _, _, rfl, rfl, SqL.of hc, atI_nat (j := 2) rfl, _, _, rfl, rfl, _, rfl, _, _, rfl, rfl, ⟨by decide, by decide⟩, _, _, rfl, rfl, ?_⟩
      refine ⟨_, _, rfl, rfl, .inl ⟨by omega, by omega⟩, .inl ⟨_, rfl, _, rfl, _, _, rfl, rfl, hp0, ?_⟩⟩
      refine ⟨_, rfl, _, _, rfl, rfl, ⟨by decide, by decide⟩, .inl ⟨_, rfl, _, rfl, _, _, rfl, rfl, hn0, ?_⟩⟩
      exact k _ (z + 1) _ (Int.emod_nonneg _ (by omega)) (Int.emod_lt_of_pos _ hn0) (by omega) (by omega) ⟨x, y, hc, hy0, hy1⟩ (But.upd.new hl)
theorem ok_one {f fD fL : Addr} {fd fdD : FuncData} (F : Fun K "_law_one" "_law_one" sOne f fd) (T : TxtN mg) (FD : Fun K "_law_draw" "_law_draw" sDraw fD fdD) (bD : Binds K fdD ["_law_well_here", "_law_below"] []) (gD : mg "_law_draw" = some (.ref fD)) :
    FnOk P w K mg base CX0 2 f fd ["_law_well_here", "_law_some"] (spOne K) := by
  have GD : FnOk P w K mg base CX0 1 fD fdD ["_law_well_here", "_law_below"] spDraw := ok_draw FD T
  refine F.ok scOne (fun vs H Q E h => ?_) (fun cdv A outer s H vs Q E hr h => ?_)
  · obtain ⟨a, l, z, xs, rfl, _⟩ := h
    rfl
  · obtain ⟨a, l, z, xs, rfl, ha, hl, hal, hx0, hx1, hz0, hz1, k⟩ := h
    refine ⟨_, pss_one (ps_ret (pe_ix ix_list (pv 1) (pe_call GD hr rfl gD FD.kp bD .nil pass0 (pa_cons (pv 0) (pa_cons (pe_callB call_len_seq (by rfl) T.len PySem.boot_len (pa_cons (pv 1) pa_nil)) pa_nil))) (fun _ _ => rfl))), ?_⟩
    refine ⟨_, rfl, _, rfl, _, rfl, l, _, rfl, .inl (SqL.of hl), a, _, z, rfl, ha, by omega, by omega, hz0, hz1, fun d z' H' hd0 hd1 hz2 hz3 hw hk => ?_⟩
    obtain ⟨j, ej⟩ : ∃ j : Nat, d = (j : Int) := ⟨d.toNat, by omega⟩
    have hj : j < xs.length := by omega
    exact ⟨l, xs, _, xs[j], rfl, rfl, SqL.of (hk _ _ hl hal), at_of ej (List.getElem?_eq_getElem hj), k _ z' _ (List.getElem_mem hj) hz2 hz3 hw hk⟩
end
end Pf

set_option Elab.async false
set_option linter.all false
set_option maxRecDepth 100000
set_option maxHeartbeats 4000000
namespace Vl
open PySem PySem.Spec PyProof.Rows L2 Pf

/-- a drawn value -/
inductive LV where
  | non
  | bl (b : Bool)
  | int (i : Int)
  | str (s : Str)
  | unk
  | tup (l : List LV)
  | map (l : List (Str × LV))

/-- what stands, but lists, stands as before -/
def Kp (H H' : Hp) : Prop := ∀ b o, H b = some o → (∀ xs, o ≠ .lst xs) → H' b = some o
theorem Kp.of {H H' : Hp} (k : Same H H') : Kp H H' := fun b o h _ => k b o h
theorem Kp.but {a : Addr} {xs : List V} {H H' : Hp} (k : But a H H') (h : H a = some (.lst xs)) : Kp H H' := fun b o hb n => by
  by_cases e : b = a
  · subst e
    rw [h] at hb
    cases hb
    exact absurd rfl (n xs)
  · exact k b o hb e
theorem Kp.trans {H H1 H2 : Hp} (a : Kp H H1) (b : Kp H1 H2) : Kp H H2 := fun c o h n => b c o (a c o h n) n
theorem Kp.refl (H : Hp) : Kp H H := fun _ _ h _ => h
theorem Same.upd {H H1 : Hp} {p : Addr} {o : HO} (k : Same H H1) (hp : H1 p = none) : Same H (L2.upd H1 p o) := fun b u e => (upd_ne (ne_of_none (k b u e) hp)).trans (k b u e)
theorem sm_upd {H : Hp} {p : Addr} {o : HO} (hp : H p = none) : Same H (upd H p o) := Same.upd (Same.refl H) hp

/-- x stands at v, its parts by R -/
def Node (C : Addr) (H : Hp) (R : LV → V → Prop) : LV → V → Prop
  | .non, v => v = .non
  | .bl b, v => v = .bl b
  | .int i, v => v = .int i
  | .str s, v => v = .str s ∧ s.length ≤ 200 ∧ PyData.strOk s = true
  | .unk, v => ∃ a dx, v = .ref a ∧ H a = some (.ins C dx [])
  | .tup l, v => ∃ a us, v = .ref a ∧ H a = some (.tup us) ∧ l.length ≤ 3 ∧ Paired R l us
  | .map l, v => ∃ a kvs, v = .ref a ∧ H a = some (.dK kvs) ∧ l.length ≤ 3 ∧ (l.map (·.1)).Nodup ∧ (∀ p, p ∈ l → p.1.length ≤ 200 ∧ PyData.strOk p.1 = true) ∧ kvs.map (·.1) = l.map (fun p => Sum.inr p.1) ∧ Paired R (l.map (·.2)) (kvs.map (·.2))
/-- x stands at v, at most n deep; C: the class Unknown -/
def Lv (C : Addr) (H : Hp) : Nat → LV → V → Prop
  | 0 => Node C H fun _ _ => False
  | n + 1 => Node C H (Lv C H n)
theorem Node.imp {C : Addr} {H H' : Hp} {R R' : LV → V → Prop} (k : Kp H H') (i : ∀ x v, R x v → R' x v) {x : LV} {v : V} (h : Node C H R x v) : Node C H' R' x v := by
  cases x with
  | non => exact h
  | bl b => exact h
  | int i => exact h
  | str s => exact h
  | unk =>
    obtain ⟨a, dx, rfl, h⟩ := h
    exact ⟨a, dx, rfl, k _ _ h fun _ z => by cases z⟩
  | tup l =>
    obtain ⟨a, us, rfl, h, hl, p⟩ := h
    exact ⟨a, us, rfl, k _ _ h (fun _ z => by cases z), hl, Paired.mapP p i⟩
  | map l =>
    obtain ⟨a, kvs, rfl, h, hl, nd, ok, hk, p⟩ := h
    exact ⟨a, kvs, rfl, k _ _ h (fun _ z => by cases z), hl, nd, ok, hk, Paired.mapP p i⟩
theorem Lv.keep {C : Addr} {H H' : Hp} (k : Kp H H') : ∀ {n : Nat} {x : LV} {v : V}, Lv C H n x v → Lv C H' n x v
  | 0, _, _, h => Node.imp k (fun _ _ z => z) h
  | _ + 1, _, _, h => Node.imp k (fun _ _ z => Lv.keep k z) h
theorem Lv.up {C : Addr} {H : Hp} : ∀ {n : Nat} {x : LV} {v : V}, Lv C H n x v → Lv C H (n + 1) x v
  | 0, _, _, h => Node.imp (Kp.refl H) (fun _ _ z => z.elim) h
  | _ + 1, _, _, h => Node.imp (Kp.refl H) (fun _ _ z => Lv.up z) h
theorem Lv.le {C : Addr} {H : Hp} {n m : Nat} (e : n ≤ m) {x : LV} {v : V} (h : Lv C H n x v) : Lv C H m x v := by
  induction e with
  | refl => exact h
  | step _ ih => exact ih.up
/-- what stands at v, without a depth -/
def Stands (C : Addr) (H : Hp) (x : LV) (v : V) : Prop := ∃ R, Node C H R x v
theorem Lv.stands {C : Addr} {H : Hp} : ∀ {n : Nat} {x : LV} {v : V}, Lv C H n x v → Stands C H x v
  | 0, _, _, h => ⟨_, h⟩
  | _ + 1, _, _, h => ⟨_, h⟩

theorem iteC {c : Bool} {A B : Prop} (e : c = true) (h : A) : if c = true then A else B := by rw [if_pos e]; exact h
theorem iteN {c : Bool} {A B : Prop} (e : c = false) (h : B) : if c = true then A else B := by rw [if_neg (by rw [e]; exact Bool.false_ne_true)]; exact h
/-! ### isinstance -/
structure UnkC (K : PySem.W.Frag) (C : Addr) : Prop where
  ins : C8.InsC K C
  kT : ∀ T, T ∈ ["bool", "int", "str", "dict", "tuple"] → PySem.W.kitOne K (.ref C) (.type T) = some false
  kU : ∀ T, T ∈ ["NoneType", "bool", "int", "str", "dict", "tuple"] → PySem.W.kitOne K (.type T) (.ref C) = some false
def tyN : LV → String
  | .non => "NoneType"
  | .bl _ => "bool"
  | .int _ => "int"
  | .str _ => "str"
  | .unk => ""
  | .tup _ => "tuple"
  | .map _ => "dict"
def tyOf (C : Addr) : LV → Value
  | .unk => .ref C
  | x => .type (tyN x)
def isA (a T : String) : Bool := a == T || (a == "bool" && T == "int")
def isT (T : String) : LV → Bool
  | .unk => false
  | x => isA (tyN x) T
def isU : LV → Bool
  | .unk => true
  | _ => false
theorem Stands.ty {K : PySem.W.Frag} {C : Addr} {H : Hp} (U : UnkC K C) {x : LV} {v : V} (h : Stands C H x v) : TyX K H v (tyOf C x) := by
  obtain ⟨R, h⟩ := h
  cases x with
  | non => cases h; exact .base .non
  | bl b => cases h; exact .base (.bl b)
  | int i => cases h; exact .base (.int i)
  | str s => obtain ⟨rfl, _⟩ := h; exact .base (.str s)
  | unk => obtain ⟨a, dx, rfl, h⟩ := h; exact .base (.ins h U.ins.cl U.ins.ha U.ins.hn U.ins.htk U.ins.hm)
  | tup l => obtain ⟨a, us, rfl, h, _⟩ := h; exact .base (.tup h)
  | map l => obtain ⟨a, us, rfl, h, _⟩ := h; exact .base (.dK h)
theorem kit_tab : ∀ a ∈ ["NoneType", "bool", "int", "str", "tuple", "dict"], ∀ T ∈ ["bool", "int", "str", "dict", "tuple"], kitB a T = some (isA a T) := by decide +kernel
theorem kit_is {K : PySem.W.Frag} {C : Addr} (U : UnkC K C) {T : String} (hT : T ∈ ["bool", "int", "str", "dict", "tuple"]) (x : LV) : PySem.W.kitOne K (tyOf C x) (.type T) = some (isT T x) := by
  cases x with
  | unk => exact U.kT T hT
  | non => exact kit_ty (kit_tab _ (by simp [tyN]) T hT)
  | bl b => exact kit_ty (kit_tab _ (by simp [tyN]) T hT)
  | int i => exact kit_ty (kit_tab _ (by simp [tyN]) T hT)
  | str s => exact kit_ty (kit_tab _ (by simp [tyN]) T hT)
  | tup l => exact kit_ty (kit_tab _ (by simp [tyN]) T hT)
  | map l => exact kit_ty (kit_tab _ (by simp [tyN]) T hT)
theorem kit_isU {K : PySem.W.Frag} {C : Addr} (U : UnkC K C) (x : LV) : PySem.W.kitOne K (tyOf C x) (.ref C) = some (isU x) := by
  cases x with
  | unk => exact U.ins.me
  | non => exact U.kU _ (by simp [tyN])
  | bl b => exact U.kU _ (by simp [tyN])
  | int i => exact U.kU _ (by simp [tyN])
  | str s => exact U.kU _ (by simp [tyN])
  | tup l => exact U.kU _ (by simp [tyN])
  | map l => exact U.kU _ (by simp [tyN])
section
variable {X : Cx} {C : Addr}
theorem call_isV (U : UnkC X.K C) {T : String} (hT : T ∈ ["bool", "int", "str", "dict", "tuple"]) : CallR X (.builtin "isinstance") (fun xs H Q => ∃ v x, xs = [v, .ty T] ∧ Stands C H x v ∧ Q (.bl (isT T x)) H) := fun pins s σ H xs us Q I r ⟨v, x, e, h, q⟩ =>
  call_isi pins s σ H xs us Q I r ⟨v, .ty T, tyOf C x, .type T, isT T x, e, .ty T, h.ty U, kit_is U hT x, q⟩
theorem call_isUk (U : UnkC X.K C) : CallR X (.builtin "isinstance") (fun xs H Q => ∃ v x, xs = [v, .ref C] ∧ Stands C H x v ∧ Q (.bl (isU x)) H) := fun pins s σ H xs us Q I r ⟨v, x, e, h, q⟩ =>
  call_isi pins s σ H xs us Q I r ⟨v, .ref C, tyOf C x, .ref C, isU x, e, .own C, h.ty U, kit_isU U x, q⟩
end

/-! ### comprehensions without tests over one name -/
/-- the reading of a comprehension whose turns give out 0, out 1, .. -/
theorem lc_vals {J : It} {n j : Nat} {G : Hp → Prop} {Y : Nat → Hp → V → Hp → Prop} (w : Walk J n G Y) {te : TE} {vs : List Nat} {σ : L2.St} {H1 : Hp} {D : Addr} {Qd : Hp → Prop} (hD : H1 D = none) (out : Nat → V)
    (hn : n < sizeLine) (hG : ∀ H, Same H1 H → G H) (hw : ∀ x, wipe ((wipe σ vs).set j (some x)) vs = wipe σ vs)
    (hs : ∀ i x H H' (N : V → Hp → Prop), i < n → Same H1 H → Y i H x H' → (∀ H4, Same H H4 → N (out i) H4) → te ((wipe σ vs).set j (some x)) H' N)
    (hd : ∀ H, Same H1 H → H D = some (.lst ((List.range n).map out)) → Qd H) :
    ∃ W : Nat → Nat → Hp → Prop, (∃ m, W 0 m (upd H1 D (.lst []))) ∧ ∀ i m H, W i m H →
      (J.stop i H ∧ Qd H) ∨ (J.go i H ∧ ∃ Nx : Hp → Prop, (∀ H', Nx H' → ∃ m', m' < m ∧ W (i + 1) m' H') ∧ ∀ x H', J.yld i H x H' → gName j x (wipe σ vs) H' fun σ2 H2 => wipe σ2 vs = wipe σ vs ∧ tYes σ2 H2 fun b H3 =>
        if b = true then te σ2 H3 fun y H4 => ∃ acc, H4 D = some (.lst acc) ∧ acc.length < sizeLine ∧ Nx (upd H4 D (.lst (acc ++ [y]))) else Nx H3) := by
  refine lc_it w (fun i H => Same H1 H ∧ H D = some (.lst ((List.range i).map out))) ⟨sm_upd hD, upd_same⟩ (fun i H _ h => hG H h.1) (fun i x H H' hi h y => ?_) (fun H h => hd H h.1 h.2)
  refine ⟨hw x, ?_⟩
  refine iteT (B := Same H1 H' ∧ H' D = some (.lst ((List.range (i + 1)).map out))) ?_
  refine hs i x H H' _ hi h.1 y fun H4 k => ?_
  refine ⟨_, k _ _ h.2, ?_, ?_, ?_⟩
  · rw [List.length_map, List.length_range]
    omega
  · intro b o e
    have nb : b ≠ D := fun z => by rw [z, hD] at e; cases e
    rw [upd_ne nb]
    exact k b o (h.1 b o e)
  · rw [upd_same, List.range_succ, List.map_append]
    rfl
end Vl

set_option Elab.async false
set_option linter.all false
set_option maxRecDepth 100000
set_option maxHeartbeats 4000000
namespace Vl
open PySem PySem.Spec PyProof.Rows L2 Pf
abbrev sTag : Stmt := top 26
structure TxtV (mg : Str → Option Value) (C : Addr) : Prop where
  isi : mg "isinstance" = none
  len : mg "len" = none
  int : mg "int" = none
  bool : mg "bool" = none
  str : mg "str" = none
  dict : mg "dict" = none
  tuple : mg "tuple" = none
  list : mg "list" = none
  all : mg "all" = none
  sum : mg "sum" = none
  range : mg "range" = none
  sorted : mg "sorted" = none
  enumerate : mg "enumerate" = none
  unk : mg "Unknown" = some (.ref C)
theorem Lv.tupP {C : Addr} {H : Hp} : ∀ {n : Nat} {l : List LV} {v : V}, Lv C H n (.tup l) v → ∃ a us, v = .ref a ∧ H a = some (.tup us) ∧ l.length ≤ 3 ∧ Paired (Stands C H) l us
  | 0, _, _, ⟨a, us, e, h, hl, p⟩ => ⟨a, us, e, h, hl, Paired.mapP p fun _ _ z => z.elim⟩
  | _ + 1, _, _, ⟨a, us, e, h, hl, p⟩ => ⟨a, us, e, h, hl, Paired.mapP p fun _ _ z => z.stands⟩
def letterAt (s : Str) (i : Nat) : Bool := match s.cps[i]? with
  | some c => decide (c ∈ ("abcdefghijklmnopqrstuvwxyz" : Str).cps.toList)
  | none => true
/-- the letters of a text are all among a to z -/
def lettersL (s : Str) : Bool := (List.range s.cps.size).all (letterAt s)
theorem all_id (f : Nat → Bool) : ∀ l : List Nat, (l.map f).all id = l.all f
  | [] => rfl
  | _ :: l => congrArg (_ && ·) (all_id f l)
def isTag3 : LV → LV → LV → Bool
  | .str m, .str s, .int k => decide (m = "#") && (decide (0 < s.length) && (decide (s.length < 13) && (decide (0 < k) && lettersL s)))
  | _, _, _ => false
def isTagL : List LV → Bool
  | [x, y, z] => isTag3 x y z
  | _ => false
theorem isTagL_len : ∀ {l : List LV}, l.length ≠ 3 → isTagL l = false
  | [], _ => rfl
  | [_], _ => rfl
  | [_, _], _ => rfl
  | [_, _, _], h => absurd rfl h
  | _ :: _ :: _ :: _ :: _, _ => rfl
theorem isTag3_str {x y z : LV} (h : ¬ isT "str" x = true) : isTag3 x y z = false := by
  cases x <;> first | rfl | (exfalso; revert h; simp [isT, isA, tyN])
theorem isTag3_str2 {x y z : LV} (h : ¬ isT "str" y = true) : isTag3 x y z = false := by
  cases y <;> cases x <;> first | rfl | (exfalso; revert h; simp [isT, isA, tyN])
theorem isTag3_int {x y z : LV} (h : ¬ isT "int" z = true) : isTag3 x y z = false := by
  cases z <;> cases x <;> cases y <;> first | rfl | (exfalso; revert h; simp [isT, isA, tyN])
theorem isTag3_bool {x y z : LV} (h : isT "bool" z = true) : isTag3 x y z = false := by
  cases z <;> cases x <;> cases y <;> first | rfl | (exfalso; revert h; simp [isT, isA, tyN])
theorem isTag3_ne {m : Str} {y z : LV} (h : ¬ m = "#") : isTag3 (.str m) y z = false := by
  cases y <;> cases z <;> simp [isTag3, h]
theorem isTag3_no {x z : LV} {m : Str} (h : 0 < m.length → m.length < 13 → False) : isTag3 x (.str m) z = false := by
  cases x <;> cases z <;> first | rfl | skip
  rename_i y k
  by_cases a : 0 < m.length
  · have b : ¬ m.length < 13 := fun b => h a b
    simp [isTag3, b]
  · simp [isTag3, a]
theorem isStr {C : Addr} {H : Hp} {x : LV} {v : V} (e : isT "str" x = true) (h : Stands C H x v) : ∃ m, x = .str m ∧ v = .str m ∧ m.length ≤ 200 := by
  obtain ⟨R, h⟩ := h
  cases x with
  | str m => exact ⟨m, rfl, h.1, h.2.1⟩
  | _ => exact absurd e (by simp [isT, isA, tyN])
theorem isInt {C : Addr} {H : Hp} {x : LV} {v : V} (e : isT "int" x = true) (e' : isT "bool" x = false) (h : Stands C H x v) : ∃ i, x = .int i ∧ v = .int i := by
  obtain ⟨R, h⟩ := h
  cases x with
  | int m => exact ⟨m, rfl, h⟩
  | bl b => exact absurd e' (by simp [isT, isA, tyN])
  | _ => exact absurd e (by simp [isT, isA, tyN])
def spTag (C : Addr) : Sp := fun vs H Q _ => ∃ (a : Addr) (l : List LV) (us : List V), vs = [.ref a] ∧ H a = some (.tup us) ∧ l.length ≤ 3 ∧ Paired (Stands C H) l us ∧ ∀ H', Same H H' → Q (.bl (isTagL l)) H'
abbrev NTag : List Str := ["_law_value_here", "_law_name", "_law_number", "_law_letter"]
theorem scTag : FnScope NTag ["_law_value_here"] (defScope sTag) := ⟨rfl, rfl, rfl, by decide +kernel, rfl, by decide +kernel, by decide +kernel⟩
section
variable {P : Program} {w : World} {K : PySem.W.Frag} {mg : Str → Option Value} {base : Heap} {C : Addr}
theorem ok_ltag {f : Addr} {fd : FuncData} (F : Fun K "_law_is_tag" "_law_is_tag" sTag f fd) (T : TxtV mg C) (U : UnkC K C) : FnOk P w K mg base CX0 1 f fd ["_law_value_here"] (spTag C) := by
  refine F.ok scTag (fun vs H Q E h => ?_) (fun cdv A outer s H vs Q E hr h => ?_)
  · obtain ⟨a, l, us, rfl, _⟩ := h
    rfl
  · obtain ⟨a, l, us, rfl, ha, hl, p, k⟩ := h
    refine ⟨_, (pss_cons (ps_if (PW.pt (pw_or (pt_cmpR op_ne (pe_callB call_len_seq (by rfl) T.len PySem.boot_len (pa_cons (pv 0) pa_nil)) pe_int (nomark _)) (pw_or (pt_not (pt_val (pe_callB (call_isV U (T := "str") (by simp)) (by rfl) T.isi (by decide +kernel) (pa_cons (pe_ix ix_tup (pv 0) pe_int (fun _ _ => rfl)) (pa_cons (pe_bltn (v := .ty "str") (by rfl) T.str (by decide +kernel) rfl) pa_nil))))) (pw_or1 (pt_cmpR op_ne (pe_ix ix_tup (pv 0) pe_int (fun _ _ => rfl)) pe_str (nomark _)))))) (pss_one (ps_ret pe_bl)) pss_nil)
        (pss_cons (ps_par (i := 1) (j := 2) (by rfl) scTag.nd rfl rfl (by decide) rfl rfl (pa_cons (pe_ix ix_tup (pv 0) pe_int (fun _ _ => rfl)) (pa_cons (pe_ix ix_tup (pv 0) pe_int (fun _ _ => rfl)) pa_nil)) (by rfl))
        (pss_cons (ps_if (PW.pt (pw_or (pt_not (pt_val (pe_callB (call_isV U (T := "str") (by simp)) (by rfl) T.isi (by decide +kernel) (pa_cons (pv 1) (pa_cons (pe_bltn (v := .ty "str") (by rfl) T.str (by decide +kernel) rfl) pa_nil))))) (pw_or (pt_not (pt_chain op_lt op_lt pe_int (pe_callB call_len_str (by rfl) T.len PySem.boot_len (pa_cons (pv 1) pa_nil)) pe_int)) (pw_or (pt_not (pt_val (pe_callB (call_isV U (T := "int") (by simp)) (by rfl) T.isi (by decide +kernel) (pa_cons (pv 2) (pa_cons (pe_bltn (v := .ty "int") (by rfl) T.int (by decide +kernel) rfl) pa_nil))))) (pw_or1 (pt_val (pe_callB (call_isV U (T := "bool") (by simp)) (by rfl) T.isi (by decide +kernel) (pa_cons (pv 2) (pa_cons (pe_bltn (v := .ty "bool") (by rfl) T.bool (by decide +kernel) rfl) pa_nil))))))))) (pss_one (ps_ret pe_bl)) pss_nil)
        (pss_one (ps_ret (pe_and (pe_cmpR op_gt (pv 2) pe_int (nomark _)) (pe_one (pe_callB (cr_all rfl) (by rfl) T.all (by decide +kernel) (pa_cons (pe_lc (own := [("_law_letter", 3)]) (g := gName 3) (tt := tYes) rfl scTag.nd (pi_str (pv 1)) (blkOk_by (N := NTag) (sc := defScope sTag) (by decide +kernel)) (fun _ _ _ _ _ => pg_name (i := 3) scTag.nd rfl (Or.inl rfl)) (fun _ _ _ _ _ => pts_nil) (fun _ _ _ _ _ => (pe_cmpR op_in_sign (pv 3) pe_str (by rfl)))) pa_nil))))))))), ?_⟩
    have en : us.length = l.length := (Paired.length p).symm
    refine ⟨_, rfl, a, _, rfl, .inr (SqT.of ha), rfl, ?_⟩
    refine ⟨_, rfl, ?_⟩
    by_cases e3 : l.length = 3
    · refine iteN (by rw [en, e3]; rfl) ?_
      obtain ⟨x, y, z, rfl⟩ : ∃ x y z, l = [x, y, z] := by
        match l, e3 with
        | [x, y, z], _ => exact ⟨x, y, z, rfl⟩
      obtain ⟨u, us, rfl, px, p⟩ : ∃ u vs, us = u :: vs ∧ Stands C H x u ∧ Paired (Stands C H) [y, z] vs := by cases p with | cons h1 h2 => exact ⟨_, _, rfl, h1, h2⟩
      obtain ⟨v, us, rfl, py, p⟩ : ∃ u ws, us = u :: ws ∧ Stands C H y u ∧ Paired (Stands C H) [z] ws := by cases p with | cons h1 h2 => exact ⟨_, _, rfl, h1, h2⟩
      obtain ⟨w', us, rfl, pz, p⟩ : ∃ u ws, us = u :: ws ∧ Stands C H z u ∧ Paired (Stands C H) [] ws := by cases p with | cons h1 h2 => exact ⟨_, _, rfl, h1, h2⟩
      cases p
      refine ⟨_, rfl, a, _, _, _, rfl, rfl, SqT.of ha, atI_nat (j := 0) rfl, _, x, rfl, px, _, rfl, ?_⟩
      have fin : ∀ H', Same H H' → ∀ b, isTagL [x, y, z] = b → Q (.bl b) H' := fun H' k' b e => e ▸ k H' k'
      by_cases ex : isT "str" x = true
      · obtain ⟨m, rfl, rfl, hm⟩ := isStr ex px
        refine iteN (by rw [ex]; rfl) ?_
        refine ⟨_, rfl, a, _, _, _, rfl, rfl, SqT.of ha, atI_nat (j := 0) rfl, rfl, _, rfl, ?_⟩
        by_cases em : m = "#"
        · subst em
          refine iteN (by decide +kernel) ?_
          refine ⟨_, rfl, a, _, _, _, rfl, rfl, SqT.of ha, atI_nat (j := 1) rfl, _, rfl, a, _, _, _, rfl, rfl, SqT.of ha, atI_nat (j := 2) rfl, _, _, rfl, ?_⟩
          refine ⟨_, rfl, _, y, rfl, py, _, rfl, ?_⟩
          by_cases ey : isT "str" y = true
          · obtain ⟨m, rfl, rfl, hm⟩ := isStr ey py
            refine iteN (by rw [ey]; rfl) ?_
            have hz : m.length ≤ sizeLine := Nat.le_trans hm (by decide)
            refine ⟨_, rfl, _, rfl, hz, _, _, rfl, rfl, _, rfl, ?_⟩
            by_cases l0 : 0 < m.length
            · refine iteC (by simp [l0]) ?_
              refine ⟨_, _, rfl, rfl, _, rfl, ?_⟩
              by_cases l1 : m.length < 13
              · refine iteN (by simp; omega) ?_
                refine ⟨_, rfl, _, z, rfl, pz, _, rfl, ?_⟩
                by_cases ei : isT "int" z = true
                · refine iteN (by rw [ei]; rfl) ?_
                  refine ⟨_, rfl, _, z, rfl, pz, _, rfl, ?_⟩
                  by_cases eb : isT "bool" z = true
                  · refine iteC eb ?_
                    exact fin _ (Same.refl H) _ (isTag3_bool eb)
                  · refine iteN ((Bool.not_eq_true _).mp eb) ?_
                    obtain ⟨i, rfl, rfl⟩ := isInt ei ((Bool.not_eq_true _).mp eb) pz
                    refine ⟨_, rfl, _, _, rfl, rfl, _, rfl, ?_⟩
                    by_cases i0 : 0 < i
                    · refine iteC (by simp [i0]) ?_
                      refine ⟨_, rfl, _, rfl, fun D hD => ?_⟩
                      refine lc_vals walk_str hD (fun i => V.bl (letterAt m i)) (Nat.lt_of_le_of_lt hm (by decide)) (fun _ _ => True.intro) (fun _ => rfl) (fun i x H1 H2 N hi k1 y q => ?_) (fun H1 k1 h1 => ?_)
                      · obtain ⟨rfl, c, hc, rfl⟩ := y
                        refine ⟨_, rfl, c, _, rfl, rfl, ?_⟩
                        have := q H2 (Same.refl H2)
                        rw [show letterAt m i = decide (c ∈ ("abcdefghijklmnopqrstuvwxyz" : Str).cps.toList) from by unfold letterAt; rw [hc]] at this
                        exact this
                      · refine ⟨D, (List.range m.cps.size).map (letterAt m), rfl, SqL.of (by rw [List.map_map]; exact h1), ?_⟩
                        rw [all_id]
                        refine fin _ k1 _ ?_
                        simp [isTagL, isTag3, l0, l1, i0, lettersL]
                    · refine iteN (by simp [i0]) ?_
                      refine fin _ (Same.refl H) _ ?_
                      simp [isTagL, isTag3, i0]
                · refine iteC (by rw [(Bool.not_eq_true _).mp ei]; rfl) ?_
                  exact fin _ (Same.refl H) _ (isTag3_int ei)
              · refine iteC (by simp; omega) ?_
                exact fin _ (Same.refl H) _ (isTag3_no fun _ h => l1 h)
            · refine iteN (by simp [l0]) ?_
              refine ⟨_, rfl, ?_⟩
              refine iteC rfl ?_
              exact fin _ (Same.refl H) _ (isTag3_no fun h _ => l0 h)
          · refine iteC (by rw [(Bool.not_eq_true _).mp ey]; rfl) ?_
            exact fin _ (Same.refl H) _ (isTag3_str2 ey)
        · refine iteC (by simp [em]) ?_
          exact fin _ (Same.refl H) _ (isTag3_ne em)
      · refine iteC (by rw [(Bool.not_eq_true _).mp ex]; rfl) ?_
        exact fin _ (Same.refl H) _ (isTag3_str ex)
    · have : ¬ ((us.length : Int) = 3) := by omega
      refine iteC (by simp [this]) ?_
      have := k H (Same.refl H)
      rw [isTagL_len e3] at this
      exact this
end
end Vl

set_option Elab.async false
set_option linter.all false
set_option maxRecDepth 100000
set_option maxHeartbeats 4000000
namespace Vl
open PySem PySem.Spec PyProof.Rows L2 Pf
abbrev sSort : Stmt := top 27
/-- the def x stands at f and keeps sp -/
structure Def (P : Program) (w : World) (K : PySem.W.Frag) (mg : Str → Option Value) (base : Heap) (k : Nat) (x : Str) (f : Addr) (fd : FuncData) (ps : List Str) (sp : Sp) : Prop where
  ok : FnOk P w K mg base CX0 k f fd ps sp
  g : mg x = some (.ref f)
  kp : PySem.W.keepIn K (.ref f) = true
  b : Binds K fd ps []
def sortL : LV → Str
  | .non => "none"
  | .bl _ => "bool"
  | .int _ => "integer"
  | .str _ => "text"
  | .unk => "unknown"
  | .map _ => "map"
  | .tup l => if isTagL l = true then "tag" else "tuple"
def spSort (C : Addr) : Sp := fun vs H Q _ => ∃ (n : Nat) (v : V) (x : LV), vs = [v] ∧ Lv C H n x v ∧ ∀ H', Same H H' → Q (.str (sortL x)) H'
theorem scSort : FnScope ["_law_value_here"] ["_law_value_here"] (defScope sSort) := ⟨rfl, rfl, rfl, by decide +kernel, rfl, by decide +kernel, by decide +kernel⟩
section
variable {P : Program} {w : World} {K : PySem.W.Frag} {mg : Str → Option Value} {base : Heap} {C : Addr}
theorem ok_lsort {f fT : Addr} {fd fdT : FuncData} (F : Fun K "_law_sort" "_law_sort" sSort f fd) (T : TxtV mg C) (U : UnkC K C) (DT : Def P w K mg base 1 "_law_is_tag" fT fdT ["_law_value_here"] (spTag C)) :
    FnOk P w K mg base CX0 2 f fd ["_law_value_here"] (spSort C) := by
  refine F.ok scSort (fun vs H Q E h => ?_) (fun cdv A outer s H vs Q E hr h => ?_)
  · obtain ⟨n, v, x, rfl, _⟩ := h
    rfl
  · obtain ⟨n, v, x, rfl, h, k⟩ := h
    refine ⟨_, (pss_cons (ps_if (pt_cmpR op_isN (pv 0) pe_non (nomark _)) (pss_one (ps_ret pe_str)) pss_nil)
        (pss_cons (ps_if (pt_val (pe_callB (call_isV U (T := "bool") (by simp)) (by rfl) T.isi (by decide +kernel) (pa_cons (pv 0) (pa_cons (pe_bltn (v := .ty "bool") (by rfl) T.bool (by decide +kernel) rfl) pa_nil)))) (pss_one (ps_ret pe_str)) pss_nil)
        (pss_cons (ps_if (pt_val (pe_callB (call_isV U (T := "int") (by simp)) (by rfl) T.isi (by decide +kernel) (pa_cons (pv 0) (pa_cons (pe_bltn (v := .ty "int") (by rfl) T.int (by decide +kernel) rfl) pa_nil)))) (pss_one (ps_ret pe_str)) pss_nil)
        (pss_cons (ps_if (pt_val (pe_callB (call_isV U (T := "str") (by simp)) (by rfl) T.isi (by decide +kernel) (pa_cons (pv 0) (pa_cons (pe_bltn (v := .ty "str") (by rfl) T.str (by decide +kernel) rfl) pa_nil)))) (pss_one (ps_ret pe_str)) pss_nil)
        (pss_cons (ps_if (pt_val (pe_callB (call_isUk U) (by rfl) T.isi (by decide +kernel) (pa_cons (pv 0) (pa_cons (pe_glob (v := .ref C) rfl T.unk rfl) pa_nil)))) (pss_one (ps_ret pe_str)) pss_nil)
        (pss_cons (ps_if (pt_val (pe_callB (call_isV U (T := "dict") (by simp)) (by rfl) T.isi (by decide +kernel) (pa_cons (pv 0) (pa_cons (pe_bltn (v := .ty "dict") (by rfl) T.dict (by decide +kernel) rfl) pa_nil)))) (pss_one (ps_ret pe_str)) pss_nil)
        (pss_one (ps_ret (pe_ifExp (pt_val (pe_call DT.ok hr rfl DT.g DT.kp DT.b .nil pass0 (pa_cons (pv 0) pa_nil))) pe_str pe_str))))))))), ?_⟩
    have fin : ∀ H', Same H H' → ∀ b, sortL x = b → Q (.str b) H' := fun H' k' b e => e ▸ k H' k'
    have hs := h.stands
    have hs' := hs
    obtain ⟨R, hs'⟩ := hs'
    refine ⟨_, rfl, rfl, _, rfl, ?_⟩
    cases x with
    | non =>
      cases hs'
      refine iteC (by simp) ?_
      exact fin _ (Same.refl H) _ rfl
    | bl b =>
      cases hs'
      refine iteN (by simp) ⟨_, rfl, _, _, rfl, hs, _, rfl, ?_⟩
      refine iteC rfl ?_
      exact fin _ (Same.refl H) _ rfl
    | int i =>
      cases hs'
      refine iteN (by simp) ⟨_, rfl, _, _, rfl, hs, _, rfl, ?_⟩
      refine iteN rfl ⟨_, rfl, _, _, rfl, hs, _, rfl, ?_⟩
      refine iteC rfl ?_
      exact fin _ (Same.refl H) _ rfl
    | str s =>
      obtain ⟨rfl, _⟩ := hs'
      refine iteN (by simp) ⟨_, rfl, _, _, rfl, hs, _, rfl, ?_⟩
      refine iteN rfl ⟨_, rfl, _, _, rfl, hs, _, rfl, ?_⟩
      refine iteN rfl ⟨_, rfl, _, _, rfl, hs, _, rfl, ?_⟩
      refine iteC rfl ?_
      exact fin _ (Same.refl H) _ rfl
    | unk =>
      obtain ⟨a, dx, rfl, _⟩ := hs'
      refine iteN (by simp) ⟨_, rfl, _, _, rfl, hs, _, rfl, ?_⟩
      refine iteN rfl ⟨_, rfl, _, _, rfl, hs, _, rfl, ?_⟩
      refine iteN rfl ⟨_, rfl, _, _, rfl, hs, _, rfl, ?_⟩
      refine iteN rfl ⟨_, rfl, _, _, rfl, hs, _, rfl, ?_⟩
      refine iteC rfl ?_
      exact fin _ (Same.refl H) _ rfl
    | map l =>
      obtain ⟨a, kvs, rfl, _⟩ := hs'
      refine iteN (by simp) ⟨_, rfl, _, _, rfl, hs, _, rfl, ?_⟩
      refine iteN rfl ⟨_, rfl, _, _, rfl, hs, _, rfl, ?_⟩
      refine iteN rfl ⟨_, rfl, _, _, rfl, hs, _, rfl, ?_⟩
      refine iteN rfl ⟨_, rfl, _, _, rfl, hs, _, rfl, ?_⟩
      refine iteN rfl ⟨_, rfl, _, _, rfl, hs, _, rfl, ?_⟩
      refine iteC rfl ?_
      exact fin _ (Same.refl H) _ rfl
    | tup l =>
      obtain ⟨a, us, rfl, ha, hl, p⟩ := h.tupP
      refine iteN (by simp) ⟨_, rfl, _, _, rfl, hs, _, rfl, ?_⟩
      refine iteN rfl ⟨_, rfl, _, _, rfl, hs, _, rfl, ?_⟩
      refine iteN rfl ⟨_, rfl, _, _, rfl, hs, _, rfl, ?_⟩
      refine iteN rfl ⟨_, rfl, _, _, rfl, hs, _, rfl, ?_⟩
      refine iteN rfl ⟨_, rfl, _, _, rfl, hs, _, rfl, ?_⟩
      refine iteN rfl ⟨_, rfl, a, l, us, rfl, ha, hl, p, fun H' k' => ⟨_, rfl, ?_⟩⟩
      refine ite2 (fun e => ?_) fun e => ?_
      · exact fin _ k' _ (if_pos e)
      · exact fin _ k' _ (if_neg e)
end
end Vl

set_option Elab.async false
set_option linter.all false
set_option maxRecDepth 100000
set_option maxHeartbeats 4000000
namespace Vl
open PySem PySem.Spec PyProof.Rows L2 Pf
/-- the reading of a comprehension without tests: what its turns give stands to their numbers by Rl -/
theorem lc_rel {J : It} {n : Nat} {G : Hp → Prop} {Y : Nat → Hp → V → Hp → Prop} (w : Walk J n G Y) {g : TG} {te : TE} {vs : List Nat} {σ : L2.St} {H1 : Hp} {D : Addr} {Qd : Hp → Prop} (hD : H1 D = none) (Rl : Nat → V → Hp → Prop)
    (mono : ∀ i y H H', Kp H H' → Rl i y H → Rl i y H') (hn : n < sizeLine) (hG : ∀ H, Same H1 H → G H)
    (hs : ∀ i x H H' (N : V → Hp → Prop), i < n → Same H1 H → Y i H x H' → (∀ y H4, Same H H4 → Rl i y H4 → N y H4) → g x (wipe σ vs) H' fun σ2 H2 => wipe σ2 vs = wipe σ vs ∧ te σ2 H2 N)
    (hd : ∀ H ys, Same H1 H → H D = some (.lst ys) → ys.length = n → (∀ i, i < n → ∃ y, ys[i]? = some y ∧ Rl i y H) → Qd H) :
    ∃ W : Nat → Nat → Hp → Prop, (∃ m, W 0 m (upd H1 D (.lst []))) ∧ ∀ i m H, W i m H →
      (J.stop i H ∧ Qd H) ∨ (J.go i H ∧ ∃ Nx : Hp → Prop, (∀ H', Nx H' → ∃ m', m' < m ∧ W (i + 1) m' H') ∧ ∀ x H', J.yld i H x H' → g x (wipe σ vs) H' fun σ2 H2 => wipe σ2 vs = wipe σ vs ∧ tYes σ2 H2 fun b H3 =>
        if b = true then te σ2 H3 fun y H4 => ∃ acc, H4 D = some (.lst acc) ∧ acc.length < sizeLine ∧ Nx (upd H4 D (.lst (acc ++ [y]))) else Nx H3) := by
  refine lc_it w (fun i H => Same H1 H ∧ ∃ ys, H D = some (.lst ys) ∧ ys.length = i ∧ ∀ j, j < i → ∃ y, ys[j]? = some y ∧ Rl j y H) ⟨sm_upd hD, [], upd_same, rfl, fun j h => absurd h (Nat.not_lt_zero _)⟩ (fun i H _ h => hG H h.1) (fun i x H H' hi h y => ?_) (fun H h => by
    obtain ⟨k, ys, h1, h2, h3⟩ := h
    exact hd H ys k h1 h2 h3)
  obtain ⟨k1, ys, h1, h2, h3⟩ := h
  have e : ∀ (N : V → Hp → Prop) (M : Hp → Prop), (fun (σ2 : L2.St) (H2 : Hp) => wipe σ2 vs = wipe σ vs ∧ tYes σ2 H2 fun b H3 => if b = true then te σ2 H3 N else M H3) = (fun σ2 H2 => wipe σ2 vs = wipe σ vs ∧ te σ2 H2 N) := fun N M => funext fun σ2 => funext fun H2 => by
    show (_ ∧ (if true = true then te σ2 H2 N else M H2)) = _
    rw [if_pos rfl]
  rw [e]
  refine hs i x H H' _ hi k1 y fun v H4 k4 r => ?_
  have hk : Kp H4 (upd H4 D (.lst (ys ++ [v]))) := fun b o hb nb => by
    have : b ≠ D := fun z => by
      rw [z, k4 _ _ h1] at hb
      cases hb
      exact nb _ rfl
    rw [upd_ne this]
    exact hb
  refine ⟨ys, k4 _ _ h1, by omega, ?_, ys ++ [v], upd_same, by rw [List.length_append, h2]; rfl, fun j hj => ?_⟩
  · intro b o eb
    have nb : b ≠ D := fun z => by rw [z, hD] at eb; cases eb
    rw [upd_ne nb]
    exact k4 b o (k1 b o eb)
  · by_cases ej : j = i
    · subst ej
      exact ⟨v, by rw [← h2]; exact List.getElem?_concat_length, mono _ _ _ _ hk r⟩
    · obtain ⟨y, e1, r1⟩ := h3 j (by omega)
      exact ⟨y, by rw [List.getElem?_append_left (by omega)]; exact e1, mono _ _ _ _ ((Kp.of k4).trans hk) r1⟩
end Vl

set_option Elab.async false
set_option linter.all false
set_option maxRecDepth 100000
set_option maxHeartbeats 4000000
namespace Vl
open PySem PySem.Spec PyProof.Rows L2 Pf
theorem ltCps_as : ∀ a b : List Nat, ltCps a b = false → ltCps b a = false → a = b
  | [], [], _, _ => rfl
  | [], _ :: _, h, _ => by simp [ltCps] at h
  | _ :: _, [], _, h => by simp [ltCps] at h
  | x :: r, y :: t, h1, h2 => by
    simp only [ltCps, Bool.or_eq_false_iff, Bool.and_eq_false_iff, decide_eq_false_iff_not, beq_eq_false_iff_ne] at h1 h2
    have e : x = y := by omega
    subst e
    have a1 : ltCps r t = false := h1.2.resolve_left fun z => z rfl
    have a2 : ltCps t r = false := h2.2.resolve_left fun z => z rfl
    rw [ltCps_as r t a1 a2]
theorem ltCps_tr : ∀ a b c : List Nat, ltCps b a = false → ltCps c b = false → ltCps c a = false
  | _, _, [], _, h => by
    rename_i a b _
    cases a with
    | nil => rfl
    | cons x r =>
      cases b with
      | nil => (rename_i h1; simp [ltCps] at h1)
      | cons y t => simp [ltCps] at h
  | [], _, _ :: _, _, _ => rfl
  | _ :: _, [], _ :: _, h, _ => by simp [ltCps] at h
  | x :: r, y :: t, z :: u, h1, h2 => by
    simp only [ltCps, Bool.or_eq_false_iff, Bool.and_eq_false_iff, decide_eq_false_iff_not, beq_eq_false_iff_ne] at h1 h2 ⊢
    refine ⟨by omega, ?_⟩
    by_cases e : z = x
    · right
      have e1 : y = x := by omega
      have e2 : z = y := by omega
      exact ltCps_tr r t u (h1.2.resolve_left fun w => w e1) (h2.2.resolve_left fun w => w e2)
    · exact .inl e
def leS (a b : Str) : Prop := ltCps b.cps.toList a.cps.toList = false
theorem Str.ext' {a b : Str} (h : a.cps.toList = b.cps.toList) : a = b := by
  cases a; cases b
  simp at h
  rw [h]
theorem rising_all : ∀ (l : List Str) (p : Str), risingS p l = true → (p :: l).Pairwise leS
  | [], _, _ => List.pairwise_singleton _ _
  | x :: r, p, h => by
    have h' : (!ltCps x.cps.toList p.cps.toList && risingS x r) = true := h
    rw [Bool.and_eq_true, Bool.not_eq_true'] at h'
    have ih := rising_all r x h'.2
    refine List.pairwise_cons.mpr ⟨fun y hy => ?_, ih⟩
    rcases List.mem_cons.mp hy with rfl | hy
    · exact h'.1
    · exact ltCps_tr _ _ _ h'.1 ((List.pairwise_cons.mp ih).1 y hy)
theorem sorted_all : ∀ {l : List Str}, sortedS l = true → l.Pairwise leS
  | [], _ => List.Pairwise.nil
  | x :: r, h => rising_all r x h
/-- two sorted lists are the same just if they have the same items -/
theorem sorted_eq {ys zs ks ls : List Str} (h1 : ys.Perm ks) (s1 : sortedS ys = true) (h2 : zs.Perm ls) (s2 : sortedS zs = true) : ys = zs ↔ ks.Perm ls := by
  constructor
  · rintro rfl
    exact h1.symm.trans h2
  · intro p
    exact List.Perm.eq_of_pairwise (le := leS) (fun a b _ _ x y => Str.ext' (ltCps_as _ _ y x)) (sorted_all s1) (sorted_all s2) (h1.trans (p.trans h2.symm))
theorem eqvAll_strs : ∀ ys zs : List Str, PyData.eqvAll (ys.map .str) (zs.map .str) = decide (ys = zs)
  | [], [] => rfl
  | [], _ :: _ => rfl
  | _ :: _, [] => rfl
  | y :: ys, z :: zs => by
    rw [List.map_cons, List.map_cons, PyData.eqvAll, eqvAll_strs ys zs, PyData.eqv]
    by_cases e : y = z <;> by_cases e2 : ys = zs <;> simp [e, e2]
theorem eqv_strs (ys zs : List Str) : PyData.eqv (.list (ys.map .str)) (.list (zs.map .str)) = decide (ys = zs) := by
  rw [PyData.eqv]
  exact eqvAll_strs ys zs
theorem dp_strs {K : PySem.W.Frag} {H : Hp} : ∀ ys : List Str, DpAll K H (ys.map V.str) (ys.map PyData.str)
  | [] => .nil
  | y :: ys => .cons (.str y) (dp_strs ys)
section
variable {X : Cx}
/-- one of two readings -/
theorem op_or {op : Value → Value → Sem Value} {r r' : R2} (h : OpR X op r) (h' : OpR X op r') : OpR X op (fun x y H Q => r x y H Q ∨ r' x y H Q) := fun pins s σ H x y v u Q I rx ry hh => hh.elim (fun z => h pins s σ H x y v u Q I rx ry z) fun z => h' pins s σ H x y v u Q I rx ry z
end
/-- the same keys in any order -/
def keysL (l m : List (Str × LV)) : Bool := decide ((l.map (·.1)).Perm (m.map (·.1)))
end Vl

set_option Elab.async false
set_option linter.all false
set_option maxRecDepth 100000
set_option maxHeartbeats 4000000
namespace Vl
open PySem PySem.Spec PyProof.Rows L2 Pf
abbrev sPairs : Stmt := top 28
def tagEq : List LV → List LV → Bool
  | [.str a, .str b, .int c], [.str d, .str e, .int f] => a == d && (b == e && c == f)
  | _, _ => false
def flatEq : LV → LV → Bool
  | .non, .non => true
  | .bl a, .bl b => a == b
  | .int a, .int b => a == b
  | .str a, .str b => a == b
  | _, _ => false
def getL (m : List (Str × LV)) (k : Str) : LV := (m.lookup k).getD .non
def pairsL : LV → LV → Option (List (LV × LV))
  | .tup l, .tup m => if isTagL l = true then (if tagEq l m = true then some [] else none) else if l.length = m.length then some (l.zip m) else none
  | .map l, .map m => if keysL l m = true then some (l.map fun p => (p.2, getL m p.1)) else none
  | x, y => if flatEq x y = true then some [] else none
/-- less deep than n -/
def Lw (C : Addr) (H : Hp) (n : Nat) (x : LV) (v : V) : Prop := ∃ m, m < n ∧ Lv C H m x v
theorem Lw.keep {C : Addr} {H H' : Hp} (k : Kp H H') {n : Nat} {x : LV} {v : V} (h : Lw C H n x v) : Lw C H' n x v := let ⟨m, e, h⟩ := h; ⟨m, e, h.keep k⟩
theorem Lv.tupW {C : Addr} {H : Hp} : ∀ {n : Nat} {l : List LV} {v : V}, Lv C H n (.tup l) v → ∃ a us, v = .ref a ∧ H a = some (.tup us) ∧ l.length ≤ 3 ∧ Paired (Lw C H n) l us
  | 0, _, _, ⟨a, us, e, h, hl, p⟩ => ⟨a, us, e, h, hl, Paired.mapP p fun _ _ z => z.elim⟩
  | n + 1, _, _, ⟨a, us, e, h, hl, p⟩ => ⟨a, us, e, h, hl, Paired.mapP p fun _ _ z => ⟨n, Nat.lt_succ_self n, z⟩⟩
theorem Lv.mapW {C : Addr} {H : Hp} : ∀ {n : Nat} {l : List (Str × LV)} {v : V}, Lv C H n (.map l) v → ∃ a kvs, v = .ref a ∧ H a = some (.dK kvs) ∧ l.length ≤ 3 ∧ (l.map (·.1)).Nodup ∧ (∀ p, p ∈ l → p.1.length ≤ 200 ∧ PyData.strOk p.1 = true) ∧ kvs.map (·.1) = l.map (fun p => Sum.inr p.1) ∧ Paired (Lw C H n) (l.map (·.2)) (kvs.map (·.2))
  | 0, _, _, ⟨a, us, e, h, hl, nd, ok, hk, p⟩ => ⟨a, us, e, h, hl, nd, ok, hk, Paired.mapP p fun _ _ z => z.elim⟩
  | n + 1, _, _, ⟨a, us, e, h, hl, nd, ok, hk, p⟩ => ⟨a, us, e, h, hl, nd, ok, hk, Paired.mapP p fun _ _ z => ⟨n, Nat.lt_succ_self n, z⟩⟩
/-- pairs of parts stand in the list at D -/
def PairsAt (C : Addr) (H : Hp) (n : Nat) (D : Addr) (ps : List (LV × LV)) : Prop := ∃ ws, H D = some (.lst ws) ∧ ws.length = ps.length ∧ ∀ (i : Nat) (p : LV × LV), ps[i]? = some p → ∃ T a b, ws[i]? = some (V.ref T) ∧ H T = some (.tup [a, b]) ∧ Lw C H n p.1 a ∧ Lw C H n p.2 b
def spPairs (C : Addr) : Sp := fun vs H Q _ => ∃ (n : Nat) (v u : V) (x y : LV), vs = [v, u] ∧ Lv C H n x v ∧ Lv C H n y u ∧ sortL x = sortL y ∧ ¬ sortL x = "unknown" ∧
  (pairsL x y = none → ∀ H', Same H H' → Q .non H') ∧ ∀ ps, pairsL x y = some ps → ∀ D H', Same H H' → PairsAt C H' n D ps → ps.length ≤ 3 → Q (.ref D) H'
def sortN : LV → Nat
  | .non => 0
  | .bl _ => 1
  | .int _ => 2
  | .str _ => 3
  | .unk => 4
  | .map _ => 5
  | .tup l => if isTagL l = true then 6 else 7
def sortT (n : Nat) : Str := ["none", "bool", "integer", "text", "unknown", "map", "tag", "tuple"].getD n ""
theorem sortL_N (x : LV) : sortL x = sortT (sortN x) := by
  cases x with
  | tup l =>
    show (if isTagL l = true then ("tag" : Str) else "tuple") = sortT (if isTagL l = true then 6 else 7)
    cases isTagL l <;> rfl
  | _ => rfl
theorem sortN_lt (x : LV) : sortN x < 8 := by
  cases x with
  | tup l =>
    show (if isTagL l = true then 6 else 7) < 8
    cases isTagL l <;> decide
  | _ => simp [sortN]
theorem sortT_inj : ∀ n, n < 8 → ∀ m, m < 8 → sortT n = sortT m → n = m := by decide +kernel
theorem sortL_inj {x y : LV} (h : sortL x = sortL y) : sortN x = sortN y := sortT_inj _ (sortN_lt x) _ (sortN_lt y) ((sortL_N x).symm.trans (h.trans (sortL_N y)))
theorem sortL_at {x : LV} {n : Nat} (hn : n < 8) (h : sortL x = sortT n) : sortN x = n := sortT_inj _ (sortN_lt x) _ hn ((sortL_N x).symm.trans h)
theorem sortL_ne {x : LV} {n : Nat} (h : ¬ sortL x = sortT n) : ¬ sortN x = n := fun e => h ((sortL_N x).trans (congrArg sortT e))
theorem tupN {l : List LV} : sortN (.tup l) = 7 → isTagL l = false := fun h => by
  cases e : isTagL l with
  | false => rfl
  | true =>
    exact absurd h (by show ¬ (if isTagL l = true then 6 else 7) = 7; rw [if_pos e]; decide)
theorem tagN {l : List LV} : sortN (.tup l) = 6 → isTagL l = true := fun h => by
  cases e : isTagL l with
  | true => rfl
  | false =>
    exact absurd h (by show ¬ (if isTagL l = true then 6 else 7) = 6; rw [if_neg (by rw [e]; decide)]; decide)
theorem tupGe (l : List LV) : 6 ≤ sortN (.tup l) := by
  show 6 ≤ (if isTagL l = true then 6 else 7)
  cases isTagL l <;> decide
theorem sort_tuple {x : LV} (h : sortL x = "tuple") : ∃ l, x = .tup l ∧ isTagL l = false := by
  have h' := sortL_at (n := 7) (by decide) h
  cases x with
  | tup l => exact ⟨l, rfl, tupN h'⟩
  | _ => exact absurd h' (by simp [sortN])
theorem sort_map {x : LV} (h : sortL x = "map") : ∃ l, x = .map l := by
  have h' := sortL_at (n := 5) (by decide) h
  cases x with
  | map l => exact ⟨l, rfl⟩
  | tup l => exact absurd (tupGe l) (by omega)
  | _ => exact absurd h' (by simp [sortN])
theorem canLay_strs : ∀ ys : List Str, (∀ y, y ∈ ys → PyData.strOk y = true) → PyData.canLayAll0 (ys.map .str) = true
  | [], _ => rfl
  | y :: r, h => by
    simp [PyData.canLayAll0, PyData.canLay0, canLay_strs r fun z hz => h z (List.mem_cons_of_mem _ hz), h y (List.mem_cons_self ..)]
theorem depth_strs : ∀ ys : List Str, PyData.depthAll (ys.map .str) ≤ 1
  | [] => by simp [PyData.depthAll]
  | y :: r => by
    have ih := depth_strs r
    rw [List.map_cons, PyData.depthAll, PyData.depth]
    omega
theorem shaped_strs {ys : List Str} (h : ∀ y, y ∈ ys → PyData.strOk y = true) : SeqAt.shaped (.list (ys.map .str)) = true := by
  have := depth_strs ys
  refine Bool.and_eq_true_iff.mpr ⟨?_, decide_eq_true ?_⟩
  · rw [PyData.canLay0]
    exact canLay_strs ys h
  · rw [PyData.depth]
    omega
theorem paired_at {α β : Type} {R : α → β → Prop} : ∀ {xs : List α} {ys : List β}, Paired R xs ys → ∀ {i : Nat} {x : α} {y : β}, xs[i]? = some x → ys[i]? = some y → R x y
  | _, _, .nil, _, _, _, h, _ => by simp at h
  | _, _, .cons r t, 0, _, _, h, h' => by
    simp at h h'
    rw [← h, ← h']
    exact r
  | _, _, .cons r t, i + 1, _, _, h, h' => paired_at t (i := i) (by simpa using h) (by simpa using h')
theorem val_at {R : LV → V → Prop} {k : Str} : ∀ {m : List (Str × LV)} {kvs : List (Key × V)}, kvs.map (·.1) = m.map (fun p => (Sum.inr p.1 : Key)) → Paired R (m.map (·.2)) (kvs.map (·.2)) → k ∈ m.map (·.1) → ∃ d, valV kvs (.inr k) = some d ∧ R (getL m k) d
  | [], _, _, _, h => by simp at h
  | _ :: _, [], h, _, _ => by simp at h
  | (z, x) :: m, (k', c) :: kvs, h, p, hk => by
    simp only [List.map_cons, List.cons.injEq] at h
    obtain ⟨rfl, h⟩ := h
    cases p with
    | cons r t =>
      by_cases e : k = z
      · subst e
        refine ⟨c, ?_, ?_⟩
        · simp [valV]
        · simpa [getL, List.lookup] using r
      · have hk' : k ∈ m.map (·.1) := by
          rw [List.map_cons] at hk
          rcases List.mem_cons.mp hk with q | q
          · exact absurd q e
          · exact q
        obtain ⟨d, h1, h2⟩ := val_at h t hk'
        refine ⟨d, ?_, ?_⟩
        · have e' : ¬ ((Sum.inr z : Key) = Sum.inr k) := fun q => e (Sum.inr.inj q).symm
          unfold valV
          rw [List.find?_cons_of_neg (by simpa using fun q => e q.symm)]
          exact h1
        · have : (k == z) = false := by simpa using e
          unfold getL
          rw [List.lookup, this]
          exact h2
theorem getL_at : ∀ {l : List (Str × LV)} {i : Nat} {p : Str × LV}, (l.map (·.1)).Nodup → l[i]? = some p → getL l p.1 = p.2
  | [], _, _, _, h => by simp at h
  | q :: l, 0, p, _, h => by
    simp at h
    subst h
    simp [getL, List.lookup]
  | q :: l, i + 1, p, nd, h => by
    rw [List.map_cons, List.nodup_cons] at nd
    have h' : l[i]? = some p := by simpa using h
    have ne : (p.1 == q.1) = false := by
      rw [beq_eq_false_iff_ne]
      intro e
      exact nd.1 (e ▸ List.mem_map_of_mem (List.mem_of_getElem? h'))
    have ih := getL_at nd.2 h'
    unfold getL at ih ⊢
    obtain ⟨a, b⟩ := q
    rw [List.lookup, ne]
    exact ih
theorem ok_perm {l : List (Str × LV)} {ys : List Str} (p : ys.Perm (l.map (·.1))) (h : ∀ q, q ∈ l → q.1.length ≤ 200 ∧ PyData.strOk q.1 = true) : ∀ y, y ∈ ys → PyData.strOk y = true := fun y hy => by
  obtain ⟨q, hq, rfl⟩ := List.mem_map.mp (p.mem_iff.mp hy)
  exact (h q hq).2
theorem tag_form {l : List LV} (h : isTagL l = true) : ∃ s k, l = [.str "#", .str s, .int k] := by
  match l, h with
  | [x, y, z], h =>
    replace h : isTag3 x y z = true := h
    cases x <;> cases y <;> cases z <;> first | exact absurd h Bool.false_ne_true | skip
    rename_i m s k
    simp [isTag3] at h
    exact ⟨s, k, by rw [h.1]⟩
theorem Lw.str {C : Addr} {H : Hp} {n : Nat} {s : Str} {v : V} (h : Lw C H n (.str s) v) : v = .str s ∧ s.length ≤ 200 ∧ PyData.strOk s = true := by
  obtain ⟨m, _, h⟩ := h
  cases m <;> exact h
theorem Lw.int {C : Addr} {H : Hp} {n : Nat} {i : Int} {v : V} (h : Lw C H n (.int i) v) : v = .int i := by
  obtain ⟨m, _, h⟩ := h
  cases m <;> exact h
/-- what a Tag is in the heap -/
theorem Lv.tag {C : Addr} {H : Hp} {n : Nat} {l : List LV} {v : V} (h : Lv C H n (.tup l) v) (t : isTagL l = true) : ∃ a s k, l = [.str "#", .str s, .int k] ∧ v = .ref a ∧ H a = some (.tup [.str "#", .str s, .int k]) ∧ PyData.strOk s = true := by
  obtain ⟨s, k, rfl⟩ := tag_form t
  obtain ⟨a, us, rfl, ha, hl, p⟩ := h.tupW
  cases p with
  | cons h1 p => cases p with
    | cons h2 p => cases p with
      | cons h3 p =>
        cases p
        obtain ⟨rfl, _⟩ := h1.str
        obtain ⟨rfl, _, o⟩ := h2.str
        obtain rfl := h3.int
        exact ⟨a, s, k, rfl, rfl, ha, o⟩
theorem tag_shaped {s : Str} {k : Int} (o : PyData.strOk s = true) : SeqAt.shaped (.tuple [.str "#", .str s, .int k]) = true := by
  simp [SeqAt.shaped, PyData.canLay0, PyData.canLayAll0, PyData.depth, PyData.depthAll, o]
  decide +kernel
theorem tag_eqv (s s' : Str) (k k' : Int) : PyData.eqv (.tuple [.str "#", .str s, .int k]) (.tuple [.str "#", .str s', .int k']) = tagEq [.str "#", .str s, .int k] [.str "#", .str s', .int k'] := by
  simp [PyData.eqv, PyData.eqvAll, tagEq]
abbrev NPairs : List Str := ["_law_one_here", "_law_other", "_law_sort_here", "_law_k", "_law_key"]
theorem scPairs : FnScope NPairs ["_law_one_here", "_law_other"] (defScope sPairs) := ⟨rfl, rfl, rfl, by decide +kernel, rfl, by decide +kernel, by decide +kernel⟩
section
variable {P : Program} {w : World} {K : PySem.W.Frag} {mg : Str → Option Value} {base : Heap} {C : Addr}
theorem ok_lpairs {f fS : Addr} {fd fdS : FuncData} (F : Fun K "_law_pairs" "_law_pairs" sPairs f fd) (T : TxtV mg C) (DS : Def P w K mg base 2 "_law_sort" fS fdS ["_law_value_here"] (spSort C)) :
    FnOk P w K mg base CX0 3 f fd ["_law_one_here", "_law_other"] (spPairs C) := by
  refine F.ok scPairs (fun vs H Q E h => ?_) (fun cdv A outer s H vs Q E hr h => ?_)
  · obtain ⟨n, v, u, x, y, rfl, _⟩ := h
    rfl
  · obtain ⟨n, v, u, x, y, rfl, hx, hy, es, eu, kN, kP⟩ := h
    refine ⟨_, (pss_cons (ps_set (i := 2) scPairs.nd rfl (Or.inl rfl) (pe_call DS.ok hr rfl DS.g DS.kp DS.b .nil pass0 (pa_cons (pv 0) pa_nil)))
        (pss_cons (ps_if (pt_cmpR op_eq (pv 2) pe_str (nomark _)) (pss_one (ps_ret (pe_ifExp (pt_cmpR op_eq (pe_callB call_len_seq (by rfl) T.len PySem.boot_len (pa_cons (pv 0) pa_nil)) (pe_callB call_len_seq (by rfl) T.len PySem.boot_len (pa_cons (pv 1) pa_nil)) (nomark _)) (pe_lc (own := [("_law_k", 3)]) (g := gName 3) (tt := tYes) rfl scPairs.nd (pi_range1 rfl T.range (pa_cons (pe_callB call_len_seq (by rfl) T.len PySem.boot_len (pa_cons (pv 0) pa_nil)) pa_nil)) (blkOk_by (N := NPairs) (sc := defScope sPairs) (by decide +kernel)) (fun _ _ _ _ _ => pg_name (i := 3) scPairs.nd rfl (Or.inl rfl)) (fun _ _ _ _ _ => pts_nil) (fun _ _ _ _ _ => (pe_tup (pa_cons (pe_ix (show IxR _ (rIxT K) from ix_tup) (pv 0) (pv 3) (fun _ _ => rfl)) (pa_cons (pe_ix (show IxR _ (rIxT K) from ix_tup) (pv 1) (pv 3) (fun _ _ => rfl)) pa_nil))))) pe_non))) pss_nil)
        (pss_cons (ps_if (pt_cmpR op_eq (pv 2) pe_str (nomark _)) (pss_one (ps_ret (pe_ifExp (pt_cmpR (op_eqD hr.units) (pe_callB (call_sortedD rfl) (by rfl) T.sorted (by decide +kernel) (pa_cons (pv 0) pa_nil)) (pe_callB (call_sortedD rfl) (by rfl) T.sorted (by decide +kernel) (pa_cons (pv 1) pa_nil)) (nomark _)) (pe_lock (pe_lc (own := [("_law_key", 4)]) (g := gName 4) (tt := tYes) rfl scPairs.nd (pi_keys (pv 0)) (blkOk_by (N := NPairs) (sc := defScope sPairs) (by decide +kernel)) (fun _ _ _ _ _ => pg_name (i := 4) scPairs.nd rfl (Or.inl rfl)) (fun _ _ _ _ _ => pts_nil) (fun _ _ _ _ _ => (pe_tup (pa_cons (pe_dget (hu_of hr) (pv 0) (pv 4) (fun _ _ => rfl)) (pa_cons (pe_dget (hu_of hr) (pv 1) (pv 4) (fun _ _ => rfl)) pa_nil)))))) pe_non))) pss_nil)
        (pss_one (ps_ret (pe_ifExp (pt_cmpR (op_or op_eq (op_eqD hr.units)) (pv 0) (pv 1) (nomark _)) (pe_lst pa_nil) pe_non)))))), ?_⟩
    refine ⟨_, rfl, n, v, x, rfl, hx, fun H1 k1 => ⟨_, rfl, rfl, _, rfl, ?_⟩⟩
    have k1' : Kp H H1 := Kp.of k1
    have hx1 := hx.keep k1'
    have hy1 := hy.keep k1'
    have flat : (∀ l m, ¬ (x = .tup l ∧ y = .tup m)) → (∀ l m, ¬ (x = .map l ∧ y = .map m)) → pairsL x y = if flatEq x y = true then some [] else none := fun h1 h2 => by
      cases x <;> cases y <;> first | rfl | exact absurd ⟨rfl, rfl⟩ (h1 _ _) | exact absurd ⟨rfl, rfl⟩ (h2 _ _)
    by_cases st : sortL x = "tuple"
    · obtain ⟨l, rfl, el⟩ := sort_tuple st
      obtain ⟨m, rfl, em⟩ := sort_tuple (es.symm.trans st)
      obtain ⟨a, us, rfl, ha, hl, pa⟩ := hx1.tupW
      obtain ⟨b, ms, rfl, hb, hm, pb⟩ := hy1.tupW
      have lu : us.length = l.length := (Paired.length pa).symm
      have lm : ms.length = m.length := (Paired.length pb).symm
      refine iteC (by rw [st]; simp) ?_
      refine ⟨_, rfl, a, us, rfl, .inr (SqT.of ha), _, rfl, b, ms, rfl, .inr (SqT.of hb), rfl, _, rfl, ?_⟩
      by_cases e : l.length = m.length
      · refine iteC (by simp; omega) ?_
        refine ⟨_, rfl, a, us, rfl, .inr (SqT.of ha), (us.length : Int), rfl, by omega, by omega, fun D hD => ?_⟩
        refine lc_rel walk_range hD (fun i y Hh => ∃ T c d, y = .ref T ∧ us[i]? = some c ∧ ms[i]? = some d ∧ Hh T = some (.tup [c, d])) (fun i y Ha Hb kk ⟨T, c, d, e1, e2, e3, e4⟩ => ⟨T, c, d, e1, e2, e3, kk _ _ e4 fun _ z => by cases z⟩) (Nat.lt_of_le_of_lt (show (us.length : Int).toNat ≤ 3 by omega) (by decide)) (fun _ _ => True.intro) (fun i x H2 H2' N hi k2 y q => ?_) (fun H3 ws k3 h3 n3 r3 => ?_)
        · obtain ⟨rfl, rfl⟩ := y
          have hi1 : i < us.length := by omega
          have hi2 : i < ms.length := by omega
          have hc : us[i]? = some us[i] := List.getElem?_eq_getElem hi1
          have hd : ms[i]? = some ms[i] := List.getElem?_eq_getElem hi2
          refine ⟨rfl, _, rfl, _, rfl, a, us, _, us[i], rfl, rfl, SqT.of (k2 _ _ ha), by rw [Int.zero_add]; exact atI_nat hc, _, rfl, _, rfl, b, ms, _, ms[i], rfl, rfl, SqT.of (k2 _ _ hb), by rw [Int.zero_add]; exact atI_nat hd, by show 2 ≤ sizeLine; decide, fun T hT => ?_⟩
          exact q _ _ (sm_upd hT) ⟨T, _, _, rfl, hc, hd, upd_same⟩
        · have en : (us.length : Int).toNat = us.length := Int.toNat_natCast _
          rw [en] at n3 r3
          have lz : (l.zip m).length = us.length := by rw [List.length_zip]; omega
          refine kP (l.zip m) (by simp [pairsL, el, e]) D H3 (Same.trans k1 k3) ⟨ws, h3, by omega, fun i p hp => ?_⟩ (by omega)
          have hi : i < us.length := by
            have := (List.getElem?_eq_some_iff.mp hp).1
            omega
          obtain ⟨y, hy3, T, c, d, rfl, e2, e3, e4⟩ := r3 i hi
          have hp' := List.getElem?_zip_eq_some.mp hp
          exact ⟨T, c, d, hy3, e4, (paired_at pa hp'.1 e2).keep (Kp.of k3), (paired_at pb hp'.2 e3).keep (Kp.of k3)⟩
      · refine iteN (by simp; omega) ?_
        refine kN ?_ H1 k1
        simp [pairsL, el, e]
    · refine iteN (by simp [st]) ?_
      refine ⟨_, rfl, rfl, _, rfl, ?_⟩
      by_cases sm : sortL x = "map"
      · obtain ⟨l, rfl⟩ := sort_map sm
        obtain ⟨m, rfl⟩ := sort_map (es.symm.trans sm)
        obtain ⟨a, us, rfl, ha, hl, nl, oa, ka, pa⟩ := hx1.mapW
        obtain ⟨b, ms, rfl, hb, hm, nm, ob, kb, pb⟩ := hy1.mapW
        refine iteC (by rw [sm]; simp) ?_
        refine ⟨_, rfl, a, us, l.map (·.1), rfl, .inl ha, by rw [ka, List.map_map]; rfl, by rw [List.length_map]; omega, fun ys p1 q1 s1 n1 => ?_⟩
        have u1 : Same H1 (upd H1 p1 (.lst (ys.map V.str))) := sm_upd n1
        refine ⟨_, rfl, b, ms, m.map (·.1), rfl, .inl (u1 _ _ hb), by rw [kb, List.map_map]; rfl, by rw [List.length_map]; omega, fun zs p2 q2 s2 n2 => ?_⟩
        have u2 : Same (upd H1 p1 (.lst (ys.map V.str))) (upd (upd H1 p1 (.lst (ys.map V.str))) p2 (.lst (zs.map V.str))) := sm_upd n2
        refine ⟨_, _, .lst (SqL.of (u2 _ _ upd_same)) (dp_strs ys), .lst (SqL.of upd_same) (dp_strs zs), shaped_strs (ok_perm q1 oa), shaped_strs (ok_perm q2 ob), _, rfl, ?_⟩
        rw [eqv_strs]
        have e12 : keysL l m = decide (ys = zs) := by
          unfold keysL
          exact decide_eq_decide.mpr (sorted_eq q1 s1 q2 s2).symm
        by_cases e : ys = zs
        · refine iteC (by simp [e]) ?_
          have pk : (l.map (·.1)).Perm (m.map (·.1)) := (sorted_eq q1 s1 q2 s2).mp e
          refine ⟨a, .dK us, u2 _ _ (u1 _ _ ha), True.intro, fun od => ⟨_, rfl, a, od, rfl, .inl ⟨us, upd_same, fun D hD => ?_⟩⟩⟩
          generalize hG : (upd (upd H1 p1 (.lst (ys.map V.str))) p2 (.lst (zs.map V.str))) = H2 at hD ⊢
          have lu : us.length = l.length := by have := congrArg List.length ka; simpa using this
          have k12 : Same H1 H2 := hG ▸ Same.trans u1 u2
          have rb : ∀ H3, Same (upd H2 a (.frz od (.dK us))) H3 → Rd H3 b (.dK ms) := fun H3 k3 => by
            by_cases eb : b = a
            · subst eb
              rw [ha] at hb
              cases hb
              exact .inr ⟨od, k3 _ _ upd_same⟩
            · exact .inl (k3 _ _ ((upd_ne eb).trans (k12 _ _ hb)))
          refine lc_rel (walk_keys (d := a) (o := od) (kvs := us)) hD (fun i y Hh => ∃ T z x c d, y = .ref T ∧ l[i]? = some (z, x) ∧ valV us (.inr z) = some c ∧ valV ms (.inr z) = some d ∧ Hh T = some (.tup [c, d])) (fun i y Ha Hb kk ⟨T, z, x, c, d, e1, e2, e3, e4, e5⟩ => ⟨T, z, x, c, d, e1, e2, e3, e4, kk _ _ e5 fun _ z => by cases z⟩) (Nat.lt_of_le_of_lt (show us.length ≤ 3 by rw [lu]; exact hl) (by decide)) (fun H3 k3 => k3 _ _ upd_same) (fun i x H3 H3' N hi k3 y q => ?_) (fun H3 ws k3 h3 n3 r3 => ?_)
          · obtain ⟨rfl, k, v0, e1, rfl⟩ := y
            obtain ⟨⟨z, x⟩, e2⟩ : ∃ p, l[i]? = some p := ⟨l[i], List.getElem?_eq_getElem (by omega)⟩
            have ek : k = .inr z := by
              have h1 : (us.map (·.1))[i]? = some k := by rw [List.getElem?_map, e1]; rfl
              rw [ka, List.getElem?_map, e2] at h1
              exact (Option.some.inj h1).symm
            subst ek
            have mz : z ∈ l.map (·.1) := List.mem_map_of_mem (f := (·.1)) (List.mem_of_getElem? e2)
            obtain ⟨c, c1, _⟩ := val_at ka pa mz
            obtain ⟨d, d1, _⟩ := val_at kb pb (pk.mem_iff.mp mz)
            refine ⟨rfl, _, rfl, _, rfl, a, c, rfl, .inl ⟨us, _, .inr ⟨od, k3 _ _ upd_same⟩, rfl, c1.symm⟩, _, rfl, _, rfl, b, d, rfl, .inl ⟨ms, _, rb _ k3, rfl, d1.symm⟩, by show 2 ≤ sizeLine; decide, fun T hT => ?_⟩
            exact q _ _ (sm_upd hT) ⟨T, z, x, c, d, rfl, e2, c1, d1, upd_same⟩
          · have ka3 : H3 a = some (.frz od (.dK us)) := k3 _ _ upd_same
            refine ⟨ka3, ?_⟩
            have nDa : D ≠ a := fun z => by
              rw [z, upd_same] at hD
              cases hD
            have k2f : Same H2 (upd H3 a (.dK us)) := fun p o hp => by
              by_cases ea : p = a
              · subst ea
                rw [k12 _ _ ha] at hp
                rw [upd_same]
                exact hp
              · rw [upd_ne ea]
                exact k3 _ _ ((upd_ne ea).trans hp)
            have kf : Same H1 (upd H3 a (.dK us)) := Same.trans k12 k2f
            refine kP (l.map fun p => (p.2, getL m p.1)) (by simp [pairsL, e12, e]) D _ (Same.trans k1 kf) ⟨ws, by rw [upd_ne nDa]; exact h3, by rw [List.length_map]; omega, fun i p hp => ?_⟩ (by rw [List.length_map]; exact hl)
            rw [List.getElem?_map] at hp
            obtain ⟨⟨z, x⟩, e2, e3⟩ := Option.map_eq_some_iff.mp hp
            subst e3
            have hi : i < us.length := by
              have := (List.getElem?_eq_some_iff.mp e2).1
              omega
            obtain ⟨y, hy3, T, z', x', c, d, rfl, e4, e5, e6, e7⟩ := r3 i hi
            rw [e2] at e4
            cases e4
            have nTa : T ≠ a := fun w => by
              rw [w, ka3] at e7
              cases e7
            have mz : z ∈ l.map (·.1) := List.mem_map_of_mem (f := (·.1)) (List.mem_of_getElem? e2)
            obtain ⟨c', c1, c2⟩ := val_at ka pa mz
            obtain ⟨d', d1, d2⟩ := val_at kb pb (pk.mem_iff.mp mz)
            rw [e5] at c1
            cases c1
            rw [e6] at d1
            cases d1
            rw [getL_at nl e2] at c2
            exact ⟨T, c, d, hy3, (upd_ne nTa).trans e7, c2.keep (Kp.of kf), d2.keep (Kp.of kf)⟩
        · refine iteN (by simp [e]) ?_
          refine kN ?_ _ (Same.trans k1 (Same.trans u1 u2))
          simp [pairsL, e12, e]
      · refine iteN (by simp [sm]) ?_
        refine ⟨_, rfl, _, rfl, ?_⟩
        have fin : ∀ b : Bool, pairsL x y = (if b = true then some [] else none) → if b = true then (∀ D, H1 D = none → Q (.ref D) (upd H1 D (.lst []))) else Q .non H1 := fun b e => by
          cases b with
          | true =>
            refine iteC rfl fun D hD => ?_
            exact kP [] e D _ (Same.upd k1 hD) ⟨[], upd_same, rfl, fun i p hp => by simp at hp⟩ (by simp)
          | false => exact iteN rfl (kN e H1 k1)
        have nN : ¬ sortN x = 7 := sortL_ne st
        have nM : ¬ sortN x = 5 := sortL_ne sm
        have nU : ¬ sortN x = 4 := sortL_ne eu
        have eN : sortN x = sortN y := sortL_inj es
        obtain ⟨R1, hx2⟩ := hx1.stands
        obtain ⟨R2, hy2⟩ := hy1.stands
        have tl : ∀ l, sortN (.tup l) < 6 → False := fun l h => absurd (tupGe l) (by omega)
        have cont : ∀ b : Bool, pairsL x y = (if b = true then some [] else none) → if b = true then (0 ≤ sizeLine ∧ ∀ D, H1 D = none → Q (.ref D) (upd H1 D (.lst []))) else Q .non H1 := fun b e => by
          have := fin b e
          cases b with
          | true => exact iteC rfl ⟨Nat.zero_le _, by simpa using this⟩
          | false => exact iteN rfl (by simpa using this)
        cases x with
        | non =>
          cases y with
          | non =>
            cases hx2
            cases hy2
            refine .inl ⟨rfl, _, rfl, cont _ ?_⟩
            rw [decide_eq_true rfl]
            rfl
          | tup m => exact (tl m (by rw [← eN]; simp [sortN])).elim
          | _ => exact absurd eN (by simp [sortN])
        | bl c =>
          cases y with
          | bl d =>
            cases hx2
            cases hy2
            refine .inl ⟨rfl, _, rfl, cont _ ?_⟩
            cases c <;> cases d <;> rfl
          | tup m => exact (tl m (by rw [← eN]; simp [sortN])).elim
          | _ => exact absurd eN (by simp [sortN])
        | int c =>
          cases y with
          | int d =>
            cases hx2
            cases hy2
            refine .inl ⟨rfl, _, rfl, cont _ ?_⟩
            show (if (c == d) = true then some [] else none) = _
            by_cases e : c = d <;> simp [e]
          | tup m => exact (tl m (by rw [← eN]; simp [sortN])).elim
          | _ => exact absurd eN (by simp [sortN])
        | str c =>
          cases y with
          | str d =>
            obtain ⟨rfl, _⟩ := hx2
            obtain ⟨rfl, _⟩ := hy2
            refine .inl ⟨rfl, _, rfl, cont _ ?_⟩
            show (if (c == d) = true then some [] else none) = _
            by_cases e : c = d <;> simp [e]
          | tup m => exact (tl m (by rw [← eN]; simp [sortN])).elim
          | _ => exact absurd eN (by simp [sortN])
        | unk => exact absurd rfl nU
        | map l => exact absurd rfl nM
        | tup l =>
          have t6 : sortN (.tup l) = 6 := by
            have := tupGe l
            have := sortN_lt (.tup l)
            omega
          cases y with
          | tup m =>
            have tl := tagN t6
            have tm := tagN (eN.symm.trans t6)
            obtain ⟨a, s1, k1', rfl, rfl, ha, o1⟩ := hx1.tag tl
            obtain ⟨b, s2, k2', rfl, rfl, hb, o2⟩ := hy1.tag tm
            refine .inr ⟨_, _, .tup (SqT.of ha) (.cons (.str _) (.cons (.str _) (.cons (.int _) .nil))), .tup (SqT.of hb) (.cons (.str _) (.cons (.str _) (.cons (.int _) .nil))), tag_shaped o1, tag_shaped o2, _, rfl, cont _ ?_⟩
            rw [tag_eqv]
            show (if isTagL _ = true then _ else _) = _
            rw [if_pos tl]
          | _ => exact absurd (eN.symm.trans t6) (by simp [sortN])
end
end Vl

set_option Elab.async false
set_option linter.all false
set_option maxRecDepth 100000
set_option maxHeartbeats 4000000
namespace Vl
open PySem PySem.Spec PyProof.Rows L2 Pf
abbrev sMay : Stmt := top 29
/-- whether two values, less deep than n, are the same for some values of what is unknown -/
def mayL : Nat → LV → LV → Bool
  | 0, _, _ => true
  | n + 1, x, y => if (sortN x == 4 || sortN y == 4) = true then true else if sortL x = sortL y then (match pairsL x y with
    | none => false
    | some ps => ps.all fun p => mayL n p.1 p.2) else false
theorem str_eq4 (x : LV) : (sortL x = ("unknown" : Str)) ↔ sortN x = 4 := ⟨fun h => sortL_at (n := 4) (by decide) h, fun h => by rw [sortL_N, h]; rfl⟩
theorem unk_in (x y : LV) : inV (.str "unknown") [.str (sortL x), .str (sortL y)] = (sortN x == 4 || sortN y == 4) := by
  have e : ∀ z : LV, eqV (.str (sortL z)) (.str "unknown") = (sortN z == 4) := fun z => by
    show (sortL z == ("unknown" : Str)) = _
    by_cases h : sortN z = 4
    · rw [(str_eq4 z).mpr h, h]
      decide +kernel
    · have h' : ¬ sortL z = ("unknown" : Str) := fun q => h ((str_eq4 z).mp q)
      rw [beq_eq_false_iff_ne.mpr h', beq_eq_false_iff_ne.mpr h]
  simp [inV, e]
def spMay (C : Addr) (n : Nat) : Sp := fun vs H Q _ => ∃ (v u : V) (x y : LV), vs = [v, u] ∧ Lw C H n x v ∧ Lw C H n y u ∧ ∀ H', Same H H' → Q (.bl (mayL n x y)) H'
abbrev NMay : List Str := ["_law_one_here", "_law_other", "_law_some", "_law_mine", "_law_its"]
theorem scMay : FnScope NMay ["_law_one_here", "_law_other"] (defScope sMay) := ⟨rfl, rfl, rfl, by decide +kernel, rfl, by decide +kernel, by decide +kernel⟩
section
variable {P : Program} {w : World} {K : PySem.W.Frag} {mg : Str → Option Value} {base : Heap} {C : Addr}
theorem ok_lmay {f fS fP : Addr} {fd fdS fdP : FuncData} (F : Fun K "_law_may" "_law_may" sMay f fd) (g : mg "_law_may" = some (.ref f)) (b : Binds K fd ["_law_one_here", "_law_other"] []) (T : TxtV mg C) (DS : Def P w K mg base 2 "_law_sort" fS fdS ["_law_value_here"] (spSort C))
    (DP : Def P w K mg base 3 "_law_pairs" fP fdP ["_law_one_here", "_law_other"] (spPairs C)) : ∀ n, FnOk P w K mg base CX0 (4 + n) f fd ["_law_one_here", "_law_other"] (spMay C n)
  | 0 => F.ok (k := 3) scMay (fun vs H Q E ⟨_, _, _, _, _, ⟨_, h, _⟩, _⟩ => absurd h (Nat.not_lt_zero _)) (fun cdv A outer s H vs Q E hr ⟨_, _, _, _, _, ⟨_, h, _⟩, _⟩ => absurd h (Nat.not_lt_zero _))
  | n + 1 => by
    have DM : Def P w K mg base (4 + n) "_law_may" f fd ["_law_one_here", "_law_other"] (spMay C n) := ⟨ok_lmay F g b T DS DP n, g, F.kp, b⟩
    refine F.ok (k := 4 + n) scMay (fun vs H Q E h => ?_) (fun cdv A outer s H vs Q E hr h => ?_)
    · obtain ⟨v, u, x, y, rfl, _⟩ := h
      rfl
    · obtain ⟨v, u, x, y, rfl, ⟨mx, lx, hx⟩, ⟨my, ly, hy⟩, k⟩ := h
      have hx := hx.le (Nat.le_of_lt_succ lx)
      have hy := hy.le (Nat.le_of_lt_succ ly)
      refine ⟨_, (pss_cons (ps_if (pt_cmpR op_in_seq pe_str (pe_tup (pa_cons (pe_call DS.ok (hr.mono (by omega)) rfl DS.g DS.kp DS.b .nil pass0 (pa_cons (pv 0) pa_nil)) (pa_cons (pe_call DS.ok (hr.mono (by omega)) rfl DS.g DS.kp DS.b .nil pass0 (pa_cons (pv 1) pa_nil)) pa_nil))) (by rfl)) (pss_one (ps_ret pe_bl)) pss_nil)
        (pss_cons (ps_if (pt_cmpR op_ne (pe_call DS.ok (hr.mono (by omega)) rfl DS.g DS.kp DS.b .nil pass0 (pa_cons (pv 0) pa_nil)) (pe_call DS.ok (hr.mono (by omega)) rfl DS.g DS.kp DS.b .nil pass0 (pa_cons (pv 1) pa_nil)) (nomark _)) (pss_one (ps_ret pe_bl)) pss_nil)
        (pss_cons (ps_set (i := 2) scMay.nd rfl (Or.inl rfl) (pe_call DP.ok (hr.mono (by omega)) rfl DP.g DP.kp DP.b .nil pass0 (pa_cons (pv 0) (pa_cons (pv 1) pa_nil))))
        (pss_one (ps_ret (pe_and (pe_cmpR op_notN (pv 2) pe_non (nomark _)) (pe_one (pe_callB (cr_all rfl) (by rfl) T.all (by decide +kernel) (pa_cons (pe_lc (own := [("_law_mine", 3), ("_law_its", 4)]) (g := gTup K 2 (gCons (gName 3) (gCons (gName 4) gNil))) (tt := tYes) rfl scMay.nd (pi_list (pv 2)) (blkOk_by (N := NMay) (sc := defScope sMay) (by decide +kernel)) (fun _ _ _ _ _ => (pg_tup rfl (pgs_cons (pg_name (i := 3) scMay.nd rfl (Or.inl rfl)) (pgs_cons (pg_name (i := 4) scMay.nd rfl (Or.inl rfl)) pgs_nil)))) (fun _ _ _ _ _ => pts_nil) (fun _ _ _ _ _ => (pe_call DM.ok (hr.mono (by omega)) rfl DM.g DM.kp DM.b .nil pass0 (pa_cons (pv 3) (pa_cons (pv 4) pa_nil))))) pa_nil))))))))), ?_⟩
      refine ⟨_, rfl, n, v, x, rfl, hx, fun H1 k1 => ⟨_, rfl, n, u, y, rfl, hy.keep (Kp.of k1), fun H2 k2 => ?_⟩⟩
      refine ⟨by show 2 ≤ sizeLine; decide, fun p hp => ?_⟩
      refine ⟨p, _, rfl, .inr (SqT.of upd_same), rfl, rfl, _, rfl, ?_⟩
      have k3 : Same H (upd H2 p (.tup [.str (sortL x), .str (sortL y)])) := Same.trans k1 (Same.upd k2 hp)
      have fin : ∀ H', Same H H' → ∀ b, mayL (n + 1) x y = b → Q (.bl b) H' := fun H' k' b e => e ▸ k H' k'
      show (if inV (.str "unknown") [.str (sortL x), .str (sortL y)] = true then _ else _)
      rw [unk_in]
      by_cases e4 : (sortN x == 4 || sortN y == 4) = true
      · refine iteC e4 ?_
        exact fin _ k3 _ (by rw [mayL, if_pos e4])
      · refine iteN ((Bool.not_eq_true _).mp e4) ?_
        refine ⟨_, rfl, n, v, x, rfl, hx.keep (Kp.of k3), fun H4 k4 => ⟨_, rfl, n, u, y, rfl, hy.keep (Kp.of (Same.trans k3 k4)), fun H5 k5 => ?_⟩⟩
        have k6 : Same H H5 := Same.trans k3 (Same.trans k4 k5)
        refine ⟨rfl, _, rfl, ?_⟩
        by_cases es : sortL x = sortL y
        · refine iteN (by simp [es]) ?_
          have n4 : ¬ sortL x = "unknown" := fun q => e4 (by rw [(str_eq4 x).mp q]; rfl)
          refine ⟨_, rfl, _, rfl, n, v, u, x, y, rfl, hx.keep (Kp.of k6), hy.keep (Kp.of k6), es, n4, fun e H7 k7 => ?_, fun ps e D H7 k7 pa l40 => ?_⟩
          · refine ⟨_, rfl, rfl, _, rfl, ?_⟩
            refine iteN (by simp) ?_
            exact fin H7 (Same.trans k6 k7) _ (by rw [mayL, if_neg e4, if_pos es, e])
          · refine ⟨_, rfl, rfl, _, rfl, ?_⟩
            refine iteC (by simp) ?_
            obtain ⟨ws, hD, lw, pat⟩ := pa
            refine ⟨_, rfl, D, rfl, ⟨ws, SqL.of hD⟩, fun D2 hD2 => ?_⟩
            refine lc_rel walk_list hD2 (fun i y _ => ∀ p, ps[i]? = some p → y = V.bl (mayL n p.1 p.2)) (fun _ _ _ _ _ z => z) (Nat.lt_of_le_of_lt (show ws.length ≤ 3 by omega) (by decide)) (fun H8 k8 => SqL.of (k8 _ _ hD)) (fun i z H8 H8' N hi k8 yy q => ?_) (fun H8 ys k8 h8 n8 r8 => ?_)
            · obtain ⟨rfl, ez⟩ := yy
              have hi' : i < ps.length := by omega
              have ep : ps[i]? = some ps[i] := List.getElem?_eq_getElem hi'
              obtain ⟨TT, a, b', et, hT, l1, l2⟩ := pat i _ ep
              rw [ez] at et
              cases et
              refine ⟨TT, _, rfl, SqT.of (k8 _ _ hT), rfl, _, _, rfl, _, _, rfl, rfl, rfl, ?_⟩
              refine ⟨_, rfl, _, rfl, a, b', _, _, rfl, l1.keep (Kp.of k8), l2.keep (Kp.of k8), fun H9 k9 => q _ H9 k9 fun p h => ?_⟩
              rw [ep] at h
              cases h
              rfl
            · have ey : ys = (ps.map fun p => mayL n p.1 p.2).map V.bl := by
                refine List.ext_getElem? fun i => ?_
                by_cases hi : i < ws.length
                · obtain ⟨y0, e1, e2⟩ := r8 i hi
                  have hi' : i < ps.length := by omega
                  have ep : ps[i]? = some ps[i] := List.getElem?_eq_getElem hi'
                  rw [e1, e2 _ ep, List.getElem?_map, List.getElem?_map, ep]
                  rfl
                · rw [List.getElem?_eq_none (by omega), List.getElem?_eq_none (by rw [List.length_map, List.length_map]; omega)]
              subst ey
              refine ⟨D2, _, rfl, SqL.of h8, ?_⟩
              refine fin H8 (Same.trans k6 (Same.trans k7 k8)) _ ?_
              rw [mayL, if_neg e4, if_pos es, e]
              simp
        · refine iteC (by simp [es]) ?_
          exact fin _ k6 _ (by rw [mayL, if_neg e4, if_neg es])
end
end Vl

set_option Elab.async false
set_option linter.all false
set_option maxRecDepth 100000
set_option maxHeartbeats 4000000
namespace Vl
open PySem PySem.Spec PyProof.Rows L2 Pf
abbrev sAlike : Stmt := top 32
/-- whether two values, less deep than n, are alike, with what is unknown at the same places -/
def alikeL : Nat → LV → LV → Bool
  | 0, _, _ => true
  | n + 1, x, y => if sortL x = sortL y then if sortN x = 4 then true else (match pairsL x y with
    | none => false
    | some ps => ps.all fun p => alikeL n p.1 p.2) else false
def spAlike (C : Addr) (n : Nat) : Sp := fun vs H Q _ => ∃ (v u : V) (x y : LV), vs = [v, u] ∧ Lw C H n x v ∧ Lw C H n y u ∧ ∀ H', Same H H' → Q (.bl (alikeL n x y)) H'
abbrev NAlike : List Str := ["_law_one_here", "_law_other", "_law_some", "_law_mine", "_law_its"]
theorem scAlike : FnScope NAlike ["_law_one_here", "_law_other"] (defScope sAlike) := ⟨rfl, rfl, rfl, by decide +kernel, rfl, by decide +kernel, by decide +kernel⟩
section
variable {P : Program} {w : World} {K : PySem.W.Frag} {mg : Str → Option Value} {base : Heap} {C : Addr}
theorem ok_lalike {f fS fP : Addr} {fd fdS fdP : FuncData} (F : Fun K "_law_alike" "_law_alike" sAlike f fd) (g : mg "_law_alike" = some (.ref f)) (b : Binds K fd ["_law_one_here", "_law_other"] []) (T : TxtV mg C) (DS : Def P w K mg base 2 "_law_sort" fS fdS ["_law_value_here"] (spSort C))
    (DP : Def P w K mg base 3 "_law_pairs" fP fdP ["_law_one_here", "_law_other"] (spPairs C)) : ∀ n, FnOk P w K mg base CX0 (4 + n) f fd ["_law_one_here", "_law_other"] (spAlike C n)
  | 0 => F.ok (k := 3) scAlike (fun vs H Q E ⟨_, _, _, _, _, ⟨_, h, _⟩, _⟩ => absurd h (Nat.not_lt_zero _)) (fun cdv A outer s H vs Q E hr ⟨_, _, _, _, _, ⟨_, h, _⟩, _⟩ => absurd h (Nat.not_lt_zero _))
  | n + 1 => by
    have DA : Def P w K mg base (4 + n) "_law_alike" f fd ["_law_one_here", "_law_other"] (spAlike C n) := ⟨ok_lalike F g b T DS DP n, g, F.kp, b⟩
    refine F.ok (k := 4 + n) scAlike (fun vs H Q E h => ?_) (fun cdv A outer s H vs Q E hr h => ?_)
    · obtain ⟨v, u, x, y, rfl, _⟩ := h
      rfl
    · obtain ⟨v, u, x, y, rfl, ⟨mx, lx, hx⟩, ⟨my, ly, hy⟩, k⟩ := h
      have hx := hx.le (Nat.le_of_lt_succ lx)
      have hy := hy.le (Nat.le_of_lt_succ ly)
      refine ⟨_, (pss_cons (ps_if (pt_cmpR op_ne (pe_call DS.ok (hr.mono (by omega)) rfl DS.g DS.kp DS.b .nil pass0 (pa_cons (pv 0) pa_nil)) (pe_call DS.ok (hr.mono (by omega)) rfl DS.g DS.kp DS.b .nil pass0 (pa_cons (pv 1) pa_nil)) (nomark _)) (pss_one (ps_ret pe_bl)) pss_nil)
        (pss_cons (ps_if (pt_cmpR op_eq (pe_call DS.ok (hr.mono (by omega)) rfl DS.g DS.kp DS.b .nil pass0 (pa_cons (pv 0) pa_nil)) pe_str (nomark _)) (pss_one (ps_ret pe_bl)) pss_nil)
        (pss_cons (ps_set (i := 2) scAlike.nd rfl (Or.inl rfl) (pe_call DP.ok (hr.mono (by omega)) rfl DP.g DP.kp DP.b .nil pass0 (pa_cons (pv 0) (pa_cons (pv 1) pa_nil))))
        (pss_one (ps_ret (pe_and (pe_cmpR op_notN (pv 2) pe_non (nomark _)) (pe_one (pe_callB (cr_all rfl) (by rfl) T.all (by decide +kernel) (pa_cons (pe_lc (own := [("_law_mine", 3), ("_law_its", 4)]) (g := gTup K 2 (gCons (gName 3) (gCons (gName 4) gNil))) (tt := tYes) rfl scAlike.nd (pi_list (pv 2)) (blkOk_by (N := NAlike) (sc := defScope sAlike) (by decide +kernel)) (fun _ _ _ _ _ => (pg_tup rfl (pgs_cons (pg_name (i := 3) scAlike.nd rfl (Or.inl rfl)) (pgs_cons (pg_name (i := 4) scAlike.nd rfl (Or.inl rfl)) pgs_nil)))) (fun _ _ _ _ _ => pts_nil) (fun _ _ _ _ _ => (pe_call DA.ok (hr.mono (by omega)) rfl DA.g DA.kp DA.b .nil pass0 (pa_cons (pv 3) (pa_cons (pv 4) pa_nil))))) pa_nil))))))))), ?_⟩
      have fin : ∀ H', Same H H' → ∀ b, alikeL (n + 1) x y = b → Q (.bl b) H' := fun H' k' b e => e ▸ k H' k'
      refine ⟨_, rfl, n, v, x, rfl, hx, fun H4 k4 => ⟨_, rfl, n, u, y, rfl, hy.keep (Kp.of k4), fun H5 k5 => ?_⟩⟩
      have k6' : Same H H5 := Same.trans k4 k5
      refine ⟨rfl, _, rfl, ?_⟩
      by_cases es : sortL x = sortL y
      · refine iteN (by simp [es]) ?_
        refine ⟨_, rfl, n, v, x, rfl, hx.keep (Kp.of k6'), fun H6 k5' => ⟨rfl, _, rfl, ?_⟩⟩
        have k6 : Same H H6 := Same.trans k6' k5'
        by_cases e4 : sortN x = 4
        · refine iteC (by rw [(str_eq4 x).mpr e4]; simp) ?_
          exact fin _ k6 _ (by rw [alikeL, if_pos es, if_pos e4])
        · have n4 : ¬ sortL x = "unknown" := fun q => e4 ((str_eq4 x).mp q)
          refine iteN (by simp [n4]) ?_
          refine ⟨_, rfl, _, rfl, n, v, u, x, y, rfl, hx.keep (Kp.of k6), hy.keep (Kp.of k6), es, n4, fun e H7 k7 => ?_, fun ps e D H7 k7 pa l40 => ?_⟩
          · refine ⟨_, rfl, rfl, _, rfl, ?_⟩
            refine iteN (by simp) ?_
            exact fin H7 (Same.trans k6 k7) _ (by rw [alikeL, if_pos es, if_neg e4, e])
          · refine ⟨_, rfl, rfl, _, rfl, ?_⟩
            refine iteC (by simp) ?_
            obtain ⟨ws, hD, lw, pat⟩ := pa
            refine ⟨_, rfl, D, rfl, ⟨ws, SqL.of hD⟩, fun D2 hD2 => ?_⟩
            refine lc_rel walk_list hD2 (fun i y _ => ∀ p, ps[i]? = some p → y = V.bl (alikeL n p.1 p.2)) (fun _ _ _ _ _ z => z) (Nat.lt_of_le_of_lt (show ws.length ≤ 3 by omega) (by decide)) (fun H8 k8 => SqL.of (k8 _ _ hD)) (fun i z H8 H8' N hi k8 yy q => ?_) (fun H8 ys k8 h8 n8 r8 => ?_)
            · obtain ⟨rfl, ez⟩ := yy
              have hi' : i < ps.length := by omega
              have ep : ps[i]? = some ps[i] := List.getElem?_eq_getElem hi'
              obtain ⟨TT, a, b', et, hT, l1, l2⟩ := pat i _ ep
              rw [ez] at et
              cases et
              refine ⟨TT, _, rfl, SqT.of (k8 _ _ hT), rfl, _, _, rfl, _, _, rfl, rfl, rfl, ?_⟩
              refine ⟨_, rfl, _, rfl, a, b', _, _, rfl, l1.keep (Kp.of k8), l2.keep (Kp.of k8), fun H9 k9 => q _ H9 k9 fun p h => ?_⟩
              rw [ep] at h
              cases h
              rfl
            · have ey : ys = (ps.map fun p => alikeL n p.1 p.2).map V.bl := by
                refine List.ext_getElem? fun i => ?_
                by_cases hi : i < ws.length
                · obtain ⟨y0, e1, e2⟩ := r8 i hi
                  have hi' : i < ps.length := by omega
                  have ep : ps[i]? = some ps[i] := List.getElem?_eq_getElem hi'
                  rw [e1, e2 _ ep, List.getElem?_map, List.getElem?_map, ep]
                  rfl
                · rw [List.getElem?_eq_none (by omega), List.getElem?_eq_none (by rw [List.length_map, List.length_map]; omega)]
              subst ey
              refine ⟨D2, _, rfl, SqL.of h8, ?_⟩
              refine fin H8 (Same.trans k6 (Same.trans k7 k8)) _ ?_
              rw [alikeL, if_pos es, if_neg e4, e]
              simp
      · refine iteC (by simp [es]) ?_
        exact fin _ k6' _ (by rw [alikeL, if_neg es])
end
end Vl

set_option Elab.async false
set_option linter.all false
set_option maxRecDepth 100000
set_option maxHeartbeats 4000000
namespace Vl
open PySem PySem.Spec PyProof.Rows L2 Pf
/-- list(d.values()): a new list of the dict's values -/
def tListVals (te : TE) : TE := fun σ H Q => te σ H fun x H1 => ∃ (d : Addr) (kvs : List (Key × V)), x = .ref d ∧ H1 d = some (.dK kvs) ∧ ∀ p, H1 p = none → Q (.ref p) (upd H1 p (.lst (kvs.map (·.2))))
theorem vals_of : ∀ {kvs : List (Key × V)} {vs : List (Key × Value)}, KV kvs vs → Vals (kvs.map (·.2)) (vs.map (·.2))
  | [], _, h => by
    cases h
    exact .nil
  | _ :: _, _, h => by
    cases h with
    | cons r t => exact .cons r.2 (vals_of t)
section
variable {X : Cx} {e : Expr} {te : TE} {p apos cpos pos : Pos}
theorem pe_listVals (hc : X.calm = true) (he : PE X e te) (hg : Gl X "list") (hm : X.mg "list" = none) (hv : bootBuiltins "list" = some (.type "list")) (hb : attributeBase e "values" X.env (eval e X.env) = eval e X.env := by rfl) (hl : (apos.endLine == cpos.line) = true := by rfl)
    (hs : starEach [.Call (.Attribute e "values" apos) [] [] cpos] X.env = (false, eval (.Call (.Attribute e "values" apos) [] [] cpos) X.env) :: starEach [] X.env := by rfl) : PE X (.Call (.Name "list" p) [.Call (.Attribute e "values" apos) [] [] cpos] [] pos) (tListVals te) := by
  refine ⟨fun pins s σ H Q I hq => wpAny_Call_Name_kw (ld_blt I hg hm hv (PyProof.Rows.callWith_type1 ?_ hs rfl))⟩
  rw [hs]
  show wpAny _ _ (spliced ((false, eval (.Call (.Attribute e "values" apos) [] [] cpos) X.env) :: backTo pos (starEach [] X.env))) _ _ s
  refine Calls.spliced_cons (wpAny_Call_method (T := "dict") (id := "dict.values") hb rfl hl F.plainAttrs_dict F.slot_dict_values F.type_dict_values (thn (he.run pins s σ H _ I hq) fun u s1 ⟨x, H1, I1, rx, d, kvs, ex, hd, q⟩ => ?_))
  subst ex
  obtain rfl : u = Value.ref d := rx
  obtain ⟨hz, hs0, vs, kv, hdo⟩ := I1.hok d _ hd
  obtain ⟨ep, hat⟩ := hdo.dictAt
  have lk : kvs.length = vs.length := Paired.length kv
  have I2 : Inv X pins σ H1 { s1 with heap := s1.heap.push { cls := .type "dict_values", data := .fields #[.ref d] } } := I1.kept (t' := s1.toks) fun b ob q => Heap.get?_push_of_some _ q
  refine ⟨hdo.typeIs, hdo.mapOf.noDict, ?_⟩
  show wpAny _ _ (callWith cpos (.builtin "dict.values") [.ref d] [] []) _ X.xe s1
  refine method_meetsIn F.slot_dict_values F.entry_dict_values rfl (PySem.evalArgs_none ⟨rfl, hdo.typeIs, F.args_dict_values_1 _, _, meets_dict_values (mixKind X.prog X.w) d hs0, ⟨vs, hdo⟩, Calls.spliced_nil ?_⟩)
  refine PySem.W.kdl_call (PySem.W.kdl_values (knd := mixKind X.prog X.w) (kvs := vs) (ep := ep)) (I1.ok.hd hc) ⟨⟨_, Heap.get?_push_size _ rfl, rfl, rfl⟩, hat.push _⟩ (by omega) fun h' tk acc c hk hS hacc => ?_
  have ea : acc.toList = vs.map (·.2) := by
    refine List.ext_getElem? fun i => ?_
    by_cases hi : i < vs.length
    · have hj : i < acc.size := by rw [hacc.1]; exact hi
      have h1 : acc[i]? = some acc[i] := Array.getElem?_eq_getElem hj
      obtain ⟨k, h2⟩ := hacc.2 i _ h1
      rw [List.getElem?_map, h2, Array.getElem?_toList, h1]
      rfl
    · rw [List.getElem?_eq_none (by rw [Array.length_toList, hacc.1]; omega), List.getElem?_eq_none (by rw [List.length_map]; omega)]
  have rv : Vals (kvs.map (·.2)) acc.toList := by
    rw [ea]
    exact vals_of kv
  refine ⟨.ref _, _, I2.laid (t' := tk) hk (Nat.le_refl _) (o := .lst (kvs.map (·.2))) ⟨by rw [List.length_map]; exact hz, acc.toList, c, rv, by rw [Array.toArray_toList]; exact hS⟩, rfl, q _ (I2.hok.fresh (Nat.le_refl _))⟩
end
end Vl

set_option Elab.async false
set_option linter.all false
set_option maxRecDepth 100000
set_option maxHeartbeats 4000000
namespace Vl
open PySem PySem.Spec PyProof.Rows L2 Pf
abbrev sOpen : Stmt := top 30
/-- the parts that are looked into -/
def partsL : LV → List LV
  | .tup l => if isTagL l = true then [] else l
  | .map l => l.map (·.2)
  | _ => []
/-- how many parts of a value, less deep than n, are unknown -/
def openL : Nat → LV → Int
  | 0, _ => 0
  | n + 1, x => if sortN x = 4 then 1 else ((partsL x).map (openL n)).sum
def spOpen (C : Addr) (n : Nat) : Sp := fun vs H Q _ => ∃ (v : V) (x : LV), vs = [v] ∧ Lw C H n x v ∧ ∀ H', Same H H' → Q (.int (openL n x)) H'
theorem tm_in (x : LV) : inV (.str (sortL x)) [.str "tuple", .str "map"] = (sortN x == 7 || sortN x == 5) := by
  have e : ∀ n, n < 8 → eqV (.str (sortT n)) (.str (sortL x)) = (sortN x == n) := fun n hn => by
    show (sortT n == sortL x) = _
    by_cases h : sortN x = n
    · rw [sortL_N, h]
      simp
    · have h' : ¬ sortT n = sortL x := fun q => h (sortL_at hn q.symm)
      rw [beq_eq_false_iff_ne.mpr h', beq_eq_false_iff_ne.mpr h]
  show (eqV (.str (sortT 7)) _ || (eqV (.str (sortT 5)) _ || false)) = _
  rw [e 7 (by decide), e 5 (by decide), Bool.or_false]
theorem parts_nil {x : LV} (h : ¬ (sortN x == 7 || sortN x == 5) = true) : partsL x = [] := by
  cases x with
  | tup l =>
    refine if_pos ?_
    cases e : isTagL l with
    | true => rfl
    | false => exact absurd (show (sortN (.tup l) == 7 || sortN (.tup l) == 5) = true by rw [show sortN (.tup l) = 7 from if_neg (by rw [e]; decide)]; rfl) h
  | map l => exact absurd rfl h
  | _ => rfl
abbrev NOpen : List Str := ["_law_value_here", "_law_part"]
theorem scOpen : FnScope NOpen ["_law_value_here"] (defScope sOpen) := ⟨rfl, rfl, rfl, by decide +kernel, rfl, by decide +kernel, by decide +kernel⟩
section
variable {P : Program} {w : World} {K : PySem.W.Frag} {mg : Str → Option Value} {base : Heap} {C : Addr}
theorem ok_lopen {f fS : Addr} {fd fdS : FuncData} (F : Fun K "_law_open" "_law_open" sOpen f fd) (g : mg "_law_open" = some (.ref f)) (b : Binds K fd ["_law_value_here"] []) (T : TxtV mg C) (U : UnkC K C) (DS : Def P w K mg base 2 "_law_sort" fS fdS ["_law_value_here"] (spSort C)) :
    ∀ n, FnOk P w K mg base CX0 (3 + n) f fd ["_law_value_here"] (spOpen C n)
  | 0 => F.ok (k := 2) scOpen (fun vs H Q E ⟨_, _, _, ⟨_, h, _⟩, _⟩ => absurd h (Nat.not_lt_zero _)) (fun cdv A outer s H vs Q E hr ⟨_, _, _, ⟨_, h, _⟩, _⟩ => absurd h (Nat.not_lt_zero _))
  | n + 1 => by
    have DO : Def P w K mg base (3 + n) "_law_open" f fd ["_law_value_here"] (spOpen C n) := ⟨ok_lopen F g b T U DS n, g, F.kp, b⟩
    refine F.ok (k := 3 + n) scOpen (fun vs H Q E h => ?_) (fun cdv A outer s H vs Q E hr h => ?_)
    · obtain ⟨v, x, rfl, _⟩ := h
      rfl
    · obtain ⟨v, x, rfl, ⟨mx, lx, hx⟩, k⟩ := h
      have hx := hx.le (Nat.le_of_lt_succ lx)
      refine ⟨_, (pss_cons (ps_if (pt_cmpR op_in_seq (pe_call DS.ok (hr.mono (by omega)) rfl DS.g DS.kp DS.b .nil pass0 (pa_cons (pv 0) pa_nil)) (pe_tup (pa_cons pe_str (pa_cons pe_str pa_nil))) (by rfl)) (pss_one (ps_ret (pe_callB (cr_sum rfl) (by rfl) T.sum (by decide +kernel) (pa_cons (pe_lc (own := [("_law_part", 1)]) (g := gName 1) (tt := tYes) rfl scOpen.nd (pi_list (pe_ifExp (pt_val (pe_callB (call_isV U (T := "tuple") (by simp)) (by rfl) T.isi (by decide +kernel) (pa_cons (pv 0) (pa_cons (pe_bltn (v := .ty "tuple") (by rfl) T.tuple (by decide +kernel) rfl) pa_nil)))) (pe_callTy call_list_of (by rfl) T.list (by decide +kernel) (pa_cons (pv 0) pa_nil)) (pe_listVals rfl (pv 0) (by rfl) T.list (by decide +kernel)))) (blkOk_by (N := NOpen) (sc := defScope sOpen) (by decide +kernel)) (fun _ _ _ _ _ => pg_name (i := 1) scOpen.nd rfl (Or.inl rfl)) (fun _ _ _ _ _ => pts_nil) (fun _ _ _ _ _ => (pe_call DO.ok (hr.mono (by omega)) rfl DO.g DO.kp DO.b .nil pass0 (pa_cons (pv 1) pa_nil)))) pa_nil)))) pss_nil)
        (pss_one (ps_ret (pe_callTy call_int1 (by rfl) T.int (by decide +kernel) (pa_cons (pe_cmpR op_eq (pe_call DS.ok (hr.mono (by omega)) rfl DS.g DS.kp DS.b .nil pass0 (pa_cons (pv 0) pa_nil)) pe_str (nomark _)) pa_nil))))), ?_⟩
      have fin : ∀ H', Same H H' → ∀ b, openL (n + 1) x = b → Q (.int b) H' := fun H' k' b e => e ▸ k H' k'
      refine ⟨_, rfl, n, v, x, rfl, hx, fun H1 k1 => ?_⟩
      refine ⟨by show 2 ≤ sizeLine; decide, fun p hp => ?_⟩
      refine ⟨p, _, rfl, .inr (SqT.of upd_same), rfl, rfl, _, rfl, ?_⟩
      have k3 : Same H (upd H1 p (.tup [.str "tuple", .str "map"])) := Same.upd k1 hp
      generalize hG : upd H1 p (.tup [.str "tuple", .str "map"]) = H2 at k3 ⊢
      show (if inV (.str (sortL x)) [.str "tuple", .str "map"] = true then _ else _)
      rw [tm_in]
      by_cases e : (sortN x == 7 || sortN x == 5) = true
      · refine iteC e ?_
        have n4 : ¬ sortN x = 4 := fun q => by rw [q] at e; exact absurd e (by decide)
        have hx2 := hx.keep (Kp.of k3)
        refine ⟨_, rfl, _, x, rfl, hx2.stands, _, rfl, ?_⟩
        by_cases e7 : sortN x = 7
        · obtain ⟨l, rfl, el⟩ := sort_tuple (by rw [sortL_N, e7]; rfl)
          obtain ⟨a, us, rfl, ha, hl, pa⟩ := hx2.tupW
          have lu : us.length = l.length := (Paired.length pa).symm
          refine iteC (by rfl) ?_
          refine ⟨_, rfl, a, us, rfl, .inr (SqT.of ha), fun D hDn => ?_⟩
          have k9 : Same H2 (upd H2 D (.lst us)) := sm_upd hDn
          have hD : (upd H2 D (.lst us)) D = some (.lst us) := upd_same
          refine ⟨D, rfl, ⟨us, SqL.of hD⟩, fun D2 hD2 => ?_⟩
          refine lc_rel walk_list hD2 (fun i y _ => ∀ z, l[i]? = some z → y = V.int (openL n z)) (fun _ _ _ _ _ z => z) (Nat.lt_of_le_of_lt (show us.length ≤ 3 by omega) (by decide)) (fun H8 k8 => SqL.of (k8 _ _ hD)) (fun i z H8 H8' N hi k8 yy q => ?_) (fun H8 ys k8 h8 n8 r8 => ?_)
          · obtain ⟨rfl, ez⟩ := yy
            have hi' : i < l.length := by omega
            have ep : l[i]? = some l[i] := List.getElem?_eq_getElem hi'
            have lw := (paired_at pa ep ez).keep (Kp.of (Same.trans k9 k8))
            refine ⟨rfl, _, rfl, z, _, rfl, lw, fun H9 k9 => q _ H9 k9 fun z' h => ?_⟩
            rw [ep] at h
            cases h
            rfl
          · have ey : ys = (l.map (openL n)).map V.int := by
              refine List.ext_getElem? fun i => ?_
              by_cases hi : i < us.length
              · obtain ⟨y0, e1, e2⟩ := r8 i hi
                have hi' : i < l.length := by omega
                have ep : l[i]? = some l[i] := List.getElem?_eq_getElem hi'
                rw [e1, e2 _ ep, List.getElem?_map, List.getElem?_map, ep]
                rfl
              · rw [List.getElem?_eq_none (by omega), List.getElem?_eq_none (by rw [List.length_map, List.length_map]; omega)]
            subst ey
            refine ⟨D2, _, rfl, SqL.of h8, ?_⟩
            refine fin H8 (Same.trans k3 (Same.trans k9 k8)) _ ?_
            rw [openL, if_neg n4, show partsL (.tup l) = l from if_neg (by rw [el]; decide)]
        · have e5 : sortN x = 5 := by
            have : ((sortN x == 7) || (sortN x == 5)) = true := e
            rw [beq_eq_false_iff_ne.mpr e7] at this
            simpa using this
          obtain ⟨l, rfl⟩ := sort_map (by rw [sortL_N, e5]; rfl)
          obtain ⟨a, us, rfl, ha, hl, _, _, hk, pa⟩ := hx2.mapW
          have lu : us.length = l.length := by have := congrArg List.length hk; simpa using this
          refine iteN (show isA "dict" "tuple" = false by decide +kernel) ?_
          refine ⟨_, rfl, a, us, rfl, ha, fun D hDn => ?_⟩
          have k9 : Same H2 (upd H2 D (.lst (us.map (·.2)))) := sm_upd hDn
          have hD : (upd H2 D (.lst (us.map (·.2)))) D = some (.lst (us.map (·.2))) := upd_same
          have l1 : (us.map (·.2)).length = us.length := List.length_map _
          have l2 : (l.map (·.2)).length = l.length := List.length_map _
          refine ⟨D, rfl, ⟨_, SqL.of hD⟩, fun D2 hD2 => ?_⟩
          refine lc_rel walk_list hD2 (fun i y _ => ∀ z, (l.map (·.2))[i]? = some z → y = V.int (openL n z)) (fun _ _ _ _ _ z => z) (Nat.lt_of_le_of_lt (show (us.map (·.2)).length ≤ 3 by omega) (by decide)) (fun H8 k8 => SqL.of (k8 _ _ hD)) (fun i z H8 H8' N hi k8 yy q => ?_) (fun H8 ys k8 h8 n8 r8 => ?_)
          · obtain ⟨rfl, ez⟩ := yy
            have hi' : i < (l.map (·.2)).length := by omega
            have ep : (l.map (·.2))[i]? = some (l.map (·.2))[i] := List.getElem?_eq_getElem hi'
            have lw := (paired_at pa ep ez).keep (Kp.of (Same.trans k9 k8))
            refine ⟨rfl, _, rfl, z, _, rfl, lw, fun H9 k9 => q _ H9 k9 fun z' h => ?_⟩
            rw [ep] at h
            cases h
            rfl
          · have ey : ys = ((l.map (·.2)).map (openL n)).map V.int := by
              refine List.ext_getElem? fun i => ?_
              by_cases hi : i < (us.map (·.2)).length
              · obtain ⟨y0, e1, e2⟩ := r8 i hi
                have hi' : i < (l.map (·.2)).length := by omega
                have ep : (l.map (·.2))[i]? = some (l.map (·.2))[i] := List.getElem?_eq_getElem hi'
                rw [e1, e2 _ ep, List.getElem?_map, List.getElem?_map, ep]
                rfl
              · rw [List.getElem?_eq_none (by omega), List.getElem?_eq_none (by rw [List.length_map, List.length_map]; omega)]
            subst ey
            refine ⟨D2, _, rfl, SqL.of h8, ?_⟩
            refine fin H8 (Same.trans k3 (Same.trans k9 k8)) _ ?_
            rw [openL, if_neg n4, show partsL (.map l) = l.map (·.2) from rfl]
      · refine iteN ((Bool.not_eq_true _).mp e) ?_
        refine ⟨_, rfl, n, v, x, rfl, hx.keep (Kp.of k3), fun H3 k4 => ?_⟩
        refine ⟨rfl, .inr ⟨_, rfl, ?_⟩⟩
        refine fin H3 (Same.trans k3 k4) _ ?_
        by_cases e4 : sortN x = 4
        · rw [openL, if_pos e4, (str_eq4 x).mpr e4]
          simp
        · have ne : ¬ sortL x = "unknown" := fun q => e4 ((str_eq4 x).mp q)
          rw [openL, if_neg e4, parts_nil e]
          simp [ne]
end
end Vl

set_option Elab.async false
set_option linter.all false
set_option maxRecDepth 100000
set_option maxHeartbeats 4000000
namespace Vl
open PySem PySem.Spec PyProof.Rows L2 Pf
/-- C(), a class without an own __init__: a new instance without attributes -/
def tMk0 (C : Addr) : TE := fun _ H Q => ∀ x dx, H x = none → H dx = none → dx ≠ x → Q (.ref x) (upd (upd H dx (.own x)) x (.ins C dx []))
structure Mk0 (K : PySem.W.Frag) (C : Addr) : Prop where
  makes : PySem.W.makesIn K C = true
  init : PySem.W.findIn K (.ref C) "__init__" = some (some (.builtin "object.__init__"))
  kp : PySem.W.keepIn K (.ref C) = true
section
variable {X : Cx} {C : Addr} {x : Str} {p pos : Pos}
theorem pe_mk0 (M : Mk0 X.K C) (hg : Gl X x) (hm : X.mg x = some (.ref C)) (hdb : (x == ("__debug__" : Str)) = false := by decide) : PE X (.Call (.Name x p) [] [] pos) (tMk0 C) := by
  refine ⟨fun pins s σ H Q I h => wpAny_Call_Name_kw (ld_glob I hg hm (PySem.W.callWith_K0 I.kIn M.kp ?_) hdb)⟩
  have I2 := Inv.made (C := C) I
  have q := h (s.heap.objs.size + 1) s.heap.objs.size (I.hok.fresh (Nat.le_succ _)) (I.hok.fresh (Nat.le_refl _)) (Nat.ne_of_lt (Nat.lt_succ_self _))
  refine wpAny_call (make_map0 I.kIn M.makes M.init (fun self => PySem.W.Looks.of_pure (PySem.W.oi_bind self)) ?_)
  have Y := PySem.W.makes_of (M := model X.prog X.w) I.kIn M.makes
  have e1 : ((s.heap.push PySem.W.emptyDict).push (PySem.W.instObj C s.heap.objs.size)).get? (s.heap.objs.size + 1) = some (PySem.W.instObj C s.heap.objs.size) := by
    have z := Heap.get?_push_size (s.heap.push PySem.W.emptyDict) (show (PySem.W.instObj C s.heap.objs.size).isFreed = false from rfl)
    rwa [Heap.size_push] at z
  have t1 : PySem.W.Looks (model X.prog X.w) ((s.heap.push PySem.W.emptyDict).push (PySem.W.instObj C s.heap.objs.size)) (typeOf (.ref (s.heap.objs.size + 1))) (.ref C) := (PySem.W.Looks.ld e1).andThen .now
  have t2 : PySem.W.Looks (model X.prog X.w) ((s.heap.push PySem.W.emptyDict).push (PySem.W.instObj C s.heap.objs.size)) (isInstance (.ref (s.heap.objs.size + 1)) (.type "object")) true :=
    t1.andThen (Y.top.keeps fun b o e => Heap.get?_push_of_some _ (Heap.get?_push_of_some _ e))
  refine codeAny_call_builtin PySem.W.oi_plain PySem.W.entry_oi (@PySem.W.check_slot (model X.prog X.w) _ _ _ "object.__init__" "object" "__init__" (.ref (s.heap.objs.size + 1)) [] [] _ PySem.W.oi_kind PySem.W.oi_split t2 (PySem.W.oi_args (.ref (s.heap.objs.size + 1))) ?_)
  rw [PySem.W.oi_run]
  exact wpAny_pure (And.intro rfl ⟨V.ref _, _, I2, rfl, q⟩)
end
end Vl

set_option Elab.async false
set_option linter.all false
set_option maxRecDepth 100000
set_option maxHeartbeats 4000000
namespace Vl
open PySem PySem.Spec PyProof.Rows L2 Pf
theorem butTrans {a : Addr} {H H1 H2 : Hp} (x : But a H H1) (y : But a H1 H2) : But a H H2 := fun b o h n => y b o (x b o h n) n
theorem butSame {a : Addr} {H H1 : Hp} (x : Same H H1) : But a H H1 := fun b o h _ => x b o h
theorem wellNe {H : Hp} {a D : Addr} {z : Int} (w : WellAt H a z) (h : H D = none) : D ≠ a := fun e => by
  obtain ⟨x, y, e1, _⟩ := w
  rw [e, e1] at h
  cases h
theorem wellKp {H H' : Hp} {a : Addr} {z : Int} (w : WellAt H a z) (k : But a H H') : Kp H H' := by
  obtain ⟨x, y, e1, _⟩ := w
  exact Kp.but k e1
theorem wellSame {H H' : Hp} {a : Addr} {z : Int} (w : WellAt H a z) (k : Same H H') : WellAt H' a z := by
  obtain ⟨x, y, e1, e2⟩ := w
  exact ⟨x, y, k _ _ e1, e2⟩
/-- the reading of a comprehension whose turns draw from the well at a, c times at most each -/
theorem lc_well {J : It} {n c : Nat} {G : Hp → Prop} {Y : Nat → Hp → V → Hp → Prop} (w : Walk J n G Y) {g : TG} {te : TE} {vs : List Nat} {σ : L2.St} {H1 : Hp} {D a : Addr} {z : Int} {Qd : Hp → Prop} (hD : H1 D = none) (hw : WellAt H1 a z) (Rl : Nat → V → Hp → Prop)
    (mono : ∀ i y H H', Kp H H' → Rl i y H → Rl i y H') (hn : n < sizeLine) (hG : ∀ H, But a H1 H → G H)
    (hs : ∀ i x H H' (N : V → Hp → Prop) (z1 : Int), i < n → But a H1 H → WellAt H a z1 → z ≤ z1 → z1 ≤ z + (i * c : Nat) → Y i H x H' → (∀ y H4 z2, But a H H4 → WellAt H4 a z2 → z1 ≤ z2 → z2 ≤ z1 + c → Rl i y H4 → N y H4) → g x (wipe σ vs) H' fun σ2 H2 => wipe σ2 vs = wipe σ vs ∧ te σ2 H2 N)
    (hd : ∀ H ys z1, But a H1 H → WellAt H a z1 → z ≤ z1 → z1 ≤ z + (n * c : Nat) → H D = some (.lst ys) → ys.length = n → (∀ i, i < n → ∃ y, ys[i]? = some y ∧ Rl i y H) → Qd H) :
    ∃ W : Nat → Nat → Hp → Prop, (∃ m, W 0 m (upd H1 D (.lst []))) ∧ ∀ i m H, W i m H →
      (J.stop i H ∧ Qd H) ∨ (J.go i H ∧ ∃ Nx : Hp → Prop, (∀ H', Nx H' → ∃ m', m' < m ∧ W (i + 1) m' H') ∧ ∀ x H', J.yld i H x H' → g x (wipe σ vs) H' fun σ2 H2 => wipe σ2 vs = wipe σ vs ∧ tYes σ2 H2 fun b H3 =>
        if b = true then te σ2 H3 fun y H4 => ∃ acc, H4 D = some (.lst acc) ∧ acc.length < sizeLine ∧ Nx (upd H4 D (.lst (acc ++ [y]))) else Nx H3) := by
  have nDa := wellNe hw hD
  refine lc_it w (fun i H => But a H1 H ∧ (∃ z1, WellAt H a z1 ∧ z ≤ z1 ∧ z1 ≤ z + (i * c : Nat)) ∧ ∃ ys, H D = some (.lst ys) ∧ ys.length = i ∧ ∀ j, j < i → ∃ y, ys[j]? = some y ∧ Rl j y H)
    ⟨butSame (sm_upd hD), ⟨z, wellSame hw (sm_upd hD), Int.le_refl _, by omega⟩, [], upd_same, rfl, fun j h => absurd h (Nat.not_lt_zero _)⟩ (fun i H _ h => hG H h.1) (fun i x H H' hi h y => ?_) (fun H h => by
    obtain ⟨k, ⟨z1, w1, w2, w3⟩, ys, h1, h2, h3⟩ := h
    exact hd H ys z1 k w1 w2 w3 h1 h2 h3)
  obtain ⟨k1, ⟨z1, w1, w2, w3⟩, ys, h1, h2, h3⟩ := h
  have e : ∀ (N : V → Hp → Prop) (M : Hp → Prop), (fun (σ2 : L2.St) (H2 : Hp) => wipe σ2 vs = wipe σ vs ∧ tYes σ2 H2 fun b H3 => if b = true then te σ2 H3 N else M H3) = (fun σ2 H2 => wipe σ2 vs = wipe σ vs ∧ te σ2 H2 N) := fun N M => funext fun σ2 => funext fun H2 => by
    show (_ ∧ (if true = true then te σ2 H2 N else M H2)) = _
    rw [if_pos rfl]
  rw [e]
  refine hs i x H H' _ z1 hi k1 w1 w2 w3 y fun v H4 z2 k4 w4 w5 w6 r => ?_
  have hD4 : H4 D = some (.lst ys) := k4 _ _ h1 nDa
  have hk : Kp H4 (upd H4 D (.lst (ys ++ [v]))) := fun b o hb nb => by
    have : b ≠ D := fun z => by
      rw [z, hD4] at hb
      cases hb
      exact nb _ rfl
    rw [upd_ne this]
    exact hb
  have w4' : WellAt (upd H4 D (.lst (ys ++ [v]))) a z2 := by
    obtain ⟨x, y, e1, e2⟩ := w4
    exact ⟨x, y, by rw [upd_ne (Ne.symm nDa)]; exact e1, e2⟩
  refine ⟨ys, hD4, by omega, ?_, ⟨z2, w4', Int.le_trans w2 w5, ?_⟩, ys ++ [v], upd_same, by rw [List.length_append, h2]; rfl, fun j hj => ?_⟩
  · intro b o eb na
    have nb : b ≠ D := fun z => by rw [z, hD] at eb; cases eb
    rw [upd_ne nb]
    exact k4 b o (k1 b o eb na) na
  · have : (i + 1) * c = i * c + c := Nat.succ_mul i c
    omega
  · by_cases ej : j = i
    · subst ej
      exact ⟨v, by rw [← h2]; exact List.getElem?_concat_length, mono _ _ _ _ hk r⟩
    · obtain ⟨y, e1, r1⟩ := h3 j (by omega)
      exact ⟨y, by rw [List.getElem?_append_left (by omega)]; exact e1, mono _ _ _ _ ((wellKp w1 k4).trans hk) r1⟩
end Vl

set_option pp.maxSteps 300
set_option Elab.async false
set_option linter.all false
set_option maxRecDepth 100000
set_option maxHeartbeats 4000000
namespace Vl
open PySem PySem.Spec PyProof.Rows L2 Pf
abbrev sValue : Stmt := top 25
/-- how often is drawn for a value, at most -/
def cV : Nat → Nat
  | 0 => 3
  | d + 1 => 3 + 3 * cV d
def spValue (C : Addr) (d : Nat) : Sp := fun vs H Q _ => ∃ (a : Addr) (z dim : Int), vs = [.ref a, .int d, .int dim] ∧ WellAt H a z ∧ 0 ≤ z ∧ z + cV d < 1000000 ∧
  ∀ (v : V) (x : LV) (z' : Int) (H' : Hp), Lv C H' (d + 1) x v → z ≤ z' → z' ≤ z + cV d → WellAt H' a z' → But a H H' → Q v H'
theorem Lv.of {C : Addr} {H : Hp} {n : Nat} {x : LV} {v : V} (h : ∀ R, Node C H R x v) : Lv C H n x v := by
  cases n <;> exact h _
theorem flat_nb {C : Addr} {H : Hp} {n : Nat} {v : V} (h : v ∈ [V.non, V.bl true, V.bl false, V.non]) : ∃ x, Lv C H n x v := by
  simp only [List.mem_cons, List.not_mem_nil, or_false] at h
  rcases h with rfl | rfl | rfl | rfl
  · exact ⟨.non, Lv.of fun _ => rfl⟩
  · exact ⟨.bl true, Lv.of fun _ => rfl⟩
  · exact ⟨.bl false, Lv.of fun _ => rfl⟩
  · exact ⟨.non, Lv.of fun _ => rfl⟩
theorem flat_st {C : Addr} {H : Hp} {n : Nat} {v : V} (h : v ∈ [V.str "", V.str "a", V.str "b", V.str "ab", V.str "1", V.str "x"]) : ∃ x, Lv C H n x v := by
  simp only [List.mem_cons, List.not_mem_nil, or_false] at h
  rcases h with rfl | rfl | rfl | rfl | rfl | rfl
  · exact ⟨.str "", Lv.of fun _ => ⟨rfl, by decide +kernel, by decide +kernel⟩⟩
  · exact ⟨.str "a", Lv.of fun _ => ⟨rfl, by decide +kernel, by decide +kernel⟩⟩
  · exact ⟨.str "b", Lv.of fun _ => ⟨rfl, by decide +kernel, by decide +kernel⟩⟩
  · exact ⟨.str "ab", Lv.of fun _ => ⟨rfl, by decide +kernel, by decide +kernel⟩⟩
  · exact ⟨.str "1", Lv.of fun _ => ⟨rfl, by decide +kernel, by decide +kernel⟩⟩
  · exact ⟨.str "x", Lv.of fun _ => ⟨rfl, by decide +kernel, by decide +kernel⟩⟩
theorem wellTup {H : Hp} {a t : Addr} {z : Int} {xs : List V} (w : WellAt H a z) (h : H t = some (.tup xs)) : t ≠ a := fun e => by
  obtain ⟨x, y, e1, _⟩ := w
  rw [e, e1] at h
  cases h
theorem tag_lv {C : Addr} {H : Hp} {n : Nat} {t : Addr} {s : Str} {i : Int} (h : H t = some (.tup [.str "#", .str s, .int i])) (h1 : s.length ≤ 200) (h2 : PyData.strOk s = true) : ∃ x, Lv C H (n + 1) x (.ref t) :=
  ⟨.tup [.str "#", .str s, .int i], t, _, rfl, h, by show 3 ≤ 3; decide, .cons (Lv.of fun _ => ⟨rfl, by decide +kernel, by decide +kernel⟩) (.cons (Lv.of fun _ => ⟨rfl, h1, h2⟩) (.cons (Lv.of fun _ => rfl) .nil))⟩
theorem flat_tg {C : Addr} {H : Hp} {n : Nat} {t1 t2 t3 t4 t5 t6 : Addr} {v : V} (h1 : H t1 = some (.tup [.str "#", .str "net", .int 1])) (h2 : H t2 = some (.tup [.str "#", .str "net", .int 2])) (h3 : H t3 = some (.tup [.str "#", .str "disk", .int 1]))
    (h4 : H t4 = some (.tup [.str "#", .str "Net", .int 1])) (h5 : H t5 = some (.tup [])) (h6 : H t6 = some (.tup [.str "#", .str "n_", .int 1])) (h : v ∈ [V.ref t1, .ref t2, .ref t3, .ref t4, .ref t5] ++ [.ref t6]) : ∃ x, Lv C H (n + 1) x v := by
  simp only [List.cons_append, List.nil_append, List.mem_cons, List.not_mem_nil, or_false] at h
  rcases h with rfl | rfl | rfl | rfl | rfl | rfl
  · exact tag_lv h1 (by decide +kernel) (by decide +kernel)
  · exact tag_lv h2 (by decide +kernel) (by decide +kernel)
  · exact tag_lv h3 (by decide +kernel) (by decide +kernel)
  · exact tag_lv h4 (by decide +kernel) (by decide +kernel)
  · exact ⟨.tup [], t5, _, rfl, h5, by show 0 ≤ 3; decide, .nil⟩
  · exact tag_lv h6 (by decide +kernel) (by decide +kernel)
theorem paired_of {R : LV → V → Prop} : ∀ {ys : List V} {n : Nat}, ys.length = n → (∀ i, i < n → ∃ y, ys[i]? = some y ∧ ∃ x, R x y) → ∃ xs, Paired R xs ys
  | [], _, _, _ => ⟨[], .nil⟩
  | y :: ys, n, h, r => by
    obtain ⟨y', e, x, hx⟩ := r 0 (by rw [← h]; simp)
    simp at e
    subst e
    obtain ⟨xs, px⟩ := paired_of (ys := ys) rfl fun i hi => by
      obtain ⟨y2, e2, h2⟩ := r (i + 1) (by rw [← h]; simp; omega)
      exact ⟨y2, by simpa using e2, h2⟩
    exact ⟨x :: xs, .cons hx px⟩
def abc : List Str := ["a", "b", "c"]
theorem one_of {H : Hp} {ws ys : List V} {i : Nat} {w c : V} (r : ∃ y, ws[i]? = some y ∧ ∃ T kk c, y = V.ref T ∧ abc[i]? = some kk ∧ ys[i]? = some c ∧ H T = some (.tup [.str kk, c])) (hw : ws[i]? = some w) (hc : ys[i]? = some c) : ∃ T kk, w = .ref T ∧ abc[i]? = some kk ∧ H T = some (.tup [.str kk, c]) := by
  obtain ⟨y, e1, T, kk, c', e2, e3, e4, e5⟩ := r
  rw [hw] at e1
  cases e1
  rw [hc] at e4
  cases e4
  exact ⟨T, kk, e2, e3, e5⟩
theorem dict_lv {K : PySem.W.Frag} {H : Hp} {ws ys : List V} {xs : List LV} {R : LV → V → Prop} (n3 : ys.length ≤ 3) (nw : ws.length = ys.length)
    (r : ∀ i, i < ys.length → ∃ y, ws[i]? = some y ∧ ∃ T kk c, y = V.ref T ∧ abc[i]? = some kk ∧ ys[i]? = some c ∧ H T = some (.tup [.str kk, c])) (p : Paired R xs ys) :
    ∃ (ps : List Addr) (kvs : List (Key × V)) (l : List (Str × LV)), ws = ps.map V.ref ∧ Paired (fun p kv => SqT K H p [kV kv.1, kv.2]) ps kvs ∧ mergeK [] kvs = kvs ∧ l.length ≤ 3 ∧ (l.map (·.1)).Nodup ∧ (∀ p, p ∈ l → p.1.length ≤ 200 ∧ PyData.strOk p.1 = true) ∧ kvs.map (·.1) = l.map (fun p => (Sum.inr p.1 : Key)) ∧ Paired R (l.map (·.2)) (kvs.map (·.2)) := by
  have key : ∀ q : Str, q ∈ abc → q.length ≤ 200 ∧ PyData.strOk q = true := by decide +kernel
  cases p with
  | nil =>
    have : ws = [] := List.length_eq_zero_iff.mp nw
    subst this
    exact ⟨[], [], [], rfl, .nil, rfl, by simp, by simp, by simp, rfl, .nil⟩
  | @cons x0 y0 xs ys h0 p =>
    obtain ⟨w0, ws, rfl⟩ : ∃ a b, ws = a :: b := by cases ws with | nil => simp at nw | cons a b => exact ⟨a, b, rfl⟩
    obtain ⟨T0, k0, rfl, ek0, t0⟩ := one_of (r 0 (by simp)) rfl rfl
    cases ek0
    cases p with
    | nil =>
      have : ws = [] := List.length_eq_zero_iff.mp (by simpa using nw)
      subst this
      exact ⟨[T0], [(.inr "a", y0)], [("a", x0)], rfl, .cons (SqT.of t0) .nil, rfl, by simp, by simp, fun p hp => key p.1 (by simp at hp; subst hp; simp [abc]), rfl, .cons h0 .nil⟩
    | @cons x1 y1 xs ys h1 p =>
      obtain ⟨w1, ws, rfl⟩ : ∃ a b, ws = a :: b := by cases ws with | nil => simp at nw | cons a b => exact ⟨a, b, rfl⟩
      obtain ⟨T1, k1, rfl, ek1, t1⟩ := one_of (r 1 (by simp)) rfl rfl
      cases ek1
      cases p with
      | nil =>
        have : ws = [] := List.length_eq_zero_iff.mp (by simpa using nw)
        subst this
        exact ⟨[T0, T1], [(.inr "a", y0), (.inr "b", y1)], [("a", x0), ("b", x1)], rfl, .cons (SqT.of t0) (.cons (SqT.of t1) .nil), rfl, by simp, (show (["a", "b"] : List Str).Nodup by decide +kernel), fun p hp => key p.1 (by simp at hp; rcases hp with rfl | rfl <;> simp [abc]), rfl, .cons h0 (.cons h1 .nil)⟩
      | @cons x2 y2 xs ys h2 p =>
        obtain ⟨w2, ws, rfl⟩ : ∃ a b, ws = a :: b := by cases ws with | nil => simp at nw | cons a b => exact ⟨a, b, rfl⟩
        obtain ⟨T2, k2, rfl, ek2, t2⟩ := one_of (r 2 (by simp)) rfl rfl
        cases ek2
        cases p with
        | nil =>
          have : ws = [] := List.length_eq_zero_iff.mp (by simpa using nw)
          subst this
          exact ⟨[T0, T1, T2], [(.inr "a", y0), (.inr "b", y1), (.inr "c", y2)], [("a", x0), ("b", x1), ("c", x2)], rfl, .cons (SqT.of t0) (.cons (SqT.of t1) (.cons (SqT.of t2) .nil)), rfl, by simp, (show (["a", "b", "c"] : List Str).Nodup by decide +kernel), fun p hp => key p.1 (by simp at hp; rcases hp with rfl | rfl | rfl <;> simp [abc]), rfl, .cons h0 (.cons h1 (.cons h2 .nil))⟩
        | @cons x3 y3 xs ys h3 p => simp at n3
abbrev NValue : List Str := ["_law_well_here", "_law_deep", "_law_dim", "_law_way", "_law_some", "_law_k", "_law_value_here"]
theorem scValue : FnScope NValue ["_law_well_here", "_law_deep", "_law_dim"] (defScope sValue) := ⟨rfl, rfl, rfl, by decide +kernel, rfl, by decide +kernel, by decide +kernel⟩
section
variable {P : Program} {w : World} {K : PySem.W.Frag} {mg : Str → Option Value} {base : Heap} {C : Addr}
theorem walk_value {f fD f1 : Addr} {fd fdD fd1 : FuncData} {k0 : Nat} (F : Fun K "_law_value" "_law_value" sValue f fd) (T : TxtV mg C) (M0 : Mk0 K C) (DD : Def P w K mg base 1 "_law_draw" fD fdD ["_law_well_here", "_law_below"] spDraw)
    (D1 : Def P w K mg base 2 "_law_one" f1 fd1 ["_law_well_here", "_law_some"] (spOne K)) (d : Nat) (spR : Sp) (DV : Def P w K mg base (3 + k0) "_law_value" f fd ["_law_well_here", "_law_deep", "_law_dim"] spR)
    (hR : 0 < d → spR = spValue C (d - 1)) : FnOk P w K mg base CX0 (3 + k0 + 1) f fd ["_law_well_here", "_law_deep", "_law_dim"] (spValue C d) := by
  refine F.ok (k := 3 + k0) scValue (fun vs H Q E h => ?_) (fun cdv A outer s H vs Q E hr h => ?_)
  · obtain ⟨a, z, dim, rfl, _⟩ := h
    rfl
  · obtain ⟨a, z, dim, rfl, hw, hz0, hz1, k⟩ := h
    refine ⟨_, (pss_cons (ps_if (pt_cmpR op_lt (pe_call DD.ok (hr.mono (by omega)) rfl DD.g DD.kp DD.b .nil pass0 (pa_cons (pv 0) (pa_cons pe_int pa_nil))) (pv 2) (nomark _)) (pss_one (ps_ret (pe_mk0 M0 rfl T.unk))) pss_nil)
        (pss_cons (ps_set (i := 3) scValue.nd rfl (Or.inl rfl) (pe_call DD.ok (hr.mono (by omega)) rfl DD.g DD.kp DD.b .nil pass0 (pa_cons (pv 0) (pa_cons (pe_ifExp (pt_cmpR op_gt (pv 1) pe_int (nomark _)) pe_int pe_int) pa_nil))))
        (pss_cons (ps_if (pt_cmpR op_eq (pv 3) pe_int (nomark _)) (pss_one (ps_ret (pe_call D1.ok (hr.mono (by omega)) rfl D1.g D1.kp D1.b .nil pass0 (pa_cons (pv 0) (pa_cons (pe_lst (pa_cons pe_non (pa_cons (pe_cmpR op_eq pe_int pe_int (nomark _)) (pa_cons (pe_cmpR op_eq pe_int pe_int (nomark _)) (pa_cons pe_non pa_nil))))) pa_nil))))) pss_nil)
        (pss_cons (ps_if (pt_cmpR op_eq (pv 3) pe_int (nomark _)) (pss_one (ps_ret (pe_op op_sub (pe_call DD.ok (hr.mono (by omega)) rfl DD.g DD.kp DD.b .nil pass0 (pa_cons (pv 0) (pa_cons pe_int pa_nil))) pe_int))) pss_nil)
        (pss_cons (ps_if (pt_cmpR op_lt (pv 3) pe_int (nomark _)) (pss_one (ps_ret (pe_call D1.ok (hr.mono (by omega)) rfl D1.g D1.kp D1.b .nil pass0 (pa_cons (pv 0) (pa_cons (pe_lst (pa_cons pe_str (pa_cons pe_str (pa_cons pe_str (pa_cons pe_str (pa_cons pe_str (pa_cons pe_str pa_nil))))))) pa_nil))))) pss_nil)
        (pss_cons (ps_if (pt_cmpR op_lt (pv 3) pe_int (nomark _)) (pss_cons (ps_set (i := 4) scValue.nd rfl (Or.inl rfl) (pe_lst (pa_cons (pe_tup (pa_cons pe_str (pa_cons pe_str (pa_cons pe_int pa_nil)))) (pa_cons (pe_tup (pa_cons pe_str (pa_cons pe_str (pa_cons pe_int pa_nil)))) (pa_cons (pe_tup (pa_cons pe_str (pa_cons pe_str (pa_cons pe_int pa_nil)))) (pa_cons (pe_tup (pa_cons pe_str (pa_cons pe_str (pa_cons pe_int pa_nil)))) (pa_cons (pe_tup pa_nil) pa_nil)))))))
        (pss_one (ps_ret (pe_call D1.ok (hr.mono (by omega)) rfl D1.g D1.kp D1.b .nil pass0 (pa_cons (pv 0) (pa_cons (pe_op op_cat (pv 4) (pe_lst (pa_cons (pe_tup (pa_cons pe_str (pa_cons pe_str (pa_cons pe_int pa_nil)))) pa_nil))) pa_nil)))))) pss_nil)
        (pss_cons (ps_setLc (i := 4) (own := [("_law_k", 5)]) (g := gName 5) (tt := tYes) rfl scValue.nd rfl rfl (sw_true rfl rfl rfl (by decide +kernel)) (pi_range1 rfl T.range (pa_cons (pe_call DD.ok (hr.mono (by omega)) rfl DD.g DD.kp DD.b .nil pass0 (pa_cons (pv 0) (pa_cons pe_int pa_nil))) pa_nil)) (blkOk_by (N := NValue) (sc := defScope sValue) (by decide +kernel)) (fun _ _ _ _ _ => pg_name (i := 5) scValue.nd rfl (Or.inl rfl)) (fun _ _ _ _ _ => pts_nil) (fun _ _ _ _ _ => (pe_call DV.ok (hr.mono (by omega)) rfl DV.g DV.kp DV.b .nil pass0 (pa_cons (pv 0) (pa_cons (pe_op op_sub (pv 1) pe_int) (pa_cons (pv 2) pa_nil))))))
        (pss_cons (ps_if (pt_cmpR op_eq (pv 3) pe_int (nomark _)) (pss_one (ps_ret (pe_callTy call_tuple_of (by rfl) T.tuple (by decide +kernel) (pa_cons (pv 4) pa_nil)))) pss_nil)
        (pss_one (ps_ret (pe_callTy (call_dictP rfl) (by rfl) T.dict (by decide +kernel) (pa_cons (pe_lc (own := [("_law_k", 5), ("_law_value_here", 6)]) (g := gTup K 2 (gCons (gName 5) (gCons (gName 6) gNil))) (tt := tYes) rfl scValue.nd (pi_enum rfl T.enumerate (pa_cons (pv 4) pa_nil)) (blkOk_by (N := NValue) (sc := defScope sValue) (by decide +kernel)) (fun _ _ _ _ _ => (pg_tup rfl (pgs_cons (pg_name (i := 5) scValue.nd rfl (Or.inl rfl)) (pgs_cons (pg_name (i := 6) scValue.nd rfl (Or.inl rfl)) pgs_nil)))) (fun _ _ _ _ _ => pts_nil) (fun _ _ _ _ _ => (pe_tup (pa_cons (pe_ix (show IxR _ (rIxL K) from ix_list) (pe_lst (pa_cons pe_str (pa_cons pe_str (pa_cons pe_str pa_nil)))) (pv 5) (fun _ _ => rfl)) (pa_cons (pv 6) pa_nil))))) pa_nil)))))))))))), ?_⟩
    have c3 : 3 ≤ cV d := by cases d <;> simp [cV]
    refine ⟨_, rfl, a, 10, z, rfl, hw, by decide, by decide, hz0, by omega, fun i1 z1 H1 i10 i11 z10 z11 w1 b1 => ?_⟩
    refine ⟨_, rfl, _, _, rfl, rfl, _, rfl, ?_⟩
    by_cases e1 : i1 < dim
    · refine iteC (decide_eq_true e1) fun x dx hx hdx ne => ?_
      have s1 : Same H1 (upd (upd H1 dx (.own x)) x (.ins C dx [])) := Same.upd (sm_upd hdx) ((upd_ne (Ne.symm ne)).trans hx)
      exact k (.ref x) .unk z1 _ ⟨x, dx, rfl, upd_same⟩ z10 (by omega) (wellSame w1 s1) (butTrans b1 (butSame s1))
    · refine iteN (decide_eq_false e1) ?_
      refine ⟨_, rfl, _, rfl, _, _, rfl, rfl, _, rfl, ?_⟩
      refine ite2 (fun hd => ⟨a, 8, z1, rfl, w1, by decide, by decide, by omega, by omega, fun i2 z2 H2 i20 i21 z20 z21 w2 b2 => ?_⟩) fun hd => ⟨a, 6, z1, rfl, w1, by decide, by decide, by omega, by omega, fun i2 z2 H2 i20 i21 z20 z21 w2 b2 => ?_⟩
      all_goals
        have hh : i2 < 6 ∨ 0 < d := by
          simp at hd
          omega
        clear hd
        have b12 : But a H H2 := butTrans b1 b2
        refine ⟨_, rfl, rfl, _, rfl, ?_⟩
        by_cases f0 : i2 = 0
        · refine iteC (by simp [f0]) ?_
          refine ⟨_, rfl, rfl, rfl, by show 4 ≤ sizeLine; decide, fun l hl => ?_⟩
          have s3 : Same H2 (upd H2 l (.lst [.non, .bl true, .bl false, .non])) := sm_upd hl
          refine ⟨a, l, z2, _, rfl, wellSame w2 s3, upd_same, wellNe w2 hl, by decide, by decide, by omega, by omega, fun v z3 H3 hv z30 z31 w3 b3 => ?_⟩
          obtain ⟨x, hx⟩ := flat_nb (C := C) (H := H3) (n := d + 1) hv
          exact k v x z3 H3 hx (by omega) (by omega) w3 (butTrans b12 (butTrans (butSame s3) b3))
        · refine iteN (by simp [f0]) ?_
          refine ⟨_, rfl, rfl, _, rfl, ?_⟩
          by_cases f1 : i2 = 1
          · refine iteC (by simp [f1]) ?_
            refine ⟨_, rfl, a, 4, z2, rfl, w2, by decide, by decide, by omega, by omega, fun i3 z3 H3 i30 i31 z30 z31 w3 b3 => ?_⟩
            exact ⟨_, _, rfl, rfl, k _ (.int (i3 - 1)) z3 H3 rfl (by omega) (by omega) w3 (butTrans b12 b3)⟩
          · refine iteN (by simp [f1]) ?_
            refine ⟨_, rfl, _, _, rfl, rfl, _, rfl, ?_⟩
            by_cases f2 : i2 < 4
            · refine iteC (by simp [f2]) ?_
              refine ⟨_, rfl, by show 6 ≤ sizeLine; decide, fun l hl => ?_⟩
              have s3 : Same H2 (upd H2 l (.lst [.str "", .str "a", .str "b", .str "ab", .str "1", .str "x"])) := sm_upd hl
              refine ⟨a, l, z2, _, rfl, wellSame w2 s3, upd_same, wellNe w2 hl, by decide, by decide, by omega, by omega, fun v z3 H3 hv z30 z31 w3 b3 => ?_⟩
              obtain ⟨x, hx⟩ := flat_st (C := C) (H := H3) (n := d + 1) hv
              exact k v x z3 H3 hx (by omega) (by omega) w3 (butTrans b12 (butTrans (butSame s3) b3))
            · refine iteN (by simp; omega) ?_
              refine ⟨_, rfl, _, _, rfl, rfl, _, rfl, ?_⟩
              by_cases f3 : i2 < 6
              · refine iteC (by simp [f3]) ?_
                have sz3 : 3 ≤ sizeLine := by decide
                refine ⟨sz3, fun t1 h1 => ⟨sz3, fun t2 h2 => ⟨sz3, fun t3 h3 => ⟨sz3, fun t4 h4 => ⟨by show 0 ≤ sizeLine; decide, fun t5 h5 => ⟨by show 5 ≤ sizeLine; decide, fun l0 hl0 => ?_⟩⟩⟩⟩⟩⟩
                have q1 := sm_upd (o := .tup [.str "#", .str "net", .int 1]) h1
                have q2 := sm_upd (o := .tup [.str "#", .str "net", .int 2]) h2
                have q3 := sm_upd (o := .tup [.str "#", .str "disk", .int 1]) h3
                have q4 := sm_upd (o := .tup [.str "#", .str "Net", .int 1]) h4
                have q5 := sm_upd (o := .tup []) h5
                have q6 := sm_upd (o := .lst [.ref t1, .ref t2, .ref t3, .ref t4, .ref t5]) hl0
                refine ⟨_, rfl, _, rfl, sz3, fun t6 h6 => ⟨by show 1 ≤ sizeLine; decide, fun l1 hl1 => ?_⟩⟩
                have q7 := sm_upd (o := .tup [.str "#", .str "n_", .int 1]) h6
                have q8 := sm_upd (o := .lst [.ref t6]) hl1
                refine ⟨l0, l1, _, _, rfl, rfl, q8 _ _ (q7 _ _ upd_same), upd_same, by show 5 + 1 ≤ sizeLine; decide, fun p hp => ?_⟩
                have q9 := sm_upd (o := .lst ([.ref t1, .ref t2, .ref t3, .ref t4, .ref t5] ++ [.ref t6])) hp
                have r6 := Same.trans q8 q9
                have r5 := Same.trans q6 (Same.trans q7 r6)
                have r4 := Same.trans q5 r5
                have r3 := Same.trans q4 r4
                have r2 := Same.trans q3 r3
                have r1 := Same.trans q2 r2
                have r0 := Same.trans q1 r1
                have g1 := r1 _ _ (upd_same (H := H2) (a := t1) (o := .tup [.str "#", .str "net", .int 1]))
                have g2 := r2 t2 _ upd_same
                have g3 := r3 t3 _ upd_same
                have g4 := r4 t4 _ upd_same
                have g5 := r5 t5 _ upd_same
                have g6 := r6 t6 _ upd_same
                refine ⟨a, p, z2, _, rfl, wellSame w2 r0, upd_same, wellNe (wellSame w2 (Same.trans q1 (Same.trans q2 (Same.trans q3 (Same.trans q4 (Same.trans q5 (Same.trans q6 (Same.trans q7 q8)))))))) hp, by show 0 < 6; decide, by show 6 < 1000000; decide, by omega, by omega, fun v z3 H3 hv z30 z31 w3 b3 => ?_⟩
                have wi := wellSame w2 r0
                obtain ⟨x, hx⟩ := flat_tg (C := C) (H := H3) (n := d) (b3 _ _ g1 (wellTup wi g1)) (b3 _ _ g2 (wellTup wi g2)) (b3 _ _ g3 (wellTup wi g3)) (b3 _ _ g4 (wellTup wi g4)) (b3 _ _ g5 (wellTup wi g5)) (b3 _ _ g6 (wellTup wi g6)) hv
                exact k v x z3 H3 hx (by omega) (by omega) w3 (butTrans b12 (butTrans (butSame r0) b3))
              · refine iteN (by simp; omega) ?_
                have hd : 0 < d := by omega
                obtain ⟨e, rfl⟩ : ∃ e, d = e + 1 := ⟨d - 1, by omega⟩
                have hR' : spR = spValue C e := hR hd
                subst hR'
                have ce : cV (e + 1) = 3 + 3 * cV e := rfl
                refine ⟨_, rfl, a, 4, z2, rfl, w2, by decide, by decide, by omega, by omega, fun i3 z3 H3 i30 i31 z30 z31 w3 b3 => ?_⟩
                refine ⟨i3, rfl, by omega, by omega, fun D hD => ?_⟩
                refine lc_well (c := cV e) walk_range hD w3 (fun i y Hh => ∃ x, Lv C Hh (e + 1) x y) (fun i y Ha Hb kk ⟨x, h⟩ => ⟨x, h.keep kk⟩) (Nat.lt_of_le_of_lt (show i3.toNat ≤ 4 by omega) (by decide)) (fun _ _ => True.intro) (fun i x H4 H4' N zz hi k4 w4 zz0 zz1 y q => ?_) (fun H5 ys zz k5 w5 zz0 zz1 h5 n5 r5 => ?_)
                · obtain ⟨rfl, rfl⟩ := y
                  have hm : (i + 1) * cV e ≤ 3 * cV e := Nat.mul_le_mul_right _ (by omega)
                  have hm2 : (i + 1) * cV e = i * cV e + cV e := Nat.succ_mul i _
                  refine ⟨rfl, _, rfl, _, rfl, _, _, rfl, rfl, _, rfl, a, zz, dim, congrArg (fun t => [V.ref a, V.int t, V.int dim]) (show ((e + 1 : Nat) : Int) - 1 = (e : Nat) by omega), w4, by omega, by omega, fun v x z' H' hv a1 a2 w' b' => ?_⟩
                  exact q v H' z' b' w' a1 a2 ⟨x, hv⟩
                · have hm : i3.toNat * cV e ≤ 3 * cV e := Nat.mul_le_mul_right _ (by omega)
                  obtain ⟨xs, px⟩ := paired_of (n := i3.toNat) n5 r5
                  have lx : xs.length = ys.length := Paired.length px
                  have b15 : But a H H5 := butTrans b12 (butTrans b3 k5)
                  refine ⟨_, rfl, rfl, _, rfl, ?_⟩
                  by_cases f6 : i2 = 6
                  · refine iteC (by simp [f6]) ?_
                    refine ⟨_, rfl, D, ys, rfl, .inl ⟨SqL.of h5, fun t ht => ?_⟩⟩
                    have s6 : Same H5 (upd H5 t (.tup ys)) := sm_upd ht
                    exact k (.ref t) (.tup xs) zz _ ⟨t, ys, rfl, upd_same, by omega, Paired.mapP px fun _ _ h => h.keep (Kp.of s6)⟩ (by omega) (by omega) (wellSame w5 s6) (butTrans b15 (butSame s6))
                  · refine iteN (by simp [f6]) ?_
                    refine ⟨_, rfl, D, ys, rfl, SqL.of h5, fun D2 hD2 => ?_⟩
                    refine lc_rel walk_enum hD2 (fun i y Hh => ∃ T kk c, y = .ref T ∧ abc[i]? = some kk ∧ ys[i]? = some c ∧ Hh T = some (.tup [.str kk, c])) (fun i y Ha Hb kk ⟨T, k1, c, g1, g2, g3, g4⟩ => ⟨T, k1, c, g1, g2, g3, kk _ _ g4 fun _ z => by cases z⟩) (Nat.lt_of_le_of_lt (show ys.length ≤ 3 by omega) (by decide)) (fun H6 k6 => SqL.of (k6 _ _ h5)) (fun i x H6 H6' N hi k6 y q => ?_) (fun H7 ws k7 h7 n7 r7 => ?_)
                    · obtain ⟨T, x1, y1, rfl, hT, rfl, g1, g2⟩ := y
                      cases g1
                      obtain ⟨kk, ek⟩ : ∃ kk, abc[i]? = some kk := ⟨abc[i]'(by show i < 3; omega), List.getElem?_eq_getElem _⟩
                      refine ⟨T, _, rfl, SqT.of upd_same, rfl, _, _, rfl, _, _, rfl, rfl, rfl, ?_⟩
                      refine ⟨by show 3 ≤ sizeLine; decide, fun l hl => ⟨_, rfl, l, _, _, V.str kk, rfl, rfl, SqL.of upd_same, atI_nat (j := i) (by show ((abc.map V.str))[i]? = _; rw [List.getElem?_map, ek]; rfl), _, rfl, by show 2 ≤ sizeLine; decide, fun T2 hT2 => ?_⟩⟩
                      exact q _ _ (Same.trans (sm_upd hT) (Same.trans (sm_upd hl) (sm_upd hT2))) ⟨T2, kk, y1, rfl, ek, g2, upd_same⟩
                    · obtain ⟨ps, kvs, l, e1, e2, e3, e4, e5, e6, e7, e8⟩ := dict_lv (K := K) (by omega) n7 r7 px
                      subst e1
                      refine ⟨D2, ps, kvs, rfl, SqL.of h7, e2, fun t ht => ?_⟩
                      rw [e3]
                      have s7 : Same H7 (upd H7 t (.dK kvs)) := sm_upd ht
                      have s57 : Same H5 (upd H7 t (.dK kvs)) := Same.trans k7 s7
                      exact k (.ref t) (.map l) zz _ ⟨t, kvs, rfl, upd_same, e4, e5, e6, e7, Paired.mapP e8 fun _ _ h => h.keep (Kp.of s57)⟩ (by omega) (by omega) (wellSame w5 s57) (butTrans b15 (butSame s57))
theorem ok_lvalue {f fD f1 : Addr} {fd fdD fd1 : FuncData} (F : Fun K "_law_value" "_law_value" sValue f fd) (g : mg "_law_value" = some (.ref f)) (b : Binds K fd ["_law_well_here", "_law_deep", "_law_dim"] []) (T : TxtV mg C) (M0 : Mk0 K C) (DD : Def P w K mg base 1 "_law_draw" fD fdD ["_law_well_here", "_law_below"] spDraw)
    (D1 : Def P w K mg base 2 "_law_one" f1 fd1 ["_law_well_here", "_law_some"] (spOne K)) : ∀ d : Nat, FnOk P w K mg base CX0 (3 + d + 1) f fd ["_law_well_here", "_law_deep", "_law_dim"] (spValue C d)
  | 0 => walk_value (k0 := 0) F T M0 DD D1 0 (fun _ _ _ _ => False) ⟨F.ok (k := 2) scValue (fun _ _ _ _ h => False.elim h) (fun _ _ _ _ _ _ _ _ _ h => False.elim h), g, F.kp, b⟩ (fun h => absurd h (Nat.lt_irrefl _))
  | d + 1 => walk_value (k0 := d + 1) F T M0 DD D1 (d + 1) (spValue C d) ⟨ok_lvalue F g b T M0 DD D1 d, g, F.kp, b⟩ fun _ => rfl
end
end Vl

set_option Elab.async false
set_option linter.all false
set_option maxRecDepth 100000
set_option maxHeartbeats 4000000
namespace Vl
open PySem PySem.Spec PyProof.Rows L2 Pf
abbrev sTurned : Stmt := top 33
def cT : Nat → Nat
  | 0 => 0
  | n + 1 => 16 + 3 * cT n
def spTurned (C : Addr) (n : Nat) : Sp := fun vs H Q _ => ∃ (a : Addr) (v : V) (x : LV) (z dim : Int), vs = [.ref a, v, .int dim] ∧ Lw C H n x v ∧ WellAt H a z ∧ 0 ≤ z ∧ z + cT n < 1000000 ∧
  ∀ (v' : V) (x' : LV) (z' : Int) (H' : Hp), Lw C H' (n + 2) x' v' → z ≤ z' → z' ≤ z + cT n → WellAt H' a z' → But a H H' → Q v' H'
theorem merge_nd : ∀ (more kvs : List (Key × V)), ((kvs ++ more).map (·.1)).Nodup → mergeK kvs more = kvs ++ more
  | [], kvs, _ => by simp [mergeK]
  | (k, v) :: more, kvs, h => by
    have h1 : putK kvs k v = kvs ++ [(k, v)] := by
      unfold putK
      rw [if_neg]
      intro e
      obtain ⟨q, hq, e2⟩ := List.any_eq_true.mp e
      have e2 := of_decide_eq_true e2
      rw [List.map_append, List.nodup_append] at h
      exact h.2.2 q.1 (List.mem_map_of_mem hq) k (by simp) e2
    show mergeK (putK kvs k v) more = _
    rw [h1, merge_nd more (kvs ++ [(k, v)]) (by simpa using h)]
    simp
theorem flat_k {C : Addr} {H : Hp} {n : Nat} {v : V} (h : v ∈ [V.int 1, V.bl true, V.str "1", V.int 0, V.bl false, V.non]) : ∃ x, Lv C H n x v := by
  simp only [List.mem_cons, List.not_mem_nil, or_false] at h
  rcases h with rfl | rfl | rfl | rfl | rfl | rfl
  · exact ⟨.int 1, Lv.of fun _ => rfl⟩
  · exact ⟨.bl true, Lv.of fun _ => rfl⟩
  · exact ⟨.str "1", Lv.of fun _ => ⟨rfl, by decide +kernel, by decide +kernel⟩⟩
  · exact ⟨.int 0, Lv.of fun _ => rfl⟩
  · exact ⟨.bl false, Lv.of fun _ => rfl⟩
  · exact ⟨.non, Lv.of fun _ => rfl⟩
theorem dict_rel {K : PySem.W.Frag} {H : Hp} {R : LV → V → Prop} : ∀ {ks : List Str} {ws : List V}, ws.length = ks.length →
    (∀ i, i < ks.length → ∃ y, ws[i]? = some y ∧ ∃ T kk c x', y = V.ref T ∧ ks[i]? = some kk ∧ H T = some (.tup [.str kk, c]) ∧ R x' c) →
    ∃ (ps : List Addr) (kvs : List (Key × V)) (xs : List LV), ws = ps.map V.ref ∧ Paired (fun p kv => SqT K H p [kV kv.1, kv.2]) ps kvs ∧ kvs.map (·.1) = ks.map (fun z => (Sum.inr z : Key)) ∧ Paired R xs (kvs.map (·.2))
  | [], ws, h, _ => by
    have : ws = [] := List.length_eq_zero_iff.mp h
    subst this
    exact ⟨[], [], [], rfl, .nil, rfl, .nil⟩
  | z :: ks, [], h, _ => by simp at h
  | z :: ks, w :: ws, h, r => by
    obtain ⟨y, e1, T, kk, c, x', e2, e3, e4, e5⟩ := r 0 (by simp)
    simp at e1 e3
    subst e1 e2 e3
    obtain ⟨ps, kvs, xs, g1, g2, g3, g4⟩ := dict_rel (K := K) (H := H) (R := R) (ks := ks) (ws := ws) (by simpa using h) fun i hi => by
      obtain ⟨y, f1, T, kk, c, x', f2, f3, f4, f5⟩ := r (i + 1) (by simp; omega)
      exact ⟨y, by simpa using f1, T, kk, c, x', f2, by simpa using f3, f4, f5⟩
    exact ⟨T :: ps, (.inr z, c) :: kvs, x' :: xs, by rw [g1]; rfl, .cons (SqT.of e4) g2, by rw [List.map_cons, g3]; rfl, .cons e5 g4⟩
theorem nodup_inr {ks : List Str} (h : ks.Nodup) : (ks.map (fun z => (Sum.inr z : Key))).Nodup := by
  refine List.pairwise_map.mpr (List.Pairwise.imp ?_ h)
  intro x y ne e
  exact ne (Sum.inr.inj e)
abbrev NTurned : List Str := ["_law_well_here", "_law_value_here", "_law_dim", "_law_way", "_law_keys", "_law_part", "_law_key"]
theorem scTurned : FnScope NTurned ["_law_well_here", "_law_value_here", "_law_dim"] (defScope sTurned) := ⟨rfl, rfl, rfl, by decide +kernel, rfl, by decide +kernel, by decide +kernel⟩
section
variable {P : Program} {w : World} {K : PySem.W.Frag} {mg : Str → Option Value} {base : Heap} {C : Addr}
theorem ok_lturned {f fD f1 fV fS : Addr} {fd fdD fd1 fdV fdS : FuncData} (F : Fun K "_law_turned" "_law_turned" sTurned f fd) (g : mg "_law_turned" = some (.ref f)) (b : Binds K fd ["_law_well_here", "_law_value_here", "_law_dim"] []) (T : TxtV mg C) (M0 : Mk0 K C)
    (DD : Def P w K mg base 1 "_law_draw" fD fdD ["_law_well_here", "_law_below"] spDraw) (D1 : Def P w K mg base 2 "_law_one" f1 fd1 ["_law_well_here", "_law_some"] (spOne K)) (DV : Def P w K mg base 5 "_law_value" fV fdV ["_law_well_here", "_law_deep", "_law_dim"] (spValue C 1))
    (DS : Def P w K mg base 2 "_law_sort" fS fdS ["_law_value_here"] (spSort C)) : ∀ n, FnOk P w K mg base CX0 (6 + n) f fd ["_law_well_here", "_law_value_here", "_law_dim"] (spTurned C n)
  | 0 => F.ok (k := 5) scTurned (fun vs H Q E ⟨_, _, _, _, _, _, ⟨_, h, _⟩, _⟩ => absurd h (Nat.not_lt_zero _)) (fun cdv A outer s H vs Q E hr ⟨_, _, _, _, _, _, ⟨_, h, _⟩, _⟩ => absurd h (Nat.not_lt_zero _))
  | n + 1 => by
    have DT : Def P w K mg base (6 + n) "_law_turned" f fd ["_law_well_here", "_law_value_here", "_law_dim"] (spTurned C n) := ⟨ok_lturned F g b T M0 DD D1 DV DS n, g, F.kp, b⟩
    refine F.ok (k := 6 + n) scTurned (fun vs H Q E h => ?_) (fun cdv A outer s H vs Q E hr h => ?_)
    · obtain ⟨a, v, x, z, dim, rfl, _⟩ := h
      rfl
    · obtain ⟨a, v, x, z, dim, rfl, ⟨mx, lx, hx⟩, hw, hz0, hz1, k⟩ := h
      have hx := hx.le (Nat.le_of_lt_succ lx)
      have cn : cT (n + 1) = 16 + 3 * cT n := rfl
      refine ⟨_, (pss_cons (ps_set (i := 3) scTurned.nd rfl (Or.inl rfl) (pe_call DD.ok (hr.mono (by omega)) rfl DD.g DD.kp DD.b .nil pass0 (pa_cons (pv 0) (pa_cons pe_int pa_nil))))
        (pss_cons (ps_if (pt_cmpR op_lt (pv 3) (pv 2) (nomark _)) (pss_one (ps_ret (pe_mk0 M0 rfl T.unk))) pss_nil)
        (pss_cons (ps_if (PW.pt (pw_or (pt_cmpR op_eq (pv 3) pe_int (nomark _)) (pw_or1 (pt_cmpR op_eq (pe_call DS.ok (hr.mono (by omega)) rfl DS.g DS.kp DS.b .nil pass0 (pa_cons (pv 1) pa_nil)) pe_str (nomark _))))) (pss_one (ps_ret (pe_call DV.ok (hr.mono (by omega)) rfl DV.g DV.kp DV.b .nil pass0 (pa_cons (pv 0) (pa_cons pe_int (pa_cons pe_int pa_nil)))))) pss_nil)
        (pss_cons (ps_if (pt_cmpR op_eq (pe_call DS.ok (hr.mono (by omega)) rfl DS.g DS.kp DS.b .nil pass0 (pa_cons (pv 1) pa_nil)) pe_str (nomark _)) (pss_one (ps_ret (pe_callTy call_tuple_of (by rfl) T.tuple (by decide +kernel) (pa_cons (pe_lc (own := [("_law_part", 5)]) (g := gName 5) (tt := tYes) rfl scTurned.nd (pi_tup (pv 1)) (blkOk_by (N := NTurned) (sc := defScope sTurned) (by decide +kernel)) (fun _ _ _ _ _ => pg_name (i := 5) scTurned.nd rfl (Or.inl rfl)) (fun _ _ _ _ _ => pts_nil) (fun _ _ _ _ _ => (pe_call DT.ok (hr.mono (by omega)) rfl DT.g DT.kp DT.b .nil pass0 (pa_cons (pv 0) (pa_cons (pv 5) (pa_cons (pv 2) pa_nil)))))) pa_nil)))) pss_nil)
        (pss_cons (ps_if (pt_cmpR op_eq (pe_call DS.ok (hr.mono (by omega)) rfl DS.g DS.kp DS.b .nil pass0 (pa_cons (pv 1) pa_nil)) pe_str (nomark _)) (pss_cons (ps_set (i := 4) scTurned.nd rfl (Or.inl rfl) (pe_callB (call_sortedD rfl) (by rfl) T.sorted (by decide +kernel) (pa_cons (pv 1) pa_nil)))
        (pss_cons (ps_if (pt_cmpR op_eq (pe_call DD.ok (hr.mono (by omega)) rfl DD.g DD.kp DD.b .nil pass0 (pa_cons (pv 0) (pa_cons pe_int pa_nil))) pe_int (nomark _)) (pss_one (ps_expr (pe_bm0 PySem.F.plainAttrs_list PySem.F.slot_list_reverse PySem.F.type_list_reverse mt_reverse (pv 4)))) pss_nil)
        (pss_one (ps_ret (pe_callTy (call_dictP rfl) (by rfl) T.dict (by decide +kernel) (pa_cons (pe_lc (own := [("_law_key", 6)]) (g := gName 6) (tt := tYes) rfl scTurned.nd (pi_list (pv 4)) (blkOk_by (N := NTurned) (sc := defScope sTurned) (by decide +kernel)) (fun _ _ _ _ _ => pg_name (i := 6) scTurned.nd rfl (Or.inl rfl)) (fun _ _ _ _ _ => pts_nil) (fun _ _ _ _ _ => (pe_tup (pa_cons (pv 6) (pa_cons (pe_call DT.ok (hr.mono (by omega)) rfl DT.g DT.kp DT.b .nil pass0 (pa_cons (pv 0) (pa_cons (pe_dget (hu_of hr) (pv 1) (pv 6) (fun _ _ => rfl)) (pa_cons (pv 2) pa_nil)))) pa_nil))))) pa_nil)))))) pss_nil)
        (pss_cons (ps_if (pt_cmpR op_eq (pv 3) pe_int (nomark _)) (pss_one (ps_ret (pe_call D1.ok (hr.mono (by omega)) rfl D1.g D1.kp D1.b .nil pass0 (pa_cons (pv 0) (pa_cons (pe_lst (pa_cons pe_int (pa_cons (pe_cmpR op_eq pe_int pe_int (nomark _)) (pa_cons pe_str (pa_cons pe_int (pa_cons (pe_cmpR op_eq pe_int pe_int (nomark _)) (pa_cons pe_non pa_nil))))))) pa_nil))))) pss_nil)
        (pss_one (ps_ret (pv 1))))))))), ?_⟩
      refine ⟨_, rfl, a, 12, z, rfl, hw, by decide, by decide, hz0, by omega, fun i1 z1 H1 i10 i11 z10 z11 w1 b1 => ?_⟩
      refine ⟨_, rfl, _, rfl, _, _, rfl, rfl, _, rfl, ?_⟩
      have hx1 := hx.keep (wellKp hw b1)
      by_cases e1 : i1 < dim
      · refine iteC (decide_eq_true e1) fun x dx hx hdx ne => ?_
        have s1 : Same H1 (upd (upd H1 dx (.own x)) x (.ins C dx [])) := Same.upd (sm_upd hdx) ((upd_ne (Ne.symm ne)).trans hx)
        exact k (.ref x) .unk z1 _ ⟨0, by omega, x, dx, rfl, upd_same⟩ z10 (by omega) (wellSame w1 s1) (butTrans b1 (butSame s1))
      · refine iteN (decide_eq_false e1) ?_
        refine ⟨_, rfl, rfl, ?_⟩
        have val : ∀ H2, Same H1 H2 → spValue C 1 [.ref a, .int 1, .int 0] H2 Q E := fun H2 s2 => ⟨a, z1, 0, rfl, wellSame w1 s2, by omega, by show z1 + (12 : Nat) < 1000000; omega, fun v x z' H' hv z20 z21 w2 b2 =>
          k v x z' H' ⟨2, by omega, hv⟩ (by omega) (by have : z' ≤ z1 + (12 : Nat) := z21; omega) w2 (butTrans b1 (butTrans (butSame s2) b2))⟩
        by_cases e11 : i1 = 11
        · refine ⟨_, rfl, ?_⟩
          refine iteC (by simp [e11]) ?_
          exact ⟨_, rfl, val H1 (Same.refl H1)⟩
        · refine ⟨_, rfl, ?_⟩
          refine iteN (by simp [e11]) ?_
          refine ⟨_, rfl, n, v, x, rfl, hx1, fun H2 k2 => ⟨rfl, _, rfl, ?_⟩⟩
          by_cases e4 : sortN x = 4
          · refine iteC (by rw [(str_eq4 x).mpr e4]; simp) ?_
            exact ⟨_, rfl, val H2 k2⟩
          · have n4 : ¬ sortL x = "unknown" := fun q => e4 ((str_eq4 x).mp q)
            refine iteN (by simp [n4]) ?_
            have hx2 := hx1.keep (Kp.of k2)
            refine ⟨_, rfl, n, v, x, rfl, hx2, fun H3 k3 => ⟨rfl, _, rfl, ?_⟩⟩
            have w3 := wellSame (wellSame w1 k2) k3
            have b3 : But a H H3 := butTrans b1 (butTrans (butSame k2) (butSame k3))
            have hx3 := hx2.keep (Kp.of k3)
            by_cases e7 : sortN x = 7
            · obtain ⟨l, rfl, el⟩ := sort_tuple (by rw [sortL_N, e7]; rfl)
              refine iteC (by rw [sortL_N, e7]; simp [sortT]) ?_
              obtain ⟨a2, us, rfl, ha2, hl, pa⟩ := hx3.tupW
              have lu : us.length = l.length := (Paired.length pa).symm
              have w3' := w3
              refine ⟨_, rfl, a2, rfl, ⟨us, SqT.of ha2⟩, fun D hD => ?_⟩
              have nt := wellTup w3 ha2
              refine lc_well (c := cT n) walk_tup hD w3 (fun i y Hh => ∃ x', Lv C Hh (n + 1) x' y) (fun i y Ha Hb kk ⟨x', h⟩ => ⟨x', h.keep kk⟩) (Nat.lt_of_le_of_lt (show us.length ≤ 3 by omega) (by decide)) (fun H4 k4 => SqT.of (k4 _ _ ha2 nt)) (fun i y0 H4 H4' N zz hi k4 w4 zz0 zz1 yy q => ?_) (fun H5 ys zz k5 w5 zz0 zz1 h5 n5 r5 => ?_)
              · obtain ⟨rfl, ez⟩ := yy
                have ep : l[i]? = some (l[i]'(by omega)) := List.getElem?_eq_getElem _
                have lw := (paired_at pa ep ez).keep (wellKp w3 k4)
                have hm : (i + 1) * cT n ≤ 3 * cT n := Nat.mul_le_mul_right _ (by omega)
                have hm2 : (i + 1) * cT n = i * cT n + cT n := Nat.succ_mul i _
                refine ⟨rfl, _, rfl, _, rfl, _, rfl, a, y0, _, zz, dim, rfl, lw, w4, by omega, by omega, fun v' x' z' H' hv a1 a2' w' b' => ?_⟩
                obtain ⟨m, hm, hv⟩ := hv
                exact q v' H' z' b' w' a1 a2' ⟨x', hv.le (by omega)⟩
              · have hm : us.length * cT n ≤ 3 * cT n := Nat.mul_le_mul_right _ (by omega)
                obtain ⟨xs, px⟩ := paired_of (n := us.length) n5 r5
                have lx : xs.length = ys.length := Paired.length px
                refine ⟨D, ys, rfl, .inl ⟨SqL.of h5, fun t ht => ?_⟩⟩
                have s6 : Same H5 (upd H5 t (.tup ys)) := sm_upd ht
                exact k (.ref t) (.tup xs) zz _ ⟨n + 2, by omega, t, ys, rfl, upd_same, by omega, Paired.mapP px fun _ _ h => h.keep (Kp.of s6)⟩ (by omega) (by omega) (wellSame w5 s6) (butTrans (butTrans b3 k5) (butSame s6))
            · refine iteN (by simp [show ¬ sortL x = "tuple" from fun q => e7 (sortL_at (n := 7) (by decide) q)]) ?_
              refine ⟨_, rfl, n, v, x, rfl, hx3, fun H4 k4 => ⟨rfl, _, rfl, ?_⟩⟩
              have w4 := wellSame w3 k4
              have b4 : But a H H4 := butTrans b3 (butSame k4)
              have hx4 := hx3.keep (Kp.of k4)
              by_cases e5 : sortN x = 5
              · obtain ⟨l, rfl⟩ := sort_map (by rw [sortL_N, e5]; rfl)
                refine iteC (by rw [sortL_N, e5]; simp [sortT]) ?_
                obtain ⟨a2, us, rfl, ha2, hl, nd, ok, hk, pa⟩ := hx4.mapW
                have lu : us.length = l.length := by have := congrArg List.length hk; simpa using this
                refine ⟨_, rfl, a2, us, l.map (·.1), rfl, .inl ha2, by rw [hk, List.map_map]; rfl, by rw [List.length_map]; omega, fun ys p q1 s1 n1 => ?_⟩
                have s5 : Same H4 (upd H4 p (.lst (ys.map V.str))) := sm_upd n1
                have w5 := wellSame w4 s5
                have npa : p ≠ a := wellNe w4 n1
                have nb : ∀ b o, H b = some o → b ≠ a → b ≠ p := fun b o hb na e => by
                  have := b4 b o hb na
                  rw [e, n1] at this
                  cases this
                have np4 : ∀ b o, H4 b = some o → b ≠ p := fun b o hb e => by
                  rw [e, n1] at hb
                  cases hb
                refine ⟨_, rfl, a, 2, z1, rfl, w5, by decide, by decide, by omega, by omega, fun i2 z2 H6 i20 i21 z20 z21 w6 b6 => ⟨rfl, _, rfl, ?_⟩⟩
                have h6 : H6 p = some (.lst (ys.map V.str)) := b6 _ _ upd_same npa
                have b46 : But a H4 H6 := butTrans (butSame s5) b6
                have F6 : But a H H6 ∧ But a H4 H6 ∧ WellAt H6 a z2 ∧ H6 p = some (.lst (ys.map V.str)) ∧ ys.Perm (l.map (·.1)) := ⟨butTrans b4 b46, b46, w6, h6, q1⟩
                have F7 : ∀ (o : HO) (ks : List Str), o = HO.lst (ks.map V.str) → ks.Perm (l.map (·.1)) → But a H (upd H6 p o) ∧ But a H4 (upd H6 p o) ∧ WellAt (upd H6 p o) a z2 ∧ (upd H6 p o) p = some (.lst (ks.map V.str)) ∧ ks.Perm (l.map (·.1)) := fun o ks eo pk => by
                  refine ⟨fun b u hb na => (upd_ne (nb b u hb na)).trans (F6.1 b u hb na), fun b u hb na => (upd_ne (np4 b u hb)).trans (b46 b u hb na), ?_, by rw [eo]; exact upd_same, pk⟩
                  obtain ⟨x, y, e1, e2⟩ := w6
                  exact ⟨x, y, by rw [upd_ne (Ne.symm npa)]; exact e1, e2⟩
                refine ite2 (fun _ => ⟨_, rfl, .inl ⟨rfl, _, SqL.of h6⟩, p, _, rfl, rfl, h6, ?_⟩) fun _ => ?_
                · have f := F7 _ ys.reverse (by rw [List.map_reverse]) ((List.reverse_perm ys).trans q1)
                  generalize upd H6 p (HO.lst (ys.map V.str).reverse) = H7 at f ⊢
                  generalize ys.reverse = ks at f
                  obtain ⟨f1, f2, f3, f4, f5⟩ := f
                  have lk : ks.length = l.length := by rw [f5.length_eq, List.length_map]
                  have kd : ks.Nodup := f5.nodup_iff.mpr nd
                  have kp7 : Kp H4 H7 := wellKp w4 f2
                  have ha7 : H7 a2 = some (.dK us) := kp7 _ _ ha2 fun _ z => by cases z
                  have nda : a2 ≠ a := fun e => by
                    obtain ⟨x, y, e1, _⟩ := f3
                    rw [← e, ha7] at e1
                    cases e1
                  have lmk : (ks.map V.str).length = ks.length := List.length_map _
                  refine ⟨_, rfl, p, rfl, ⟨_, SqL.of f4⟩, fun D hD => ?_⟩
                  refine lc_well (c := cT n) walk_list hD f3 (fun i y Hh => ∃ T kk c x', y = .ref T ∧ ks[i]? = some kk ∧ Hh T = some (.tup [.str kk, c]) ∧ Lv C Hh (n + 1) x' c) (fun i y Ha Hb kk ⟨T, k1, c, x', g1, g2, g3, g4⟩ => ⟨T, k1, c, x', g1, g2, kk _ _ g3 (fun _ z => by cases z), g4.keep kk⟩) (Nat.lt_of_le_of_lt (show (ks.map V.str).length ≤ 3 by omega) (by decide)) (fun H8 k8 => SqL.of (k8 _ _ f4 npa)) (fun i y0 H8 H8' N zz hi k8 w8 zz0 zz1 yy q => ?_) (fun H9 ws zz k9 w9 zz0 zz1 h9 n9 r9 => ?_)
                  · obtain ⟨rfl, ez⟩ := yy
                    rw [List.getElem?_map] at ez
                    obtain ⟨kk, ek, rfl⟩ := Option.map_eq_some_iff.mp ez
                    obtain ⟨c, c1, c2⟩ := val_at hk pa (f5.mem_iff.mp (List.mem_of_getElem? ek))
                    have hm : (i + 1) * cT n ≤ 3 * cT n := Nat.mul_le_mul_right _ (by omega)
                    have hm2 : (i + 1) * cT n = i * cT n + cT n := Nat.succ_mul i _
                    refine ⟨rfl, _, rfl, _, rfl, _, rfl, _, rfl, a2, c, rfl, .inl ⟨us, _, .inl (k8 _ _ ha7 nda), rfl, c1.symm⟩, _, rfl, a, c, _, zz, dim, rfl, c2.keep (kp7.trans (wellKp f3 k8)), w8, by omega, by omega, fun v' x' z' H' hv g1 g2 w' b' => ⟨by show 2 ≤ sizeLine; decide, fun T hT => ?_⟩⟩
                    have sT : Same H' (upd H' T (.tup [.str kk, v'])) := sm_upd hT
                    obtain ⟨m, hm3, hv⟩ := hv
                    exact q _ _ z' (butTrans b' (butSame sT)) (wellSame w' sT) g1 g2 ⟨T, kk, v', x', rfl, ek, upd_same, (hv.le (by omega)).keep (Kp.of sT)⟩
                  · have hm : (ks.map V.str).length * cT n ≤ 3 * cT n := Nat.mul_le_mul_right _ (by omega)
                    obtain ⟨ps, kvs, xs, e1, e2, e3, e4⟩ := dict_rel (K := K) (n9.trans lmk) (by rw [← lmk]; exact r9)
                    subst e1
                    refine ⟨D, ps, kvs, rfl, SqL.of h9, e2, fun t ht => ?_⟩
                    rw [merge_nd kvs [] (by rw [List.nil_append, e3]; exact (nodup_inr kd)), List.nil_append]
                    have s7 : Same H9 (upd H9 t (.dK kvs)) := sm_upd ht
                    have lxs : xs.length = ks.length := by
                      have g1 := Paired.length e4
                      have g2 := congrArg List.length e3
                      rw [List.length_map] at g1 g2
                      rw [List.length_map] at g2
                      omega
                    have z1e : (ks.zip xs).map (·.1) = ks := List.map_fst_zip (by omega)
                    have z2e : (ks.zip xs).map (·.2) = xs := List.map_snd_zip (by omega)
                    refine k (.ref t) (.map (ks.zip xs)) zz _ ⟨n + 2, by omega, t, kvs, rfl, upd_same, by rw [List.length_zip]; omega, by rw [z1e]; exact kd, fun q hq => ?_, ?_, ?_⟩ (by omega) (by omega) (wellSame w9 s7) (butTrans (butTrans f1 k9) (butSame s7))
                    · have m1 : q.1 ∈ ks := by rw [← z1e]; exact List.mem_map_of_mem (f := (·.1)) hq
                      obtain ⟨q', hq', e⟩ := List.mem_map.mp (f5.mem_iff.mp m1)
                      rw [← e]
                      exact ok q' hq'
                    · rw [e3]
                      conv => lhs; rw [← z1e]
                      rw [List.map_map]
                      rfl
                    · rw [z2e]
                      exact Paired.mapP e4 fun _ _ h => h.keep (Kp.of s7)
                · have f := F6
                  generalize hy7 : H6 = H7 at f ⊢
                  generalize hk7 : ys = ks at f
                  obtain ⟨f1, f2, f3, f4, f5⟩ := f
                  have lk : ks.length = l.length := by rw [f5.length_eq, List.length_map]
                  have kd : ks.Nodup := f5.nodup_iff.mpr nd
                  have kp7 : Kp H4 H7 := wellKp w4 f2
                  have ha7 : H7 a2 = some (.dK us) := kp7 _ _ ha2 fun _ z => by cases z
                  have nda : a2 ≠ a := fun e => by
                    obtain ⟨x, y, e1, _⟩ := f3
                    rw [← e, ha7] at e1
                    cases e1
                  have lmk : (ks.map V.str).length = ks.length := List.length_map _
                  refine ⟨_, rfl, p, rfl, ⟨_, SqL.of f4⟩, fun D hD => ?_⟩
                  refine lc_well (c := cT n) walk_list hD f3 (fun i y Hh => ∃ T kk c x', y = .ref T ∧ ks[i]? = some kk ∧ Hh T = some (.tup [.str kk, c]) ∧ Lv C Hh (n + 1) x' c) (fun i y Ha Hb kk ⟨T, k1, c, x', g1, g2, g3, g4⟩ => ⟨T, k1, c, x', g1, g2, kk _ _ g3 (fun _ z => by cases z), g4.keep kk⟩) (Nat.lt_of_le_of_lt (show (ks.map V.str).length ≤ 3 by omega) (by decide)) (fun H8 k8 => SqL.of (k8 _ _ f4 npa)) (fun i y0 H8 H8' N zz hi k8 w8 zz0 zz1 yy q => ?_) (fun H9 ws zz k9 w9 zz0 zz1 h9 n9 r9 => ?_)
                  · obtain ⟨rfl, ez⟩ := yy
                    rw [List.getElem?_map] at ez
                    obtain ⟨kk, ek, rfl⟩ := Option.map_eq_some_iff.mp ez
                    obtain ⟨c, c1, c2⟩ := val_at hk pa (f5.mem_iff.mp (List.mem_of_getElem? ek))
                    have hm : (i + 1) * cT n ≤ 3 * cT n := Nat.mul_le_mul_right _ (by omega)
                    have hm2 : (i + 1) * cT n = i * cT n + cT n := Nat.succ_mul i _
                    refine ⟨rfl, _, rfl, _, rfl, _, rfl, _, rfl, a2, c, rfl, .inl ⟨us, _, .inl (k8 _ _ ha7 nda), rfl, c1.symm⟩, _, rfl, a, c, _, zz, dim, rfl, c2.keep (kp7.trans (wellKp f3 k8)), w8, by omega, by omega, fun v' x' z' H' hv g1 g2 w' b' => ⟨by show 2 ≤ sizeLine; decide, fun T hT => ?_⟩⟩
                    have sT : Same H' (upd H' T (.tup [.str kk, v'])) := sm_upd hT
                    obtain ⟨m, hm3, hv⟩ := hv
                    exact q _ _ z' (butTrans b' (butSame sT)) (wellSame w' sT) g1 g2 ⟨T, kk, v', x', rfl, ek, upd_same, (hv.le (by omega)).keep (Kp.of sT)⟩
                  · have hm : (ks.map V.str).length * cT n ≤ 3 * cT n := Nat.mul_le_mul_right _ (by omega)
                    obtain ⟨ps, kvs, xs, e1, e2, e3, e4⟩ := dict_rel (K := K) (n9.trans lmk) (by rw [← lmk]; exact r9)
                    subst e1
                    refine ⟨D, ps, kvs, rfl, SqL.of h9, e2, fun t ht => ?_⟩
                    rw [merge_nd kvs [] (by rw [List.nil_append, e3]; exact (nodup_inr kd)), List.nil_append]
                    have s7 : Same H9 (upd H9 t (.dK kvs)) := sm_upd ht
                    have lxs : xs.length = ks.length := by
                      have g1 := Paired.length e4
                      have g2 := congrArg List.length e3
                      rw [List.length_map] at g1 g2
                      rw [List.length_map] at g2
                      omega
                    have z1e : (ks.zip xs).map (·.1) = ks := List.map_fst_zip (by omega)
                    have z2e : (ks.zip xs).map (·.2) = xs := List.map_snd_zip (by omega)
                    refine k (.ref t) (.map (ks.zip xs)) zz _ ⟨n + 2, by omega, t, kvs, rfl, upd_same, by rw [List.length_zip]; omega, by rw [z1e]; exact kd, fun q hq => ?_, ?_, ?_⟩ (by omega) (by omega) (wellSame w9 s7) (butTrans (butTrans f1 k9) (butSame s7))
                    · have m1 : q.1 ∈ ks := by rw [← z1e]; exact List.mem_map_of_mem (f := (·.1)) hq
                      obtain ⟨q', hq', e⟩ := List.mem_map.mp (f5.mem_iff.mp m1)
                      rw [← e]
                      exact ok q' hq'
                    · rw [e3]
                      conv => lhs; rw [← z1e]
                      rw [List.map_map]
                      rfl
                    · rw [z2e]
                      exact Paired.mapP e4 fun _ _ h => h.keep (Kp.of s7)
              · refine iteN (by simp [show ¬ sortL x = "map" from fun q => e5 (sortL_at (n := 5) (by decide) q)]) ?_
                refine ⟨_, rfl, rfl, _, rfl, ?_⟩
                by_cases e10 : i1 = 10
                · refine iteC (by simp [e10]) ?_
                  refine ⟨_, rfl, rfl, rfl, by show 6 ≤ sizeLine; decide, fun l hl => ?_⟩
                  have s5 := sm_upd (o := .lst [.int 1, .bl true, .str "1", .int 0, .bl false, .non]) hl
                  refine ⟨a, l, z1, _, rfl, wellSame w4 s5, upd_same, wellNe w4 hl, by show 0 < 6; decide, by show 6 < 1000000; decide, by omega, by omega, fun v' z3 H5 hv z30 z31 w5 b5 => ?_⟩
                  obtain ⟨x', hx'⟩ := flat_k (C := C) (H := H5) (n := 0) hv
                  exact k v' x' z3 H5 ⟨0, by omega, hx'⟩ (by omega) (by omega) w5 (butTrans b4 (butTrans (butSame s5) b5))
                · refine iteN (by simp [e10]) ?_
                  exact ⟨_, rfl, k v x z1 H4 ⟨n, by omega, hx4⟩ (by omega) (by omega) w4 b4⟩
end
end Vl

set_option Elab.async false
set_option linter.all false
set_option maxRecDepth 100000
set_option maxHeartbeats 4000000
namespace Vl
open PySem PySem.Spec PyProof.Rows L2 Pf
abbrev sLsame : Stmt := top 31
def sameL (n : Nat) (x y : LV) : LV := if mayL n x y = true then (if openL n x + openL n y = 0 then .bl true else .unk) else .bl false
def spSame (C : Addr) (n : Nat) : Sp := fun vs H Q _ => ∃ (v u : V) (x y : LV), vs = [v, u] ∧ Lw C H n x v ∧ Lw C H n y u ∧ ∀ (v' : V) (H' : Hp), Same H H' → Lv C H' 0 (sameL n x y) v' → Q v' H'
theorem scLsame : FnScope ["_law_one_here", "_law_other"] ["_law_one_here", "_law_other"] (defScope sLsame) := ⟨rfl, rfl, rfl, by decide +kernel, rfl, by decide +kernel, by decide +kernel⟩
section
variable {P : Program} {w : World} {K : PySem.W.Frag} {mg : Str → Option Value} {base : Heap} {C : Addr}
theorem ok_lsame {f fM fO : Addr} {fd fdM fdO : FuncData} (n : Nat) (F : Fun K "_law_same" "_law_same" sLsame f fd) (T : TxtV mg C) (M0 : Mk0 K C) (DM : Def P w K mg base (4 + n) "_law_may" fM fdM ["_law_one_here", "_law_other"] (spMay C n))
    (DO : Def P w K mg base (3 + n) "_law_open" fO fdO ["_law_value_here"] (spOpen C n)) : FnOk P w K mg base CX0 (5 + n) f fd ["_law_one_here", "_law_other"] (spSame C n) := by
  have h5 : 5 + n = (4 + n) + 1 := by omega
  rw [h5]
  refine F.ok (k := 4 + n) scLsame (fun vs H Q E h => ?_) (fun cdv A outer s H vs Q E hr h => ?_)
  · obtain ⟨v, u, x, y, rfl, _⟩ := h
    rfl
  · obtain ⟨v, u, x, y, rfl, hx, hy, k⟩ := h
    refine ⟨_, (pss_cons (ps_if (pt_not (pt_val (pe_call DM.ok (hr.mono (by omega)) rfl DM.g DM.kp DM.b .nil pass0 (pa_cons (pv 0) (pa_cons (pv 1) pa_nil))))) (pss_one (ps_ret pe_bl)) pss_nil)
        (pss_one (ps_ret (pe_ifExp (pt_cmpR op_eq (pe_op op_add (pe_call DO.ok (hr.mono (by omega)) rfl DO.g DO.kp DO.b .nil pass0 (pa_cons (pv 0) pa_nil)) (pe_call DO.ok (hr.mono (by omega)) rfl DO.g DO.kp DO.b .nil pass0 (pa_cons (pv 1) pa_nil))) pe_int (nomark _)) pe_bl (pe_mk0 M0 rfl T.unk))))), ?_⟩
    have fin : ∀ z, sameL n x y = z → ∀ (v' : V) (H' : Hp), Same H H' → Lv C H' 0 z v' → Q v' H' := fun z e v' H' s h => k v' H' s (e ▸ h)
    refine ⟨_, rfl, _, rfl, v, u, x, y, rfl, hx, hy, fun H1 k1 => ⟨_, rfl, ?_⟩⟩
    by_cases em : mayL n x y = true
    · refine iteN (by rw [em]; rfl) ?_
      refine ⟨_, rfl, v, x, rfl, hx.keep (Kp.of k1), fun H2 k2 => ⟨_, rfl, u, y, rfl, hy.keep (Kp.of (Same.trans k1 k2)), fun H3 k3 => ?_⟩⟩
      have k13 := Same.trans k1 (Same.trans k2 k3)
      refine ⟨_, _, rfl, rfl, rfl, _, rfl, ?_⟩
      by_cases eo : openL n x + openL n y = 0
      · refine iteC (by simp [eo]) ?_
        exact fin (.bl true) (by rw [sameL, if_pos em, if_pos eo]) _ _ k13 rfl
      · refine iteN (by simp [eo]) fun q dx hq hdx ne => ?_
        have s4 : Same H3 (upd (upd H3 dx (.own q)) q (.ins C dx [])) := Same.upd (sm_upd hdx) ((upd_ne (Ne.symm ne)).trans hq)
        exact fin .unk (by rw [sameL, if_pos em, if_neg eo]) _ _ (Same.trans k13 s4) ⟨q, dx, rfl, upd_same⟩
    · refine iteC (by rw [(Bool.not_eq_true _).mp em]; rfl) ?_
      exact fin (.bl false) (by rw [sameL, if_neg em]) _ _ k1 rfl
end
end Vl

set_option Elab.async false
set_option linter.all false
set_option maxRecDepth 100000
set_option maxHeartbeats 4000000
namespace Vl
open PySem PySem.Spec PyProof.Rows L2 Pf
abbrev sRight : Stmt := top 34
/-- what the program's is_known and agrees are to answer -/
def spKnown (C : Addr) (n : Nat) : Sp := fun vs H Q _ => ∃ (v : V) (x : LV), vs = [v] ∧ Lw C H n x v ∧ ∀ H', Same H H' → Q (.bl (decide (openL n x = 0))) H'
def spAgrees (C : Addr) (n : Nat) : Sp := fun vs H Q _ => ∃ (v u : V) (x y : LV), vs = [v, u] ∧ Lw C H n x v ∧ Lw C H n y u ∧ openL n y = 0 ∧ ∀ H', Same H H' → Q (.bl (mayL n x y)) H'
/-- keys are unlike, at every depth below n -/
def Wf : Nat → LV → Prop
  | 0, _ => False
  | n + 1, .tup l => ∀ z, z ∈ l → Wf n z
  | n + 1, .map l => (l.map (·.1)).Nodup ∧ ∀ p, p ∈ l → Wf n p.2
  | _ + 1, _ => True
theorem paired_mem {R : LV → V → Prop} : ∀ {xs : List LV} {ys : List V}, Paired R xs ys → ∀ x, x ∈ xs → ∃ y, R x y
  | _, _, .cons h t, x, hx => by
    rcases List.mem_cons.mp hx with rfl | hx
    · exact ⟨_, h⟩
    · exact paired_mem t x hx
theorem Lv.wf {C : Addr} {H : Hp} : ∀ {n : Nat} {x : LV} {v : V}, Lv C H n x v → Wf (n + 1) x
  | n, .tup l, v, h => fun z hz => by
    obtain ⟨a, us, _, _, _, p⟩ := h.tupW
    obtain ⟨y, m, hm, hy⟩ := paired_mem p z hz
    cases n with
    | zero => exact absurd hm (Nat.not_lt_zero _)
    | succ n => exact (hy.le (Nat.le_of_lt_succ hm)).wf
  | n, .map l, v, h => by
    obtain ⟨a, us, _, _, _, nd, _, _, p⟩ := h.mapW
    refine ⟨nd, fun q hq => ?_⟩
    obtain ⟨y, m, hm, hy⟩ := paired_mem p q.2 (List.mem_map_of_mem (f := (·.2)) hq)
    cases n with
    | zero => exact absurd hm (Nat.not_lt_zero _)
    | succ n => exact (hy.le (Nat.le_of_lt_succ hm)).wf
  | _, .non, _, _ => True.intro
  | _, .bl _, _, _ => True.intro
  | _, .int _, _, _ => True.intro
  | _, .str _, _, _ => True.intro
  | _, .unk, _, _ => True.intro
theorem Lw.wf {C : Addr} {H : Hp} {n : Nat} {x : LV} {v : V} (h : Lw C H n x v) : Wf n x := by
  obtain ⟨m, hm, h⟩ := h
  cases n with
  | zero => exact absurd hm (Nat.not_lt_zero _)
  | succ n => exact (h.le (Nat.le_of_lt_succ hm)).wf
theorem alike_self (n : Nat) (x y : LV) : alikeL 1 (sameL n x y) (sameL n x y) = true := by
  unfold sameL
  split
  · split <;> simp [alikeL, sortN, pairsL, flatEq]
  · simp [alikeL, sortN, pairsL, flatEq]
theorem known_eq (i : Int) : (!decide (V.bl (decide (i = 0)) = V.bl (decide (V.int i = V.int 0)))) = false := by
  by_cases h : i = 0 <;> simp [h]
def spRight (C : Addr) (n : Nat) : Sp := fun vs H Q _ => ∃ (v u : V) (x y : LV), vs = [v, u] ∧ Lw C H n x v ∧ Lw C H n y u ∧ ∀ H', Same H H' → Q (.bl true) H'
theorem scRight : FnScope ["_law_one_here", "_law_other", "_law_told", "_law_due"] ["_law_one_here", "_law_other"] (defScope sRight) := ⟨rfl, rfl, rfl, by decide +kernel, rfl, by decide +kernel, by decide +kernel⟩
section
variable {P : Program} {w : World} {K : PySem.W.Frag} {mg : Str → Option Value} {base : Heap} {C : Addr}
theorem ok_lright {f fP fS fA fK fO fG fM : Addr} {fd fdP fdS fdA fdK fdO fdG fdM : FuncData} {pP pG pK : List Str} (n k : Nat) (hk : 5 + n ≤ k) (sym : ∀ x y, Wf n x → Wf n y → mayL n y x = mayL n x y) (F : Fun K "_law_pair_right" "_law_pair_right" sRight f fd)
    (DPs : Def P w K mg base k "same" fP fdP pP (spSame C n)) (DS : Def P w K mg base (5 + n) "_law_same" fS fdS ["_law_one_here", "_law_other"] (spSame C n)) (DA : Def P w K mg base 5 "_law_alike" fA fdA ["_law_one_here", "_law_other"] (spAlike C 1))
    (DK : Def P w K mg base k "is_known" fK fdK pK (spKnown C n)) (DO : Def P w K mg base (3 + n) "_law_open" fO fdO ["_law_value_here"] (spOpen C n)) (DG : Def P w K mg base k "agrees" fG fdG pG (spAgrees C n))
    (DM : Def P w K mg base (4 + n) "_law_may" fM fdM ["_law_one_here", "_law_other"] (spMay C n)) : FnOk P w K mg base CX0 (k + 1) f fd ["_law_one_here", "_law_other"] (spRight C n) := by
  refine F.ok scRight (fun vs H Q E h => ?_) (fun cdv A outer s H vs Q E hr h => ?_)
  · obtain ⟨v, u, x, y, rfl, _⟩ := h
    rfl
  · obtain ⟨v, u, x, y, rfl, hx, hy, kq⟩ := h
    refine ⟨_, (pss_cons (ps_par (i := 2) (j := 3) (by rfl) scRight.nd rfl rfl (by decide) rfl rfl (pa_cons (pe_call DPs.ok (hr.mono (by omega)) rfl DPs.g DPs.kp DPs.b .nil pass0 (pa_cons (pv 0) (pa_cons (pv 1) pa_nil))) (pa_cons (pe_call DS.ok (hr.mono (by omega)) rfl DS.g DS.kp DS.b .nil pass0 (pa_cons (pv 0) (pa_cons (pv 1) pa_nil))) pa_nil)) (by rfl))
        (pss_cons (ps_if (PW.pt (pw_or (pt_not (pt_val (pe_call DA.ok (hr.mono (by omega)) rfl DA.g DA.kp DA.b .nil pass0 (pa_cons (pv 2) (pa_cons (pv 3) pa_nil))))) (pw_or1 (pt_not (pt_val (pe_call DA.ok (hr.mono (by omega)) rfl DA.g DA.kp DA.b .nil pass0 (pa_cons (pe_call DPs.ok (hr.mono (by omega)) rfl DPs.g DPs.kp DPs.b .nil pass0 (pa_cons (pv 1) (pa_cons (pv 0) pa_nil))) (pa_cons (pv 3) pa_nil)))))))) (pss_one (ps_ret pe_bl)) pss_nil)
        (pss_cons (ps_if (PW.pt (pw_or (pt_cmpR op_ne (pe_call DK.ok (hr.mono (by omega)) rfl DK.g DK.kp DK.b .nil pass0 (pa_cons (pv 0) pa_nil)) (pe_cmpR op_eq (pe_call DO.ok (hr.mono (by omega)) rfl DO.g DO.kp DO.b .nil pass0 (pa_cons (pv 0) pa_nil)) pe_int (nomark _)) (nomark _)) (pw_or1 (pt_cmpR op_ne (pe_call DK.ok (hr.mono (by omega)) rfl DK.g DK.kp DK.b .nil pass0 (pa_cons (pv 1) pa_nil)) (pe_cmpR op_eq (pe_call DO.ok (hr.mono (by omega)) rfl DO.g DO.kp DO.b .nil pass0 (pa_cons (pv 1) pa_nil)) pe_int (nomark _)) (nomark _))))) (pss_one (ps_ret pe_bl)) pss_nil)
        (pss_one (ps_ret (pe_or (pe_not (pe_call DK.ok (hr.mono (by omega)) rfl DK.g DK.kp DK.b .nil pass0 (pa_cons (pv 1) pa_nil))) (pe_one (pe_cmpR op_eq (pe_call DG.ok (hr.mono (by omega)) rfl DG.g DG.kp DG.b .nil pass0 (pa_cons (pv 0) (pa_cons (pv 1) pa_nil))) (pe_call DM.ok (hr.mono (by omega)) rfl DM.g DM.kp DM.b .nil pass0 (pa_cons (pv 0) (pa_cons (pv 1) pa_nil))) (nomark _))))))))), ?_⟩
    have ss : sameL n y x = sameL n x y := by
      unfold sameL
      rw [sym x y hx.wf hy.wf, Int.add_comm (openL n y)]
    refine ⟨_, rfl, _, rfl, v, u, x, y, rfl, hx, hy, fun t1 H1 k1 l1 => ?_⟩
    refine ⟨_, rfl, _, rfl, v, u, x, y, rfl, hx.keep (Kp.of k1), hy.keep (Kp.of k1), fun t2 H2 k2 l2 => ⟨_, _, rfl, ?_⟩⟩
    have k12 := Same.trans k1 k2
    refine ⟨_, rfl, _, rfl, t1, t2, _, _, rfl, ⟨0, by omega, l1.keep (Kp.of k2)⟩, ⟨0, by omega, l2⟩, fun H3 k3 => ?_⟩
    rw [alike_self]
    refine ⟨_, rfl, ?_⟩
    refine iteN rfl ?_
    have k13 := Same.trans k12 k3
    refine ⟨_, rfl, _, rfl, u, v, y, x, rfl, hy.keep (Kp.of k13), hx.keep (Kp.of k13), fun t3 H4 k4 l4 => ?_⟩
    rw [ss] at l4
    have k14 := Same.trans k13 k4
    have k24 := Same.trans k3 k4
    refine ⟨_, rfl, t3, t2, _, _, rfl, ⟨0, by omega, l4⟩, ⟨0, by omega, l2.keep (Kp.of k24)⟩, fun H5 k5 => ?_⟩
    rw [alike_self]
    refine ⟨_, rfl, ?_⟩
    refine iteN rfl ?_
    have k15 := Same.trans k14 k5
    refine ⟨_, rfl, v, x, rfl, hx.keep (Kp.of k15), fun H6 k6 => ⟨_, rfl, v, x, rfl, hx.keep (Kp.of (Same.trans k15 k6)), fun H7 k7 => ⟨rfl, rfl, _, rfl, ?_⟩⟩⟩
    have k17 := Same.trans k15 (Same.trans k6 k7)
    refine iteN (known_eq _) ?_
    refine ⟨_, rfl, u, y, rfl, hy.keep (Kp.of k17), fun H8 k8 => ⟨_, rfl, u, y, rfl, hy.keep (Kp.of (Same.trans k17 k8)), fun H9 k9 => ⟨rfl, rfl, _, rfl, ?_⟩⟩⟩
    have k19 := Same.trans k17 (Same.trans k8 k9)
    refine iteN (known_eq _) ?_
    refine ⟨_, rfl, u, y, rfl, hy.keep (Kp.of k19), fun H10 k10 => ⟨_, rfl, ?_⟩⟩
    have k20 := Same.trans k19 k10
    refine ⟨_, rfl, ?_⟩
    by_cases eo : openL n y = 0
    · refine iteN (by simp [eo]) ?_
      refine ⟨_, rfl, _, rfl, v, u, x, y, rfl, hx.keep (Kp.of k20), hy.keep (Kp.of k20), eo, fun H11 k11 => ?_⟩
      have k21 := Same.trans k20 k11
      refine ⟨_, rfl, _, rfl, v, u, x, y, rfl, hx.keep (Kp.of k21), hy.keep (Kp.of k21), fun H12 k22 => ⟨rfl, ?_⟩⟩
      have := kq H12 (Same.trans k21 k22)
      rw [decide_eq_true rfl]
      exact this
    · refine iteC (by simp [eo]) ?_
      exact kq H10 k20
end
end Vl

set_option Elab.async false
set_option linter.all false
set_option maxRecDepth 100000
set_option maxHeartbeats 4000000
namespace Vl
open PySem PySem.Spec PyProof.Rows L2 Pf
def pAll (f : LV × LV → Bool) : Option (List (LV × LV)) → Bool
  | none => false
  | some ps => ps.all f
theorem may_eq (n : Nat) (x y : LV) : mayL (n + 1) x y = if (sortN x == 4 || sortN y == 4) = true then true else if sortL x = sortL y then pAll (fun p => mayL n p.1 p.2) (pairsL x y) else false := by
  rw [mayL]
  cases pairsL x y <;> rfl
theorem zip_symm {f : LV → LV → Bool} : ∀ {l m : List LV}, (∀ a, a ∈ l → ∀ b, b ∈ m → f b a = f a b) → (m.zip l).all (fun p => f p.1 p.2) = (l.zip m).all (fun p => f p.1 p.2)
  | [], [], _ => rfl
  | [], _ :: _, _ => rfl
  | _ :: _, [], _ => rfl
  | a :: l, b :: m, h => by
    rw [List.zip_cons_cons, List.zip_cons_cons, List.all_cons, List.all_cons, h a (by simp) b (by simp), zip_symm fun x hx y hy => h x (List.mem_cons_of_mem _ hx) y (List.mem_cons_of_mem _ hy)]
theorem mem_get {l : List (Str × LV)} {k : Str} (h : k ∈ l.map (·.1)) : ∃ p, p ∈ l ∧ p.1 = k := by
  obtain ⟨p, hp, e⟩ := List.mem_map.mp h
  exact ⟨p, hp, e⟩
theorem getL_mem {l : List (Str × LV)} {p : Str × LV} (nd : (l.map (·.1)).Nodup) (h : p ∈ l) : getL l p.1 = p.2 := by
  obtain ⟨i, hi⟩ := List.mem_iff_getElem?.mp h
  exact getL_at nd hi
theorem keys_all {f : LV → LV → Bool} {l m : List (Str × LV)} (nd : (l.map (·.1)).Nodup) : (l.map fun p => (p.2, getL m p.1)).all (fun p => f p.1 p.2) = true ↔ ∀ k, k ∈ l.map (·.1) → f (getL l k) (getL m k) = true := by
  rw [List.all_eq_true]
  constructor
  · intro h k hk
    obtain ⟨p, hp, rfl⟩ := mem_get hk
    have := h _ (List.mem_map_of_mem (f := fun p => (p.2, getL m p.1)) hp)
    rw [getL_mem nd hp]
    exact this
  · intro h q hq
    obtain ⟨p, hp, rfl⟩ := List.mem_map.mp hq
    have := h p.1 (List.mem_map_of_mem (f := (·.1)) hp)
    rw [getL_mem nd hp] at this
    exact this
theorem bool_iff {a b : Bool} (h : a = true ↔ b = true) : a = b := by
  cases a <;> cases b <;> simp at h ⊢
theorem flat_symm (x y : LV) : flatEq y x = flatEq x y := by
  cases x <;> cases y <;> first | rfl | (rename_i a b; exact bool_iff (by simp [flatEq]; exact eq_comm)) | simp [flatEq]
theorem tag_symm {l m : List LV} (hl : isTagL l = true) (hm : isTagL m = true) : tagEq m l = tagEq l m := by
  obtain ⟨s, k, rfl⟩ := tag_form hl
  obtain ⟨s', k', rfl⟩ := tag_form hm
  refine bool_iff ?_
  simp [tagEq]
  constructor <;> (rintro ⟨a, b⟩; exact ⟨a.symm, b.symm⟩)
theorem pairs_symm {f : LV → LV → Bool} {n : Nat} (ih : ∀ a b, Wf n a → Wf n b → f b a = f a b) {x y : LV} (hx : Wf (n + 1) x) (hy : Wf (n + 1) y) (es : sortL x = sortL y) : pAll (fun p => f p.1 p.2) (pairsL y x) = pAll (fun p => f p.1 p.2) (pairsL x y) := by
  have flat : (∀ l m, ¬ (x = .tup l ∧ y = .tup m)) → (∀ l m, ¬ (x = .map l ∧ y = .map m)) → pAll (fun p => f p.1 p.2) (pairsL y x) = pAll (fun p => f p.1 p.2) (pairsL x y) := fun h1 h2 => by
    have e1 : pairsL x y = if flatEq x y = true then some [] else none := by
      cases x <;> cases y <;> first | rfl | exact absurd ⟨rfl, rfl⟩ (h1 _ _) | exact absurd ⟨rfl, rfl⟩ (h2 _ _)
    have e2 : pairsL y x = if flatEq y x = true then some [] else none := by
      cases x <;> cases y <;> first | rfl | exact absurd ⟨rfl, rfl⟩ (h1 _ _) | exact absurd ⟨rfl, rfl⟩ (h2 _ _)
    rw [e1, e2, flat_symm]
  cases x with
  | tup l =>
    cases y with
    | tup m =>
      have et := sortL_inj es
      show pAll _ (if isTagL m = true then (if tagEq m l = true then some [] else none) else if m.length = l.length then some (m.zip l) else none) = pAll _ (if isTagL l = true then (if tagEq l m = true then some [] else none) else if l.length = m.length then some (l.zip m) else none)
      by_cases tl : isTagL l = true
      · have tm : isTagL m = true := tagN (et.symm.trans (show sortN (.tup l) = 6 from if_pos tl))
        rw [if_pos tl, if_pos tm, tag_symm tl tm]
      · have tm : ¬ isTagL m = true := by
          rw [tupN (et.symm.trans (show sortN (.tup l) = 7 from if_neg tl))]
          decide
        rw [if_neg tl, if_neg tm]
        by_cases e : l.length = m.length
        · rw [if_pos e, if_pos e.symm]
          exact zip_symm fun a ha b hb => ih a b (hx a ha) (hy b hb)
        · rw [if_neg e, if_neg fun q => e q.symm]
    | _ => exact flat (by simp) (by simp)
  | map l =>
    cases y with
    | map m =>
      have ek : keysL m l = keysL l m := bool_iff (by simp only [keysL, decide_eq_true_eq]; exact ⟨fun h => h.symm, fun h => h.symm⟩)
      show pAll _ (if keysL m l = true then some (m.map fun p => (p.2, getL l p.1)) else none) = pAll _ (if keysL l m = true then some (l.map fun p => (p.2, getL m p.1)) else none)
      rw [ek]
      by_cases e : keysL l m = true
      · rw [if_pos e, if_pos e]
        have pk : (l.map (·.1)).Perm (m.map (·.1)) := of_decide_eq_true e
        refine bool_iff ((keys_all hy.1).trans (Iff.trans ?_ (keys_all hx.1).symm))
        have w : ∀ k, k ∈ l.map (·.1) → f (getL m k) (getL l k) = f (getL l k) (getL m k) := fun k hk => by
          obtain ⟨p, hp, e1⟩ := mem_get hk
          obtain ⟨q, hq, e2⟩ := mem_get (pk.mem_iff.mp hk)
          have g1 : getL l k = p.2 := by rw [← e1]; exact getL_mem hx.1 hp
          have g2 : getL m k = q.2 := by rw [← e2]; exact getL_mem hy.1 hq
          rw [g1, g2]
          exact ih _ _ (hx.2 p hp) (hy.2 q hq)
        constructor
        · intro h k hk
          rw [← w k hk]
          exact h k (pk.mem_iff.mp hk)
        · intro h k hk
          have hk' := pk.mem_iff.mpr hk
          rw [w k hk']
          exact h k hk'
      · rw [if_neg e, if_neg e]
    | _ => exact flat (by simp) (by simp)
  | _ => exact flat (by simp) (by simp)
theorem may_symm : ∀ (n : Nat) (x y : LV), Wf n x → Wf n y → mayL n y x = mayL n x y
  | 0, _, _, _, _ => rfl
  | n + 1, x, y, hx, hy => by
    rw [may_eq, may_eq, Bool.or_comm]
    by_cases e4 : (sortN x == 4 || sortN y == 4) = true
    · rw [if_pos e4, if_pos e4]
    · rw [if_neg e4, if_neg e4]
      by_cases es : sortL x = sortL y
      · rw [if_pos es, if_pos es.symm]
        exact pairs_symm (may_symm n) hx hy es
      · rw [if_neg es, if_neg fun q => es q.symm]
end Vl

set_option Elab.async false
set_option linter.all false
set_option maxRecDepth 100000
set_option maxHeartbeats 4000000
namespace Vl
open PySem PySem.Spec PyProof.Rows L2 Pf
/-- what the own == of Unknown answers: whether the other one is one -/
def spEqU (C : Addr) : Sp := fun vs H Q _ => ∃ (a : Addr) (v : V) (x : LV), vs = [.ref a, v] ∧ Stands C H x v ∧ Q (.bl (isU x)) H
structure EqU (K : PySem.W.Frag) (C f : Addr) : Prop where
  at_ : PySem.W.findIn K (.ref C) "__eq__" = some (some (.ref f))
  fn : PySem.W.isFn K (.ref f) = true
  nf : ∀ T, T ∈ ["NoneType", "bool", "int", "str", "dict", "tuple"] → PySem.W.subIn K (.type T) (.ref C) = some false
def rEqU (C : Addr) : R2 := fun x y H Q => ∃ (a dx : Addr) (z : LV), x = .ref a ∧ H a = some (.ins C dx []) ∧ Stands C H z y ∧ Q (.bl (isU z)) H
theorem EqU.first {K : PySem.W.Frag} {C f : Addr} (E : EqU K C f) (z : LV) : PySem.W.notFirst K C (tyOf C z) = true := by
  cases z with
  | unk => simp [PySem.W.notFirst, tyOf]
  | _ => exact Bool.or_eq_true_iff.mpr (.inr (beq_iff_eq.mpr (E.nf _ (by simp [tyN]))))
section
variable {X : Cx} {C f : Addr} {fd : FuncData} {k : Nat} {ps : List Str}
theorem op_eqU (U : UnkC X.K C) (E : EqU X.K C f) (F : FnOk X.prog X.w X.K X.mg X.base CX0 k f fd ps (spEqU C)) (hb : Binds X.K fd ps []) (hr : Room k X.A) : OpR X (compareOp .Eq) (rEqU C) := by
  intro pins s σ H x y v u Q I rx ry h
  obtain ⟨a, dx, z, rfl, ha, hz, q⟩ := h
  cases rx
  obtain ⟨mA, J, _⟩ := ins_get I.hok ha
  obtain ⟨od, J, _⟩ := J.look
  obtain ⟨m, hF⟩ := I.fr
  obtain ⟨P, Z, p, _⟩ := kit_of I ry (hz.ty U)
  have hy := Z.ty (model X.prog X.w) s.heap I.kIn p
  show wpAny (model X.prog X.w) X.A (richCompare .Eq (.ref a) u) (EP X pins σ Q) X.xe s
  refine PySem.W.cmp_K (op := .Eq) (tb := tyOf C z) hr.units0 hF I.ok.mod.kin J hy (E.first z) E.at_ E.fn ?_
  refine wpAny_mono (run_fn (us := [.ref a, u]) (vs := [.ref a, y]) (E := E0) F hr hb .nil pass0 I (.cons rfl (.cons ry .nil)) (Q := fun v' H' => ∃ b, v' = .bl b ∧ Q (.bl b) H') ⟨a, y, z, rfl, hz, _, rfl, q⟩) (fun w s' g => ?_) fun _ _ e => e
  obtain ⟨v', H', I', rv, b, rfl, q'⟩ := g
  cases (show w = Value.bool b from rv)
  exact ⟨.bl b, H', I', rfl, q'⟩
end
end Vl

set_option Elab.async false
set_option linter.all false
set_option maxRecDepth 100000
set_option maxHeartbeats 4000000
namespace Vl
open PySem PySem.Spec PyProof.Rows L2 Pf
abbrev sLaw : Stmt := top 35
theorem call_reprI {X : Cx} : CallR X (.builtin "repr") (fun xs H Q => ∃ i : Int, xs = [.int i] ∧ i.natAbs.log2 < 1920 ∧ Q (.str (toString i)) H) := by
  intro pins s σ H xs us Q I r h
  obtain ⟨i, rfl, hi, q⟩ := h
  obtain ⟨u, rfl, r1⟩ := vals1 r
  obtain ⟨t, rfl⟩ := r1
  exact PySem.P.repr_of_int hi ⟨.str (toString i), H, I.tok _, ⟨_, rfl⟩, q⟩
theorem cut_mem {xs : List V} {lo hi : Option Int} {v : V} (h : v ∈ cutV xs lo hi) : v ∈ xs := by
  unfold cutV at h
  exact List.mem_of_mem_drop (List.mem_of_mem_take h)
theorem cell_of {ns : List Int} {lo hi : Option Int} {i : Nat} {x : V} (h : (cutV (ns.map V.int) lo hi ++ [V.int 0])[i]? = some x) : ∃ c : Int, x = .int c := by
  rcases List.mem_append.mp (List.mem_of_getElem? h) with m | m
  · obtain ⟨c, _, e⟩ := List.mem_map.mp (cut_mem m)
    exact ⟨c, e.symm⟩
  · exact ⟨0, List.mem_singleton.mp m⟩
theorem sm_upd2 {H : Hp} {p : Addr} {o o' : HO} (hp : H p = none) : Same H (upd (upd H p o) p o') := fun b u e => by
  have nb : b ≠ p := fun z => by
    rw [z, hp] at e
    cases e
  rw [upd_ne nb, upd_ne nb]
  exact e
theorem Lw.le {C : Addr} {H : Hp} {n m : Nat} (e : n ≤ m) {x : LV} {v : V} (h : Lw C H n x v) : Lw C H m x v := let ⟨k, a, b⟩ := h; ⟨k, Nat.lt_of_lt_of_le a e, b⟩
theorem tupOne {C : Addr} {H : Hp} {n : Nat} {q : Addr} {x : LV} {v : V} (h : H q = some (.tup [v])) (hx : Lw C H n x v) : Lw C H (n + 1) (.tup [x]) (.ref q) := by
  obtain ⟨m, hm, hx⟩ := hx
  exact ⟨m + 1, by omega, q, _, rfl, h, by show 1 ≤ 3; decide, .cons hx .nil⟩
theorem mapOne {C : Addr} {H : Hp} {n : Nat} {q : Addr} {x : LV} {v : V} (h : H q = some (.dK [(Sum.inr "a", v)])) (hx : Lw C H n x v) : Lw C H (n + 1) (.map [("a", x)]) (.ref q) := by
  obtain ⟨m, hm, hx⟩ := hx
  exact ⟨m + 1, by omega, q, _, rfl, h, by show 1 ≤ 3; decide, by simp, fun p hp => by
    simp at hp
    subst hp
    exact ⟨by show ("a" : Str).length ≤ 200; decide +kernel, by show PyData.strOk ("a" : Str) = true; decide +kernel⟩, rfl, .cons hx .nil⟩
theorem sort_unk {x : LV} (h : isU x = true) : sortL x = "unknown" := by
  cases x <;> first | rfl | exact absurd h Bool.false_ne_true
theorem sum_le : ∀ (l : List LV) (f : LV → Int) (B : Int), (∀ z, z ∈ l → 0 ≤ f z ∧ f z ≤ B) → 0 ≤ (l.map f).sum ∧ (l.map f).sum ≤ l.length * B
  | [], _, _, _ => by simp
  | z :: l, f, B, h => by
    have a := h z (by simp)
    have b := sum_le l f B fun q hq => h q (List.mem_cons_of_mem _ hq)
    simp only [List.map_cons, List.sum_cons, List.length_cons]
    have e : ((l.length + 1 : Nat) : Int) * B = l.length * B + B := by
      rw [Int.natCast_add, Int.add_mul]
      simp
    rw [e]
    omega
theorem open_bound {C : Addr} {H : Hp} : ∀ {n : Nat} {x : LV} {v : V}, Lw C H n x v → 0 ≤ openL n x ∧ openL n x ≤ 4 ^ n
  | 0, _, _, ⟨_, h, _⟩ => absurd h (Nat.not_lt_zero _)
  | n + 1, x, v, ⟨m, hm, h⟩ => by
    have h := h.le (Nat.le_of_lt_succ hm)
    have p1 : (0 : Int) < 4 ^ n := Int.pow_pos (by decide)
    have p2 : (4 : Int) ^ (n + 1) = 4 ^ n * 4 := Int.pow_succ ..
    have part : (∀ z, z ∈ partsL x → ∃ u, Lw C H n z u) ∧ (partsL x).length ≤ 3 := by
      cases x with
      | tup l =>
        obtain ⟨a, us, _, _, hl, p⟩ := h.tupW
        show (∀ z, z ∈ (if isTagL l = true then [] else l) → _) ∧ (if isTagL l = true then [] else l).length ≤ 3
        split
        · exact ⟨fun z hz => by simp at hz, by simp⟩
        · exact ⟨fun z hz => paired_mem p z hz, hl⟩
      | map l =>
        obtain ⟨a, us, _, _, hl, _, _, _, p⟩ := h.mapW
        exact ⟨fun z hz => paired_mem p z hz, by show (l.map (·.2)).length ≤ 3; rw [List.length_map]; exact hl⟩
      | _ => exact ⟨fun z hz => by simp [partsL] at hz, by simp [partsL]⟩
    have s := sum_le (partsL x) (openL n) (4 ^ n) fun z hz => by
      obtain ⟨u, hu⟩ := part.1 z hz
      exact open_bound hu
    have q : ((partsL x).length : Int) * 4 ^ n ≤ 3 * 4 ^ n := Int.mul_le_mul_of_nonneg_right (by have := part.2; omega) (by omega)
    rw [openL]
    split
    · omega
    · omega
theorem open_log {C : Addr} {H : Hp} {x : LV} {v : V} (h : Lw C H 9 x v) : (openL 9 x).natAbs.log2 < 1920 := by
  have b := open_bound h
  have b2 : openL 9 x ≤ 262144 := b.2
  have c : (openL 9 x).natAbs < 2 ^ 19 := by
    show _ < 524288
    omega
  by_cases e : (openL 9 x).natAbs = 0
  · rw [e]
    decide
  · exact Nat.lt_of_lt_of_le ((Nat.log2_lt e).mpr c) (by decide)
def spLaw (K : PySem.W.Frag) : Sp := fun vs H Q _ => ∃ (a : Addr) (ns : List Int), vs = [.ref a] ∧ SqL K H a (ns.map V.int) ∧ ns.length ≤ 63 ∧ ∀ H', Q (.bl true) H'
abbrev NLaw : List Str := ["_law_script", "_law_cell", "_law_well_here", "_law_one_here", "_law_other", "_law_turn", "_law_is_map", "_law_kept", "_law_its"]
theorem scLaw : FnScope NLaw ["_law_script"] (defScope sLaw) := ⟨rfl, rfl, rfl, by decide +kernel, rfl, by decide +kernel, by decide +kernel⟩
structure TxtW (mg : Str → Option Value) : Prop where
  repr : mg "repr" = none
  range : mg "range" = none
section
variable {P : Program} {w : World} {K : PySem.W.Frag} {mg : Str → Option Value} {base : Heap} {C : Addr}
theorem ok_law {f fW fD fV fT fO fR fS fE : Addr} {fd fdW fdD fdV fdT fdO fdR fdS fdE : FuncData} {pE : List Str} (k0 kr : Nat) (hkr : kr ≤ k0) (h20 : 12 ≤ k0) (F : Fun K "law" "law" sLaw f fd) (Tv : TxtV mg C) (Tw : TxtW mg) (M0 : Mk0 K C) (U : UnkC K C) (EU : EqU K C fE)
    (GE : FnOk P w K mg base CX0 1 fE fdE pE (spEqU C)) (bE : Binds K fdE pE [])
    (DW : Def P w K mg base 1 "_law_well" fW fdW ["_law_cell"] spWell) (DD : Def P w K mg base 1 "_law_draw" fD fdD ["_law_well_here", "_law_below"] spDraw) (DV : Def P w K mg base 7 "_law_value" fV fdV ["_law_well_here", "_law_deep", "_law_dim"] (spValue C 3))
    (DT : Def P w K mg base 11 "_law_turned" fT fdT ["_law_well_here", "_law_value_here", "_law_dim"] (spTurned C 5)) (DO : Def P w K mg base 12 "_law_open" fO fdO ["_law_value_here"] (spOpen C 9)) (DR : Def P w K mg base kr "_law_pair_right" fR fdR ["_law_one_here", "_law_other"] (spRight C 9))
    (DS : Def P w K mg base 2 "_law_sort" fS fdS ["_law_value_here"] (spSort C)) : FnOk P w K mg base CX0 (k0 + 1) f fd ["_law_script"] (spLaw K) := by
  refine F.ok scLaw (fun vs H Q E h => ?_) (fun cdv A outer s H vs Q E hr h => ?_)
  · obtain ⟨a, ns, rfl, _⟩ := h
    rfl
  · obtain ⟨a, ns, rfl, hl, h63, k⟩ := h
    refine ⟨_, (pss_cons (ps_for PassesOwn.never rfl (pi_list (pe_op op_cat (pe_slice sl_list (pv 0) po_none (po_some pe_int)) (pe_lst (pa_cons pe_int pa_nil)))) (pg_name (i := 1) scLaw.nd rfl (Or.inl rfl)) (pss_cons (ps_set (i := 2) scLaw.nd rfl (Or.inl rfl) (pe_call DW.ok (hr.mono (by omega)) rfl DW.g DW.kp DW.b .nil pass0 (pa_cons (pv 1) pa_nil)))
        (pss_cons (ps_set (i := 3) scLaw.nd rfl (Or.inl rfl) (pe_call DV.ok (hr.mono (by omega)) rfl DV.g DV.kp DV.b .nil pass0 (pa_cons (pv 2) (pa_cons pe_int (pa_cons (pe_call DD.ok (hr.mono (by omega)) rfl DD.g DD.kp DD.b .nil pass0 (pa_cons (pv 2) (pa_cons pe_int pa_nil))) pa_nil)))))
        (pss_cons (ps_set (i := 4) scLaw.nd rfl (Or.inl rfl) (pe_ifExp (pt_cmpR op_gt (pe_call DD.ok (hr.mono (by omega)) rfl DD.g DD.kp DD.b .nil pass0 (pa_cons (pv 2) (pa_cons pe_int pa_nil))) pe_int (nomark _)) (pe_call DT.ok (hr.mono (by omega)) rfl DT.g DT.kp DT.b .nil pass0 (pa_cons (pv 2) (pa_cons (pv 3) (pa_cons (pe_call DD.ok (hr.mono (by omega)) rfl DD.g DD.kp DD.b .nil pass0 (pa_cons (pv 2) (pa_cons pe_int pa_nil))) pa_nil)))) (pe_call DV.ok (hr.mono (by omega)) rfl DV.g DV.kp DV.b .nil pass0 (pa_cons (pv 2) (pa_cons pe_int (pa_cons pe_int pa_nil))))))
        (pss_cons (ps_for PassesOwn.never rfl (pi_range1 rfl Tw.range (pa_cons (pe_call DD.ok (hr.mono (by omega)) rfl DD.g DD.kp DD.b .nil pass0 (pa_cons (pv 2) (pa_cons pe_int pa_nil))) pa_nil)) (pg_name (i := 5) scLaw.nd rfl (Or.inl rfl)) (pss_cons (ps_set (i := 6) scLaw.nd rfl (Or.inl rfl) (pe_cmpR op_eq (pe_call DD.ok (hr.mono (by omega)) rfl DD.g DD.kp DD.b .nil pass0 (pa_cons (pv 2) (pa_cons pe_int pa_nil))) pe_int (nomark _)))
        (pss_one (ps_asg (pe_ifExp (pt_val (pv 6)) (pe_tup (pa_cons (pe_disp (pps_cons pe_str (pv 3) pps_nil) (by rfl) (by rfl) (fun z => by cases z) (by decide)) (pa_cons (pe_disp (pps_cons pe_str (pv 4) pps_nil) (by rfl) (by rfl) (fun z => by cases z) (by decide)) pa_nil))) (pe_tup (pa_cons (pe_tup (pa_cons (pv 3) pa_nil)) (pa_cons (pe_tup (pa_cons (pv 4) pa_nil)) pa_nil)))) (pg_tup rfl (pgs_cons (pg_name (i := 3) scLaw.nd rfl (Or.inl rfl)) (pgs_cons (pg_name (i := 4) scLaw.nd rfl (Or.inl rfl)) pgs_nil)))))))
        (pss_cons (ps_par (i := 7) (j := 8) (by rfl) scLaw.nd rfl rfl (by decide) rfl rfl (pa_cons (pe_callB call_reprI (by rfl) Tw.repr (by decide +kernel) (pa_cons (pe_call DO.ok (hr.mono (by omega)) rfl DO.g DO.kp DO.b .nil pass0 (pa_cons (pv 3) pa_nil)) pa_nil)) (pa_cons (pe_call DO.ok (hr.mono (by omega)) rfl DO.g DO.kp DO.b .nil pass0 (pa_cons (pv 4) pa_nil)) pa_nil)) (by rfl))
        (pss_cons (ps_if (PW.pt (pw_or (pt_not (pt_val (pe_call DR.ok (hr.mono (by omega)) rfl DR.g DR.kp DR.b .nil pass0 (pa_cons (pv 3) (pa_cons (pv 4) pa_nil))))) (pw_or1 (pt_not (pt_val (pe_call DR.ok (hr.mono (by omega)) rfl DR.g DR.kp DR.b .nil pass0 (pa_cons (pv 3) (pa_cons (pv 3) pa_nil)))))))) (pss_one (ps_ret pe_bl)) pss_nil)
        (pss_cons (ps_if (PW.pt (pw_or (pt_cmpR op_ne (pv 7) (pe_callB call_reprI (by rfl) Tw.repr (by decide +kernel) (pa_cons (pe_call DO.ok (hr.mono (by omega)) rfl DO.g DO.kp DO.b .nil pass0 (pa_cons (pv 3) pa_nil)) pa_nil)) (nomark _)) (pw_or1 (pt_cmpR op_ne (pv 8) (pe_call DO.ok (hr.mono (by omega)) rfl DO.g DO.kp DO.b .nil pass0 (pa_cons (pv 4) pa_nil)) (nomark _))))) (pss_one (ps_ret pe_bl)) pss_nil)
        (pss_one (ps_if (PW.pt (pw_or (pt_not (pt_cmpR (op_eqU U EU GE bE (hr.mono (by omega))) (pe_mk0 M0 rfl Tv.unk) (pe_mk0 M0 rfl Tv.unk) (nomark _))) (pw_or1 (PW.pt (pw_and (pt_cmpR (op_eqU U EU GE bE (hr.mono (by omega))) (pe_mk0 M0 rfl Tv.unk) (pv 3) (nomark _)) (pw_and1 (pt_cmpR op_ne (pe_call DS.ok (hr.mono (by omega)) rfl DS.g DS.kp DS.b .nil pass0 (pa_cons (pv 3) pa_nil)) pe_str (nomark _)))))))) (pss_one (ps_ret pe_bl)) pss_nil))))))))))
        (pss_one (ps_ret pe_bl))), ?_⟩
    have hlen : (cutV (ns.map V.int) none (some 12)).length ≤ 63 := by
      have z := cutV_length (ns.map V.int) none (some 12)
      rw [List.length_map] at z
      omega
    refine ⟨_, rfl, _, rfl, a, _, rfl, hl, fun p1 hp1 => ?_⟩
    have k1 : Same H (upd H p1 (.lst (cutV (ns.map V.int) none (some 12)))) := sm_upd hp1
    refine ⟨by show 1 ≤ sizeLine; decide, fun p2 hp2 => ?_⟩
    have k2 : Same H (upd (upd H p1 (.lst (cutV (ns.map V.int) none (some 12)))) p2 (.lst [V.int 0])) := Same.upd k1 hp2
    refine ⟨p1, p2, _, _, rfl, rfl, (upd_ne (ne_of_none upd_same hp2)).trans upd_same, upd_same, ?_, fun p3 hp3 => ?_⟩
    · have z2 : (cutV (ns.map V.int) none (some 12)).length + 1 ≤ 64 := by omega
      exact Nat.le_trans z2 (by decide)
    have g3 : (upd (upd (upd H p1 (.lst (cutV (ns.map V.int) none (some 12)))) p2 (.lst [V.int 0])) p3 (.lst (cutV (ns.map V.int) none (some 12) ++ [V.int 0]))) p3 = some (.lst (cutV (ns.map V.int) none (some 12) ++ [V.int 0])) := upd_same
    generalize (upd (upd (upd H p1 (.lst (cutV (ns.map V.int) none (some 12)))) p2 (.lst [V.int 0])) p3 (.lst (cutV (ns.map V.int) none (some 12) ++ [V.int 0]))) = H1 at g3 ⊢
    refine ⟨p3, rfl, ⟨_, SqL.of g3⟩, for_list (K := K) (a := p3) (xs := cutV (ns.map V.int) none (some 12) ++ [V.int 0]) (fun i σ H' => (∃ v1 v2 v3 v4 v5 v6 v7 v8 : Option V, σ = [some (.ref a), v1, v2, v3, v4, v5, v6, v7, v8]) ∧ Same H1 H')
      ⟨⟨_, _, _, _, _, _, _, _, rfl⟩, Same.refl _⟩ (fun i σ H' _ hv => SqL.of (hv.2 _ _ g3)) ?_ ?_⟩
    rotate_left
    · rintro σ H' ⟨⟨v1, v2, v3, v4, v5, v6, v7, v8, rfl⟩, _⟩
      exact k _
    rintro i x σ H2 hx ⟨⟨v1, v2, v3, v4, v5, v6, v7, v8, rfl⟩, kT⟩
    obtain ⟨c, rfl⟩ := cell_of hx
    refine ⟨_, rfl, c, rfl, fun pw o hpw w0 => ?_⟩
    have s3 : Same H2 (upd H2 pw o) := sm_upd hpw
    have but3 : ∀ H', But pw (upd H2 pw o) H' → Same H2 H' := fun H' b p u e => b p u (s3 _ _ e) fun z => by
      rw [z, hpw] at e
      cases e
    generalize upd H2 pw o = H3 at w0 s3 but3 ⊢
    refine ⟨_, rfl, _, rfl, pw, 3, 0, rfl, w0, by decide, by decide, by decide, by decide, fun d1 z1 H4 d10 d11 z10 z11 w1 b1 => ?_⟩
    refine ⟨pw, z1, d1, rfl, w1, z10, by show z1 + (120 : Nat) < 1000000; omega, fun v x z2 H5 hv z20 z21 w2 b2 => ?_⟩
    have z21 : z2 ≤ z1 + (120 : Nat) := z21
    refine ⟨_, rfl, pw, 4, z2, rfl, w2, by decide, by decide, by omega, by omega, fun d2 z3 H6 d20 d21 z30 z31 w3 b3 => ⟨_, _, rfl, rfl, _, rfl, ?_⟩⟩
    have b36 : But pw H3 H6 := butTrans b1 (butTrans b2 b3)
    have hv6 := hv.keep (wellKp w2 b3)
    refine ite2 (fun _ => ⟨_, rfl, _, rfl, _, rfl, pw, 4, z3, rfl, w3, by decide, by decide, by omega, by omega, fun d3 z4 H7 d30 d31 z40 z41 w4 b4 => ⟨pw, v, x, z4, d3, rfl, ⟨4, by decide, hv6.keep (wellKp w3 b4)⟩, w4, by omega, by show z4 + (1936 : Nat) < 1000000; omega, fun u y z5 H8 hu z50 z51 w8 b8 => ?_⟩⟩) fun _ => ⟨_, rfl, pw, z3, 1, rfl, w3, by omega, by show z3 + (120 : Nat) < 1000000; omega, fun u y z5 H8 hu z50 z51 w8 b8 => ?_⟩
    · have z51 : z5 ≤ z4 + (1936 : Nat) := z51
      have hx7 : Lw C H8 7 x v := ⟨4, by decide, (hv6.keep (wellKp w3 b4)).keep (wellKp w4 b8)⟩
      have hy7 : Lw C H8 7 y u := hu
      have bb : But pw H3 H8 := butTrans b36 (butTrans b4 b8)
      have zz : 0 ≤ z5 ∧ z5 ≤ 3000 := by omega
      clear hu b8 z50 z51 b4 w4 z40 z41
      refine ⟨_, rfl, pw, 3, z5, rfl, w8, by decide, by decide, by omega, by omega, fun d4 z6 H9 d40 d41 z60 z61 w9 b9 => ?_⟩
      have kp9 := wellKp w8 b9
      refine ⟨d4, rfl, by omega, by omega, for_range (lo := 0) (n := d4.toNat) (fun j σ H' => (∃ w5 w6 v' u', σ = [some (.ref a), some (.int c), some (.ref pw), some v', some u', w5, w6, v7, v8] ∧ ∃ x' y', Lw C H' (7 + j) x' v' ∧ Lw C H' (7 + j) y' u') ∧ (∃ z' : Int, WellAt H' pw z' ∧ 0 ≤ z' ∧ z' ≤ 3001 + j) ∧ But pw H3 H')
        ⟨⟨_, _, v, u, rfl, x, y, hx7.keep kp9, hy7.keep kp9⟩, ⟨z6, w9, by omega, by omega⟩, butTrans bb b9⟩ (fun j σ H' hj hp => ?_) (fun σ H' hp => ?_)⟩
      · obtain ⟨⟨w5, w6, v', u', rfl, x', y', hx', hy'⟩, ⟨z', wz, z0, z1'⟩, bq⟩ := hp
        refine ⟨_, rfl, pw, 2, z', rfl, wz, by decide, by decide, by omega, by omega, fun d5 z7 H10 d50 d51 z70 z71 w10 b10 => ⟨rfl, ?_⟩⟩
        have kpa := wellKp wz b10
        have hx2 := hx'.keep kpa
        have hy2 := hy'.keep kpa
        have b310 : But pw H3 H10 := butTrans bq b10
        refine ⟨_, rfl, _, rfl, ite2 (fun _ => ?_) fun _ => ?_⟩
        · refine fun q1 hq1 => ⟨_, rfl, upd_same, [(Sum.inr "a", v')], rfl, by show 1 ≤ 15; decide, fun q2 hq2 => ⟨_, rfl, upd_same, [(Sum.inr "a", u')], rfl, by show 1 ≤ 15; decide, by show 2 ≤ sizeLine; decide, fun t ht => ?_⟩⟩
          have e1 : Same H10 (upd (upd H10 q1 (.dK [])) q1 (.dK (mergeK [] [(Sum.inr "a", v')]))) := sm_upd2 hq1
          have f1 : (upd (upd H10 q1 (.dK [])) q1 (.dK (mergeK [] [(Sum.inr "a", v')]))) q1 = some (.dK [(Sum.inr "a", v')]) := upd_same
          generalize (upd (upd H10 q1 (.dK [])) q1 (.dK (mergeK [] [(Sum.inr "a", v')]))) = Ha at e1 f1 hq2 ht ⊢
          have e2 : Same Ha (upd (upd Ha q2 (.dK [])) q2 (.dK (mergeK [] [(Sum.inr "a", u')]))) := sm_upd2 hq2
          have f2 : (upd (upd Ha q2 (.dK [])) q2 (.dK (mergeK [] [(Sum.inr "a", u')]))) q2 = some (.dK [(Sum.inr "a", u')]) := upd_same
          generalize (upd (upd Ha q2 (.dK [])) q2 (.dK (mergeK [] [(Sum.inr "a", u')]))) = Hb at e2 f2 ht ⊢
          have e3 := sm_upd (o := .tup [V.ref q1, V.ref q2]) ht
          have e13 := Same.trans e1 (Same.trans e2 e3)
          refine ⟨t, _, rfl, SqT.of upd_same, rfl, _, _, rfl, _, _, rfl, rfl, ?_⟩
          exact ⟨⟨_, _, _, _, rfl, .map [("a", x')], .map [("a", y')], (mapOne (Same.trans e2 e3 _ _ f1) (hx2.keep (Kp.of e13))), (mapOne (e3 _ _ f2) (hy2.keep (Kp.of e13)))⟩, ⟨z7, wellSame w10 e13, by omega, by omega⟩, butTrans b310 (butSame e13)⟩
        · refine ⟨_, rfl, by show 1 ≤ sizeLine; decide, fun q1 hq1 => ⟨_, rfl, by show 1 ≤ sizeLine; decide, fun q2 hq2 => ⟨by show 2 ≤ sizeLine; decide, fun t ht => ?_⟩⟩⟩
          have e1 := sm_upd (o := .tup [v']) hq1
          have e2 := sm_upd (o := .tup [u']) hq2
          have e3 := sm_upd (o := .tup [V.ref q1, V.ref q2]) ht
          have e13 := Same.trans e1 (Same.trans e2 e3)
          have f1 := Same.trans e2 e3 q1 _ upd_same
          have f2 := e3 q2 _ upd_same
          refine ⟨t, _, rfl, SqT.of upd_same, rfl, _, _, rfl, _, _, rfl, rfl, ?_⟩
          exact ⟨⟨_, _, _, _, rfl, .tup [x'], .tup [y'], (tupOne f1 (hx2.keep (Kp.of e13))), (tupOne f2 (hy2.keep (Kp.of e13)))⟩, ⟨z7, wellSame w10 e13, by omega, by omega⟩, butTrans b310 (butSame e13)⟩
      · obtain ⟨⟨w5, w6, v', u', rfl, x', y', hx', hy'⟩, _, bq⟩ := hp
        have hx9 : Lw C H' 9 x' v' := hx'.le (by omega)
        have hy9 : Lw C H' 9 y' u' := hy'.le (by omega)
        have lg := open_log hx9
        refine ⟨_, rfl, v', x', rfl, hx9, fun H11 k11 => ⟨_, rfl, lg, _, rfl, u', y', rfl, hy9.keep (Kp.of k11), fun H12 k12 => ⟨_, _, rfl, ?_⟩⟩⟩
        have j12 := Same.trans k11 k12
        refine ⟨_, rfl, _, rfl, v', u', x', y', rfl, hx9.keep (Kp.of j12), hy9.keep (Kp.of j12), fun H13 k13 => ⟨_, rfl, iteN rfl ?_⟩⟩
        have j13 := Same.trans j12 k13
        refine ⟨_, rfl, _, rfl, v', v', x', x', rfl, hx9.keep (Kp.of j13), hx9.keep (Kp.of j13), fun H14 k14 => ⟨_, rfl, iteN rfl ?_⟩⟩
        have j14 := Same.trans j13 k14
        refine ⟨_, rfl, _, rfl, v', x', rfl, hx9.keep (Kp.of j14), fun H15 k15 => ⟨_, rfl, lg, rfl, _, rfl, iteN (by simp) ?_⟩⟩
        have j15 := Same.trans j14 k15
        refine ⟨_, rfl, _, rfl, u', y', rfl, hy9.keep (Kp.of j15), fun H16 k16 => ⟨rfl, _, rfl, iteN (by simp) ?_⟩⟩
        have j16 := Same.trans j15 k16
        refine fun q1 x1 hq1 hx1 ne1 => ?_
        have e1 : Same H16 (upd (upd H16 x1 (.own q1)) q1 (.ins C x1 [])) := Same.upd (sm_upd hx1) ((upd_ne (Ne.symm ne1)).trans hq1)
        have f1 : (upd (upd H16 x1 (.own q1)) q1 (.ins C x1 [])) q1 = some (.ins C x1 []) := upd_same
        generalize (upd (upd H16 x1 (.own q1)) q1 (.ins C x1 [])) = H17 at e1 f1 ⊢
        refine fun q2 x2 hq2 hx2 ne2 => ?_
        have e2 : Same H17 (upd (upd H17 x2 (.own q2)) q2 (.ins C x2 [])) := Same.upd (sm_upd hx2) ((upd_ne (Ne.symm ne2)).trans hq2)
        have f2 : (upd (upd H17 x2 (.own q2)) q2 (.ins C x2 [])) q2 = some (.ins C x2 []) := upd_same
        generalize (upd (upd H17 x2 (.own q2)) q2 (.ins C x2 [])) = H18 at e2 f2 ⊢
        refine ⟨q1, x1, .unk, rfl, e2 _ _ f1, ⟨fun _ _ => False, q2, x2, rfl, f2⟩, _, rfl, iteN rfl ?_⟩
        refine fun q3 x3 hq3 hx3 ne3 => ?_
        have e3 : Same H18 (upd (upd H18 x3 (.own q3)) q3 (.ins C x3 [])) := Same.upd (sm_upd hx3) ((upd_ne (Ne.symm ne3)).trans hq3)
        have f3 : (upd (upd H18 x3 (.own q3)) q3 (.ins C x3 [])) q3 = some (.ins C x3 []) := upd_same
        generalize (upd (upd H18 x3 (.own q3)) q3 (.ins C x3 [])) = H19 at e3 f3 ⊢
        have j19 := Same.trans j16 (Same.trans e1 (Same.trans e2 e3))
        obtain ⟨m9, lm9, hl9⟩ := hx9.keep (Kp.of j19)
        refine ⟨_, rfl, q3, x3, x', rfl, f3, hl9.stands, _, rfl, ?_⟩
        by_cases eU : isU x' = true
        · refine iteC eU ?_
          refine ⟨_, rfl, m9, v', x', rfl, hl9, fun H20 k20 => ⟨rfl, _, rfl, iteN (by rw [sort_unk eU]; simp) ?_⟩⟩
          exact ⟨⟨_, _, _, _, _, _, _, _, rfl⟩, Same.trans kT (Same.trans (but3 _ bq) (Same.trans j19 k20))⟩
        · refine iteN ((Bool.not_eq_true _).mp eU) ?_
          exact ⟨⟨_, _, _, _, _, _, _, _, rfl⟩, Same.trans kT (Same.trans (but3 _ bq) j19)⟩
    · have z51 : z5 ≤ z3 + (120 : Nat) := z51
      have hx7 : Lw C H8 7 x v := ⟨4, by decide, hv6.keep (wellKp w3 b8)⟩
      have hy7 : Lw C H8 7 y u := ⟨4, by decide, hu⟩
      have bb : But pw H3 H8 := butTrans b36 b8
      have zz : 0 ≤ z5 ∧ z5 ≤ 3000 := by omega
      clear hu b8 z50 z51
      refine ⟨_, rfl, pw, 3, z5, rfl, w8, by decide, by decide, by omega, by omega, fun d4 z6 H9 d40 d41 z60 z61 w9 b9 => ?_⟩
      have kp9 := wellKp w8 b9
      refine ⟨d4, rfl, by omega, by omega, for_range (lo := 0) (n := d4.toNat) (fun j σ H' => (∃ w5 w6 v' u', σ = [some (.ref a), some (.int c), some (.ref pw), some v', some u', w5, w6, v7, v8] ∧ ∃ x' y', Lw C H' (7 + j) x' v' ∧ Lw C H' (7 + j) y' u') ∧ (∃ z' : Int, WellAt H' pw z' ∧ 0 ≤ z' ∧ z' ≤ 3001 + j) ∧ But pw H3 H')
        ⟨⟨_, _, v, u, rfl, x, y, hx7.keep kp9, hy7.keep kp9⟩, ⟨z6, w9, by omega, by omega⟩, butTrans bb b9⟩ (fun j σ H' hj hp => ?_) (fun σ H' hp => ?_)⟩
      · obtain ⟨⟨w5, w6, v', u', rfl, x', y', hx', hy'⟩, ⟨z', wz, z0, z1'⟩, bq⟩ := hp
        refine ⟨_, rfl, pw, 2, z', rfl, wz, by decide, by decide, by omega, by omega, fun d5 z7 H10 d50 d51 z70 z71 w10 b10 => ⟨rfl, ?_⟩⟩
        have kpa := wellKp wz b10
        have hx2 := hx'.keep kpa
        have hy2 := hy'.keep kpa
        have b310 : But pw H3 H10 := butTrans bq b10
        refine ⟨_, rfl, _, rfl, ite2 (fun _ => ?_) fun _ => ?_⟩
        · refine fun q1 hq1 => ⟨_, rfl, upd_same, [(Sum.inr "a", v')], rfl, by show 1 ≤ 15; decide, fun q2 hq2 => ⟨_, rfl, upd_same, [(Sum.inr "a", u')], rfl, by show 1 ≤ 15; decide, by show 2 ≤ sizeLine; decide, fun t ht => ?_⟩⟩
          have e1 : Same H10 (upd (upd H10 q1 (.dK [])) q1 (.dK (mergeK [] [(Sum.inr "a", v')]))) := sm_upd2 hq1
          have f1 : (upd (upd H10 q1 (.dK [])) q1 (.dK (mergeK [] [(Sum.inr "a", v')]))) q1 = some (.dK [(Sum.inr "a", v')]) := upd_same
          generalize (upd (upd H10 q1 (.dK [])) q1 (.dK (mergeK [] [(Sum.inr "a", v')]))) = Ha at e1 f1 hq2 ht ⊢
          have e2 : Same Ha (upd (upd Ha q2 (.dK [])) q2 (.dK (mergeK [] [(Sum.inr "a", u')]))) := sm_upd2 hq2
          have f2 : (upd (upd Ha q2 (.dK [])) q2 (.dK (mergeK [] [(Sum.inr "a", u')]))) q2 = some (.dK [(Sum.inr "a", u')]) := upd_same
          generalize (upd (upd Ha q2 (.dK [])) q2 (.dK (mergeK [] [(Sum.inr "a", u')]))) = Hb at e2 f2 ht ⊢
          have e3 := sm_upd (o := .tup [V.ref q1, V.ref q2]) ht
          have e13 := Same.trans e1 (Same.trans e2 e3)
          refine ⟨t, _, rfl, SqT.of upd_same, rfl, _, _, rfl, _, _, rfl, rfl, ?_⟩
          exact ⟨⟨_, _, _, _, rfl, .map [("a", x')], .map [("a", y')], (mapOne (Same.trans e2 e3 _ _ f1) (hx2.keep (Kp.of e13))), (mapOne (e3 _ _ f2) (hy2.keep (Kp.of e13)))⟩, ⟨z7, wellSame w10 e13, by omega, by omega⟩, butTrans b310 (butSame e13)⟩
        · refine ⟨_, rfl, by show 1 ≤ sizeLine; decide, fun q1 hq1 => ⟨_, rfl, by show 1 ≤ sizeLine; decide, fun q2 hq2 => ⟨by show 2 ≤ sizeLine; decide, fun t ht => ?_⟩⟩⟩
          have e1 := sm_upd (o := .tup [v']) hq1
          have e2 := sm_upd (o := .tup [u']) hq2
          have e3 := sm_upd (o := .tup [V.ref q1, V.ref q2]) ht
          have e13 := Same.trans e1 (Same.trans e2 e3)
          have f1 := Same.trans e2 e3 q1 _ upd_same
          have f2 := e3 q2 _ upd_same
          refine ⟨t, _, rfl, SqT.of upd_same, rfl, _, _, rfl, _, _, rfl, rfl, ?_⟩
          exact ⟨⟨_, _, _, _, rfl, .tup [x'], .tup [y'], (tupOne f1 (hx2.keep (Kp.of e13))), (tupOne f2 (hy2.keep (Kp.of e13)))⟩, ⟨z7, wellSame w10 e13, by omega, by omega⟩, butTrans b310 (butSame e13)⟩
      · obtain ⟨⟨w5, w6, v', u', rfl, x', y', hx', hy'⟩, _, bq⟩ := hp
        have hx9 : Lw C H' 9 x' v' := hx'.le (by omega)
        have hy9 : Lw C H' 9 y' u' := hy'.le (by omega)
        have lg := open_log hx9
        refine ⟨_, rfl, v', x', rfl, hx9, fun H11 k11 => ⟨_, rfl, lg, _, rfl, u', y', rfl, hy9.keep (Kp.of k11), fun H12 k12 => ⟨_, _, rfl, ?_⟩⟩⟩
        have j12 := Same.trans k11 k12
        refine ⟨_, rfl, _, rfl, v', u', x', y', rfl, hx9.keep (Kp.of j12), hy9.keep (Kp.of j12), fun H13 k13 => ⟨_, rfl, iteN rfl ?_⟩⟩
        have j13 := Same.trans j12 k13
        refine ⟨_, rfl, _, rfl, v', v', x', x', rfl, hx9.keep (Kp.of j13), hx9.keep (Kp.of j13), fun H14 k14 => ⟨_, rfl, iteN rfl ?_⟩⟩
        have j14 := Same.trans j13 k14
        refine ⟨_, rfl, _, rfl, v', x', rfl, hx9.keep (Kp.of j14), fun H15 k15 => ⟨_, rfl, lg, rfl, _, rfl, iteN (by simp) ?_⟩⟩
        have j15 := Same.trans j14 k15
        refine ⟨_, rfl, _, rfl, u', y', rfl, hy9.keep (Kp.of j15), fun H16 k16 => ⟨rfl, _, rfl, iteN (by simp) ?_⟩⟩
        have j16 := Same.trans j15 k16
        refine fun q1 x1 hq1 hx1 ne1 => ?_
        have e1 : Same H16 (upd (upd H16 x1 (.own q1)) q1 (.ins C x1 [])) := Same.upd (sm_upd hx1) ((upd_ne (Ne.symm ne1)).trans hq1)
        have f1 : (upd (upd H16 x1 (.own q1)) q1 (.ins C x1 [])) q1 = some (.ins C x1 []) := upd_same
        generalize (upd (upd H16 x1 (.own q1)) q1 (.ins C x1 [])) = H17 at e1 f1 ⊢
        refine fun q2 x2 hq2 hx2 ne2 => ?_
        have e2 : Same H17 (upd (upd H17 x2 (.own q2)) q2 (.ins C x2 [])) := Same.upd (sm_upd hx2) ((upd_ne (Ne.symm ne2)).trans hq2)
        have f2 : (upd (upd H17 x2 (.own q2)) q2 (.ins C x2 [])) q2 = some (.ins C x2 []) := upd_same
        generalize (upd (upd H17 x2 (.own q2)) q2 (.ins C x2 [])) = H18 at e2 f2 ⊢
        refine ⟨q1, x1, .unk, rfl, e2 _ _ f1, ⟨fun _ _ => False, q2, x2, rfl, f2⟩, _, rfl, iteN rfl ?_⟩
        refine fun q3 x3 hq3 hx3 ne3 => ?_
        have e3 : Same H18 (upd (upd H18 x3 (.own q3)) q3 (.ins C x3 [])) := Same.upd (sm_upd hx3) ((upd_ne (Ne.symm ne3)).trans hq3)
        have f3 : (upd (upd H18 x3 (.own q3)) q3 (.ins C x3 [])) q3 = some (.ins C x3 []) := upd_same
        generalize (upd (upd H18 x3 (.own q3)) q3 (.ins C x3 [])) = H19 at e3 f3 ⊢
        have j19 := Same.trans j16 (Same.trans e1 (Same.trans e2 e3))
        obtain ⟨m9, lm9, hl9⟩ := hx9.keep (Kp.of j19)
        refine ⟨_, rfl, q3, x3, x', rfl, f3, hl9.stands, _, rfl, ?_⟩
        by_cases eU : isU x' = true
        · refine iteC eU ?_
          refine ⟨_, rfl, m9, v', x', rfl, hl9, fun H20 k20 => ⟨rfl, _, rfl, iteN (by rw [sort_unk eU]; simp) ?_⟩⟩
          exact ⟨⟨_, _, _, _, _, _, _, _, rfl⟩, Same.trans kT (Same.trans (but3 _ bq) (Same.trans j19 k20))⟩
        · refine iteN ((Bool.not_eq_true _).mp eU) ?_
          exact ⟨⟨_, _, _, _, _, _, _, _, rfl⟩, Same.trans kT (Same.trans (but3 _ bq) j19)⟩
end
end Vl

set_option Elab.async false
set_option linter.all false
set_option maxRecDepth 100000
set_option maxHeartbeats 4000000
namespace Vl
open PySem PySem.Spec PyProof.Rows L2 Pf
/-- pairs of two lists by their places -/
theorem paired_ext {R S : LV → V → Prop} : ∀ {xs : List LV} {ys : List V}, Paired R xs ys → (∀ (i : Nat) x y, xs[i]? = some x → ys[i]? = some y → R x y → S x y) → Paired S xs ys
  | _, _, .nil, _ => .nil
  | _, _, .cons h t, k => .cons (k 0 _ _ rfl rfl h) (paired_ext t fun i x y hx hy r => k (i + 1) x y hx hy r)
theorem paired_some {R : LV → V → Prop} : ∀ {xs : List LV} {ys : List V}, Paired R xs ys → ∀ {i : Nat} {y : V}, ys[i]? = some y → ∃ x, xs[i]? = some x ∧ R x y
  | _, _, .nil, _, _, h => by simp at h
  | _, _, .cons h t, 0, y, e => by
    simp at e
    subst e
    exact ⟨_, rfl, h⟩
  | _, _, .cons h t, i + 1, y, e => by
    obtain ⟨x, e1, r⟩ := paired_some t (i := i) (by simpa using e)
    exact ⟨x, by simpa using e1, r⟩
theorem Lv.mkTup {C : Addr} {H : Hp} {l : List LV} {v : V} : ∀ {m : Nat}, (∃ b us, v = .ref b ∧ H b = some (.tup us) ∧ l.length ≤ 3 ∧ Paired (Lw C H m) l us) → Lv C H m (.tup l) v
  | 0, ⟨b, us, e, h, hl, p⟩ => ⟨b, us, e, h, hl, Paired.mapP p fun _ _ w => by
    obtain ⟨j, hj, _⟩ := w
    exact absurd hj (Nat.not_lt_zero _)⟩
  | m + 1, ⟨b, us, e, h, hl, p⟩ => ⟨b, us, e, h, hl, Paired.mapP p fun _ _ w => by
    obtain ⟨j, hj, w⟩ := w
    exact w.le (Nat.le_of_lt_succ hj)⟩
theorem Lv.mkMap {C : Addr} {H : Hp} {l : List (Str × LV)} {v : V} : ∀ {m : Nat}, (∃ b kvs, v = .ref b ∧ H b = some (.dK kvs) ∧ l.length ≤ 3 ∧ (l.map (·.1)).Nodup ∧ (∀ p, p ∈ l → p.1.length ≤ 200 ∧ PyData.strOk p.1 = true) ∧ kvs.map (·.1) = l.map (fun p => Sum.inr p.1) ∧ Paired (Lw C H m) (l.map (·.2)) (kvs.map (·.2))) → Lv C H m (.map l) v
  | 0, ⟨b, us, e, h, hl, nd, ok, hk, p⟩ => ⟨b, us, e, h, hl, nd, ok, hk, Paired.mapP p fun _ _ w => by
    obtain ⟨j, hj, _⟩ := w
    exact absurd hj (Nat.not_lt_zero _)⟩
  | m + 1, ⟨b, us, e, h, hl, nd, ok, hk, p⟩ => ⟨b, us, e, h, hl, nd, ok, hk, Paired.mapP p fun _ _ w => by
    obtain ⟨j, hj, w⟩ := w
    exact w.le (Nat.le_of_lt_succ hj)⟩
theorem Lv.atTup {C b : Addr} {H : Hp} {k : Nat} {z : LV} {us : List V} (h : Lv C H k z (.ref b)) (hb : H b = some (.tup us)) : ∃ l, Paired (Lw C H k) l us := by
  cases z with
  | tup l =>
    obtain ⟨b2, us2, e, hb2, _, p⟩ := h.tupW
    cases e
    rw [hb] at hb2
    cases hb2
    exact ⟨l, p⟩
  | map l =>
    obtain ⟨b2, us2, e, hb2, _⟩ := h.mapW
    cases e
    rw [hb] at hb2
    cases hb2
  | unk =>
    obtain ⟨R, b2, dx, e, hb2⟩ := h.stands
    cases e
    rw [hb] at hb2
    cases hb2
  | str s =>
    obtain ⟨R, e, _⟩ := h.stands
    cases e
  | _ =>
    obtain ⟨R, e⟩ := h.stands
    cases e
theorem Lv.atMap {C b : Addr} {H : Hp} {k : Nat} {z : LV} {us : List (Key × V)} (h : Lv C H k z (.ref b)) (hb : H b = some (.dK us)) : ∃ l, Paired (Lw C H k) l (us.map (·.2)) := by
  cases z with
  | map l =>
    obtain ⟨b2, us2, e, hb2, _, _, _, _, p⟩ := h.mapW
    cases e
    rw [hb] at hb2
    cases hb2
    exact ⟨_, p⟩
  | tup l =>
    obtain ⟨b2, us2, e, hb2, _⟩ := h.tupW
    cases e
    rw [hb] at hb2
    cases hb2
  | unk =>
    obtain ⟨R, b2, dx, e, hb2⟩ := h.stands
    cases e
    rw [hb] at hb2
    cases hb2
  | str s =>
    obtain ⟨R, e, _⟩ := h.stands
    cases e
  | _ =>
    obtain ⟨R, e⟩ := h.stands
    cases e
/-- what stands at u and has nothing of a in it stands there too when a is locked -/
theorem Lv.off {C a : Addr} {H : Hp} {o : HO} (k : Nat) : ∀ {z2 : LV} {u : V}, Lv C H k z2 u → (∀ k', k' ≤ k → ∀ z, ¬ Lv C H k' z (.ref a)) → ∀ {m : Nat} {z : LV}, Lv C H m z u → Lv C (upd H a o) m z u := by
  induction k using Nat.strongRecOn with
  | _ k ih =>
    intro z2 u h2 no m z h
    have top : ∀ b, u = .ref b → b ≠ a := fun b e q => no k (Nat.le_refl _) z2 (by rw [← q, ← e]; exact h2)
    have part : ∀ z3 u', Lw C H k z3 u' → ∀ m' z', Lv C H m' z' u' → Lv C (upd H a o) m' z' u' := fun z3 u' w m' z' h' => by
      obtain ⟨j, hj, w⟩ := w
      exact ih j hj w (fun k' hk' => no k' (by omega)) h'
    cases z with
    | non => (obtain ⟨R, e⟩ := h.stands; exact Lv.of fun _ => e)
    | bl b => (obtain ⟨R, e⟩ := h.stands; exact Lv.of fun _ => e)
    | int i => (obtain ⟨R, e⟩ := h.stands; exact Lv.of fun _ => e)
    | str s => (obtain ⟨R, e⟩ := h.stands; exact Lv.of fun _ => e)
    | unk =>
      obtain ⟨R, b, dx, e, hb⟩ := h.stands
      exact Lv.of fun R => ⟨b, dx, e, (upd_ne (top b e)).trans hb⟩
    | tup l =>
      obtain ⟨b, us, e, hb, hl, p⟩ := h.tupW
      obtain ⟨l2, p2⟩ := Lv.atTup (e ▸ h2) hb
      refine Lv.mkTup ⟨b, us, e, (upd_ne (top b e)).trans hb, hl, paired_ext p fun i x y hx hy w => ?_⟩
      obtain ⟨x2, _, w2⟩ := paired_some p2 hy
      obtain ⟨j, hj, w⟩ := w
      exact ⟨j, hj, part x2 y w2 j x w⟩
    | map l =>
      obtain ⟨b, us, e, hb, hl, nd, ok, hk, p⟩ := h.mapW
      obtain ⟨l2, p2⟩ := Lv.atMap (e ▸ h2) hb
      refine Lv.mkMap ⟨b, us, e, (upd_ne (top b e)).trans hb, hl, nd, ok, hk, paired_ext p fun i x y hx hy w => ?_⟩
      obtain ⟨x2, _, w2⟩ := paired_some p2 hy
      obtain ⟨j, hj, w⟩ := w
      exact ⟨j, hj, part x2 y w2 j x w⟩
/-- the values of a map stand as before while it is locked -/
theorem Lv.parts_off {C a : Addr} {H : Hp} {o : HO} {us : List (Key × V)} (ha : H a = some (.dK us)) {n : Nat} {z : LV} (h : Lv C H n z (.ref a)) {y : V} (hy : y ∈ us.map (·.2)) {m : Nat} {x : LV} (hx : Lv C H m x y) : Lv C (upd H a o) m x y := by
  have key : ∀ n, (∃ z, Lv C H n z (.ref a)) → ∃ k z2, Lv C H k z2 y ∧ ∀ k', k' ≤ k → ∀ z, ¬ Lv C H k' z (.ref a) := by
    intro n
    induction n using Nat.strongRecOn with
    | _ n ih =>
      rintro ⟨z, h⟩
      by_cases e : ∃ j, j < n ∧ ∃ z, Lv C H j z (.ref a)
      · obtain ⟨j, hj, hz⟩ := e
        exact ih j hj hz
      · obtain ⟨l, p⟩ := Lv.atMap h ha
        obtain ⟨i, hi⟩ := List.mem_iff_getElem?.mp hy
        obtain ⟨x2, _, j, hj, w⟩ := paired_some p hi
        exact ⟨j, x2, w, fun k' hk' z' hz' => e ⟨k', by omega, z', hz'⟩⟩
  obtain ⟨k, z2, h2, no⟩ := key n ⟨z, h⟩
  exact Lv.off k h2 no hx
end Vl

set_option Elab.async false
set_option linter.all false
set_option maxRecDepth 100000
set_option maxHeartbeats 4000000
namespace Vl
open PySem PySem.Spec PyProof.Rows L2 Pf
abbrev sKnown : Stmt := top 15
def knownL : Nat → LV → Bool
  | 0, _ => true
  | n + 1, .unk => false
  | n + 1, .tup l => l.all (knownL n)
  | n + 1, .map l => l.all fun p => knownL n p.2
  | _ + 1, _ => true
theorem val_mem {kvs : List (Key × V)} {k : Key} {c : V} (h : valV kvs k = some c) : c ∈ kvs.map (·.2) := by
  unfold valV at h
  obtain ⟨p, hp, rfl⟩ := Option.map_eq_some_iff.mp h
  exact List.mem_map_of_mem (List.mem_of_find?_eq_some hp)
abbrev NKnown : List Str := ["value", "part", "key"]
theorem scKnown : FnScope NKnown ["value"] (defScope sKnown) := ⟨rfl, rfl, rfl, by decide +kernel, rfl, by decide +kernel, by decide +kernel⟩
def spKn (C : Addr) (n : Nat) : Sp := fun vs H Q _ => ∃ (v : V) (x : LV), vs = [v] ∧ Lw C H n x v ∧ ∀ H', Same H H' → Q (.bl (knownL n x)) H'
section
variable {P : Program} {w : World} {K : PySem.W.Frag} {mg : Str → Option Value} {base : Heap} {C : Addr}
theorem ok_known {f : Addr} {fd : FuncData} (F : Fun K "is_known" "is_known" sKnown f fd) (g : mg "is_known" = some (.ref f)) (b : Binds K fd ["value"] []) (T : TxtV mg C) (U : UnkC K C) : ∀ n, FnOk P w K mg base CX0 (1 + n) f fd ["value"] (spKn C n)
  | 0 => F.ok (k := 0) scKnown (fun vs H Q E ⟨_, _, _, ⟨_, h, _⟩, _⟩ => absurd h (Nat.not_lt_zero _)) (fun cdv A outer s H vs Q E hr ⟨_, _, _, ⟨_, h, _⟩, _⟩ => absurd h (Nat.not_lt_zero _))
  | n + 1 => by
    have DK : Def P w K mg base (1 + n) "is_known" f fd ["value"] (spKn C n) := ⟨ok_known F g b T U n, g, F.kp, b⟩
    refine F.ok (k := 1 + n) scKnown (fun vs H Q E h => ?_) (fun cdv A outer s H vs Q E hr h => ?_)
    · obtain ⟨v, x, rfl, _⟩ := h
      rfl
    · obtain ⟨v, x, rfl, ⟨mx, lx, hx⟩, k⟩ := h
      have hx := hx.le (Nat.le_of_lt_succ lx)
      refine ⟨_, (pss_cons (ps_if (pt_val (pe_callB (call_isUk U) (by rfl) T.isi (by decide +kernel) (pa_cons (pv 0) (pa_cons (pe_glob (v := .ref C) rfl T.unk rfl) pa_nil)))) (pss_one (ps_ret pe_bl)) pss_nil)
        (pss_cons (ps_if (pt_val (pe_callB (call_isV U (T := "tuple") (by simp)) (by rfl) T.isi (by decide +kernel) (pa_cons (pv 0) (pa_cons (pe_bltn (v := .ty "tuple") (by rfl) T.tuple (by decide +kernel) rfl) pa_nil)))) (pss_one (ps_ret (pe_callB (cr_all rfl) (by rfl) T.all (by decide +kernel) (pa_cons (pe_lc (own := [("part", 1)]) (g := gName 1) (tt := tYes) rfl scKnown.nd (pi_tup (pv 0)) (blkOk_by (N := NKnown) (sc := defScope sKnown) (by decide +kernel)) (fun _ _ _ _ _ => pg_name (i := 1) scKnown.nd rfl (Or.inl rfl)) (fun _ _ _ _ _ => pts_nil) (fun _ _ _ _ _ => (pe_call DK.ok hr rfl DK.g DK.kp DK.b .nil pass0 (pa_cons (pv 1) pa_nil)))) pa_nil)))) pss_nil)
        (pss_cons (ps_if (pt_val (pe_callB (call_isV U (T := "dict") (by simp)) (by rfl) T.isi (by decide +kernel) (pa_cons (pv 0) (pa_cons (pe_bltn (v := .ty "dict") (by rfl) T.dict (by decide +kernel) rfl) pa_nil)))) (pss_one (ps_ret (pe_callB (cr_all rfl) (by rfl) T.all (by decide +kernel) (pa_cons (pe_lock (pe_lc (own := [("key", 2)]) (g := gName 2) (tt := tYes) rfl scKnown.nd (pi_keys (pv 0)) (blkOk_by (N := NKnown) (sc := defScope sKnown) (by decide +kernel)) (fun _ _ _ _ _ => pg_name (i := 2) scKnown.nd rfl (Or.inl rfl)) (fun _ _ _ _ _ => pts_nil) (fun _ _ _ _ _ => (pe_call DK.ok hr rfl DK.g DK.kp DK.b .nil pass0 (pa_cons (pe_dget (hu_of hr) (pv 0) (pv 2) (fun _ _ => rfl)) pa_nil))))) pa_nil)))) pss_nil)
        (pss_one (ps_ret pe_bl))))), ?_⟩
      have fin : ∀ H', Same H H' → ∀ b, knownL (n + 1) x = b → Q (.bl b) H' := fun H' k' b e => e ▸ k H' k'
      have hs := hx.stands
      refine ⟨_, rfl, _, x, rfl, hs, _, rfl, ?_⟩
      cases x with
      | unk => exact iteC rfl (fin H (Same.refl H) _ rfl)
      | tup l =>
        obtain ⟨a, us, rfl, ha, hl, pa⟩ := hx.tupW
        have lu : us.length = l.length := (Paired.length pa).symm
        refine iteN rfl ⟨_, rfl, _, _, rfl, hs, _, rfl, iteC rfl ?_⟩
        refine ⟨_, rfl, a, rfl, ⟨us, SqT.of ha⟩, fun D hD => ?_⟩
        refine lc_rel walk_tup hD (fun i y _ => ∀ z, l[i]? = some z → y = V.bl (knownL n z)) (fun _ _ _ _ _ z => z) (Nat.lt_of_le_of_lt (show us.length ≤ 3 by omega) (by decide)) (fun H8 k8 => SqT.of (k8 _ _ ha)) (fun i z H8 H8' N hi k8 yy q => ?_) (fun H8 ys k8 h8 n8 r8 => ?_)
        · obtain ⟨rfl, ez⟩ := yy
          have ep : l[i]? = some (l[i]'(by omega)) := List.getElem?_eq_getElem _
          refine ⟨rfl, _, rfl, z, _, rfl, (paired_at pa ep ez).keep (Kp.of k8), fun H9 k9 => q _ H9 k9 fun z' h => ?_⟩
          rw [ep] at h
          cases h
          rfl
        · have ey : ys = (l.map (knownL n)).map V.bl := by
            refine List.ext_getElem? fun i => ?_
            by_cases hi : i < us.length
            · obtain ⟨y0, e1, e2⟩ := r8 i hi
              have ep : l[i]? = some (l[i]'(by omega)) := List.getElem?_eq_getElem _
              rw [e1, e2 _ ep, List.getElem?_map, List.getElem?_map, ep]
              rfl
            · rw [List.getElem?_eq_none (by omega), List.getElem?_eq_none (by rw [List.length_map, List.length_map]; omega)]
          subst ey
          refine ⟨D, _, rfl, SqL.of h8, ?_⟩
          refine fin H8 k8 _ ?_
          rw [knownL]
          simp
      | map l =>
        obtain ⟨a, us, rfl, ha, hl, nd, ok, hk, pa⟩ := hx.mapW
        have lu : us.length = l.length := by have := congrArg List.length hk; simpa using this
        refine iteN rfl ⟨_, rfl, _, _, rfl, hs, _, rfl, iteN rfl ⟨_, rfl, _, _, rfl, hs, _, rfl, iteC rfl ?_⟩⟩
        refine ⟨a, .dK us, ha, True.intro, fun od => ⟨_, rfl, a, od, rfl, .inl ⟨us, upd_same, fun D hD => ?_⟩⟩⟩
        have ll : (l.map (·.2)).length = l.length := List.length_map _
        refine lc_rel (walk_keys (d := a) (o := od) (kvs := us)) hD (fun i y _ => ∀ z, (l.map (·.2))[i]? = some z → y = V.bl (knownL n z)) (fun _ _ _ _ _ z => z) (Nat.lt_of_le_of_lt (show us.length ≤ 3 by omega) (by decide)) (fun H8 k8 => k8 _ _ upd_same) (fun i x H8 H8' N hi k8 yy q => ?_) (fun H8 ys k8 h8 n8 r8 => ?_)
        · obtain ⟨rfl, kk, v0, e1, rfl⟩ := yy
          have ep : l[i]? = some (l[i]'(by omega)) := List.getElem?_eq_getElem _
          generalize l[i]'(by omega) = pz at ep
          have ek : kk = .inr pz.1 := by
            have h1 : (us.map (·.1))[i]? = some kk := by rw [List.getElem?_map, e1]; rfl
            rw [hk, List.getElem?_map, ep] at h1
            exact (Option.some.inj h1).symm
          subst ek
          obtain ⟨c, c1, j, hj, c2⟩ := val_at hk pa (List.mem_map_of_mem (f := (·.1)) (List.mem_of_getElem? ep))
          rw [getL_at nd ep] at c2
          have c3 := Lv.parts_off (o := .frz od (.dK us)) ha hx (val_mem c1) c2
          refine ⟨rfl, _, rfl, _, rfl, a, c, rfl, .inl ⟨us, _, .inr ⟨od, k8 _ _ upd_same⟩, rfl, c1.symm⟩, c, _, rfl, ⟨j, hj, c3.keep (Kp.of k8)⟩, fun H9 k9 => q _ H9 k9 fun z' h => ?_⟩
          rw [List.getElem?_map, ep] at h
          cases h
          rfl
        · have k3 : H8 a = some (.frz od (.dK us)) := k8 _ _ upd_same
          refine ⟨k3, ?_⟩
          have nDa : D ≠ a := fun z => by
            rw [z, upd_same] at hD
            cases hD
          have kf : Same H (upd H8 a (.dK us)) := fun p o hp => by
            by_cases ea : p = a
            · subst ea
              rw [ha] at hp
              rw [upd_same]
              exact hp
            · rw [upd_ne ea]
              exact k8 _ _ ((upd_ne ea).trans hp)
          have ey : ys = ((l.map (·.2)).map (knownL n)).map V.bl := by
            refine List.ext_getElem? fun i => ?_
            by_cases hi : i < us.length
            · obtain ⟨y0, e1, e2⟩ := r8 i hi
              have ep : (l.map (·.2))[i]? = some ((l.map (·.2))[i]'(by omega)) := List.getElem?_eq_getElem _
              rw [e1, e2 _ ep, List.getElem?_map, List.getElem?_map, ep]
              rfl
            · rw [List.getElem?_eq_none (by omega), List.getElem?_eq_none (by rw [List.length_map, List.length_map, List.length_map]; omega)]
          subst ey
          refine ⟨D, _, rfl, SqL.of ((upd_ne nDa).trans h8), ?_⟩
          refine fin _ kf _ ?_
          rw [knownL]
          simp [List.all_map]
          rfl
      | _ => exact iteN rfl ⟨_, rfl, _, _, rfl, hs, _, rfl, iteN rfl ⟨_, rfl, _, _, rfl, hs, _, rfl, iteN rfl (fin H (Same.refl H) _ rfl)⟩⟩
end
end Vl

set_option Elab.async false
set_option linter.all false
set_option maxRecDepth 100000
set_option maxHeartbeats 4000000
namespace Vl
open PySem PySem.Spec PyProof.Rows L2 Pf
theorem sum_zero : ∀ (l : List LV) (f : LV → Int) (g : LV → Bool), (∀ z, z ∈ l → 0 ≤ f z) → (∀ z, z ∈ l → g z = decide (f z = 0)) → l.all g = decide ((l.map f).sum = 0)
  | [], _, _, _, _ => rfl
  | z :: l, f, g, h, e => by
    have a := h z (by simp)
    have nn : ∀ l : List LV, (∀ z, z ∈ l → 0 ≤ f z) → 0 ≤ (l.map f).sum := fun l => by
      induction l with
      | nil => intro _; simp
      | cons x r ih =>
        intro k
        have := ih fun q hq => k q (List.mem_cons_of_mem _ hq)
        have := k x (by simp)
        simp only [List.map_cons, List.sum_cons]
        omega
    have n2 := nn l fun q hq => h q (List.mem_cons_of_mem _ hq)
    rw [List.all_cons, e z (by simp), sum_zero l f g (fun q hq => h q (List.mem_cons_of_mem _ hq)) fun q hq => e q (List.mem_cons_of_mem _ hq), List.map_cons, List.sum_cons]
    refine bool_iff ?_
    simp only [Bool.and_eq_true, decide_eq_true_eq]
    omega
theorem known_open {C : Addr} {H : Hp} : ∀ {n : Nat} {x : LV} {v : V}, Lw C H n x v → knownL n x = decide (openL n x = 0)
  | 0, _, _, ⟨_, h, _⟩ => absurd h (Nat.not_lt_zero _)
  | n + 1, x, v, ⟨m, hm, h⟩ => by
    have h := h.le (Nat.le_of_lt_succ hm)
    cases x with
    | unk => rfl
    | tup l =>
      obtain ⟨a, us, _, _, hl, p⟩ := h.tupW
      by_cases t : isTagL l = true
      · have e : openL (n + 1) (.tup l) = 0 := by
          rw [openL, if_neg (by rw [show sortN (.tup l) = 6 from if_pos t]; decide), show partsL (.tup l) = [] from if_pos t]
          rfl
        rw [e]
        obtain ⟨s, k, rfl⟩ := tag_form t
        cases n <;> rfl
      · have e : openL (n + 1) (.tup l) = (l.map (openL n)).sum := by
          rw [openL, if_neg (by rw [show sortN (.tup l) = 7 from if_neg t]; decide), show partsL (.tup l) = l from if_neg t]
        rw [e, knownL]
        refine sum_zero l (openL n) (knownL n) (fun z hz => ?_) fun z hz => ?_
        · obtain ⟨u, hu⟩ := paired_mem p z hz
          exact (open_bound hu).1
        · obtain ⟨u, hu⟩ := paired_mem p z hz
          exact known_open hu
    | map l =>
      obtain ⟨a, us, _, _, hl, _, _, _, p⟩ := h.mapW
      have e : openL (n + 1) (.map l) = ((l.map (·.2)).map (openL n)).sum := by
        rw [openL, if_neg (by show ¬ (5 : Nat) = 4; decide)]
        rfl
      have e2 : knownL (n + 1) (.map l) = (l.map (·.2)).all (knownL n) := by
        rw [knownL, List.all_map]
        rfl
      rw [e, e2]
      refine sum_zero (l.map (·.2)) (openL n) (knownL n) (fun z hz => ?_) fun z hz => ?_
      · obtain ⟨u, hu⟩ := paired_mem p z hz
        exact (open_bound hu).1
      · obtain ⟨u, hu⟩ := paired_mem p z hz
        exact known_open hu
    | _ => rfl
end Vl

set_option Elab.async false
set_option linter.all false
set_option maxRecDepth 100000
set_option maxHeartbeats 4000000
namespace Vl
open PySem PySem.Spec PyProof.Rows L2 Pf
abbrev sInt : Stmt := top 12
abbrev sName : Stmt := top 13
def intL (x : LV) : Bool := isT "int" x && !isT "bool" x
def spInt (C : Addr) : Sp := fun vs H Q _ => ∃ (v : V) (x : LV), vs = [v] ∧ Stands C H x v ∧ Q (.bl (intL x)) H
theorem scInt : FnScope ["thing"] ["thing"] (defScope sInt) := ⟨rfl, rfl, rfl, by decide +kernel, rfl, by decide +kernel, by decide +kernel⟩
/-- a name: one to twelve letters a to z -/
def nameL : LV → Bool
  | .str s => decide (0 < s.length) && (decide (s.length < 13) && lettersL s)
  | _ => false
theorem letter_iff (c : Nat) : c ∈ ("abcdefghijklmnopqrstuvwxyz" : Str).cps.toList ↔ 97 ≤ c ∧ c ≤ 122 := by
  rw [show ("abcdefghijklmnopqrstuvwxyz" : Str).cps.toList = List.range' 97 26 by decide +kernel, List.mem_range'_1]
  omega
theorem lt_a (c : Nat) : decide ((⟨#[c]⟩ : Str).cps.toList < ("a" : Str).cps.toList) = decide (c < 97) := by
  rw [show ("a" : Str).cps.toList = [97] by decide +kernel]
  show decide ([c] < [97]) = _
  exact decide_eq_decide.mpr (by simp [List.cons_lt_cons_iff])
theorem lt_z (c : Nat) : decide (("z" : Str).cps.toList < (⟨#[c]⟩ : Str).cps.toList) = decide (122 < c) := by
  rw [show ("z" : Str).cps.toList = [122] by decide +kernel]
  show decide ([122] < [c]) = _
  exact decide_eq_decide.mpr (by simp [List.cons_lt_cons_iff])
def spName (C : Addr) : Sp := fun vs H Q _ => ∃ (v : V) (x : LV), vs = [v] ∧ Stands C H x v ∧ ∀ H', Same H H' → Q (.bl (nameL x)) H'
abbrev NName : List Str := ["thing", "letter"]
theorem scName : FnScope NName ["thing"] (defScope sName) := ⟨rfl, rfl, rfl, by decide +kernel, rfl, by decide +kernel, by decide +kernel⟩
section
variable {P : Program} {w : World} {K : PySem.W.Frag} {mg : Str → Option Value} {base : Heap} {C : Addr}
theorem ok_int {f : Addr} {fd : FuncData} (F : Fun K "is_integer" "is_integer" sInt f fd) (T : TxtV mg C) (U : UnkC K C) : FnOk P w K mg base CX0 1 f fd ["thing"] (spInt C) := by
  refine F.ok scInt (fun vs H Q E h => ?_) (fun cdv A outer s H vs Q E hr h => ?_)
  · obtain ⟨v, x, rfl, _⟩ := h
    rfl
  · obtain ⟨v, x, rfl, hs, k⟩ := h
    refine ⟨_, (pss_one (ps_ret (pe_and (pe_callB (call_isV U (T := "int") (by simp)) (by rfl) T.isi (by decide +kernel) (pa_cons (pv 0) (pa_cons (pe_bltn (v := .ty "int") (by rfl) T.int (by decide +kernel) rfl) pa_nil))) (pe_one (pe_not (pe_callB (call_isV U (T := "bool") (by simp)) (by rfl) T.isi (by decide +kernel) (pa_cons (pv 0) (pa_cons (pe_bltn (v := .ty "bool") (by rfl) T.bool (by decide +kernel) rfl) pa_nil)))))))), ?_⟩
    refine ⟨_, rfl, _, x, rfl, hs, _, rfl, ?_⟩
    by_cases e : isT "int" x = true
    · refine iteC e ⟨_, rfl, _, x, rfl, hs, _, rfl, ?_⟩
      rw [show (!isT "bool" x) = intL x by unfold intL; rw [e]; rfl]
      exact k
    · refine iteN ((Bool.not_eq_true _).mp e) ?_
      rw [show false = intL x by unfold intL; rw [(Bool.not_eq_true _).mp e]; rfl]
      exact k
theorem ok_name {f : Addr} {fd : FuncData} (F : Fun K "is_name" "is_name" sName f fd) (T : TxtV mg C) (U : UnkC K C) : FnOk P w K mg base CX0 1 f fd ["thing"] (spName C) := by
  refine F.ok scName (fun vs H Q E h => ?_) (fun cdv A outer s H vs Q E hr h => ?_)
  · obtain ⟨v, x, rfl, _⟩ := h
    rfl
  · obtain ⟨v, x, rfl, hs, k⟩ := h
    refine ⟨_, (pss_cons (ps_if (PW.pt (pw_or (pt_not (pt_val (pe_callB (call_isV U (T := "str") (by simp)) (by rfl) T.isi (by decide +kernel) (pa_cons (pv 0) (pa_cons (pe_bltn (v := .ty "str") (by rfl) T.str (by decide +kernel) rfl) pa_nil))))) (pw_or1 (pt_not (pt_chain op_le op_le pe_int (pe_callB call_len_str (by rfl) T.len PySem.boot_len (pa_cons (pv 0) pa_nil)) pe_int))))) (pss_one (ps_ret pe_bl)) pss_nil)
        (pss_one (ps_ret (pe_callB (cr_all rfl) (by rfl) T.all (by decide +kernel) (pa_cons (pe_lc (own := [("letter", 1)]) (g := gName 1) (tt := tYes) rfl scName.nd (pi_str (pv 0)) (blkOk_by (N := NName) (sc := defScope sName) (by decide +kernel)) (fun _ _ _ _ _ => pg_name (i := 1) scName.nd rfl (Or.inl rfl)) (fun _ _ _ _ _ => pts_nil) (fun _ _ _ _ _ => (pe_chain op_le_str op_le_str pe_str (pv 1) pe_str))) pa_nil))))), ?_⟩
    have fin : ∀ H', Same H H' → ∀ b, nameL x = b → Q (.bl b) H' := fun H' k' b e => e ▸ k H' k'
    refine ⟨_, rfl, _, x, rfl, hs, _, rfl, ?_⟩
    by_cases e : isT "str" x = true
    · obtain ⟨m, rfl, rfl, hm⟩ := isStr e hs
      have hz : m.length ≤ sizeLine := Nat.le_trans hm (by decide)
      refine iteN (by rw [e]; rfl) ?_
      refine ⟨_, rfl, _, rfl, hz, _, _, rfl, rfl, _, rfl, ?_⟩
      by_cases l0 : 0 < m.length
      · refine iteC (by simp; omega) ?_
        refine ⟨_, _, rfl, rfl, _, rfl, ?_⟩
        by_cases l1 : m.length < 13
        · refine iteN (by simp; omega) ?_
          refine ⟨_, rfl, _, rfl, fun D hD => ?_⟩
          refine lc_vals walk_str hD (fun i => V.bl (letterAt m i)) (Nat.lt_of_le_of_lt hm (by decide)) (fun _ _ => True.intro) (fun _ => rfl) (fun i x H1 H2 N hi k1 y q => ?_) (fun H1 k1 h1 => ?_)
          · obtain ⟨rfl, c, hc, rfl⟩ := y
            have hq : ∀ b, letterAt m i = b → ∀ H4, Same H2 H4 → N (.bl b) H4 := fun b e H4 k4 => e ▸ q H4 k4
            have hl : letterAt m i = decide (c ∈ ("abcdefghijklmnopqrstuvwxyz" : Str).cps.toList) := by unfold letterAt; rw [hc]
            refine ⟨_, rfl, _, _, rfl, rfl, _, rfl, ?_⟩
            by_cases a0 : c < 97
            · refine iteN (by rw [lt_a]; simp [a0]) ?_
              refine hq _ ?_ _ (Same.refl _)
              rw [hl]
              exact decide_eq_false fun z => by
                have := (letter_iff c).mp z
                omega
            · refine iteC (by rw [lt_a]; simp [a0]) ⟨_, _, rfl, rfl, ?_⟩
              refine hq _ ?_ _ (Same.refl _)
              rw [hl, lt_z]
              by_cases z0 : 122 < c
              · rw [decide_eq_true z0]
                exact decide_eq_false fun z => by
                  have := (letter_iff c).mp z
                  omega
              · rw [decide_eq_false z0]
                exact decide_eq_true ((letter_iff c).mpr (by omega))
          · refine ⟨D, (List.range m.cps.size).map (letterAt m), rfl, SqL.of (by rw [List.map_map]; exact h1), ?_⟩
            rw [all_id]
            refine fin _ k1 _ ?_
            simp [nameL, l0, l1, lettersL]
        · refine iteC (by simp; omega) ?_
          exact fin _ (Same.refl H) _ (by simp [nameL, l1])
      · refine iteN (by simp; omega) ?_
        refine ⟨_, rfl, iteC rfl ?_⟩
        exact fin _ (Same.refl H) _ (by simp [nameL, l0])
    · refine iteC (by rw [(Bool.not_eq_true _).mp e]; rfl) ?_
      refine fin _ (Same.refl H) _ ?_
      cases x <;> first | rfl | (exfalso; revert e; simp [isT, isA, tyN])
end
end Vl

set_option Elab.async false
set_option linter.all false
set_option maxRecDepth 100000
set_option maxHeartbeats 4000000
namespace Vl
open PySem PySem.Spec PyProof.Rows L2 Pf PySem.SeqAt
open AutoSeq1 (wpAny_loadPart')
open MeetsSeq
theorem str_declines_dict (b : Str) (u : Tok) (l : Addr) (cl : Value) (dd : Option Addr) (es : Array DictEntry) (n : Nat) (sl : Array (Option Value)) : Meets (Builtin.«str.__eq__» ⟨[.str b u, .ref l], []⟩) (fun _ R s => s.heap.get? l = some { cls := cl, dict := dd, data := .dict es n, slots := sl } ∧ R (.ok (.ret .notImplemented)) s) :=
  .of_wp fun prog w A R s h => by
    obtain ⟨hp, g, d, tk, os⟩ := s
    obtain ⟨hl, h⟩ := h
    wp_walk using wpAny_loadPart' hl, wpAny_load hl
    exact ⟨_, rfl, h⟩
theorem dict_declines_str (b : Str) (u : Tok) (l : Addr) (o : Obj) : Meets (Builtin.«dict.__eq__» ⟨[.ref l, .str b u], []⟩) (fun _ R s => (s.heap.get? l = some o ∧ o.cls = .type "dict") ∧ R (.ok (.ret .notImplemented)) s) :=
  .of_wp fun prog w A R s h => by
    obtain ⟨hp, g, d, tk, os⟩ := s
    obtain ⟨⟨hl, hc⟩, h⟩ := h
    have f1 := F.sub_str_dict
    wp_walk using wpAny_loadPart' hl, wpAny_load hl
    exact ⟨_, rfl, h⟩
theorem rc_dict_str {A : Around} {s : Shared} {l : Addr} {es : Array DictEntry} {n : Nat} {o : Obj} (b : Str) (u : Tok) (ho : s.heap.get? l = some o) (hc : o.cls = .type "dict") (hd : o.data = .dict es n) (hu : A.units < cLine) : RcAt A s (.ref l) (.str b u) false := fun prog w E Q h => by
  have ho' := ho
  obtain ⟨cls, dd, data, sl⟩ := o
  simp only at hc hd
  subst hc hd
  exact rc_eq_decline_or (k := false) ⟨_, ho, rfl⟩ (typeIs_str s b u) (by decide) F.sub_str_dict F.slot_dict_eq F.slot_str_eq_refl
    (fun _ hq => call_meets F.slot_dict_eq ⟨_, ho, rfl⟩ F.entry_dict_eq (F.args_dict_eq_2 _ _) (dict_declines_str b u l _) ⟨⟨ho, rfl⟩, hq⟩)
    (fun _ hq => call_meets F.slot_str_eq_refl (typeIs_str s b u) F.entry_str_eq (F.args_str_eq_2 _ _) (str_declines_dict b u l (.type "dict") dd es n sl) ⟨ho, hq⟩)
    (fun _ hq => wpAny_of_eq (rfl : isSame (.ref l) (.str b u) = pure false) hq) (.inr hu) h
/-- whether a value is this text -/
def isText (b : Str) : LV → Bool
  | .str s => decide (s = b)
  | _ => false
section
variable {X : Cx} {C f : Addr} {fd : FuncData} {k : Nat} {ps : List Str}
/-- x == a text, x any value -/
theorem op_eqText (U : UnkC X.K C) (E : EqU X.K C f) (F : FnOk X.prog X.w X.K X.mg X.base CX0 k f fd ps (spEqU C)) (hb : Binds X.K fd ps []) (hr : Room k X.A) : OpR X (compareOp .Eq) (fun x y H Q => ∃ (z : LV) (b : Str), Stands C H z x ∧ y = .str b ∧ (b.length ≤ 200 ∧ PyData.strOk b = true) ∧ Q (.bl (isText b z)) H) := by
  intro pins s σ H x y v u Q I rx ry h
  obtain ⟨z, b, hz, rfl, hb2, q⟩ := h
  have hz' := hz
  obtain ⟨R, hz'⟩ := hz'
  have sca : ∀ x0 : V, x = x0 → scal x0 (.str b) = true → decide (x0 = .str b) = isText b z → wpAny (model X.prog X.w) X.A (compareOp .Eq v u) (EP X pins σ Q) X.xe s := fun x0 e sd e2 => by
    subst e
    refine op_eq pins s σ H x (.str b) v u Q I rx ry ⟨sd, ?_⟩
    rw [e2]
    exact q
  cases z with
  | non => exact sca .non hz' rfl rfl
  | bl c => exact sca (.bl c) hz' rfl (by simp [isText])
  | int i => exact sca (.int i) hz' rfl (by simp [isText])
  | str m => exact sca (.str m) hz'.1 rfl (by simp [isText])
  | unk =>
    obtain ⟨a, dx, rfl, ha⟩ := hz'
    exact op_eqU U E F hb hr pins s σ H _ _ v u Q I rx ry ⟨a, dx, .str b, rfl, ha, ⟨fun _ _ => True, rfl, hb2⟩, q⟩
  | tup l =>
    obtain ⟨a, us, rfl, ha, _⟩ := hz'
    cases rx
    obtain ⟨t, rfl⟩ := ry
    obtain ⟨_, its, rv, o, h1, h2, n, h3⟩ := (show ObjOk X.prog X.w H s.heap a (.tup us) from I.hok a _ ha)
    exact RcAt.tuple_str b t ⟨o, h1, h2, n, h3⟩ hr.units0 X.prog X.w X.xe _ ⟨.bl false, H, I, rfl, q⟩
  | map l =>
    obtain ⟨a, us, rfl, ha, _⟩ := hz'
    cases rx
    obtain ⟨t, rfl⟩ := ry
    obtain ⟨_, _, vs, _, o, es, ep, h1, h2, h3, _⟩ := (show ObjOk X.prog X.w H s.heap a (.dK us) from I.hok a _ ha)
    exact rc_dict_str b t h1 h2.1 h3 hr.units0 X.prog X.w X.xe _ ⟨.bl false, H, I, rfl, q⟩
end
end Vl

set_option Elab.async false
set_option linter.all false
set_option maxRecDepth 100000
set_option maxHeartbeats 4000000
namespace Vl
open PySem PySem.Spec PyProof.Rows L2 Pf
abbrev sPTag : Stmt := top 14
def tagL : LV → Bool
  | .tup l => isTagL l
  | _ => false
def spPTag (C : Addr) : Sp := fun vs H Q _ => ∃ (n : Nat) (v : V) (x : LV), vs = [v] ∧ Lv C H n x v ∧ ∀ H', Same H H' → Q (.bl (tagL x)) H'
theorem stKeep {C : Addr} {H H' : Hp} {x : LV} {v : V} (h : Stands C H x v) (k : Same H H') : Stands C H' x v := by
  obtain ⟨R, h⟩ := h
  exact ⟨R, Node.imp (Kp.of k) (fun _ _ z => z) h⟩
theorem intIs {C : Addr} {H : Hp} {x : LV} {v : V} (e : intL x = true) (h : Stands C H x v) : ∃ i, x = .int i ∧ v = .int i := by
  unfold intL at e
  rw [Bool.and_eq_true, Bool.not_eq_true'] at e
  exact isInt e.1 e.2 h
abbrev NPTag : List Str := ["thing", "mark", "kind", "number"]
theorem scPTag : FnScope NPTag ["thing"] (defScope sPTag) := ⟨rfl, rfl, rfl, by decide +kernel, rfl, by decide +kernel, by decide +kernel⟩
theorem tag_parts (x y z : LV) : isTagL [x, y, z] = (isText "#" x && (nameL y && (intL z && (match z with
    | .int k => decide (0 < k)
    | _ => false)))) := by
  show isTag3 x y z = _
  cases x <;> cases y <;> cases z <;> simp [isTag3, isText, nameL, intL, isT, isA, tyN]
  rename_i m s k
  by_cases a : m = "#" <;> by_cases b : 0 < s.length <;> by_cases c : s.length < 13 <;> by_cases d : 0 < k <;> cases lettersL s <;> simp [a, b, c, d]
section
variable {P : Program} {w : World} {K : PySem.W.Frag} {mg : Str → Option Value} {base : Heap} {C : Addr}
theorem ok_ptag {f fN fI fE : Addr} {fd fdN fdI fdE : FuncData} {pE : List Str} (F : Fun K "is_tag" "is_tag" sPTag f fd) (T : TxtV mg C) (U : UnkC K C) (EU : EqU K C fE) (GE : FnOk P w K mg base CX0 1 fE fdE pE (spEqU C)) (bE : Binds K fdE pE [])
    (DN : Def P w K mg base 1 "is_name" fN fdN ["thing"] (spName C)) (DI : Def P w K mg base 1 "is_integer" fI fdI ["thing"] (spInt C)) : FnOk P w K mg base CX0 2 f fd ["thing"] (spPTag C) := by
  refine F.ok scPTag (fun vs H Q E h => ?_) (fun cdv A outer s H vs Q E hr h => ?_)
  · obtain ⟨n, v, x, rfl, _⟩ := h
    rfl
  · obtain ⟨n, v, x, rfl, hx, k⟩ := h
    refine ⟨_, (pss_cons (ps_if (PW.pt (pw_or (pt_not (pt_val (pe_callB (call_isV U (T := "tuple") (by simp)) (by rfl) T.isi (by decide +kernel) (pa_cons (pv 0) (pa_cons (pe_bltn (v := .ty "tuple") (by rfl) T.tuple (by decide +kernel) rfl) pa_nil))))) (pw_or1 (pt_cmpR op_ne (pe_callB call_len_seq (by rfl) T.len PySem.boot_len (pa_cons (pv 0) pa_nil)) pe_int (nomark _))))) (pss_one (ps_ret pe_bl)) pss_nil)
        (pss_cons (ps_asg (pv 0) (pg_tup rfl (pgs_cons (pg_name (i := 1) scPTag.nd rfl (Or.inl rfl)) (pgs_cons (pg_name (i := 2) scPTag.nd rfl (Or.inl rfl)) (pgs_cons (pg_name (i := 3) scPTag.nd rfl (Or.inl rfl)) pgs_nil)))))
        (pss_one (ps_ret (pe_and (pe_cmpR (op_eqText U EU GE bE hr) (pv 1) pe_str (nomark _)) (pe_and (pe_call DN.ok hr rfl DN.g DN.kp DN.b .nil pass0 (pa_cons (pv 2) pa_nil)) (pe_and (pe_call DI.ok hr rfl DI.g DI.kp DI.b .nil pass0 (pa_cons (pv 3) pa_nil)) (pe_one (pe_cmpR op_ge (pv 3) pe_int (nomark _)))))))))), ?_⟩
    have fin : ∀ H', Same H H' → ∀ b, tagL x = b → Q (.bl b) H' := fun H' k' b e => e ▸ k H' k'
    have hs := hx.stands
    refine ⟨_, rfl, _, x, rfl, hs, _, rfl, ?_⟩
    by_cases et : isT "tuple" x = true
    · refine iteN (by rw [et]; rfl) ?_
      obtain ⟨l, rfl⟩ : ∃ l, x = .tup l := by
        cases x with
        | tup l => exact ⟨l, rfl⟩
        | _ => exact absurd et (by simp [isT, isA, tyN])
      obtain ⟨a, us, rfl, ha, hl, p⟩ := hx.tupP
      have en : us.length = l.length := (Paired.length p).symm
      refine ⟨_, rfl, a, _, rfl, .inr (SqT.of ha), rfl, _, rfl, ?_⟩
      by_cases e3 : l.length = 3
      · refine iteN (by rw [en, e3]; rfl) ?_
        obtain ⟨x, y, z, rfl⟩ : ∃ x y z, l = [x, y, z] := by
          match l, e3 with
          | [x, y, z], _ => exact ⟨x, y, z, rfl⟩
        obtain ⟨u, us, rfl, px, p⟩ : ∃ u vs, us = u :: vs ∧ Stands C H x u ∧ Paired (Stands C H) [y, z] vs := by cases p with | cons h1 h2 => exact ⟨_, _, rfl, h1, h2⟩
        obtain ⟨v, us, rfl, py, p⟩ : ∃ u ws, us = u :: ws ∧ Stands C H y u ∧ Paired (Stands C H) [z] ws := by cases p with | cons h1 h2 => exact ⟨_, _, rfl, h1, h2⟩
        obtain ⟨w', us, rfl, pz, p⟩ : ∃ u ws, us = u :: ws ∧ Stands C H z u ∧ Paired (Stands C H) [] ws := by cases p with | cons h1 h2 => exact ⟨_, _, rfl, h1, h2⟩
        cases p
        have tp : tagL (.tup [x, y, z]) = _ := tag_parts x y z
        refine ⟨_, rfl, a, _, rfl, SqT.of ha, rfl, _, _, rfl, _, _, rfl, _, _, rfl, rfl, ?_⟩
        refine ⟨_, rfl, x, "#", px, rfl, ⟨by decide +kernel, by decide +kernel⟩, _, rfl, ?_⟩
        by_cases c1 : isText "#" x = true
        · refine iteC c1 ⟨_, rfl, _, y, rfl, py, fun H1 k1 => ⟨_, rfl, ?_⟩⟩
          by_cases c2 : nameL y = true
          · refine iteC c2 ⟨_, rfl, w', z, rfl, stKeep pz k1, _, rfl, ?_⟩
            by_cases c3 : intL z = true
            · obtain ⟨i, rfl, rfl⟩ := intIs c3 pz
              refine iteC c3 ⟨_, rfl, _, _, rfl, rfl, ?_⟩
              refine fin H1 k1 _ ?_
              rw [tp, c1, c2, c3]
              simp
              omega
            · refine iteN ((Bool.not_eq_true _).mp c3) ?_
              exact fin H1 k1 _ (by rw [tp, (Bool.not_eq_true _).mp c3]; simp)
          · refine iteN ((Bool.not_eq_true _).mp c2) ?_
            exact fin H1 k1 _ (by rw [tp, (Bool.not_eq_true _).mp c2]; simp)
        · refine iteN ((Bool.not_eq_true _).mp c1) ?_
          exact fin H (Same.refl H) _ (by rw [tp, (Bool.not_eq_true _).mp c1]; simp)
      · have : ¬ ((us.length : Int) = 3) := by omega
        refine iteC (by simp [this]) ?_
        exact fin _ (Same.refl H) _ (isTagL_len e3)
    · refine iteC (by rw [(Bool.not_eq_true _).mp et]; rfl) ?_
      refine fin _ (Same.refl H) _ ?_
      cases x <;> first | rfl | (exfalso; revert et; simp [isT, isA, tyN])
end
end Vl

set_option Elab.async false
set_option linter.all false
set_option maxRecDepth 100000
set_option maxHeartbeats 4000000
namespace Vl
open PySem PySem.Spec PyProof.Rows L2 Pf
abbrev sEq : Stmt := inClass (top 11) 0
theorem scEq : FnScope ["self", "other"] ["self", "other"] (defScope sEq) := ⟨rfl, rfl, rfl, by decide +kernel, rfl, by decide +kernel, by decide +kernel⟩
section
variable {P : Program} {w : World} {K : PySem.W.Frag} {mg : Str → Option Value} {base : Heap} {C : Addr}
theorem ok_ueq {f : Addr} {fd : FuncData} (F : Fun K "__eq__" "Unknown.__eq__" sEq f fd) (T : TxtV mg C) (U : UnkC K C) : FnOk P w K mg base CX0 1 f fd ["self", "other"] (spEqU C) := by
  refine F.ok scEq (fun vs H Q E h => ?_) (fun cdv A outer s H vs Q E hr h => ?_)
  · obtain ⟨a, v, x, rfl, _⟩ := h
    rfl
  · obtain ⟨a, v, x, rfl, hs, q⟩ := h
    exact ⟨_, pss_one (ps_ret (pe_callB (call_isUk U) (by rfl) T.isi (by decide +kernel) (pa_cons (pv 1) (pa_cons (pe_glob (v := .ref C) rfl T.unk rfl) pa_nil)))), ⟨_, rfl, _, x, rfl, hs, q⟩⟩
end
end Vl

set_option Elab.async false
set_option linter.all false
set_option maxRecDepth 100000
set_option maxHeartbeats 4000000
/-! list(zip(a, b)), a and b two tuples or two lists: a new list of new pairs -/
namespace Lz
open PySem PySem.Spec PyProof.Rows L2 PySem.W
section
variable {prog : Program} {w : World} {A : Around} {E : Value → Shared → Prop} {s : Shared} {z TI TO i1 i2 : Addr} {fp1 fp2 : List Addr} {n1 n2 i : Nat} {P1 P2 : Nat → Value → Prop} {St1 St2 : Nat → Heap → Prop}
theorem held_item {T : Addr} {f : Bool} {oT : Obj} {Q : Value → Shared → Prop} (S : ZipSep2 z TI TO i1 i2 fp1 fp2) (D1 : Draws prog w A i1 fp1 n1 P1 St1) (D2 : Draws prog w A i2 fp2 n2 P2 St2)
    (hz : IsZipHeld s.heap z TI TO T f) (hT : s.heap.get? T = some oT) (hTI : IsTupOf2 s.heap TI (.ref i1) (.ref i2)) (st1 : St1 i s.heap) (st2 : St2 i s.heap) (l1 : i < n1) (l2 : i < n2)
    (hQ : ∀ x1 x2 h' tk, P1 i x1 → P2 i x2 → IsZipHeld h' z TI TO T true → St1 (i + 1) h' → St2 (i + 1) h' → IsTupOf2 h' s.heap.objs.size x1 x2 → h'.objs.size = s.heap.objs.size + 1 →
      (∀ c o, c ≠ z ∧ c ≠ i1 ∧ c ≠ i2 → s.heap.get? c = some o → h'.get? c = some o) → Q (.ref s.heap.objs.size) { s with heap := h', toks := tk }) :
    wpAny (model prog w) A (Builtin.«zip.__next__» ⟨[.ref z], []⟩) (fun fin s' => ∃ v, fin = .done (.ret v) ∧ Q v s') E s := by
  obtain ⟨hp, g, d, tk0, os⟩ := s
  (show wpAny _ _ (field (.ref z) 2 >>= _) _ _ _); refine wpAny_bind (wpAny_field hz rfl (x := .bool false) rfl ?_)
  (show wpAny _ _ (field (.ref z) 3 >>= _) _ _ _); refine wpAny_bind (wpAny_field hz rfl (x := .ref TI) rfl (wpAny_bind (wpAny_seqItems hTI rfl ?_)))
  (show wpAny _ _ (Builtin.SmallTypes.ownedTupleIsFree (.ref z) >>= _) _ _ _); refine wpAny_bind (wpAny_tupleHeld_zip hz hT fun g1 hz1 hs1 => ?_)
  replace hs1 : Heap.SameBut z hp g1 := hs1
  simp only [Bool.false_eq_true, if_false]; refine wpAny_bind ?_
  rw [← Array.forIn_toList]; simp only [List.forIn_cons, List.forIn_nil]
  refine wpAny_bind (wpAny_bind (wpAny_holding ?_)); (show wpAny _ _ (Builtin.SmallTypes.nextOf (.ref i1) >>= _) _ _ ⟨g1, g, d, tk0, os⟩)
  refine wpAny_bind (D1.item i _ _ _ l1 (D1.over st1 hs1 S.zf1) fun x1 p1 tk1 hx1 sn1 hp1 => wpAny_pure (wpAny_pure ?_))
  replace hp1 : Heap.SameBut i1 g1 p1 := hp1
  refine wpAny_bind (wpAny_bind (wpAny_holding ?_)); (show wpAny _ _ (Builtin.SmallTypes.nextOf (.ref i2) >>= _) _ _ ⟨p1, g, d, tk1, os⟩)
  refine wpAny_bind (D2.item i _ _ _ l2 (D2.over (D2.over st2 hs1 S.zf2) hp1 S.sep1_2) fun x2 p2 tk2 hx2 sn2 hp2 => wpAny_pure (wpAny_pure (wpAny_pure ?_)))
  replace hp2 : Heap.SameBut i2 p1 p2 := hp2
  (show wpAny _ _ (newTuple [x1, x2] >>= _) _ _ ⟨p2, g, d, tk2, os⟩); refine wpAny_bind (wpAny_newTuple ?_)
  have hsz : p2.objs.size = hp.objs.size := by rw [hp2.1, hp1.1, hs1.1]
  have hz2 : IsZipHeld p2 z TI TO T true := hp2.extBut _ _ S.zi2 (hp1.extBut _ _ S.zi1 hz1)
  have kk : ∀ c o, c ≠ z ∧ c ≠ i1 ∧ c ≠ i2 → hp.get? c = some o → p2.get? c = some o := fun c o ⟨c1, c2, c3⟩ e => hp2.extBut _ _ c3 (hp1.extBut _ _ c2 (hs1.extBut _ _ c1 e))
  have s1' : St1 (i + 1) p2 := D1.over sn1 hp2 S.sep2_1
  refine wpAny_pure ⟨_, rfl, ?_⟩
  show Q (.ref p2.objs.size) ⟨p2.push { cls := .type "tuple", data := .seq #[x1, x2] }, g, d, tk2, os⟩
  have hpp : IsTupOf2 (p2.push { cls := .type "tuple", data := .seq #[x1, x2] }) p2.objs.size x1 x2 := Heap.get?_push_size _ rfl
  have hz4 : (p2.push { cls := .type "tuple", data := .seq #[x1, x2] }).objs.size = p2.objs.size + 1 := Heap.size_push ..
  rw [hsz] at hpp hz4 ⊢
  exact hQ x1 x2 _ tk2 hx1 hx2 (Heap.get?_push_of_some _ hz2) (D1.frame _ _ _ s1' fun b _ o e => Heap.get?_push_of_some _ e) (D2.frame _ _ _ sn2 fun b _ o e => Heap.get?_push_of_some _ e) hpp hz4 fun c o q e => Heap.get?_push_of_some _ (kk c o q e)
theorem held_end {T : Addr} {f : Bool} {oT : Obj} {Q : Fin → Shared → Prop} (S : ZipSep2 z TI TO i1 i2 fp1 fp2) (D1 : Draws prog w A i1 fp1 n1 P1 St1) (D2 : Draws prog w A i2 fp2 n2 P2 St2)
    (hz : IsZipHeld s.heap z TI TO T f) (hT : s.heap.get? T = some oT) (hTI : IsTupOf2 s.heap TI (.ref i1) (.ref i2)) (st1 : St1 i s.heap) (st2 : St2 i s.heap) (hle1 : i ≤ n1) (hle2 : i ≤ n2) (hend : i = n1 ∨ i = n2)
    (hE : ∀ h' tk e, (∀ c o, c ≠ z ∧ c ≠ i1 ∧ c ≠ i2 → s.heap.get? c = some o → h'.get? c = some o) → (∃ o, h'.get? e = some o ∧ o.cls = .type "StopIteration") → E (.ref e) { s with heap := h', toks := tk }) :
    wpAny (model prog w) A (Builtin.«zip.__next__» ⟨[.ref z], []⟩) Q E s := by
  obtain ⟨hp, g, d, tk0, os⟩ := s
  (show wpAny _ _ (field (.ref z) 2 >>= _) _ _ _); refine wpAny_bind (wpAny_field hz rfl (x := .bool false) rfl ?_)
  (show wpAny _ _ (field (.ref z) 3 >>= _) _ _ _); refine wpAny_bind (wpAny_field hz rfl (x := .ref TI) rfl (wpAny_bind (wpAny_seqItems hTI rfl ?_)))
  (show wpAny _ _ (Builtin.SmallTypes.ownedTupleIsFree (.ref z) >>= _) _ _ _); refine wpAny_bind (wpAny_tupleHeld_zip hz hT fun g1 hz1 hs1 => ?_)
  replace hs1 : Heap.SameBut z hp g1 := hs1
  simp only [Bool.false_eq_true, if_false]; refine wpAny_bind ?_
  rw [← Array.forIn_toList]; simp only [List.forIn_cons, List.forIn_nil]
  refine wpAny_bind (wpAny_bind (wpAny_holding ?_)); (show wpAny _ _ (Builtin.SmallTypes.nextOf (.ref i1) >>= _) _ _ ⟨g1, g, d, tk0, os⟩)
  by_cases h1 : i < n1
  · refine wpAny_bind (D1.item i _ _ _ h1 (D1.over st1 hs1 S.zf1) fun x1 p1 tk1 hx1 sn1 hp1 => wpAny_pure (wpAny_pure ?_))
    replace hp1 : Heap.SameBut i1 g1 p1 := hp1
    have e2 : i = n2 := by omega
    refine wpAny_bind (wpAny_bind (wpAny_holding ?_)); (show wpAny _ _ (Builtin.SmallTypes.nextOf (.ref i2) >>= _) _ _ ⟨p1, g, d, tk1, os⟩)
    refine wpAny_bind (D2.done ⟨p1, g, d, tk1, os⟩ _ _ (by rw [← e2]; exact D2.over (D2.over st2 hs1 S.zf2) hp1 S.sep1_2) fun q e hq he => ?_)
    exact hE q tk1 e (fun c o ⟨c1, c2, c3⟩ x => hq _ _ c3 (hp1.extBut _ _ c2 (hs1.extBut _ _ c1 x))) he
  · have e1 : i = n1 := by omega
    refine wpAny_bind (D1.done ⟨g1, g, d, tk0, os⟩ _ _ (by rw [← e1]; exact D1.over st1 hs1 S.zf1) fun q e hq he => ?_)
    exact hE q tk0 e (fun c o ⟨c1, c2, c3⟩ x => hq _ _ c2 (hs1.extBut _ _ c1 x)) he
theorem pyNext_held_item {T : Addr} {f : Bool} {oT : Obj} {Q : Option Value → Shared → Prop} (S : ZipSep2 z TI TO i1 i2 fp1 fp2) (D1 : Draws prog w A.in1 i1 fp1 n1 P1 St1) (D2 : Draws prog w A.in1 i2 fp2 n2 P2 St2)
    (hz : IsZipHeld s.heap z TI TO T f) (hT : s.heap.get? T = some oT) (hTI : IsTupOf2 s.heap TI (.ref i1) (.ref i2)) (st1 : St1 i s.heap) (st2 : St2 i s.heap) (l1 : i < n1) (l2 : i < n2)
    (hQ : ∀ x1 x2 h' tk, P1 i x1 → P2 i x2 → IsZipHeld h' z TI TO T true → St1 (i + 1) h' → St2 (i + 1) h' → IsTupOf2 h' s.heap.objs.size x1 x2 → h'.objs.size = s.heap.objs.size + 1 →
      (∀ c o, c ≠ z ∧ c ≠ i1 ∧ c ≠ i2 → s.heap.get? c = some o → h'.get? c = some o) → Q (some (.ref s.heap.objs.size)) { s with heap := h', toks := tk }) :
    wpAny (model prog w) A (pyNext (.ref z)) Q E s := by
  have ty : s.TypeIs (.ref z) "zip" := ⟨_, hz, rfl⟩
  unfold pyNext
  exact wpAny_bind (wpAny_attempt (wpAny_callSpecial?_slot (name := Str.ofString "__next__") ty F.slot_zip_next (wpAny_call_entry F.slot_zip_next ty F.entry_zip_next
    (held_item S D1 D2 hz hT hTI st1 st2 l1 l2 fun x1 x2 h' tk a b c d e f g k => wpAny_pure (hQ x1 x2 h' tk a b c d e f g k)) (F.args_zip_next_1 _))))
theorem pyNext_held_end {T : Addr} {f : Bool} {oT : Obj} {Q : Option Value → Shared → Prop} (S : ZipSep2 z TI TO i1 i2 fp1 fp2) (D1 : Draws prog w A.in1 i1 fp1 n1 P1 St1) (D2 : Draws prog w A.in1 i2 fp2 n2 P2 St2)
    (hz : IsZipHeld s.heap z TI TO T f) (hT : s.heap.get? T = some oT) (hTI : IsTupOf2 s.heap TI (.ref i1) (.ref i2)) (st1 : St1 i s.heap) (st2 : St2 i s.heap) (hle1 : i ≤ n1) (hle2 : i ≤ n2) (hend : i = n1 ∨ i = n2)
    (hQ : ∀ h' tk, (∀ c o, c ≠ z ∧ c ≠ i1 ∧ c ≠ i2 → s.heap.get? c = some o → h'.get? c = some o) → Q none { s with heap := h', toks := tk }) : wpAny (model prog w) A (pyNext (.ref z)) Q E s := by
  have ty : s.TypeIs (.ref z) "zip" := ⟨_, hz, rfl⟩
  unfold pyNext
  refine wpAny_bind (wpAny_attempt (wpAny_callSpecial?_slot (name := Str.ofString "__next__") ty F.slot_zip_next (wpAny_call_entry F.slot_zip_next ty F.entry_zip_next
    (held_end S D1 D2 hz hT hTI st1 st2 hle1 hle2 hend fun h' tk e hk he => ?_) (F.args_zip_next_1 _))))
  obtain ⟨o, ho, hc⟩ := he
  exact wpAny_bind (wpAny_isInstance (T := "StopIteration") (b := true) ⟨o, ho, hc⟩ isSubtype_stop (wpAny_pure (hQ _ _ hk)))

/-- the zip at z behind i turns whose pairs are all held; S the list that is filled -/
def ZSt (z TI TO i1 i2 S : Addr) (St1 St2 : Nat → Heap → Prop) (i : Nat) (h : Heap) : Prop := IsTupOf2 h TI (.ref i1) (.ref i2) ∧ St1 i h ∧ St2 i h ∧
  ((IsZip h z TI TO .none ∧ ∃ a b, IsTupOf2 h TO a b) ∨ ∃ T f oT, IsZipHeld h z TI TO T f ∧ h.get? T = some oT ∧ T ≠ z ∧ T ≠ i1 ∧ T ≠ i2 ∧ T ≠ S)
structure Sep (z TI TO i1 i2 S : Addr) (fp1 fp2 : List Addr) : Prop where
  z : z ≠ S
  TI : TI ≠ S
  TO : TO ≠ S
  f1 : S ∉ fp1
  f2 : S ∉ fp2
theorem ZSt.keep {S : Addr} {h h' : Heap} (D1 : Draws prog w A i1 fp1 n1 P1 St1) (D2 : Draws prog w A i2 fp2 n2 P2 St2) (sp : Sep z TI TO i1 i2 S fp1 fp2) (x : ZSt z TI TO i1 i2 S St1 St2 i h) (hk : ∀ b o, b ≠ S → h.get? b = some o → h'.get? b = some o) : ZSt z TI TO i1 i2 S St1 St2 i h' := by
  obtain ⟨a1, a2, a3, a4⟩ := x
  refine ⟨hk _ _ sp.TI a1, D1.frame _ _ _ a2 fun b hb o e => hk b o (fun q => sp.f1 (q ▸ hb)) e, D2.frame _ _ _ a3 fun b hb o e => hk b o (fun q => sp.f2 (q ▸ hb)) e, ?_⟩
  rcases a4 with ⟨hz, a, b, hO⟩ | ⟨T, f, oT, hz, hT, r1, r2, r3, r4⟩
  · exact .inl ⟨hk _ _ sp.z hz, a, b, hk _ _ sp.TO hO⟩
  · exact .inr ⟨T, f, oT, hk _ _ sp.z hz, hk _ _ r4 hT, r1, r2, r3, r4⟩
theorem ZSt.item {S : Addr} {Q : Option Value → Shared → Prop} (sz : ZipSep2 z TI TO i1 i2 fp1 fp2) (D1 : Draws prog w A.in1 i1 fp1 n1 P1 St1) (D2 : Draws prog w A.in1 i2 fp2 n2 P2 St2) (x : ZSt z TI TO i1 i2 S St1 St2 i s.heap) (hS : S < s.heap.objs.size) (l1 : i < n1) (l2 : i < n2)
    (hQ : ∀ x1 x2 h' tk, P1 i x1 → P2 i x2 → ZSt z TI TO i1 i2 S St1 St2 (i + 1) h' → IsTupOf2 h' s.heap.objs.size x1 x2 → h'.objs.size = s.heap.objs.size + 1 →
      (∀ c o, c ≠ z ∧ c ≠ i1 ∧ c ≠ i2 ∧ c ≠ TO → s.heap.get? c = some o → h'.get? c = some o) → Q (some (.ref s.heap.objs.size)) { s with heap := h', toks := tk }) :
    wpAny (model prog w) A (pyNext (.ref z)) Q E s := by
  obtain ⟨a1, a2, a3, a4⟩ := x
  have lt : ∀ {c o}, s.heap.get? c = some o → s.heap.objs.size ≠ c := fun e => Nat.ne_of_gt (Heap.lt_size e)
  have m1 : s.heap.objs.size ≠ i1 := let ⟨_, e⟩ := D1.live _ _ a2; lt e
  have m2 : s.heap.objs.size ≠ i2 := let ⟨_, e⟩ := D2.live _ _ a3; lt e
  rcases a4 with ⟨hz, a, b, hO⟩ | ⟨T, f, oT, hz, hT, r1, r2, r3, r4⟩
  · refine wpAny_pyNext_zipD2_item sz D1 D2 hz a1 hO a2 a3 l1 l2 fun x1 x2 h' tk p1 p2 hz' hO' t1 t2 hN sN hk => hQ x1 x2 h' tk p1 p2 ⟨hk _ _ sz.TIz sz.TITO sz.TIi1 sz.TIi2 a1, t1, t2, .inr ⟨_, false, _, hz', hN, lt hz, m1, m2, Nat.ne_of_gt hS⟩⟩ hN sN fun c o ⟨c1, c2, c3, c4⟩ e => hk c o c1 c4 c2 c3 e
  · refine pyNext_held_item sz D1 D2 hz hT a1 a2 a3 l1 l2 fun x1 x2 h' tk p1 p2 hz' t1 t2 hN sN hk => hQ x1 x2 h' tk p1 p2 ⟨hk _ _ ⟨sz.TIz, sz.TIi1, sz.TIi2⟩ a1, t1, t2, .inr ⟨T, true, oT, hz', hk _ _ ⟨r1, r2, r3⟩ hT, r1, r2, r3, r4⟩⟩ hN sN fun c o ⟨c1, c2, c3, _⟩ e => hk c o ⟨c1, c2, c3⟩ e
theorem ZSt.done {S : Addr} {Q : Option Value → Shared → Prop} (sz : ZipSep2 z TI TO i1 i2 fp1 fp2) (D1 : Draws prog w A.in1 i1 fp1 n1 P1 St1) (D2 : Draws prog w A.in1 i2 fp2 n2 P2 St2) (x : ZSt z TI TO i1 i2 S St1 St2 i s.heap) (hle1 : i ≤ n1) (hle2 : i ≤ n2) (hend : i = n1 ∨ i = n2)
    (hQ : ∀ h' tk, (∀ c o, c ≠ z ∧ c ≠ i1 ∧ c ≠ i2 ∧ c ≠ TO → s.heap.get? c = some o → h'.get? c = some o) → Q none { s with heap := h', toks := tk }) : wpAny (model prog w) A (pyNext (.ref z)) Q E s := by
  obtain ⟨a1, a2, a3, a4⟩ := x
  rcases a4 with ⟨hz, a, b, hO⟩ | ⟨T, f, oT, hz, hT, r1, r2, r3, r4⟩
  · exact wpAny_pyNext_zipD2_end sz D1 D2 hz a1 hO a2 a3 hle1 hle2 hend fun h' tk hk => hQ h' tk fun c o ⟨c1, c2, c3, c4⟩ e => hk c o c1 c4 c2 c3 e
  · exact pyNext_held_end sz D1 D2 hz hT a1 a2 a3 hle1 hle2 hend fun h' tk hk => hQ h' tk fun c o ⟨c1, c2, c3, _⟩ e => hk c o ⟨c1, c2, c3⟩ e
end
/-- the pairs that were made, at as, all above lo -/
structure Made (P1 P2 : Nat → Value → Prop) (lo : Addr) (h : Heap) (as : List Addr) : Prop where
  rise : as.Pairwise (· < ·)
  above : ∀ a ∈ as, lo < a
  pairs : ∀ (j : Nat) (a : Addr), as[j]? = some a → ∃ x y, P1 j x ∧ P2 j y ∧ IsTupOf2 h a x y
theorem Made.there {P1 P2 : Nat → Value → Prop} {lo : Addr} {h : Heap} {as : List Addr} (g : Made P1 P2 lo h as) {a : Addr} (ha : a ∈ as) : a < h.objs.size := by
  obtain ⟨j, hj⟩ := List.mem_iff_getElem?.mp ha
  obtain ⟨_, _, _, _, e⟩ := g.pairs j a hj
  exact Heap.lt_size e
section
variable {prog : Program} {w : World} {A : Around} {s : Shared} {R : Result → Shared → Prop} {z TI TO i1 i2 S : Addr} {fp1 fp2 : List Addr} {n1 n2 : Nat} {P1 P2 : Nat → Value → Prop} {St1 St2 : Nat → Heap → Prop}
theorem zl_loop {n : Nat} (en : n = min n1 n2) (sz : ZipSep2 z TI TO i1 i2 fp1 fp2) (sp : Sep z TI TO i1 i2 S fp1 fp2) (D1 : Draws prog w A.in1.in1 i1 fp1 n1 P1 St1) (D2 : Draws prog w A.in1.in1 i2 fp2 n2 P2 St2) (lz : z < S) (lT : TO < S) (li1 : i1 < S) (li2 : i2 < S) (hn : n ≤ sizeLine) (res : Value) {h₁ : Heap}
    (hR : ∀ h' tk acc c as, (∀ b o, b ≠ S ∧ b ≠ z ∧ b ≠ i1 ∧ b ≠ i2 ∧ b ≠ TO → h₁.get? b = some o → h'.get? b = some o) → h'.get? S = some { cls := .type "list", dict := none, data := .seq acc c, slots := #[] } → as.length = n → Made P1 P2 S h' as →
      acc.toList = as.map Value.ref → R (.ok (.ret res)) { s with heap := h', toks := tk }) :
    ∀ (k i : Nat) (h : Heap) (tk c : Nat) (acc : Array Value) (as : List Addr), n - i = k → i ≤ n → ZSt z TI TO i1 i2 S St1 St2 i h → (∀ b o, b ≠ S ∧ b ≠ z ∧ b ≠ i1 ∧ b ≠ i2 ∧ b ≠ TO → h₁.get? b = some o → h.get? b = some o) →
      h.get? S = some { cls := .type "list", dict := none, data := .seq acc c, slots := #[] } → acc.toList = as.map Value.ref → as.length = i → Made P1 P2 S h as →
      codeAny (model prog w) A (.builtin "list.extend.loop" ⟨[.ref S, .ref z, res], []⟩) R { s with heap := h, toks := tk } := by
  have n1' : S ≠ z ∧ S ≠ i1 ∧ S ≠ i2 ∧ S ≠ TO := ⟨Nat.ne_of_gt lz, Nat.ne_of_gt li1, Nat.ne_of_gt li2, Nat.ne_of_gt lT⟩
  have hi : ∀ a, S < a → a ≠ z ∧ a ≠ i1 ∧ a ≠ i2 ∧ a ≠ TO := fun a ha => ⟨Nat.ne_of_gt (Nat.lt_trans lz ha), Nat.ne_of_gt (Nat.lt_trans li1 ha), Nat.ne_of_gt (Nat.lt_trans li2 ha), Nat.ne_of_gt (Nat.lt_trans lT ha)⟩
  intro k
  induction k with
  | zero =>
    intro i h tk c acc as hk hin hst hkeep hS hacc hal hG
    have e : i = n := by omega
    refine codeAny_builtin PySem.F.entry_extend_loop ?_
    rw [Around.under_plainId PySem.F.plain_extend_loop _]; (show wpAny _ A.in1 (pyNext (.ref z) >>= _) _ _ _)
    refine wpAny_bind (ZSt.done (s := { s with heap := h, toks := tk }) (A := A.in1) sz D1 D2 hst (by omega) (by omega) (by omega) fun h' tk' hk' => wpAny_pure (hR h' tk' acc c as (fun b o ⟨q1, q2⟩ e => hk' b o q2 (hkeep b o ⟨q1, q2⟩ e)) (hk' S _ n1' hS) (by omega) ⟨hG.rise, hG.above, fun j a hj => ?_⟩ hacc))
    obtain ⟨x, y, e1, e2, e3⟩ := hG.pairs j a hj
    exact ⟨x, y, e1, e2, hk' a _ (hi a (hG.above a (List.mem_of_getElem? hj))) e3⟩
  | succ k ih =>
    intro i h tk c acc as hk hin hst hkeep hS hacc hal hG
    have lt : i < n := by omega
    have hsz : acc.size = i := by rw [← Array.length_toList, hacc, List.length_map, hal]
    refine codeAny_builtin PySem.F.entry_extend_loop ?_
    rw [Around.under_plainId PySem.F.plain_extend_loop _]; (show wpAny _ A.in1 (pyNext (.ref z) >>= _) _ _ _)
    refine wpAny_bind (ZSt.item (s := { s with heap := h, toks := tk }) (A := A.in1) sz D1 D2 hst (Heap.lt_size hS) (by omega) (by omega) fun x1 x2 h' tk' p1 p2 hst' hN sN hkp => ?_)
    dsimp only at hN sN hkp ⊢
    have hS' := hkp S _ n1' hS
    have up : ∀ b o, b ≠ S → h'.get? b = some o → (h'.update S (Obj.mapSeq (·.push (Value.ref h.objs.size)))).get? b = some o := fun b o hb e => (Heap.get?_update_other _ _ (Ne.symm hb)).trans e
    have hSl : S < h.objs.size := Heap.lt_size hS
    (show wpAny _ A.in1 (updateSeq S (·.push (Value.ref h.objs.size)) >>= _) _ _ _); refine wpAny_bind ?_
    refine wpAny_updateSeq hS' rfl (wpAny_pure ⟨plainId_quiet PySem.F.plain_extend_loop _, ih (i + 1) _ tk' _ (acc.push (Value.ref h.objs.size)) (as ++ [h.objs.size]) (by omega) lt (hst'.keep D1 D2 sp up)
      (fun b o q e => up b o q.1 (hkp b o q.2 (hkeep b o q e))) (Heap.get?_update_self _ hS' rfl) (by rw [Array.toList_push, hacc, List.map_append]; rfl) (by rw [List.length_append, hal]; rfl) ⟨?_, ?_, ?_⟩⟩) (by rw [hsz]; omega) (by show (acc.push (Value.ref h.objs.size)).size ≤ sizeLine + 1; rw [Array.size_push, hsz]; omega)
    · refine List.pairwise_append.mpr ⟨hG.rise, List.pairwise_singleton _ _, fun a ha b hb => ?_⟩
      rw [List.mem_singleton.mp hb]; exact hG.there ha
    · intro a ha
      rcases List.mem_append.mp ha with ha | ha
      · exact hG.above a ha
      · rw [List.mem_singleton.mp ha]; exact hSl
    · intro j b hj
      rcases Nat.lt_trichotomy j as.length with q | q | q
      · rw [List.getElem?_append_left q] at hj
        obtain ⟨x, y, e1, e2, e3⟩ := hG.pairs j b hj
        have hb := hG.above b (List.mem_of_getElem? hj)
        exact ⟨x, y, e1, e2, up b _ (Nat.ne_of_gt hb) (hkp b _ (hi b hb) e3)⟩
      · subst q
        have hb : h.objs.size = b := by simpa using hj
        subst hb
        exact ⟨x1, x2, by rw [hal]; exact p1, by rw [hal]; exact p2, up _ _ (Nat.ne_of_gt hSl) hN⟩
      · have no : (as ++ [h.objs.size])[j]? = none := List.getElem?_eq_none (by rw [List.length_append, List.length_singleton]; omega)
        rw [no] at hj; cases hj
end
end Lz

set_option Elab.async false
set_option linter.all false
set_option maxRecDepth 100000
set_option maxHeartbeats 4000000
namespace Lz
open PySem PySem.Spec PyProof.Rows L2 PySem.W
theorem zip_no_len : typeLookup (.type "zip") "__len__" = pure none := am_miss_of_fast (by decide +kernel)
theorem zip_no_hint : typeLookup (.type "zip") "__length_hint__" = pure none := am_miss_of_fast (by decide +kernel)
section
variable {prog : Program} {w : World} {A : Around} {E : Value → Shared → Prop} {s : Shared} {R : Result → Shared → Prop} {z TI TO i1 i2 S : Addr} {fp1 fp2 : List Addr} {n n1 n2 : Nat} {P1 P2 : Nat → Value → Prop} {St1 St2 : Nat → Heap → Prop}
theorem zl_hint (hT : s.TypeIs (.ref z) "zip") {Q : Bool → Shared → Prop} (h : Q true s) : wpAny (model prog w) A (Builtin.List.listLengthHint (.ref z)) Q E s := by
  unfold Builtin.List.listLengthHint
  refine wpAny_bind (wpAny_specialOf hT zip_no_len ?_)
  exact wpAny_bind (wpAny_specialOf hT zip_no_hint (wpAny_pure h))
/-- what a list that is filled by the zip asks and gives -/
theorem zl_extend (en : n = min n1 n2) (sz : ZipSep2 z TI TO i1 i2 fp1 fp2) (sp : Sep z TI TO i1 i2 S fp1 fp2) (D1 : Draws prog w A.in1.in1 i1 fp1 n1 P1 St1) (D2 : Draws prog w A.in1.in1 i2 fp2 n2 P2 St2) (lz : z < S) (lT : TO < S) (li1 : i1 < S) (li2 : i2 < S) (hn : n ≤ sizeLine) (res : Value) (c₀ : Nat)
    (hz : IsZip s.heap z TI TO .none) (hst : ZSt z TI TO i1 i2 S St1 St2 0 s.heap) (hS : s.heap.get? S = some { cls := .type "list", data := .seq #[] c₀ })
    (hR : ∀ h' tk acc c as, (∀ b o, b ≠ S ∧ b ≠ z ∧ b ≠ i1 ∧ b ≠ i2 ∧ b ≠ TO → s.heap.get? b = some o → h'.get? b = some o) → h'.get? S = some { cls := .type "list", dict := none, data := .seq acc c, slots := #[] } → as.length = n → Made P1 P2 S h' as →
      acc.toList = as.map Value.ref → R (.ok (.ret res)) { s with heap := h', toks := tk }) :
    wpAny (model prog w) A.in1 (Builtin.List.listExtendWith (.ref S) (.ref z) res)
      (fun fin s' => match fin with | .done f => R (.ok f) s' | .again c' => c'.quiet = true ∧ codeAny (model prog w) A c' R s') (fun e s' => R (.error e) s') s := by
  have nSz : S ≠ z := Nat.ne_of_gt lz
  have key : ∀ (h : Heap) (c₁ tk : Nat), (∀ b o, b ≠ S → s.heap.get? b = some o → h.get? b = some o) → h.get? S = some { cls := .type "list", data := .seq #[] c₁ } →
      codeAny (model prog w) A (.builtin "list.extend.loop" ⟨[.ref S, .ref z, res], []⟩) R { s with heap := h, toks := tk } := fun h c₁ tk hk hS₁ =>
    zl_loop (s := s) (h₁ := s.heap) en sz sp D1 D2 lz lT li1 li2 hn res hR n 0 h tk c₁ #[] [] (Nat.sub_zero _) (Nat.zero_le _) (hst.keep D1 D2 sp hk) (fun b o q e => hk b o q.1 e) hS₁ rfl rfl ⟨List.Pairwise.nil, (fun _ ha => nomatch ha), (fun j a hj => by simp at hj)⟩
  unfold Builtin.List.listExtendWith
  have hT : s.TypeIs (.ref z) "zip" := ⟨_, hz, rfl⟩
  refine wpAny_bind (wpAny_typeOf (T := "zip") hT ?_)
  have q1 : Builtin.List.listSameRef (.ref S) (.ref z) = false := by simp [Builtin.List.listSameRef, nSz]
  have q2 : (Value.type "zip" == Value.type "list") = false := by decide
  have q3 : (Value.type "zip" == Value.type "tuple") = false := by decide
  simp only [q1, q2, q3, Bool.or_false, Bool.false_eq_true, if_false]
  refine wpAny_bind (wpAny_pyIter_zip hz ?_)
  refine wpAny_bind (wpAny_holding (zl_hint hT ?_))
  refine wpAny_ite_split (fun _ => ?_) (fun _ => wpAny_pure ⟨plainId_quiet PySem.F.plain_extend_loop _, key _ c₀ _ (fun b o _ e => e) hS⟩)
  refine wpAny_bind (wpAny_rule (wpAny_bind ?_)); (show wpAny _ _ (updateSeq S (·.push .none) >>= fun _ => updateSeq S (·.pop)) _ _ _)
  refine wpAny_bind (wpAny_updateSeq hS rfl ?_)
  have hS₂ := Heap.get?_update_self (Obj.mapSeq (·.push Value.none)) hS rfl
  refine wpAny_updateSeq (hz := by seq_fits) hS₂ rfl ?_
  have hS₃ := Heap.get?_update_self (Obj.mapSeq (·.pop)) hS₂ rfl
  exact wpAny_pure ⟨plainId_quiet PySem.F.plain_extend_loop _, key _ _ _ (fun b o hb e => (Heap.get?_update_other _ _ (Ne.symm hb)).trans ((Heap.get?_update_other _ _ (Ne.symm hb)).trans e)) hS₃⟩
theorem zl_init (en : n = min n1 n2) (sz : ZipSep2 z TI TO i1 i2 fp1 fp2) (sp : Sep z TI TO i1 i2 S fp1 fp2) (D1 : Draws prog w A.in1.in1 i1 fp1 n1 P1 St1) (D2 : Draws prog w A.in1.in1 i2 fp2 n2 P2 St2) (lz : z < S) (lT : TO < S) (li1 : i1 < S) (li2 : i2 < S) (hn : n ≤ sizeLine)
    (hz : IsZip s.heap z TI TO .none) (hst : ZSt z TI TO i1 i2 S St1 St2 0 s.heap) (hS : s.heap.get? S = some { cls := .type "list", data := .seq #[] })
    (hR : ∀ h' tk acc c as, (∀ b o, b ≠ S ∧ b ≠ z ∧ b ≠ i1 ∧ b ≠ i2 ∧ b ≠ TO → s.heap.get? b = some o → h'.get? b = some o) → h'.get? S = some { cls := .type "list", dict := none, data := .seq acc c, slots := #[] } → as.length = n → Made P1 P2 S h' as →
      acc.toList = as.map Value.ref → R (.ok (.ret .none)) { s with heap := h', toks := tk }) :
    wpAny (model prog w) A.in1 (Builtin.«list.__init__» ⟨[.ref S, .ref z], []⟩)
      (fun fin s' => match fin with | .done f => R (.ok f) s' | .again c' => c'.quiet = true ∧ codeAny (model prog w) A c' R s') (fun e s' => R (.error e) s') s := by
  show wpAny _ _ (do let old ← Builtin.List.listItems (.ref S); Builtin.List.listUpdate (.ref S) (fun _ => #[]); letGo old.toList.reverse; Builtin.List.listExtendWith (.ref S) (.ref z) .none) _ _ s
  refine wpAny_bind ?_
  unfold Builtin.List.listItems
  refine wpAny_bind (wpAny_seqItems hS rfl (wpAny_pure ?_)); (show wpAny _ _ (updateSeq S (fun _ => #[]) >>= fun _ => letGo (#[] : Array Value).toList.reverse >>= fun _ => Builtin.List.listExtendWith (.ref S) (.ref z) .none) _ _ s)
  refine wpAny_bind (wpAny_updateSeq hS rfl ?_)
  have hS₂ := Heap.get?_update_self (Obj.mapSeq (fun _ => (#[] : Array Value))) hS rfl
  have oth : ∀ b o, b ≠ S → s.heap.get? b = some o → (s.heap.update S (Obj.mapSeq (fun _ => (#[] : Array Value)))).get? b = some o := fun b o hb e => (Heap.get?_update_other _ _ (Ne.symm hb)).trans e
  refine wpAny_bind (wpAny_letGo ?_)
  exact zl_extend en sz sp D1 D2 lz lT li1 li2 hn .none _ (oth _ _ sp.z hz) (hst.keep D1 D2 sp oth) hS₂ fun h' tk acc c as hk hS' hl hG hacc => hR h' tk acc c as (fun b o q e => hk b o q (oth b o q.1 e)) hS' hl hG hacc
theorem zl_call {Q : Value → Shared → Prop} (en : n = min n1 n2) (sz : ZipSep2 z TI TO i1 i2 fp1 fp2) (D1 : Draws prog w A.in1.in1.in1 i1 fp1 n1 P1 St1) (D2 : Draws prog w A.in1.in1.in1 i2 fp2 n2 P2 St2) (hn : n ≤ sizeLine) (f1 : ∀ b ∈ fp1, b < s.heap.objs.size) (f2 : ∀ b ∈ fp2, b < s.heap.objs.size)
    (hz : IsZip s.heap z TI TO .none) (hTI : IsTupOf2 s.heap TI (.ref i1) (.ref i2)) (hTO : ∃ a b, IsTupOf2 s.heap TO a b) (st1 : St1 0 s.heap) (st2 : St2 0 s.heap)
    (hQ : ∀ h' tk acc c as, (∀ b o, b ≠ z ∧ b ≠ i1 ∧ b ≠ i2 ∧ b ≠ TO → s.heap.get? b = some o → h'.get? b = some o) → h'.get? s.heap.objs.size = some { cls := .type "list", dict := none, data := .seq acc c, slots := #[] } → as.length = n → Made P1 P2 s.heap.objs.size h' as →
      acc.toList = as.map Value.ref → Q (.ref s.heap.objs.size) { s with heap := h', toks := tk }) :
    wpAny (model prog w) A (call (.type "list") [.ref z]) Q E s := by
  refine callType_codes (Q₁ := fun obj s₁ => obj = .ref s.heap.objs.size ∧ s₁ = { s with heap := s.heap.push { cls := .type "list", data := .seq #[] } }) PySem.F.called_list (PySem.F.typeCall_list_1 _) PySem.F.entry_list_init (code_list_new _ ⟨rfl, rfl⟩) fun obj s₁ h₁ => ?_
  obtain ⟨rfl, rfl⟩ := h₁
  have hS : (s.heap.push { cls := .type "list", data := .seq #[] }).get? s.heap.objs.size = some { cls := .type "list", data := .seq #[] } := Heap.get?_push_size _ rfl
  have up : ∀ b o, s.heap.get? b = some o → (s.heap.push { cls := .type "list", data := .seq #[] }).get? b = some o := fun b o e => Heap.get?_push_of_some _ e
  obtain ⟨a, b, hO⟩ := hTO
  have l1 : i1 < s.heap.objs.size := f1 _ sz.mem1
  have l2 : i2 < s.heap.objs.size := f2 _ sz.mem2
  refine ⟨⟨_, hS, rfl⟩, PySem.F.args_list_init_2 _ _, zl_init (A := A.in1) en sz ⟨Nat.ne_of_lt (Heap.lt_size hz), Nat.ne_of_lt (Heap.lt_size hTI), Nat.ne_of_lt (Heap.lt_size hO), fun h => Nat.lt_irrefl _ (f1 _ h), fun h => Nat.lt_irrefl _ (f2 _ h)⟩ D1 D2 (Heap.lt_size hz) (Heap.lt_size hO) l1 l2 hn (up _ _ hz)
    ⟨up _ _ hTI, D1.frame _ _ _ st1 fun b _ o e => up b o e, D2.frame _ _ _ st2 fun b _ o e => up b o e, .inl ⟨up _ _ hz, a, b, up _ _ hO⟩⟩ hS fun h' tk acc c as hk hS' hl hG hacc => ?_⟩
  exact ⟨rfl, hQ h' tk acc c as (fun b o q e => hk b o ⟨Nat.ne_of_lt (Heap.lt_size e), q⟩ (up b o e)) hS' hl hG hacc⟩
end
end Lz

set_option Elab.async false
set_option linter.all false
set_option maxRecDepth 100000
set_option maxHeartbeats 4000000
namespace Lz
open PySem PySem.Spec PyProof.Rows L2 PySem.W
/-- pairs tracked at their addresses -/
def putP : Hp → List Addr → List (V × V) → Hp
  | H, a :: as, p :: ps => putP (upd H a (.tup [p.1, p.2])) as ps
  | H, _, _ => H
theorem putP_off {b : Addr} : ∀ (as : List Addr) (ps : List (V × V)) (H : Hp), b ∉ as → putP H as ps b = H b
  | [], _, _, _ => rfl
  | _ :: _, [], _, _ => rfl
  | a :: as, p :: ps, H, h => by
    show putP (upd H a (.tup [p.1, p.2])) as ps b = H b
    rw [putP_off as ps _ (fun q => h (List.mem_cons_of_mem _ q)), upd_ne (fun q => h (by rw [q]; exact List.mem_cons_self))]
theorem putP_at : ∀ (as : List Addr) (ps : List (V × V)) (H : Hp), as.Nodup → ∀ (j : Nat) (t : Addr) (p : V × V), as[j]? = some t → ps[j]? = some p → putP H as ps t = some (.tup [p.1, p.2])
  | [], _, _, _, j, t, p, h, _ => by cases h
  | _ :: _, [], _, _, j, t, p, _, h => by cases h
  | a :: as, q :: ps, H, nd, 0, t, p, h, g => by
    have nd' := List.nodup_cons.mp nd
    cases h
    cases g
    show putP (upd H a (.tup [q.1, q.2])) as ps a = _
    rw [putP_off as ps _ nd'.1, upd_same]
  | a :: as, q :: ps, H, nd, j + 1, t, p, h, g => putP_at as ps _ (List.nodup_cons.mp nd).2 j t p h g
theorem vals_as : ∀ as : List Addr, Vals (as.map V.ref) (as.map Value.ref)
  | [] => .nil
  | _ :: as => .cons rfl (vals_as as)
/-- what list(zip(a, b)) leaves -/
def Zipped (H : Hp) (xs ys : List V) (p : Addr) (ts : List Addr) (H' : Hp) : Prop :=
  Same H H' ∧ H p = none ∧ (∀ t ∈ ts, H t = none) ∧ p ∉ ts ∧ H' p = some (.lst (ts.map V.ref)) ∧ ts.length = xs.length ∧ ∀ (j : Nat) (t : Addr), ts[j]? = some t → ∃ x y, xs[j]? = some x ∧ ys[j]? = some y ∧ H' t = some (.tup [x, y])
def tListZip (K : PySem.W.Frag) (ta : TA) : TE := fun σ H Q => ta σ H fun vs H1 => ∃ a b xs ys, vs = [.ref a, .ref b] ∧ ((SqT K H1 a xs ∧ SqT K H1 b ys) ∨ (SqL K H1 a xs ∧ SqL K H1 b ys)) ∧ xs.length = ys.length ∧
  ∀ H' p ts, Zipped H1 xs ys p ts H' → Q (.ref p) H'
section
variable {X : Cx} {pins : List (Addr × Obj)} {σ : L2.St} {H : Hp} {s : Shared}
theorem zips_laid {S : Addr} {h' : Heap} {tk : Nat} {xs ys : List V} {us ws : List Value} {acc : Array Value} {c : Nat} {as : List Addr} (I : Inv X pins σ H s) (hS0 : s.heap.objs.size ≤ S) (hz : xs.length ≤ sizeLine) (hxy : xs.length = ys.length) (r1 : Vals xs us) (r2 : Vals ys ws)
    (hk : ∀ b o, s.heap.get? b = some o → h'.get? b = some o) (hS : h'.get? S = some { cls := .type "list", dict := none, data := .seq acc c, slots := #[] }) (hl : as.length = xs.length) (hG : Made (fun i v => us.toArray[i]? = some v) (fun i v => ws.toArray[i]? = some v) S h' as) (hacc : acc.toList = as.map Value.ref) :
    ∃ H', Zipped H xs ys S as H' ∧ Inv X pins σ H' { s with heap := h', toks := tk } := by
  have nS : S ∉ as := fun q => Nat.lt_irrefl _ (hG.above _ q)
  have nd : as.Nodup := List.Pairwise.imp (fun {a b} (h : a < b) => Nat.ne_of_lt h) hG.rise
  have new : ∀ t ∈ as, H t = none := fun t ht => I.hok.fresh (Nat.le_trans hS0 (Nat.le_of_lt (hG.above t ht)))
  have newS : H S = none := I.hok.fresh hS0
  have lp : (xs.zip ys).length = xs.length := by rw [List.length_zip]; omega
  have off : ∀ b, b ∉ as → b ≠ S → putP (upd H S (.lst (as.map V.ref))) as (xs.zip ys) b = H b := fun b h1 h2 => by rw [putP_off as _ _ h1, upd_ne h2]
  have low : ∀ b o, s.heap.get? b = some o → b ∉ as ∧ b ≠ S := fun b o e => ⟨fun q => absurd (Heap.lt_size e) (Nat.not_lt.mpr (Nat.le_trans hS0 (Nat.le_of_lt (hG.above b q)))), Nat.ne_of_lt (Nat.lt_of_lt_of_le (Heap.lt_size e) hS0)⟩
  have kp : ∀ b u, H b = some u → (putP (upd H S (.lst (as.map V.ref))) as (xs.zip ys)) b = some u := fun b u e => by
    rw [off b (fun q => by rw [new b q] at e; cases e) (fun q => by rw [q, newS] at e; cases e)]
    exact e
  have eS : putP (upd H S (.lst (as.map V.ref))) as (xs.zip ys) S = some (.lst (as.map V.ref)) := by rw [putP_off as _ _ nS, upd_same]
  have atj : ∀ (j : Nat) (t : Addr), as[j]? = some t → ∃ x y, xs[j]? = some x ∧ ys[j]? = some y ∧ putP (upd H S (.lst (as.map V.ref))) as (xs.zip ys) t = some (.tup [x, y]) := fun j t e => by
    have hj : j < as.length := (List.getElem?_eq_some_iff.mp e).1
    have h1 : xs[j]? = some (xs[j]'(by omega)) := List.getElem?_eq_getElem _
    have h2 : ys[j]? = some (ys[j]'(by omega)) := List.getElem?_eq_getElem _
    exact ⟨_, _, h1, h2, putP_at as _ _ nd j t (_, _) e (List.getElem?_zip_eq_some.mpr ⟨h1, h2⟩)⟩
  refine ⟨putP (upd H S (.lst (as.map V.ref))) as (xs.zip ys), ⟨kp, newS, new, nS, eS, hl, atj⟩, ?_⟩
  refine I.call' (ch := []) rfl ⟨fun b o q _ _ _ => hk b o q, fun b o q _ _ _ => ⟨o.slots, hk b o q⟩, fun b o q n _ => ?_, fun b o q _ => ⟨o, hk b o q⟩, fun b xs q => kp b _ q, fun b o u q => kp b _ q, fun b ps q => ⟨#[], by rw [kp b _ q]; simp⟩⟩ (fun b u q => ?_) I.bare fun b q => by simp at q
  · obtain ⟨z1, z2⟩ := low b o q
    rw [off b z1 z2]
    exact n
  · by_cases hb : b ∈ as
    · obtain ⟨j, hj⟩ := List.mem_iff_getElem?.mp hb
      obtain ⟨x, y, e1, e2, e3⟩ := atj j b hj
      rw [e3] at q
      cases q
      obtain ⟨u, v, f1, f2, f3⟩ := hG.pairs j b hj
      obtain ⟨u', g1, g2⟩ := r1.get e1
      obtain ⟨v', k1, k2⟩ := r2.get e2
      have : u = u' := by
        have : us[j]? = some u := by simpa using f1
        rw [g1] at this
        exact (Option.some.inj this).symm
      subst this
      have : v = v' := by
        have : ws[j]? = some v := by simpa using f2
        rw [k1] at this
        exact (Option.some.inj this).symm
      subst this
      exact ⟨by show 2 ≤ sizeLine; decide, [u, v], .cons g2 (.cons k2 .nil), ⟨_, f3, rfl, _, rfl⟩⟩
    · by_cases hb2 : b = S
      · rw [hb2] at q ⊢
        rw [eS] at q
        cases q
        refine ⟨by rw [List.length_map]; omega, acc.toList, c, by rw [hacc]; exact vals_as as, ?_⟩
        rw [Array.toArray_toList]
        exact hS
      · rw [off b hb hb2] at q
        exact (I.hok b u q).stay (fun d v _ y => hk d v y) (fun d y => kp d _ y) fun d xs y => kp d _ y
variable {e e2 : Expr} {ta : TA} {p zp cpos pos : Pos}
theorem pe_listZip (hc : X.calm = true) (ha : PA X [e, e2] ta) (hg : Gl X "list") (hm : X.mg "list" = none) (hgz : Gl X "zip") (hmz : X.mg "zip" = none)
    (hs : starEach [.Call (.Name "zip" zp) [e, e2] [] cpos] X.env = (false, eval (.Call (.Name "zip" zp) [e, e2] [] cpos) X.env) :: starEach [] X.env := by rfl)
    (hs2 : starEach [e, e2] X.env = (false, eval e X.env) :: starEach [e2] X.env := by rfl) (hpl : (backTo cpos (starEach [e2] X.env)).any (·.1) = false := by rfl) :
    PE X (.Call (.Name "list" p) [.Call (.Name "zip" zp) [e, e2] [] cpos] [] pos) (tListZip X.K ta) := by
  refine ⟨fun pins s σ H Q I hq => wpAny_Call_Name_kw (ld_blt I hg hm PyProof.Rows.boot_list (PyProof.Rows.callWith_type1 ?_ hs rfl))⟩
  rw [hs]
  show wpAny _ _ (spliced ((false, eval (.Call (.Name "zip" zp) [e, e2] [] cpos) X.env) :: backTo pos (starEach [] X.env))) _ _ s
  refine Calls.spliced_cons (Call_ (ld_blt I hgz hmz PyProof.Rows.boot_zip (PyProof.Rows.callWith_type1 (thn (ha.run cpos pins s σ H _ I hq) fun us s1 ⟨vs, H1, I1, r1, q1⟩ => ?_) hs2 hpl)))
  obtain ⟨a, b, xs, ys, ex, hab, hl, q⟩ := q1
  subst ex
  obtain ⟨u1, u2, rfl, rx, ry⟩ := vals2 r1
  cases rx
  cases ry
  have hh := I1.ok.hd hc
  have ap : ∀ {v : Addr} {o : Obj}, s1.heap.get? v = some o → ∀ x ∈ [v], x < s1.heap.objs.size := fun e x hx => by rw [List.mem_singleton.mp hx]; exact Heap.lt_size e
  have fin : ∀ (h1 : Heap) (fp1 fp2 : List Addr) (us ws : List Value) (St1 St2 : Nat → Heap → Prop), xs.length ≤ sizeLine → Vals xs us → Vals ys ws → (∀ c ∈ fp1, c < s1.heap.objs.size) → (∀ c ∈ fp2, c < s1.heap.objs.size) →
      (∀ A : Around, A.handled = none → Draws X.prog X.w A s1.heap.objs.size (s1.heap.objs.size :: fp1) us.toArray.size (fun i v => us.toArray[i]? = some v) St1) → (∀ A : Around, A.handled = none → Draws X.prog X.w A (s1.heap.objs.size + 1) ((s1.heap.objs.size + 1) :: fp2) ws.toArray.size (fun i v => ws.toArray[i]? = some v) St2) →
      IsZip h1 (s1.heap.objs.size + 4) (s1.heap.objs.size + 2) (s1.heap.objs.size + 3) .none → IsTupOf2 h1 (s1.heap.objs.size + 2) (.ref s1.heap.objs.size) (.ref (s1.heap.objs.size + 1)) → IsTupOf2 h1 (s1.heap.objs.size + 3) .none .none → h1.objs.size = s1.heap.objs.size + 5 →
      (∀ c o, s1.heap.get? c = some o → h1.get? c = some o) → St1 0 h1 → St2 0 h1 → wpAny (model X.prog X.w) X.A (call (.type "list") [.ref (s1.heap.objs.size + 4)]) (EP X pins σ Q) X.xe { s1 with heap := h1 } := by
    intro h1 fp1 fp2 us ws St1 St2 hz rv1 rv2 f1 f2 D1 D2 hZ hTI hTO hsz hk st1 st2
    have b1 := rv1.length
    have b2 := rv2.length
    refine zl_call (n := xs.length) (by simp; omega) (zip_sep2 f1 f2) (D1 X.A.in1.in1.in1 hh) (D2 X.A.in1.in1.in1 hh) hz (fun c hc => ?_) (fun c hc => ?_) hZ hTI ⟨_, _, hTO⟩ st1 st2 fun h' tk acc c as hk' hS hl' hG hacc => ?_
    · rw [hsz]
      rcases List.mem_cons.mp hc with e | e
      · rw [e]; exact Nat.lt_add_of_pos_right (by decide)
      · exact Nat.lt_of_lt_of_le (f1 c e) (Nat.le_add_right _ _)
    · rw [hsz]
      rcases List.mem_cons.mp hc with e | e
      · rw [e]; exact Nat.add_lt_add_left (by decide) _
      · exact Nat.lt_of_lt_of_le (f2 c e) (Nat.le_add_right _ _)
    · have nw : ∀ b o, s1.heap.get? b = some o → h'.get? b = some o := fun b o e => hk' b o ⟨Nat.ne_of_lt (Nat.lt_of_lt_of_le (Heap.lt_size e) (Nat.le_add_right _ _)), Nat.ne_of_lt (Heap.lt_size e), Nat.ne_of_lt (Nat.lt_of_lt_of_le (Heap.lt_size e) (Nat.le_add_right _ _)), Nat.ne_of_lt (Nat.lt_of_lt_of_le (Heap.lt_size e) (Nat.le_add_right _ _))⟩ (hk b o e)
      obtain ⟨H', z, J⟩ := zips_laid (tk := tk) I1 (S := h1.objs.size) (by rw [hsz]; exact Nat.le_add_right _ _) hz hl rv1 rv2 nw hS hl' hG hacc
      exact ⟨.ref h1.objs.size, H', J, rfl, q H' _ as z⟩
  have N0 : ∀ c, c < s1.heap.objs.size → c ≠ s1.heap.objs.size ∧ c ≠ s1.heap.objs.size + 1 := fun c hc => ⟨Nat.ne_of_lt hc, by omega⟩
  rcases hab with ⟨h1, h2⟩ | ⟨h1, h2⟩
  · obtain ⟨us, rv1, p1, z1⟩ := I1.tuple h1
    obtain ⟨ws, rv2, p2, _⟩ := I1.tuple h2
    have la : a < s1.heap.objs.size := let ⟨_, e, _⟩ := p1; Heap.lt_size e
    have lb : b < s1.heap.objs.size := let ⟨_, e, _⟩ := p2; Heap.lt_size e
    refine zip_begins2 (begins_tuple a us.toArray) (begins_tuple b ws.toArray) p1 p2 fun h' hZ hTI hTO o1 o2 hsz hk => ?_
    refine Calls.spliced_nil ?_
    exact fin h' [a] [b] us ws _ _ z1 rv1 rv2 (by simpa using la) (by simpa using lb) (fun A hA => Draws.tuple hA _ a (N0 a la).1 us.toArray) (fun A hA => Draws.tuple hA _ b (N0 b lb).2 ws.toArray) hZ hTI hTO hsz hk ⟨⟨_, o1, rfl, rfl⟩, (let ⟨o, e, r⟩ := p1; ⟨o, hk _ o e, r⟩)⟩ ⟨⟨_, o2, rfl, rfl⟩, (let ⟨o, e, r⟩ := p2; ⟨o, hk _ o e, r⟩)⟩
  · obtain ⟨us, rv1, p1, z1⟩ := I1.list h1
    obtain ⟨ws, rv2, p2, _⟩ := I1.list h2
    refine zip_begins2 (begins_list a us.toArray) (begins_list b ws.toArray) p1.isList p2.isList fun h' hZ hTI hTO o1 o2 hsz hk => ?_
    refine Calls.spliced_nil ?_
    exact fin h' [a] [b] us ws _ _ z1 rv1 rv2 (by simpa using p1.lt) (by simpa using p2.lt) (fun A hA => Draws.list hA _ a (N0 a p1.lt).1 us.toArray) (fun A hA => Draws.list hA _ b (N0 b p2.lt).2 ws.toArray) hZ hTI hTO hsz hk ⟨⟨_, o1, rfl, rfl⟩, p1.isList.at fun o e => hk _ o e⟩ ⟨⟨_, o2, rfl, rfl⟩, p2.isList.at fun o e => hk _ o e⟩
end
end Lz

set_option Elab.async false
set_option linter.all false
set_option maxRecDepth 100000
set_option maxHeartbeats 4000000
/-! name = {k: v for ..} as a statement; its reading over a walk -/
namespace Sd
open PySem PySem.Spec PyProof.Rows L2
section
variable {X : Cx}
theorem ps_setDc {i : Nat} {y : Str} {py : Pos} {kx vx tg iter : Expr} {ifs : List Expr} {scope : Scope} {own : List (Str × Nat)} {pos spos : Pos} {wi : TI} {g : TG} {tt : TT} {tk tv : TE} (hc : X.calm = true) (hN : X.N.Nodup) (hy : X.N[i]? = some y) (hyl : X.env.scope.names.lookup y = some .local)
    (hsw : swapsWith (.DictComp kx vx [⟨tg, iter, ifs, 0⟩] scope pos) (some (.Name y py)) spos.line X.env = pure true) (hi : PI X tg iter wi) (ok : BlkOk X.N X.env.scope scope own)
    (hg : ∀ (s : Shared) (H : Hp) (C : Addr) (cl : List (Str × Addr)) (fp : List Addr), PG (X.blk s H scope (compEnvC scope cl C X.env) fp) tg g) (ht : ∀ (s : Shared) (H : Hp) (C : Addr) (cl : List (Str × Addr)) (fp : List Addr), PTs (X.blk s H scope (compEnvC scope cl C X.env) fp) ifs tt)
    (hk : ∀ (s : Shared) (H : Hp) (C : Addr) (cl : List (Str × Addr)) (fp : List Addr), PE (X.blk s H scope (compEnvC scope cl C X.env) fp) kx tk) (he : ∀ (s : Shared) (H : Hp) (C : Addr) (cl : List (Str × Addr)) (fp : List Addr), PE (X.blk s H scope (compEnvC scope cl C X.env) fp) vx tv)
    (hs : ∀ x, foldedSetIterable iter X.env x = pure x := by intro _; rfl) : PS X (.Assign [.Name y py] (.DictComp kx vx [⟨tg, iter, ifs, 0⟩] scope pos) spos) (tAsg (tDc wi g tt tk tv (own.map (·.2))) (gName i)) := by
  refine ⟨fun pins s σ H D I h => ?_⟩
  rw [exec_Assign_Name_used _ _ _ _ hsw]; refine wpAny_bind (wpAny_standAt (wpAny_bind ?_))
  show wpAny _ X.A (do let _ ← comprehension (.DictComp kx vx [⟨tg, iter, ifs, 0⟩] scope pos) scope X.env (firstIterPos [⟨tg, iter, ifs, 0⟩] pos) newDict false (eval iter X.env) (some (assign (.Name y py) X.env))) _ _ s
  have h : tDc wi g tt tk tv (own.map (·.2)) σ H (fun x H1 => gName i x σ H1 D.nx) := h
  refine wpAny_bind (thn (dc_core (Qf := fun _ s' => SP X pins D .next s') hc hN I hi ok hg ht hk he hs h fun L C s' m H' I' q hn f => ?_) fun _ s' hq => wpAny_pure (wpAny_pure hq))
  (show wpAny _ _ (assign (.Name y py) X.env (.ref L)) _ _ _); refine wpAny_assign_Name (store_ok2 (v := V.ref L) I' hN hy (.inl hyl) rfl (fun s2 I2 ⟨a, sb, ha⟩ => ?_) (.inr hyl))
  obtain ⟨f0, f1, f2, f3, f4, f5⟩ := f
  have hne : C ≠ a := ha.elim (fun z => by rw [z]; exact f1) fun z e => f4 y a z e.symm
  exact ⟨m, hn.sameBut sb hne, fun h3 sb3 => ⟨_, H', I2.turned (t' := s2.toks) (fun b o hb e => (sb3.2 b hb).trans e) f0 f1 f3 f4 f5, q⟩⟩
theorem sw_trueD {kx vx : Expr} {gs : List Comprehension} {scope : Scope} {pos py : Pos} {y : Str} {l : Nat} {env : Env} (hk : env.scope.kind = .function) (hy : env.scope.names.lookup y = some .local) (hl : (py.line == pos.line) = true)
    (ha : (scope.names.any fun (n, k) => n == y && (k == .local || k == .cell)) = false) : swapsWith (.DictComp kx vx gs scope pos) (some (.Name y py)) l env = pure true := by
  have ky : env.kindOf y = some .local := hy
  have hb : env.blockKind = .function := by unfold Env.blockKind; rw [hk]; rfl
  unfold swapsWith
  simp only [hb, ky, ha, Expr.pos, hl]; rfl
end
/-- over anything that is walked -/
theorem dc_it {J : It} {n : Nat} {G : Hp → Prop} {Y : Nat → Hp → V → Hp → Prop} (w : Walk J n G Y) {g : TG} {tt : TT} {tk tv : TE} {vs : List Nat} {σ : L2.St} {H1 : Hp} {D : Addr} {Qd : Hp → Prop} (Pv : Nat → Hp → Prop) (h0 : Pv 0 (upd H1 D (.dK []))) (hG : ∀ i H, i ≤ n → Pv i H → G H)
    (hs : ∀ i x H H', i < n → Pv i H → Y i H x H' → g x (wipe σ vs) H' fun σ2 H2 => wipe σ2 vs = wipe σ vs ∧ tt σ2 H2 fun b H3 =>
      if b = true then tk σ2 H3 fun y H4 => tv σ2 H4 fun z H5 => ∃ kvs k, y = kV k ∧ H5 D = some (.dK kvs) ∧ kvs.length < sizeLine ∧ Pv (i + 1) (upd H5 D (.dK (putK kvs k z))) else Pv (i + 1) H3) (hd : ∀ H, Pv n H → Qd H) :
    ∃ W : Nat → Nat → Hp → Prop, (∃ m, W 0 m (upd H1 D (.dK []))) ∧ ∀ i m H, W i m H →
      (J.stop i H ∧ Qd H) ∨ (J.go i H ∧ ∃ Nx : Hp → Prop, (∀ H', Nx H' → ∃ m', m' < m ∧ W (i + 1) m' H') ∧ ∀ x H', J.yld i H x H' → g x (wipe σ vs) H' fun σ2 H2 => wipe σ2 vs = wipe σ vs ∧ tt σ2 H2 fun b H3 =>
        if b = true then tk σ2 H3 fun y H4 => tv σ2 H4 fun z H5 => ∃ kvs k, y = kV k ∧ H5 D = some (.dK kvs) ∧ kvs.length < sizeLine ∧ Nx (upd H5 D (.dK (putK kvs k z))) else Nx H3) := by
  refine ⟨fun i m H => m = n - i ∧ i ≤ n ∧ Pv i H, ⟨n, (Nat.sub_zero n).symm, Nat.zero_le _, h0⟩, ?_⟩
  rintro i m H ⟨rfl, hi, p⟩
  rcases Nat.lt_or_ge i n with lt | ge
  · exact .inr ⟨w.goes i H lt (hG i H hi p), Pv (i + 1), fun H' p' => ⟨n - (i + 1), by omega, rfl, lt, p'⟩, fun x H' y => hs i x H H' lt p (w.yields i H x H' lt (hG i H hi p) y)⟩
  · have e : i = n := by omega
    subst e
    exact .inl ⟨w.stops H (hG i H hi p), hd H p⟩
end Sd

set_option Elab.async false
set_option linter.all false
set_option maxRecDepth 100000
set_option maxHeartbeats 4000000
/-! data as the program's equal goes through it -/
namespace Dq
open PySem PySem.Spec PyProof.Rows L2
inductive DV (OB : Type) where
  | non
  | bl (b : Bool)
  | int (i : Int)
  | str (s : Str)
  | ob (o : OB)
  | tup (l : List (DV OB))
  | lst (l : List (DV OB))
  | map (ks : List Str) (l : List (DV OB))
/-- objects with an own ==: where one stands, its class, what == answers of two of one class -/
structure Obs (OB : Type) where
  At : Hp → OB → V → Prop
  cls : OB → Addr
  eq : OB → OB → Bool
variable {OB : Type}
mutual
def Dv (O : Obs OB) (H : Hp) : DV OB → V → Prop
  | .non, v => v = .non
  | .bl b, v => v = .bl b
  | .int i, v => v = .int i
  | .str s, v => v = .str s
  | .ob o, v => O.At H o v
  | .tup l, v => ∃ a us, v = .ref a ∧ H a = some (.tup us) ∧ DvL O H l us
  | .lst l, v => ∃ a us, v = .ref a ∧ H a = some (.lst us) ∧ DvL O H l us
  | .map ks l, v => ∃ a kvs, v = .ref a ∧ H a = some (.dK kvs) ∧ ks.Nodup ∧ kvs.map (·.1) = ks.map Sum.inr ∧ DvL O H l (kvs.map (·.2))
def DvL (O : Obs OB) (H : Hp) : List (DV OB) → List V → Prop
  | [], us => us = []
  | x :: l, us => ∃ u us', us = u :: us' ∧ Dv O H x u ∧ DvL O H l us'
end
/-- what is kept at the key -/
def look : List Str → List (DV OB) → Str → Option (DV OB)
  | k :: ks, x :: l, z => if z = k then some x else look ks l z
  | _, _, _ => none
mutual
def eqD (O : Obs OB) : DV OB → DV OB → Bool
  | .non, .non => true
  | .bl a, .bl b => decide (a = b)
  | .int a, .int b => decide (a = b)
  | .str a, .str b => decide (a = b)
  | .ob a, .ob b => decide (O.cls a = O.cls b) && O.eq a b
  | .tup l, .tup m => eqL O l m
  | .lst l, .lst m => eqL O l m
  | .map ks l, .map js m => decide (ks.length = js.length) && eqM O ks l js m
  | _, _ => false
def eqL (O : Obs OB) : List (DV OB) → List (DV OB) → Bool
  | [], [] => true
  | x :: l, y :: m => eqD O x y && eqL O l m
  | _, _ => false
def eqM (O : Obs OB) (ks : List Str) : List (DV OB) → List Str → List (DV OB) → Bool
  | [], _, _ => true
  | x :: l, js, m => (match ks with | k :: _ => (match look js m k with | some y => eqD O x y | none => false) | [] => true) && eqM O (ks.drop 1) l js m
end
mutual
/-- how many pairs the way through a value can have at most -/
def wt : DV OB → Nat
  | .tup l => 1 + wtL l
  | .lst l => 1 + wtL l
  | .map ks l => 1 + ks.length + wtL l
  | _ => 1
def wtL : List (DV OB) → Nat
  | [] => 0
  | x :: l => wt x + wtL l
end
end Dq

set_option Elab.async false
set_option linter.all false
set_option maxRecDepth 100000
set_option maxHeartbeats 4000000
namespace Dq
open PySem PySem.Spec PyProof.Rows L2
structure ObsOk {OB : Type} (K : PySem.W.Frag) (O : Obs OB) : Prop where
  keep : ∀ {H H' : Hp} {o : OB} {v : V}, Same H H' → O.At H o v → O.At H' o v
  ins : ∀ {H : Hp} {o : OB} {v : V}, O.At H o v → ∃ a dx fs, v = .ref a ∧ H a = some (.ins (O.cls o) dx fs)
  insC : ∀ o, C8.InsC K (O.cls o)
  kT : ∀ o T, T ∈ ["list", "dict", "tuple"] → PySem.W.kitOne K (.ref (O.cls o)) (.type T) = some false
  makes : ∀ o, PySem.W.makesIn K (O.cls o) = true
variable {OB : Type} {O : Obs OB} {K : PySem.W.Frag}
mutual
theorem Dv.keep (ok : ObsOk K O) {H H' : Hp} (k : Same H H') : ∀ (x : DV OB) (v : V), Dv O H x v → Dv O H' x v
  | .non, _, h => h
  | .bl _, _, h => h
  | .int _, _, h => h
  | .str _, _, h => h
  | .ob _, _, h => ok.keep k h
  | .tup l, _, ⟨a, us, e, h, p⟩ => ⟨a, us, e, k _ _ h, DvL.keep ok k l us p⟩
  | .lst l, _, ⟨a, us, e, h, p⟩ => ⟨a, us, e, k _ _ h, DvL.keep ok k l us p⟩
  | .map _ l, _, ⟨a, kvs, e, h, nd, hk, p⟩ => ⟨a, kvs, e, k _ _ h, nd, hk, DvL.keep ok k l _ p⟩
theorem DvL.keep (ok : ObsOk K O) {H H' : Hp} (k : Same H H') : ∀ (l : List (DV OB)) (us : List V), DvL O H l us → DvL O H' l us
  | [], _, h => h
  | x :: l, _, ⟨u, us, e, h, p⟩ => ⟨u, us, e, Dv.keep ok k x u h, DvL.keep ok k l us p⟩
end
theorem DvL.len {H : Hp} : ∀ {l : List (DV OB)} {us : List V}, DvL O H l us → us.length = l.length
  | [], _, h => by cases h; rfl
  | x :: l, _, ⟨u, us, e, _, p⟩ => by subst e; exact congrArg (· + 1) (DvL.len p)
theorem DvL.at {H : Hp} : ∀ {l : List (DV OB)} {us : List V}, DvL O H l us → ∀ {i : Nat} {x : DV OB} {u : V}, l[i]? = some x → us[i]? = some u → Dv O H x u
  | [], _, h, i, x, u, e, _ => by cases e
  | y :: l, _, ⟨w, us, rfl, h, p⟩, 0, x, u, e, f => by cases e; cases f; exact h
  | y :: l, _, ⟨w, us, rfl, h, p⟩, i + 1, x, u, e, f => DvL.at (l := l) p (i := i) (by simpa using e) (by simpa using f)
/-- a value's class -/
def tyD (O : Obs OB) : DV OB → V
  | .non => .ty "NoneType"
  | .bl _ => .ty "bool"
  | .int _ => .ty "int"
  | .str _ => .ty "str"
  | .ob o => .ref (O.cls o)
  | .tup _ => .ty "tuple"
  | .lst _ => .ty "list"
  | .map _ _ => .ty "dict"
def tyU (O : Obs OB) : DV OB → Value
  | .non => .type "NoneType"
  | .bl _ => .type "bool"
  | .int _ => .type "int"
  | .str _ => .type "str"
  | .ob o => .ref (O.cls o)
  | .tup _ => .type "tuple"
  | .lst _ => .type "list"
  | .map _ _ => .type "dict"
def isSeq : DV OB → Bool
  | .tup _ => true
  | .lst _ => true
  | _ => false
def isMap : DV OB → Bool
  | .map _ _ => true
  | _ => false
theorem Dv.ty (ok : ObsOk K O) {H : Hp} {x : DV OB} {v : V} (h : Dv O H x v) : TyX K H v (tyU O x) := by
  cases x with
  | non => cases h; exact .base .non
  | bl b => cases h; exact .base (.bl b)
  | int i => cases h; exact .base (.int i)
  | str s => cases h; exact .base (.str s)
  | ob o =>
    obtain ⟨a, dx, fs, rfl, e⟩ := ok.ins h
    have U := ok.insC o
    exact .base (.ins e U.cl U.ha U.hn U.htk U.hm)
  | tup l => obtain ⟨a, us, rfl, e, _⟩ := h; exact .base (.tup e)
  | lst l => obtain ⟨a, us, rfl, e, _⟩ := h; exact .base (.lst e)
  | map ks l => obtain ⟨a, us, rfl, e, _⟩ := h; exact .base (.dK e)
theorem kit_tab2 : ∀ a ∈ ["NoneType", "bool", "int", "str", "tuple", "list", "dict"], ∀ T ∈ ["list", "dict", "tuple"], kitB a T = some (a == T) := by decide +kernel
theorem kit_one (ok : ObsOk K O) (x : DV OB) {T : String} (hT : T ∈ ["list", "dict", "tuple"]) : PySem.W.kitOne K (tyU O x) (.type T) = some (decide (tyD O x = .ty T)) := by
  have go : ∀ a, a ∈ ["NoneType", "bool", "int", "str", "tuple", "list", "dict"] → PySem.W.kitOne K (.type a) (.type T) = some (decide (V.ty a = V.ty T)) := fun a ha => by
    have e : (a == T) = decide (V.ty a = V.ty T) := by rw [Bool.eq_iff_iff]; simp
    rw [← e]
    exact kit_ty (kit_tab2 a ha T hT)
  cases x with
  | ob o => simpa [tyU, tyD] using ok.kT o T hT
  | _ => exact go _ (by simp)
theorem kit_seq (ok : ObsOk K O) (x : DV OB) : PySem.W.kitAny K (tyU O x) [.type "tuple", .type "list"] = some (isSeq x) := by
  unfold PySem.W.kitAny
  rw [kit_one ok x (by simp)]
  unfold PySem.W.kitAny
  rw [kit_one ok x (by simp)]
  cases x <;> simp [tyD, isSeq, PySem.W.kitAny]
section
variable {X : Cx}
theorem call_isTL (ok : ObsOk X.K O) : CallR X (.builtin "isinstance") (fun xs H Q => ∃ v tp x, xs = [v, .ref tp] ∧ H tp = some (.tup [.ty "tuple", .ty "list"]) ∧ Dv O H x v ∧ Q (.bl (isSeq x)) H) := fun pins s σ H xs us Q I r ⟨v, tp, x, e, ht, h, q⟩ =>
  call_isiT pins s σ H xs us Q I r ⟨v, tp, _, tyU O x, [.type "tuple", .type "list"], isSeq x, e, ht, .cons (.ty _) (.cons (.ty _) .nil), h.ty ok, kit_seq ok x, q⟩
theorem call_isD (ok : ObsOk X.K O) : CallR X (.builtin "isinstance") (fun xs H Q => ∃ v x, xs = [v, .ty "dict"] ∧ Dv O H x v ∧ Q (.bl (isMap x)) H) := fun pins s σ H xs us Q I r ⟨v, x, e, h, q⟩ => by
  have : decide (tyD O x = .ty "dict") = isMap x := by cases x <;> simp [tyD, isMap]
  exact call_isi pins s σ H xs us Q I r ⟨v, .ty "dict", tyU O x, .type "dict", isMap x, e, .ty "dict", h.ty ok, by rw [← this]; exact kit_one ok x (by simp), q⟩
/-- type(x) -/
theorem call_tyD (ok : ObsOk X.K O) : CallR X (.type "type") (fun xs H Q => ∃ v x, xs = [v] ∧ Dv O H x v ∧ Q (tyD O x) H) := fun pins s σ H xs us Q I r ⟨v, x, e, h, q⟩ => by
  have go : ∀ T, TyB X.K H v T → tyD O x = .ty T → wpAny (model X.prog X.w) X.A (call (.type "type") us) (EP X pins σ Q) X.xe s := fun T t e2 => by
    rw [e2] at q
    exact call_type1 pins s σ H xs us Q I r ⟨v, T, e, t, q⟩
  cases x with
  | non => cases h; exact go _ .non rfl
  | bl b => cases h; exact go _ (.bl b) rfl
  | int i => cases h; exact go _ (.int i) rfl
  | str s => cases h; exact go _ (.str s) rfl
  | ob o =>
    obtain ⟨a, dx, fs, e3, ea⟩ := ok.ins h
    subst e3
    exact cr_type pins s σ H xs us Q I r ⟨a, _, dx, fs, e, ea, q⟩
  | tup l => obtain ⟨a, us, rfl, ea, _⟩ := h; exact go _ (.tup (SqT.of ea)) rfl
  | lst l => obtain ⟨a, us, rfl, ea, _⟩ := h; exact go _ (.lst (SqL.of ea)) rfl
  | map ks l => obtain ⟨a, us, rfl, ea, _⟩ := h; exact go _ (.dK ea) rfl
/-- of two classes: is -/
theorem op_isD (ok : ObsOk X.K O) : OpR X (compareOp .Is) (fun a b H Q => ∃ x y : DV OB, a = tyD O x ∧ b = tyD O y ∧ Q (.bl (decide (tyD O x = tyD O y))) H) := by
  intro pins s σ H a b v u Q I rx ry h
  obtain ⟨x, y, ea, eb, q⟩ := h
  have cl : ∀ z : DV OB, (∃ T, tyD O z = .ty T) ∨ ∃ o, tyD O z = .ref (O.cls o) := fun z => by
    cases z with
    | ob o => exact .inr ⟨o, rfl⟩
    | _ => exact .inl ⟨_, rfl⟩
  rcases cl x with ⟨T, e1⟩ | ⟨o, e1⟩ <;> rcases cl y with ⟨T', e2⟩ | ⟨o', e2⟩
  · rw [e1, e2] at q
    refine op_isTyB pins s σ H a b v u Q I rx ry ⟨T, T', ea.trans e1, eb.trans e2, ?_⟩
    have : decide (V.ty T = V.ty T') = decide (T = T') := by rw [Bool.eq_iff_iff]; simp
    rwa [this] at q
  · rw [e1, e2] at q
    have e3 := ea.trans e1
    have e4 := eb.trans e2
    subst e3 e4
    cases (show v = Value.type T from rx)
    cases (show u = Value.ref _ from ry)
    exact wpAny_is_other rfl (fun z => by cases z) ⟨.bl false, H, I, rfl, by simpa using q⟩
  · rw [e1, e2] at q
    have e3 := ea.trans e1
    have e4 := eb.trans e2
    subst e3 e4
    cases (show v = Value.ref _ from rx)
    cases (show u = Value.type T' from ry)
    exact wpAny_is_other rfl (fun z => by cases z) ⟨.bl false, H, I, rfl, by simpa using q⟩
  · rw [e1, e2] at q
    refine op_is_cls pins s σ H a b v u Q I rx ry ⟨_, _, ea.trans e1, eb.trans e2, .inr ⟨ok.makes o, ok.makes o'⟩, ?_⟩
    have : decide (V.ref (O.cls o) = V.ref (O.cls o')) = decide (O.cls o = O.cls o') := by rw [Bool.eq_iff_iff]; simp
    rwa [this] at q
/-- x == y of two objects of one class -/
def rOb (O : Obs OB) : R2 := fun x y H Q => ∃ a b, O.At H a x ∧ O.At H b y ∧ O.cls a = O.cls b ∧ ∀ H', Same H H' → Q (.bl (O.eq a b)) H'
/-- == of what is neither a tuple, a list nor a dict -/
theorem op_leaf (hu : X.A.units + 64 < cLine) (oe : OpR X (compareOp .Eq) (rOb O)) : OpR X (compareOp .Eq) (fun a b H Q => ∃ x y : DV OB, Dv O H x a ∧ Dv O H y b ∧ tyD O x = tyD O y ∧ isSeq x = false ∧ isMap x = false ∧ ∀ H', Same H H' → Q (.bl (eqD O x y)) H') := by
  intro pins s σ H a b v u Q I rx ry h
  obtain ⟨x, y, hx, hy, et, q1, q2, q⟩ := h
  have sca : ∀ a0 b0 : V, a = a0 → b = b0 → scal a0 b0 = true → decide (a0 = b0) = eqD O x y → wpAny (model X.prog X.w) X.A (compareOp .Eq v u) (EP X pins σ Q) X.xe s := fun a0 b0 e1 e2 sd e3 => by
    subst e1 e2
    refine op_eq pins s σ H a b v u Q I rx ry ⟨sd, ?_⟩
    rw [e3]
    exact q H (Same.refl H)
  cases x with
  | non =>
    cases y <;> simp [tyD] at et
    have q0 := q H (Same.refl H)
    rw [eqD] at q0
    exact op_eqD hu pins s σ H a b v u Q I rx ry ⟨.none, .none, by rw [show a = .non from hx]; exact .non, by rw [show b = .non from hy]; exact .non, rfl, rfl, q0⟩
  | bl c =>
    cases y <;> simp [tyD] at et
    rename_i d
    exact sca (.bl c) (.bl d) hx hy rfl (by simp [eqD])
  | int c =>
    cases y <;> simp [tyD] at et
    rename_i d
    exact sca (.int c) (.int d) hx hy rfl (by simp [eqD])
  | str c =>
    cases y <;> simp [tyD] at et
    rename_i d
    exact sca (.str c) (.str d) hx hy rfl (by simp [eqD])
  | ob o =>
    cases y <;> simp [tyD] at et
    rename_i o'
    have e : eqD O (.ob o) (.ob o') = O.eq o o' := by rw [eqD, decide_eq_true et]; rfl
    rw [e] at q
    exact oe pins s σ H a b v u Q I rx ry ⟨o, o', hx, hy, et, q⟩
  | tup l => cases q1
  | lst l => cases q1
  | map ks l => cases q2
end
end Dq

set_option Elab.async false
set_option linter.all false
set_option maxRecDepth 100000
set_option maxHeartbeats 4000000
namespace Dq
open PySem PySem.Spec PyProof.Rows L2
abbrev sPod : Stmt := Pf.top 2
/-- what two dicts are held against each other by -/
def podP : List (Key × V) → List (Key × V) → List (V × V)
  | [], _ => []
  | p :: ks, ls => (kV p.1, kV p.1) :: (p.2, (valV ls p.1).getD .non) :: podP ks ls
theorem podP_len : ∀ ks ls, (podP ks ls).length = 2 * ks.length
  | [], _ => rfl
  | _ :: ks, ls => by
    show (podP ks ls).length + 1 + 1 = 2 * (ks.length + 1)
    rw [podP_len ks ls]
    omega
theorem podP_snoc (p : Key × V) : ∀ ks ls, podP (ks ++ [p]) ls = podP ks ls ++ [(kV p.1, kV p.1), (p.2, (valV ls p.1).getD .non)]
  | [], _ => rfl
  | q :: ks, ls => by
    show _ :: _ :: podP (ks ++ [p]) ls = _
    rw [podP_snoc p ks ls]
    rfl
/-- the pairs stand in the list at D -/
def PrsAt (H : Hp) (D : Addr) (ps : List (V × V)) : Prop := ∃ ts : List Addr, H D = some (.lst (ts.map V.ref)) ∧ ts.length = ps.length ∧ ∀ (j : Nat) (t : Addr) (p : V × V), ts[j]? = some t → ps[j]? = some p → H t = some (.tup [p.1, p.2])
def spPod : Sp := fun vs H Q _ => ∃ (a b : Addr) (ks ls : List (Key × V)), vs = [.ref a, .ref b] ∧ H a = some (.dK ks) ∧ H b = some (.dK ls) ∧ (ks.map (·.1)).Nodup ∧ ks.length ≤ 100000 ∧ ls.length ≤ 100000 ∧
  ((ks.length ≠ ls.length ∨ ∃ p ∈ ks, valV ls p.1 = none) → ∀ H', Same H H' → Q .non H') ∧
  (ks.length = ls.length → (∀ p ∈ ks, valV ls p.1 ≠ none) → ∀ D H', Same H H' → H D = none → PrsAt H' D (podP ks ls) → Q (.ref D) H')
abbrev NPod : List Str := ["one", "other", "theirs", "pairs", "key"]
theorem scPod : FnScope NPod ["one", "other"] (defScope sPod) := ⟨rfl, rfl, rfl, by decide +kernel, rfl, by decide +kernel, by decide +kernel⟩
theorem find_at : ∀ {ks : List (Key × V)} {i : Nat} {k : Key} {v : V}, (ks.map (·.1)).Nodup → ks[i]? = some (k, v) → valV ks k = some v
  | [], _, _, _, _, h => by simp at h
  | p :: ks, 0, k, v, _, h => by
    simp only [List.getElem?_cons_zero, Option.some.injEq] at h
    subst h
    exact valV_pos rfl
  | p :: ks, i + 1, k, v, nd, h => by
    have h' : ks[i]? = some (k, v) := by simpa using h
    have nd' := List.nodup_cons.mp nd
    rw [valV_neg fun e => nd'.1 (by show p.1 ∈ _; rw [e]; exact List.mem_map.mpr ⟨(k, v), List.mem_of_getElem? h', rfl⟩)]
    exact find_at nd'.2 h'
theorem take_succ' {α : Type} {l : List α} {i : Nat} {x : α} (h : l[i]? = some x) : l.take (i + 1) = l.take i ++ [x] := by
  rw [List.take_add_one, h]
  rfl
structure TxtE (mg : Str → Option Value) : Prop where
  len : mg "len" = none
  list : mg "list" = none
  zip : mg "zip" = none
  type : mg "type" = none
  tuple : mg "tuple" = none
  dict : mg "dict" = none
  isi : mg "isinstance" = none
section
variable {P : Program} {w : World} {K : PySem.W.Frag} {mg : Str → Option Value} {base : Heap}
theorem ok_pod {f : Addr} {fd : FuncData} (F : Fun K "_pairs_of_dicts" "_pairs_of_dicts" sPod f fd) (T : TxtE mg) : FnOk P w K mg base CX0 1 f fd ["one", "other"] spPod := by
  refine F.ok scPod (fun vs H Q E h => ?_) (fun cdv A outer s H vs Q E hr h => ?_)
  · obtain ⟨a, b, ks, ls, rfl, _⟩ := h
    rfl
  · obtain ⟨a, b, ks, ls, rfl, ha, hb, nd, zk, zl, qn, qy⟩ := h
    have hu := hu_of hr
    refine ⟨_, (pss_cons (ps_if (pt_cmpR op_ne (pe_callB call_lenD (by rfl) T.len PySem.boot_len (pa_cons (pv 0) pa_nil)) (pe_callB call_lenD (by rfl) T.len PySem.boot_len (pa_cons (pv 1) pa_nil)) (nomark _)) (pss_one (ps_ret pe_non)) pss_nil)
      (pss_cons (ps_lock (Sd.ps_setDc (i := 2) (own := [("key", 4)]) (g := gName 4) (tt := tYes) rfl scPod.nd rfl rfl (Sd.sw_trueD rfl rfl rfl (by decide +kernel)) (pi_keys (pv 1)) (blkOk_by (N := NPod) (sc := defScope sPod) (by decide +kernel)) (fun _ _ _ _ _ => pg_name (i := 4) scPod.nd rfl (Or.inl rfl)) (fun _ _ _ _ _ => pts_nil) (fun _ _ _ _ _ => pv 4) (fun _ _ _ _ _ => pv 4)))
      (pss_cons (ps_set (i := 3) scPod.nd rfl (Or.inl rfl) (pe_lst pa_nil))
      (pss_cons (ps_lock (ps_for PassesOwn.never rfl (pi_keys (pv 0)) (pg_name (i := 4) scPod.nd rfl (Or.inl rfl))
        (pss_cons (ps_if (pt_cmp (pc_dnotin hu (pv 4) (pv 2))) (pss_one (ps_ret pe_non)) pss_nil)
        (pss_cons (ps_expr (pe_bm PySem.F.plainAttrs_list PySem.F.slot_list_append PySem.F.type_list_append mt_append (pv 3) (pa_cons (pe_tup (pa_cons (pv 4) (pa_cons (pe_dget hu (pv 2) (pv 4) (fun _ _ => rfl)) pa_nil))) pa_nil)))
        (pss_one (ps_expr (pe_bm PySem.F.plainAttrs_list PySem.F.slot_list_append PySem.F.type_list_append mt_append (pv 3) (pa_cons (pe_tup (pa_cons (pe_dget hu (pv 0) (pv 4) (fun _ _ => rfl)) (pa_cons (pe_dget hu (pv 1) (pv 4) (fun _ _ => rfl)) pa_nil))) pa_nil))))))))
      (pss_one (ps_ret (pv 3))))))), ?_⟩
    refine ⟨_, rfl, a, ks, rfl, ha, _, rfl, b, ls, rfl, hb, rfl, _, rfl, ?_⟩
    by_cases el : ks.length = ls.length
    case neg =>
      refine Vl.iteC (by simp; omega) ?_
      exact qn (.inl el) H (Same.refl H)
    refine Vl.iteN (by simp [el]) ?_
    refine ⟨b, .dK ls, hb, True.intro, fun ob => ⟨_, rfl, b, ob, rfl, .inl ⟨ls, upd_same, fun TH hTH => ?_⟩⟩⟩
    have nTb : TH ≠ b := fun e => by rw [e, upd_same] at hTH; cases hTH
    have hTH0 : H TH = none := by rwa [upd_ne nTb] at hTH
    refine Sd.dc_it (walk_keys (d := b) (o := ob) (kvs := ls)) (fun i H' => (H' b = some (.frz ob (.dK ls)) ∧ ∀ c o, c ≠ b → H c = some o → H' c = some o) ∧ ∃ ts, H' TH = some (.dK ts) ∧ ts.length ≤ i ∧ ∀ k, valV ts k = if valV (ls.take i) k = none then none else some (kV k))
      ⟨⟨(upd_ne (Ne.symm nTb)).trans upd_same, fun c o n e => (upd_ne (ne_of_none e hTH0)).trans ((upd_ne n).trans e)⟩, [], upd_same, Nat.le_refl _, fun k => by simp [valV]⟩ (fun i H' _ h => h.1.1) (fun i x H2 H3 hi h y => ?_) (fun H2 h => ?_)
    · obtain ⟨⟨e1, e2⟩, ts, e3, e4, e5⟩ := h
      obtain ⟨rfl, k, v, e6, rfl⟩ := y
      refine ⟨rfl, _, rfl, _, rfl, ts, k, rfl, e3, Nat.lt_of_le_of_lt (Nat.le_trans e4 (Nat.le_trans (Nat.le_of_lt hi) zl)) (by decide), ⟨(upd_ne (Ne.symm nTb)).trans e1, fun c o n e => (upd_ne (ne_of_none e hTH0)).trans (e2 c o n e)⟩, _, upd_same, Nat.le_trans (length_putK _ _ _) (by omega), fun k2 => ?_⟩
      rw [valV_put, e5, take_succ' e6]
      by_cases q : k2 = k
      · subst q
        have : valV (ls.take i ++ [(k2, v)]) k2 ≠ none := by
          unfold valV
          simp
        rw [if_pos rfl, if_neg this]
      · rw [if_neg q]
        have : valV (ls.take i ++ [(k, v)]) k2 = valV (ls.take i) k2 := by
          unfold valV
          rw [List.find?_append]
          have : List.find? (fun kv => decide (kv.1 = k2)) [(k, v)] = none := by simpa using fun e => q e.symm
          rw [this]
          simp
        rw [this]
    obtain ⟨⟨e1, e2⟩, ts, e3, e4, e5⟩ := h
    rw [List.take_length] at e5
    refine ⟨e1, Nat.zero_le _, fun D hD => ?_⟩
    have s1 : Same H (upd H2 b (.dK ls)) := fun c o e => by
      by_cases n : c = b
      · subst n
        rw [hb] at e
        cases e
        exact upd_same
      · exact (upd_ne n).trans (e2 c o n e)
    have t1 : (upd H2 b (.dK ls)) TH = some (.dK ts) := (upd_ne nTb).trans e3
    generalize (upd H2 b (.dK ls)) = H4 at s1 t1 hD
    have hD0 : H D = none := by
      cases e : H D with
      | none => rfl
      | some o => rw [s1 D o e] at hD; cases hD
    have nDa : D ≠ a := fun e => by rw [e, ha] at hD0; cases hD0
    have nDT : D ≠ TH := fun e => by rw [e, t1] at hD; cases hD
    have nTa : TH ≠ a := fun e => by rw [e, ha] at hTH0; cases hTH0
    have a5 : upd H4 D (.lst []) a = some (.dK ks) := (upd_ne (Ne.symm nDa)).trans (s1 _ _ ha)
    refine ⟨a, .dK ks, a5, True.intro, fun oa => ⟨_, rfl, a, oa, rfl, .inl ⟨ks, upd_same, ?_⟩⟩⟩
    refine for_it (walk_keys (d := a) (o := oa) (kvs := ks)) (fun i σ H' => (∃ w, σ = [some (.ref a), some (.ref b), some (.ref TH), some (.ref D), w]) ∧ (H' a = some (.frz oa (.dK ks)) ∧ ∀ c o, c ≠ a → H c = some o → H' c = some o) ∧ H' TH = some (.dK ts) ∧
        PrsAt H' D (podP (ks.take i) ls) ∧ ∀ p ∈ ks.take i, valV ls p.1 ≠ none)
      ⟨⟨_, rfl⟩, ⟨upd_same, fun c o n e => (upd_ne n).trans ((upd_ne (ne_of_none e hD0)).trans (s1 _ _ e))⟩, (upd_ne nTa).trans ((upd_ne (Ne.symm nDT)).trans t1), ⟨[], (upd_ne nDa).trans upd_same, rfl, fun j t p h => by simp at h⟩, fun p h => by simp at h⟩ (fun i σ H' _ h => h.2.1.1) (fun i x σ H0 H' hi h y => ?_) (fun σ H' h => ?_)
    · obtain ⟨⟨w4, rfl⟩, ⟨f1, f2⟩, f3, ⟨tl, g1, g2, g3⟩, f4⟩ := h
      obtain ⟨rfl, k, v, e6, rfl⟩ := y
      have hTh : DGet H' TH (kV k) (valV ts k) := DGet.k f3
      refine ⟨_, rfl, _, rfl, TH, _, rfl, hTh, _, rfl, ?_⟩
      have es : valV ts k = if valV ls k = none then none else some (kV k) := e5 k
      by_cases no : valV ls k = none
      · rw [if_pos no] at es
        rw [es]
        refine Vl.iteC rfl ⟨f1, ?_⟩
        refine qn (.inr ⟨(k, v), List.mem_of_getElem? e6, no⟩) _ fun c o e => ?_
        by_cases n : c = a
        · subst n
          rw [ha] at e
          cases e
          exact upd_same
        · exact (upd_ne n).trans (f2 c o n e)
      · rw [if_neg no] at es
        rw [es]
        refine Vl.iteN rfl ?_
        obtain ⟨v2, ev2⟩ : ∃ v2, valV ls k = some v2 := by
          cases e : valV ls k with
          | none => exact absurd e no
          | some v2 => exact ⟨v2, rfl⟩
        have nDt : ∀ t o, H' t = some o → (∀ xs, o ≠ .lst xs) → t ≠ D := fun t o e n q => by
          rw [q, g1] at e
          cases e
          exact n _ rfl
        have l2 : tl.length ≤ 200000 := by
          rw [g2, podP_len]
          have := List.length_take_le i ks
          omega
        refine ⟨_, rfl, .inl ⟨rfl, _, SqL.of g1⟩, _, rfl, _, rfl, _, rfl, TH, kV k, rfl, es ▸ hTh, by show 2 ≤ sizeLine; decide, fun t1 ht1 => ?_⟩
        have n1D : t1 ≠ D := fun e => by rw [e, g1] at ht1; cases ht1
        have n1a : t1 ≠ a := fun e => by rw [e, f1] at ht1; cases ht1
        have n1T : t1 ≠ TH := fun e => by rw [e, f3] at ht1; cases ht1
        have g1' : upd H' t1 (.tup [kV k, kV k]) D = some (.lst (tl.map V.ref)) := (upd_ne (Ne.symm n1D)).trans g1
        refine ⟨D, _, _, rfl, rfl, g1', by rw [List.length_map]; exact Nat.lt_of_le_of_lt l2 (by decide), ?_⟩
        generalize hH5 : upd (upd H' t1 (.tup [kV k, kV k])) D (.lst (tl.map V.ref ++ [.ref t1])) = H5
        have k5 : ∀ c o, c ≠ D → H' c = some o → H5 c = some o := fun c o n e => by rw [← hH5, upd_ne n, upd_ne (ne_of_none e ht1)]; exact e
        have d5 : H5 D = some (.lst (tl.map V.ref ++ [.ref t1])) := by rw [← hH5]; exact upd_same
        have t5 : H5 t1 = some (.tup [kV k, kV k]) := by rw [← hH5, upd_ne n1D]; exact upd_same
        clear hH5
        refine ⟨_, rfl, .inl ⟨rfl, _, SqL.of d5⟩, _, rfl, _, rfl, a, v, rfl, .inl ⟨ks, k, .inr ⟨oa, k5 _ _ (Ne.symm nDa) f1⟩, rfl, (find_at nd e6).symm⟩, _, rfl, _, rfl, b, v2, rfl, .inl ⟨ls, k, ?_, rfl, ev2.symm⟩, by show 2 ≤ sizeLine; decide, fun t2 ht2 => ?_⟩
        · by_cases n : b = a
          · subst n
            rw [ha] at hb
            cases hb
            exact .inr ⟨oa, k5 _ _ (Ne.symm nDa) f1⟩
          · have hbD : b ≠ D := fun e => by rw [← e, hb] at hD0; cases hD0
            exact .inl (k5 _ _ hbD (f2 b _ n hb))
        have n2D : t2 ≠ D := fun e => by rw [e, d5] at ht2; cases ht2
        refine ⟨D, _, _, rfl, rfl, (upd_ne (Ne.symm n2D)).trans d5, by rw [List.length_append, List.length_map]; exact Nat.lt_of_le_of_lt (show tl.length + 1 ≤ 200001 by omega) (by decide), ?_⟩
        have k6 : ∀ c o, c ≠ D → H5 c = some o → upd (upd H5 t2 (.tup [v, v2])) D (.lst (tl.map V.ref ++ [.ref t1] ++ [.ref t2])) c = some o := fun c o n e => by rw [upd_ne n, upd_ne (ne_of_none e ht2)]; exact e
        have ea : a ≠ D := Ne.symm nDa
        refine ⟨⟨_, rfl⟩, ⟨k6 _ _ ea (k5 _ _ ea f1), fun c o n e => ?_⟩, k6 _ _ (Ne.symm nDT) (k5 _ _ (Ne.symm nDT) f3), ?_, ?_⟩
        · have nD : c ≠ D := fun q => by rw [q, hD0] at e; cases e
          exact k6 c o nD (k5 c o nD (f2 c o n e))
        · refine ⟨tl ++ [t1, t2], by rw [upd_same]; simp, ?_, fun j t p ej ep => ?_⟩
          · rw [take_succ' e6, podP_snoc, List.length_append, List.length_append, g2]
            rfl
          · rw [take_succ' e6, podP_snoc] at ep
            by_cases lt : j < tl.length
            · rw [List.getElem?_append_left lt] at ej
              rw [List.getElem?_append_left (by omega)] at ep
              have := g3 j t p ej ep
              have nD := nDt t _ this fun xs z => by cases z
              exact k6 t _ nD (k5 t _ nD this)
            · rw [List.getElem?_append_right (by omega)] at ej
              rw [List.getElem?_append_right (by omega), ← g2] at ep
              generalize j - tl.length = m at ej ep
              match m with
              | 0 =>
                simp at ej ep
                subst ej ep
                exact k6 _ _ n1D t5
              | 1 =>
                simp at ej ep
                subst ej ep
                rw [upd_ne n2D, upd_same, ev2]
                rfl
              | n + 2 => simp at ej
        · intro p hp
          rw [take_succ' e6] at hp
          rcases List.mem_append.mp hp with hp | hp
          · exact f4 p hp
          · rw [List.mem_singleton.mp hp]
            exact no
    · obtain ⟨⟨w4, rfl⟩, ⟨f1, f2⟩, f3, pr, f4⟩ := h
      rw [List.take_length] at pr f4
      refine ⟨f1, _, rfl, ?_⟩
      refine qy el f4 D _ (fun c o e => ?_) hD0 ?_
      · by_cases n : c = a
        · subst n
          rw [ha] at e
          cases e
          exact upd_same
        · exact (upd_ne n).trans (f2 c o n e)
      · obtain ⟨tl, g1, g2, g3⟩ := pr
        refine ⟨tl, (upd_ne nDa).trans g1, g2, fun j t p ej ep => ?_⟩
        have := g3 j t p ej ep
        rw [upd_ne fun q => by rw [q, f1] at this; cases this]
        exact this
end
end Dq

set_option Elab.async false
set_option linter.all false
set_option maxRecDepth 100000
set_option maxHeartbeats 4000000
/-! the mathematics of equal -/
namespace Dq
open PySem PySem.Spec PyProof.Rows L2
variable {OB : Type} {O : Obs OB} {K : PySem.W.Frag}
def wts (ps : List (DV OB × DV OB)) : Nat := (ps.map fun p => wt p.1).sum
theorem wts_app (a b : List (DV OB × DV OB)) : wts (a ++ b) = wts a + wts b := by simp [wts]
theorem wt_pos (x : DV OB) : 1 ≤ wt x := by
  cases x <;> simp [wt] <;> omega
theorem wts_len : ∀ ps : List (DV OB × DV OB), ps.length ≤ wts ps
  | [] => Nat.le_refl _
  | p :: ps => by
    have := wts_len ps
    have := wt_pos p.1
    simp only [wts, List.map_cons, List.sum_cons, List.length_cons] at *
    omega
theorem wts_zip : ∀ (l m : List (DV OB)), l.length = m.length → wts (l.zip m) = wtL l
  | [], [], _ => rfl
  | x :: l, y :: m, h => by
    have := wts_zip l m (Nat.succ.inj h)
    simp only [wts, List.zip_cons_cons, List.map_cons, List.sum_cons, wtL] at *
    omega
  | [], _ :: _, h => by cases h
  | _ :: _, [], h => by cases h
theorem wtL_mem : ∀ {l : List (DV OB)} {x : DV OB}, x ∈ l → wt x ≤ wtL l
  | y :: l, x, h => by
    rw [wtL]
    rcases List.mem_cons.mp h with rfl | h
    · omega
    · have := wtL_mem h
      omega
theorem eqD_ty : ∀ (x y : DV OB), tyD O x ≠ tyD O y → eqD O x y = false := fun x y h => by
  cases x <;> cases y <;> simp [tyD, eqD] at h ⊢
  exact fun e => absurd e h
theorem eqL_len : ∀ (l m : List (DV OB)), l.length ≠ m.length → eqL O l m = false
  | [], [], h => absurd rfl h
  | [], _ :: _, _ => by simp [eqL]
  | _ :: _, [], _ => by simp [eqL]
  | x :: l, y :: m, h => by
    rw [eqL, eqL_len l m fun e => h (by simp [e]), Bool.and_false]
theorem eqL_zip : ∀ (l m : List (DV OB)), l.length = m.length → eqL O l m = (l.zip m).all fun p => eqD O p.1 p.2
  | [], [], _ => by simp [eqL]
  | x :: l, y :: m, h => by
    rw [eqL, eqL_zip l m (Nat.succ.inj h)]
    rfl
  | [], _ :: _, h => by cases h
  | _ :: _, [], h => by cases h
/-- the pairs of two maps -/
def pm (js : List Str) (m : List (DV OB)) : List Str → List (DV OB) → List (DV OB × DV OB)
  | k :: ks, x :: l => (.str k, .str k) :: (x, (look js m k).getD .non) :: pm js m ks l
  | _, _ => []
theorem pm_len (js : List Str) (m : List (DV OB)) : ∀ (ks : List Str) (l : List (DV OB)), ks.length = l.length → (pm js m ks l).length = 2 * ks.length
  | [], [], _ => rfl
  | k :: ks, x :: l, h => by
    have := pm_len js m ks l (Nat.succ.inj h)
    show (pm js m ks l).length + 1 + 1 = 2 * (ks.length + 1)
    omega
  | [], _ :: _, h => by cases h
  | _ :: _, [], h => by cases h
theorem pm_wts (js : List Str) (m : List (DV OB)) : ∀ (ks : List Str) (l : List (DV OB)), ks.length = l.length → wts (pm js m ks l) = ks.length + wtL l
  | [], [], _ => rfl
  | k :: ks, x :: l, h => by
    have := pm_wts js m ks l (Nat.succ.inj h)
    have e : wts (pm js m (k :: ks) (x :: l)) = 1 + (wt x + wts (pm js m ks l)) := by simp [pm, wts, wt]
    rw [e, wtL, List.length_cons]
    omega
  | [], _ :: _, h => by cases h
  | _ :: _, [], h => by cases h
theorem look_mem : ∀ {js : List Str} {m : List (DV OB)} {k : Str} {y : DV OB}, look js m k = some y → y ∈ m
  | j :: js, x :: m, k, y, h => by
    rw [look] at h
    split at h
    · cases h
      exact List.mem_cons_self
    · exact List.mem_cons_of_mem _ (look_mem h)
  | [], _, _, _, h => by simp [look] at h
  | _ :: _, [], _, _, h => by simp [look] at h
theorem pm_snd {N : Nat} (hN : 1 ≤ N) (js : List Str) (m : List (DV OB)) (hm : wtL m ≤ N) : ∀ (ks : List Str) (l : List (DV OB)), ∀ p ∈ pm js m ks l, wt p.2 ≤ N
  | [], _, p, h => by simp [pm] at h
  | _ :: _, [], p, h => by simp [pm] at h
  | k :: ks, x :: l, p, h => by
    rw [pm] at h
    rcases List.mem_cons.mp h with rfl | h
    · exact hN
    · rcases List.mem_cons.mp h with rfl | h
      · cases e : look js m k with
        | none => exact hN
        | some y => exact Nat.le_trans (wtL_mem (look_mem e)) hm
      · exact pm_snd hN js m hm ks l p h
theorem eqM_pm (js : List Str) (m : List (DV OB)) : ∀ (ks : List Str) (l : List (DV OB)), ks.length = l.length → (∀ k ∈ ks, look js m k ≠ none) → eqM O ks l js m = (pm js m ks l).all fun p => eqD O p.1 p.2
  | [], [], _, _ => by simp [eqM, pm]
  | k :: ks, x :: l, h, hk => by
    have ih := eqM_pm js m ks l (Nat.succ.inj h) fun k' h' => hk k' (List.mem_cons_of_mem _ h')
    cases e : look js m k with
    | none => exact absurd e (hk k List.mem_cons_self)
    | some y => simp [eqM, pm, e, ih, eqD]
  | [], _ :: _, h, _ => by cases h
  | _ :: _, [], h, _ => by cases h
theorem eqM_no (js : List Str) (m : List (DV OB)) : ∀ (ks : List Str) (l : List (DV OB)), ks.length = l.length → (∃ k ∈ ks, look js m k = none) → eqM O ks l js m = false
  | [], [], _, ⟨k, h, _⟩ => by cases h
  | k :: ks, x :: l, h, ⟨z, hz, e⟩ => by
    rcases List.mem_cons.mp hz with rfl | hz
    · simp [eqM, e]
    · have ih := eqM_no js m ks l (Nat.succ.inj h) ⟨z, hz, e⟩
      simp [eqM, ih]
  | [], _ :: _, h, _ => by cases h
  | _ :: _, [], h, _ => by cases h
theorem look_val {H : Hp} {k : Str} : ∀ {js : List Str} {m : List (DV OB)} {ls : List (Key × V)}, ls.map (·.1) = js.map Sum.inr → DvL O H m (ls.map (·.2)) → (look js m k = none ∧ valV ls (.inr k) = none) ∨ ∃ y v, look js m k = some y ∧ valV ls (.inr k) = some v ∧ Dv O H y v
  | [], m, [], _, _ => .inl ⟨by simp [look], rfl⟩
  | [], _, _ :: _, h, _ => by cases h
  | _ :: _, _, [], h, _ => by cases h
  | j :: js, [], q :: ls, _, h => by cases h
  | j :: js, x :: m, q :: ls, h, ⟨u, us, e, hu, hp⟩ => by
    simp only [List.map_cons, List.cons.injEq] at h e
    obtain ⟨h1, h2⟩ := h
    obtain ⟨e1, e2⟩ := e
    subst e1
    by_cases z : k = j
    · subst z
      exact .inr ⟨x, q.2, by simp [look], valV_pos h1, hu⟩
    · have nq : ¬ q.1 = Sum.inr k := fun e => z (by rw [h1] at e; exact (Sum.inr.inj e).symm)
      rw [look, if_neg z, valV_neg nq]
      exact look_val h2 (e2 ▸ hp)
theorem pm_at {H : Hp} {js : List Str} {m : List (DV OB)} {ls : List (Key × V)} (hj : ls.map (·.1) = js.map Sum.inr) (hm : DvL O H m (ls.map (·.2))) : ∀ {ks : List Str} {l : List (DV OB)} {kvs : List (Key × V)}, kvs.map (·.1) = ks.map Sum.inr → DvL O H l (kvs.map (·.2)) →
    ∀ (j : Nat) (p : DV OB × DV OB) (q : V × V), (pm js m ks l)[j]? = some p → (podP kvs ls)[j]? = some q → (∀ k ∈ ks, look js m k ≠ none) → Dv O H p.1 q.1 ∧ Dv O H p.2 q.2
  | [], _, _, _, _, j, p, q, h, _, _ => by simp [pm] at h
  | _ :: _, [], _, _, _, j, p, q, h, _, _ => by simp [pm] at h
  | _ :: _, _ :: _, [], h, _, _, _, _, _, _, _ => by cases h
  | k :: ks, x :: l, r :: kvs, h, ⟨u, us, e, hu, hp⟩, j, p, q, g1, g2, hk => by
    simp only [List.map_cons, List.cons.injEq] at h e
    obtain ⟨h1, h2⟩ := h
    obtain ⟨e1, e2⟩ := e
    subst e1
    rw [pm] at g1
    rw [podP] at g2
    match j with
    | 0 =>
      simp only [List.getElem?_cons_zero, Option.some.injEq] at g1 g2
      subst g1 g2
      have e : kV r.1 = V.str k := by
        show kV (r.1) = _
        rw [h1]
        rfl
      rw [e]
      exact ⟨rfl, rfl⟩
    | 1 =>
      simp only [List.getElem?_cons_succ, List.getElem?_cons_zero, Option.some.injEq] at g1 g2
      subst g1 g2
      refine ⟨hu, ?_⟩
      rcases look_val (k := k) hj hm with ⟨a, _⟩ | ⟨y, v, a, b, c⟩
      · exact absurd a (hk k List.mem_cons_self)
      · rw [show (r.1 : Key) = Sum.inr k from h1, a, b]
        exact c
    | j + 2 =>
      simp only [List.getElem?_cons_succ] at g1 g2
      exact pm_at hj hm h2 (e2 ▸ hp) j p q g1 g2 fun k' h' => hk k' (List.mem_cons_of_mem _ h')
/-- two rows of one sort -/
theorem seqs {H : Hp} {x y : DV OB} {v u : V} (hx : Dv O H x v) (hy : Dv O H y u) (et : tyD O x = tyD O y) (hs : isSeq x = true) : ∃ a b us ws l m, v = .ref a ∧ u = .ref b ∧ ((∀ K, SqT K H a us ∧ SqT K H b ws) ∨ (∀ K, SqL K H a us ∧ SqL K H b ws)) ∧ ((H a = some (.tup us) ∧ H b = some (.tup ws)) ∨ (H a = some (.lst us) ∧ H b = some (.lst ws))) ∧ DvL O H l us ∧ DvL O H m ws ∧ eqD O x y = eqL O l m ∧ wt x = 1 + wtL l ∧ wt y = 1 + wtL m := by
  cases x <;> cases y <;> simp [tyD, isSeq] at et hs
  · obtain ⟨a, us, rfl, ha, p⟩ := hx
    obtain ⟨b, ws, rfl, hb, q⟩ := hy
    exact ⟨a, b, us, ws, _, _, rfl, rfl, .inl fun _ => ⟨SqT.of ha, SqT.of hb⟩, .inl ⟨ha, hb⟩, p, q, by rw [eqD], by rw [wt], by rw [wt]⟩
  · obtain ⟨a, us, rfl, ha, p⟩ := hx
    obtain ⟨b, ws, rfl, hb, q⟩ := hy
    exact ⟨a, b, us, ws, _, _, rfl, rfl, .inr fun _ => ⟨SqL.of ha, SqL.of hb⟩, .inr ⟨ha, hb⟩, p, q, by rw [eqD], by rw [wt], by rw [wt]⟩
end Dq

set_option Elab.async false
set_option linter.all false
set_option maxRecDepth 100000
set_option maxHeartbeats 4000000
/-! the program's equal -/
namespace Dq
open PySem PySem.Spec PyProof.Rows L2
abbrev sEqual : Stmt := Pf.top 1
def spEqual {OB : Type} (O : Obs OB) : Sp := fun vs H Q _ => ∃ (v u : V) (x y : DV OB), vs = [v, u] ∧ Dv O H x v ∧ Dv O H y u ∧ wt x ≤ 90000 ∧ wt y ≤ 90000 ∧ ∀ H', Same H H' → Q (.bl (eqD O x y)) H'
abbrev NEqual : List Str := ["one", "other", "waiting", "left", "right", "pairs"]
theorem scEqual : FnScope NEqual ["one", "other"] (defScope sEqual) := ⟨rfl, rfl, rfl, by decide +kernel, rfl, by decide +kernel, by decide +kernel⟩
/-- the own == of the objects, called by equal -/
structure ObEq {OB : Type} (P : Program) (w : World) (K : PySem.W.Frag) (mg : Str → Option Value) (base : Heap) (k : Nat) (O : Obs OB) : Prop where
  op : ∀ {X : Cx}, X.prog = P → X.w = w → X.K = K → X.mg = mg → X.base = base → Room k X.A → OpR X (compareOp .Eq) (rOb O)
/-- the pairs that wait in the list at W -/
structure Wait {OB : Type} (O : Obs OB) (H H' : Hp) (W : Addr) (N : Nat) (ts : List Addr) (ps : List (DV OB × DV OB)) : Prop where
  same : Same H H'
  new : H W = none
  lst : H' W = some (.lst (ts.map V.ref))
  len : ts.length = ps.length
  at_ : ∀ (j : Nat) (t : Addr) (p : DV OB × DV OB), ts[j]? = some t → ps[j]? = some p → ∃ a b, H' t = some (.tup [a, b]) ∧ Dv O H p.1 a ∧ Dv O H p.2 b
  wt1 : wts ps ≤ N
  wt2 : ∀ p ∈ ps, wt p.2 ≤ N
theorem Wait.put {OB : Type} {O : Obs OB} {H H2 H5 : Hp} {W : Addr} {N : Nat} {ts t5 : List Addr} {ps p5 : List (DV OB × DV OB)} (x : Wait O H H2 W N ts ps) (k : Same H2 H5) (hl : t5.length = p5.length) (ha : ∀ (j : Nat) (t : Addr) (p : DV OB × DV OB), t5[j]? = some t → p5[j]? = some p → ∃ a b, H5 t = some (.tup [a, b]) ∧ Dv O H p.1 a ∧ Dv O H p.2 b)
    (h1 : wts ps + wts p5 ≤ N) (h2 : ∀ p ∈ p5, wt p.2 ≤ N) : Wait O H (upd H5 W (.lst (ts.map V.ref ++ t5.map V.ref))) W N (ts ++ t5) (ps ++ p5) := by
  have nW : ∀ t o, H5 t = some o → (∀ xs, o ≠ .lst xs) → upd H5 W (.lst (ts.map V.ref ++ t5.map V.ref)) t = some o := fun t o e n => by
    rw [upd_ne fun q => by
      rw [q, k _ _ x.lst] at e
      cases e
      exact n _ rfl]
    exact e
  refine ⟨fun c o e => ?_, x.new, by rw [upd_same, List.map_append], by rw [List.length_append, List.length_append, x.len, hl], fun j t p ej ep => ?_, by rw [wts_app]; exact h1, fun p hp => ?_⟩
  · rw [upd_ne fun q => by rw [q, x.new] at e; cases e]
    exact k _ _ (x.same _ _ e)
  · by_cases lt : j < ts.length
    · rw [List.getElem?_append_left lt] at ej
      rw [List.getElem?_append_left (by rw [← x.len]; exact lt)] at ep
      obtain ⟨a, b, e1, e2⟩ := x.at_ j t p ej ep
      exact ⟨a, b, nW _ _ (k _ _ e1) (fun _ z => by cases z), e2⟩
    · have ge : ts.length ≤ j := Nat.le_of_not_lt lt
      rw [List.getElem?_append_right ge] at ej
      rw [List.getElem?_append_right (by rw [← x.len]; exact ge), ← x.len] at ep
      obtain ⟨a, b, e1, e2⟩ := ha _ t p ej ep
      exact ⟨a, b, nW _ _ e1 (fun _ z => by cases z), e2⟩
  · rcases List.mem_append.mp hp with hp | hp
    · exact x.wt2 p hp
    · exact h2 p hp
section
variable {OB : Type} {O : Obs OB} {P : Program} {w : World} {K : PySem.W.Frag} {mg : Str → Option Value} {base : Heap}
theorem ok_equal {n : Nat} (hn : 1 ≤ n) {f fP : Addr} {fd fdP : FuncData} (F : Fun K "equal" "equal" sEqual f fd) (T : TxtE mg) (ok : ObsOk K O) (oe : ObEq P w K mg base n O) (DP : Vl.Def P w K mg base 1 "_pairs_of_dicts" fP fdP ["one", "other"] spPod) : FnOk P w K mg base CX0 (n + 1) f fd ["one", "other"] (spEqual O) := by
  refine F.ok scEqual (fun vs H Q E h => ?_) (fun cdv A outer s H vs Q E hr h => ?_)
  · obtain ⟨v, u, x, y, rfl, _⟩ := h
    rfl
  · obtain ⟨v, u, x, y, rfl, hx, hy, wx, wy, k⟩ := h
    refine ⟨_, (pss_cons (ps_set (i := 2) scEqual.nd rfl (Or.inl rfl) (pe_lst (pa_cons (pe_tup (pa_cons (pv 0) (pa_cons (pv 1) pa_nil))) pa_nil)))
      (pss_cons (ps_while PassesOwn.never (pt_truth (pv 2) (by intro _; rfl))
        (pss_cons (ps_asg (pe_bm0 PySem.F.plainAttrs_list PySem.F.slot_list_pop PySem.F.type_list_pop mt_pop (pv 2)) (pg_tup rfl (pgs_cons (pg_name (i := 3) scEqual.nd rfl (Or.inl rfl)) (pgs_cons (pg_name (i := 4) scEqual.nd rfl (Or.inl rfl)) pgs_nil))))
        (pss_cons (ps_if (pt_not (pt_cmpR (op_isD ok) (pe_callTy (call_tyD ok) (by rfl) T.type (by decide +kernel) (pa_cons (pv 3) pa_nil)) (pe_callTy (call_tyD ok) (by rfl) T.type (by decide +kernel) (pa_cons (pv 4) pa_nil)) (nomark _))) (pss_one (ps_ret pe_bl)) pss_nil)
        (pss_one (ps_if (pt_val (pe_callB (call_isTL ok) (by rfl) T.isi (by decide +kernel) (pa_cons (pv 3) (pa_cons (pe_tup (pa_cons (pe_bltn (v := .ty "tuple") (by rfl) T.tuple (by decide +kernel) rfl) (pa_cons (pe_bltn (v := .ty "list") (by rfl) T.list (by decide +kernel) rfl) pa_nil))) pa_nil))))
          (pss_cons (ps_if (pt_cmpR op_ne (pe_callB call_len_seq (by rfl) T.len PySem.boot_len (pa_cons (pv 3) pa_nil)) (pe_callB call_len_seq (by rfl) T.len PySem.boot_len (pa_cons (pv 4) pa_nil)) (nomark _)) (pss_one (ps_ret pe_bl)) pss_nil)
          (pss_one (ps_expr (pe_bm PySem.F.plainAttrs_list PySem.F.slot_list_extend PySem.F.type_list_extend mt_extend (pv 2) (pa_cons (Lz.pe_listZip rfl (pa_cons (pv 3) (pa_cons (pv 4) pa_nil)) (by rfl) T.list (by rfl) T.zip) pa_nil)))))
          (pss_one (ps_if (pt_val (pe_callB (call_isD ok) (by rfl) T.isi (by decide +kernel) (pa_cons (pv 3) (pa_cons (pe_bltn (v := .ty "dict") (by rfl) T.dict (by decide +kernel) rfl) pa_nil))))
            (pss_cons (ps_set (i := 5) scEqual.nd rfl (Or.inl rfl) (pe_call DP.ok (hr.mono hn) rfl DP.g DP.kp DP.b .nil pass0 (pa_cons (pv 3) (pa_cons (pv 4) pa_nil))))
            (pss_cons (ps_if (pt_cmpR op_isN (pv 5) pe_non (nomark _)) (pss_one (ps_ret pe_bl)) pss_nil)
            (pss_one (ps_expr (pe_bm PySem.F.plainAttrs_list PySem.F.slot_list_extend PySem.F.type_list_extend mt_extend (pv 2) (pa_cons (pv 5) pa_nil))))))
            (pss_one (ps_if (pt_not (pt_cmpR (op_leaf hr.units (oe.op rfl rfl rfl rfl rfl hr)) (pv 3) (pv 4) (nomark _))) (pss_one (ps_ret pe_bl)) pss_nil)))))))))
      (pss_one (ps_ret pe_bl)))), ?_⟩
    have fin : ∀ H', Same H H' → ∀ b, eqD O x y = b → Q (.bl b) H' := fun H' k' b e => e ▸ k H' k'
    refine ⟨_, rfl, _, rfl, by show 2 ≤ sizeLine; decide, fun t ht => ⟨by show 1 ≤ sizeLine; decide, fun W hW => ?_⟩⟩
    have ntW : t ≠ W := fun e => by rw [← e, upd_same] at hW; cases hW
    have hW0 : H W = none := by rwa [upd_ne (Ne.symm ntW)] at hW
    have w0 : Wait O H (upd (upd H t (.tup [v, u])) W (.lst [.ref t])) W 90000 [t] [(x, y)] := by
      refine ⟨fun c o e => by rw [upd_ne (ne_of_none e hW0), upd_ne (ne_of_none e ht)]; exact e, hW0, upd_same, rfl, fun j t' p ej ep => ?_, by simpa [wts] using wx, fun p hp => by rw [List.mem_singleton.mp hp]; exact wy⟩
      match j with
      | 0 =>
        simp at ej ep
        subst ej ep
        exact ⟨v, u, (upd_ne ntW).trans upd_same, hx, hy⟩
      | j + 1 => simp at ej
    refine ⟨fun m σ H' => ∃ ts ps w3 w4 w5, m = wts ps ∧ σ = [some v, some u, some (.ref W), w3, w4, w5] ∧ Wait O H H' W 90000 ts ps ∧ eqD O x y = ps.all fun p => eqD O p.1 p.2, ⟨_, [t], [(x, y)], _, _, _, rfl, rfl, w0, by simp⟩, ?_⟩
    rintro m σ H' ⟨ts, ps, w3, w4, w5, rfl, rfl, wa, er⟩
    rcases List.eq_nil_or_concat ps with rfl | ⟨ps', p, rfl⟩
    · have e0 : ts = [] := List.eq_nil_of_length_eq_zero wa.len
      subst e0
      refine ⟨_, rfl, false, .inl ⟨_, SqL.of wa.lst, rfl⟩, ?_⟩
      exact fin H' wa.same _ er
    obtain ⟨ts', tl, rfl⟩ : ∃ ts' tl, ts = ts' ++ [tl] := by
      rcases List.eq_nil_or_concat ts with rfl | ⟨a, b, e⟩
      · have := wa.len
        simp at this
      · exact ⟨a, b, e.trans (List.concat_eq_append ..)⟩
    rw [List.concat_eq_append] at *
    have hl' : ts'.length = ps'.length := by
      have := wa.len
      simpa using this
    obtain ⟨a, b, ht2, d1, d2⟩ := wa.at_ ts'.length tl p (by simp) (by rw [hl']; simp)
    have hWl : H' W = some (.lst (ts'.map V.ref ++ [.ref tl])) := by rw [wa.lst]; simp
    refine ⟨_, rfl, true, .inl ⟨_, SqL.of hWl, by simp⟩, fun σ' H2 => ∃ m', m' < wts (ps' ++ [p]) ∧ ∃ ts ps w3 w4 w5, m' = wts ps ∧ σ' = [some v, some u, some (.ref W), w3, w4, w5] ∧ Wait O H H2 W 90000 ts ps ∧ eqD O x y = ps.all fun p => eqD O p.1 p.2, fun σ' H2 h => h, ?_⟩
    refine ⟨_, rfl, .inl ⟨rfl, _, SqL.of hWl⟩, W, _, .ref tl, rfl, rfl, hWl, by simp, ?_⟩
    rw [List.dropLast_concat]
    have ntl : tl ≠ W := fun e => by rw [e, hWl] at ht2; cases ht2
    have er' : eqD O x y = ((ps'.all fun p => eqD O p.1 p.2) && eqD O p.1 p.2) := by rw [er]; simp
    have wp : wts (ps' ++ [p]) = wts ps' + wt p.1 := by rw [wts_app]; simp [wts]
    have wp1 : wts ps' + wt p.1 ≤ 90000 := wp ▸ wa.wt1
    have wp2 : wt p.2 ≤ 90000 := wa.wt2 p (by simp)
    have wb : Wait O H (upd H' W (.lst (ts'.map V.ref))) W 90000 ts' ps' := by
      refine ⟨fun c o e => ?_, wa.new, upd_same, hl', fun j t p ej ep => ?_, by omega, fun p hp => wa.wt2 p (List.mem_append_left _ hp)⟩
      · rw [upd_ne (ne_of_none e wa.new)]
        exact wa.same _ _ e
      · obtain ⟨a, b, e1, e2⟩ := wa.at_ j t p (by rw [List.getElem?_append_left (List.getElem?_eq_some_iff.mp ej).1]; exact ej) (by rw [List.getElem?_append_left (List.getElem?_eq_some_iff.mp ep).1]; exact ep)
        refine ⟨a, b, ?_, e2⟩
        rw [upd_ne fun q => by rw [q, hWl] at e1; cases e1]
        exact e1
    have ht3 : upd H' W (.lst (ts'.map V.ref)) tl = some (.tup [a, b]) := (upd_ne ntl).trans ht2
    clear wa hWl ht2 w0 hW
    generalize upd H' W (.lst (ts'.map V.ref)) = H2 at wb ht3
    refine ⟨tl, _, rfl, SqT.of ht3, rfl, _, _, rfl, _, _, rfl, rfl, ?_⟩
    have D1 := d1.keep ok wb.same
    have D2 := d2.keep ok wb.same
    refine ⟨_, rfl, _, p.1, rfl, D1, _, rfl, _, p.2, rfl, D2, p.1, p.2, rfl, rfl, _, rfl, ?_⟩
    by_cases et : tyD O p.1 = tyD O p.2
    case neg =>
      refine Vl.iteC (by simp [et]) ?_
      exact fin H2 wb.same _ (by rw [er', eqD_ty _ _ et, Bool.and_false])
    refine Vl.iteN (by simp [et]) ?_
    refine ⟨_, rfl, by show 2 ≤ sizeLine; decide, fun tp htp => ⟨_, tp, p.1, rfl, upd_same, D1.keep ok (Vl.sm_upd htp), _, rfl, ?_⟩⟩
    have k3 : Same H2 (upd H2 tp (.tup [.ty "tuple", .ty "list"])) := Vl.sm_upd htp
    have sm3 := Same.trans wb.same k3
    have E1 := d1.keep ok sm3
    have E2 := d2.keep ok sm3
    generalize upd H2 tp (.tup [.ty "tuple", .ty "list"]) = H3 at k3 sm3 E1 E2
    by_cases hs : isSeq p.1 = true
    · refine Vl.iteC hs ?_
      obtain ⟨a', b', us, ws, l, m, rfl, rfl, hab, _, dl, dm, ee, e1, e2⟩ := seqs E1 E2 et hs
      obtain ⟨a2, b2, us2, ws2, l2, m2, ea, eb, hab2, hT2, dl2, dm2, ee2, e12, e22⟩ := seqs d1 d2 et hs
      cases ea
      cases eb
      have luo := dl2.len
      have lwo := dm2.len
      have hq : ∀ H', Same H H' → ((SqT K H' a' us2 ∧ SqT K H' b' ws2) ∨ (SqL K H' a' us2 ∧ SqL K H' b' ws2)) := fun H' k' => by
        rcases hT2 with ⟨h1, h2⟩ | ⟨h1, h2⟩
        · exact .inl ⟨SqT.of (k' _ _ h1), SqT.of (k' _ _ h2)⟩
        · exact .inr ⟨SqL.of (k' _ _ h1), SqL.of (k' _ _ h2)⟩
      have hq3 := hq H3 sm3
      refine ⟨_, rfl, a', us2, rfl, hq3.elim (fun z => .inr z.1) (fun z => .inl z.1), _, rfl, b', ws2, rfl, hq3.elim (fun z => .inr z.2) (fun z => .inl z.2), rfl, _, rfl, ?_⟩
      by_cases le : us2.length = ws2.length
      case neg =>
        refine Vl.iteC (by simp; omega) ?_
        exact fin H3 sm3 _ (by rw [er', ee2, eqL_len l2 m2 (by omega), Bool.and_false])
      refine Vl.iteN (by simp [le]) ?_
      refine ⟨_, rfl, .inl ⟨rfl, _, SqL.of (k3 _ _ wb.lst)⟩, _, rfl, _, rfl, a', b', us2, ws2, rfl, hq3, le, fun H5 D ds z => ?_⟩
      obtain ⟨z1, z2, z3, z4, z5, z6, z7⟩ := z
      have wL : wts (l2.zip m2) = wtL l2 := wts_zip l2 m2 (by omega)
      have lenb := wts_len ps'
      have lenl := wts_len (l2.zip m2)
      have lz : (l2.zip m2).length = l2.length := by rw [List.length_zip]; omega
      refine ⟨W, D, _, _, rfl, rfl, z1 _ _ (k3 _ _ wb.lst), z5, by rw [List.length_map, List.length_map]; exact Nat.le_trans (show ts'.length + ds.length ≤ 90000 by omega) (by decide), ?_⟩
      refine ⟨_, ?_, ts' ++ ds, ps' ++ l2.zip m2, _, _, _, rfl, rfl, wb.put (Same.trans k3 z1) (by omega) (fun j t q ej ep => ?_) (by omega) (fun q hq => ?_), ?_⟩
      · rw [wp, wts_app, wL]
        omega
      · obtain ⟨x0, y0, f1, f2, f3⟩ := z7 j t ej
        obtain ⟨g1, g2⟩ := List.getElem?_zip_eq_some.mp ep
        exact ⟨x0, y0, f3, dl2.at g1 f1, dm2.at g2 f2⟩
      · have := wtL_mem (List.of_mem_zip hq).2
        omega
      · rw [er', ee2, eqL_zip l2 m2 (by omega), List.all_append]
    refine Vl.iteN ((Bool.not_eq_true _).mp hs) ?_
    refine ⟨_, rfl, _, p.1, rfl, E1, _, rfl, ?_⟩
    by_cases hm : isMap p.1 = true
    · refine Vl.iteC hm ?_
      obtain ⟨ks, l, e1⟩ : ∃ ks l, p.1 = .map ks l := by
        cases e : p.1 <;> rw [e] at hm <;> simp [isMap] at hm
        exact ⟨_, _, rfl⟩
      obtain ⟨js, m, e2⟩ : ∃ js m, p.2 = .map js m := by
        rw [e1] at et
        cases e : p.2 <;> rw [e] at et <;> simp [tyD] at et
        exact ⟨_, _, rfl⟩
      rw [e1] at d1
      rw [e2] at d2
      obtain ⟨a1, kvs, rfl, ha, nd, hk, dl⟩ := d1
      obtain ⟨b1, lvs, rfl, hb, nd2, hj, dm⟩ := d2
      have q1 : wt p.1 = 1 + ks.length + wtL l := by rw [e1, wt]
      have q2 : wt p.2 = 1 + js.length + wtL m := by rw [e2, wt]
      have lk : kvs.length = ks.length := by have := congrArg List.length hk; simpa using this
      have lj : lvs.length = js.length := by have := congrArg List.length hj; simpa using this
      have ll : ks.length = l.length := by have := dl.len; rw [List.length_map] at this; omega
      have ee : eqD O p.1 p.2 = (decide (ks.length = js.length) && eqM O ks l js m) := by rw [e1, e2, eqD]
      have ndk : (kvs.map (·.1)).Nodup := by
        rw [hk]
        exact List.Pairwise.map _ (fun a b h z => h (Sum.inr.inj z)) nd
      have mk : ∀ (k : Key), k ∈ kvs.map (·.1) ↔ ∃ z ∈ ks, k = Sum.inr z := fun k => by
        rw [hk]
        simp [eq_comm]
      refine ⟨_, rfl, _, rfl, a1, b1, kvs, lvs, rfl, sm3 _ _ ha, sm3 _ _ hb, ndk, by omega, by omega, fun no H5 k5 => ?_, fun yl yk D H5 k5 hD pr => ?_⟩
      · refine ⟨_, rfl, rfl, _, rfl, Vl.iteC (by simp) ?_⟩
        refine fin H5 (Same.trans sm3 k5) _ ?_
        rw [er', ee]
        rcases no with no | ⟨q, hq, hv⟩
        · rw [decide_eq_false (by omega)]
          simp
        · obtain ⟨z, hz, eq⟩ := (mk q.1).mp (List.mem_map_of_mem (f := (·.1)) hq)
          rcases look_val (O := O) (k := z) hj dm with ⟨c1, _⟩ | ⟨_, _, _, c2, _⟩
          · rw [eqM_no js m ks l ll ⟨z, hz, c1⟩]
            simp
          · rw [eq, c2] at hv
            cases hv
      · refine ⟨_, rfl, rfl, _, rfl, Vl.iteN (by simp) ?_⟩
        have hall : ∀ k ∈ ks, look js m k ≠ none := fun k hk' e => by
          obtain ⟨q, hq, eq⟩ := List.mem_map.mp ((mk (Sum.inr k)).mpr ⟨k, hk', rfl⟩)
          rcases look_val (O := O) (k := k) hj dm with ⟨_, c1⟩ | ⟨_, _, c2, _, _⟩
          · exact yk q hq (by rw [eq]; exact c1)
          · rw [c2] at e
            cases e
        obtain ⟨ds, r1, r2, r3⟩ := pr
        have hW5 := k5 _ _ (k3 _ _ wb.lst)
        have lp := podP_len kvs lvs
        have pl := pm_len js m ks l ll
        have pw := pm_wts js m ks l ll
        have lenb := wts_len ps'
        refine ⟨_, rfl, .inl ⟨rfl, _, SqL.of hW5⟩, _, rfl, W, D, _, _, rfl, rfl, hW5, r1, by rw [List.length_map, List.length_map]; exact Nat.le_trans (show ts'.length + ds.length ≤ 300000 by omega) (by decide), ?_⟩
        refine ⟨_, ?_, ts' ++ ds, ps' ++ pm js m ks l, _, _, _, rfl, rfl, wb.put (Same.trans k3 k5) (by omega) (fun j t q ej ep => ?_) (by omega) (fun q hq => ?_), ?_⟩
        · rw [wp, wts_app, pw]
          omega
        · have hj2 : j < (podP kvs lvs).length := by
            have := (List.getElem?_eq_some_iff.mp ej).1
            omega
          have eq := List.getElem?_eq_getElem hj2
          obtain ⟨c1, c2⟩ := pm_at hj dm hk dl j q _ ep eq hall
          exact ⟨_, _, r3 j t _ ej eq, c1, c2⟩
        · exact pm_snd (by decide) js m (by omega) ks l q hq
        · rw [er', ee, decide_eq_true (by omega), Bool.true_and, eqM_pm js m ks l ll hall, List.all_append]
    refine Vl.iteN ((Bool.not_eq_true _).mp hm) ?_
    refine ⟨_, rfl, _, rfl, p.1, p.2, E1, E2, et, (Bool.not_eq_true _).mp hs, (Bool.not_eq_true _).mp hm, fun H5 k5 => ⟨_, rfl, ?_⟩⟩
    have sm5 := Same.trans sm3 k5
    cases ev : eqD O p.1 p.2 with
    | false => exact fin H5 sm5 _ (by rw [er', ev, Bool.and_false])
    | true =>
      have wpo := wt_pos p.1
      refine ⟨_, ?_, ts', ps', _, _, _, rfl, rfl, ?_, by rw [er', ev, Bool.and_true]⟩
      · rw [wp]
        omega
      · have := wb.put (t5 := []) (p5 := []) (Same.trans k3 k5) rfl (fun j t q ej _ => by simp at ej) (by simpa [wts] using wb.wt1) (fun q hq => by cases hq)
        simp only [List.map_nil, List.append_nil] at this
        have e5 : upd H5 W (.lst (ts'.map V.ref)) = H5 := by
          funext c
          by_cases n : c = W
          · rw [n, upd_same]
            exact (Same.trans k3 k5 _ _ wb.lst).symm
          · exact upd_ne n
        rwa [e5] at this
end
end Dq

set_option Elab.async false
set_option linter.all false
set_option maxRecDepth 100000
set_option maxHeartbeats 4000000
namespace Vl
open PySem PySem.Spec PyProof.Rows L2 Pf
abbrev sFac : Stmt := top 16
def facL : LV → LV → Option (List (LV × LV))
  | .tup l, .tup m => if l.length = m.length ∧ isTagL l = isTagL m then some (l.zip m) else none
  | .map l, .map m => if keysL l m = true then some (l.map fun p => (p.2, getL m p.1)) else none
  | _, _ => none
theorem perm_of : ∀ {l m : List Str}, l.Nodup → l.length = m.length → (∀ a ∈ l, a ∈ m) → l.Perm m
  | [], m, _, h, _ => by
    cases m with
    | nil => exact .refl _
    | cons a m => cases h
  | a :: l, m, nd, h, s => by
    have nd' := List.nodup_cons.mp nd
    have am := s a List.mem_cons_self
    have e := List.perm_cons_erase am
    refine List.Perm.trans (List.Perm.cons a (perm_of nd'.2 ?_ fun b hb => ?_)) e.symm
    · have := List.length_erase_of_mem am
      simp only [List.length_cons] at h
      omega
    · have nb : b ≠ a := fun q => nd'.1 (q ▸ hb)
      exact (List.mem_erase_of_ne nb).mpr (s b (List.mem_cons_of_mem _ hb))
theorem keysL_iff {l m : List (Str × LV)} (nd : (l.map (·.1)).Nodup) : keysL l m = true ↔ l.length = m.length ∧ ∀ p ∈ l, p.1 ∈ m.map (·.1) := by
  unfold keysL
  rw [decide_eq_true_eq]
  refine ⟨fun h => ⟨by simpa using h.length_eq, fun p hp => h.mem_iff.mp (List.mem_map_of_mem hp)⟩, fun h => perm_of nd (by simpa using h.1) fun a ha => ?_⟩
  obtain ⟨p, hp, rfl⟩ := List.mem_map.mp ha
  exact h.2 p hp
def spFac (C : Addr) : Sp := fun vs H Q _ => ∃ (n : Nat) (v u : V) (x y : LV), vs = [v, u] ∧ Lv C H n x v ∧ Lv C H n y u ∧
  (facL x y = none → ∀ H', Same H H' → Q .non H') ∧ ∀ ps, facL x y = some ps → ∀ D H', Same H H' → PairsAt C H' n D ps → ps.length ≤ 3 → Q (.ref D) H'
abbrev NFac : List Str := ["one", "other", "key"]
theorem scFac : FnScope NFac ["one", "other"] (defScope sFac) := ⟨rfl, rfl, rfl, by decide +kernel, rfl, by decide +kernel, by decide +kernel⟩
theorem val_iff {k : Str} : ∀ {m : List (Str × LV)} {kvs : List (Key × V)}, kvs.map (·.1) = m.map (fun p => (Sum.inr p.1 : Key)) → ((valV kvs (.inr k)).isSome = true ↔ k ∈ m.map (·.1))
  | [], [], _ => by simp [valV]
  | [], _ :: _, h => by cases h
  | _ :: _, [], h => by cases h
  | p :: m, q :: kvs, h => by
    simp only [List.map_cons, List.cons.injEq] at h
    obtain ⟨h1, h2⟩ := h
    by_cases e : k = p.1
    · have e2 : q.1 = Sum.inr k := by rw [h1, e]
      rw [valV_pos e2]
      simp [e]
    · have e2 : ¬ q.1 = Sum.inr k := fun z => e (by rw [h1] at z; exact (Sum.inr.inj z).symm)
      rw [valV_neg e2, val_iff h2]
      simp [e]
section
variable {P : Program} {w : World} {K : PySem.W.Frag} {mg : Str → Option Value} {base : Heap} {C : Addr}
theorem ok_fac {k0 : Nat} (hk0 : 1 ≤ k0) {f fT : Addr} {fd fdT : FuncData} (F : Fun K "facing" "facing" sFac f fd) (T : TxtV mg C) (TE : Dq.TxtE mg) (U : UnkC K C) (DT : Def P w K mg base k0 "is_tag" fT fdT ["thing"] (spPTag C)) : FnOk P w K mg base CX0 (k0 + 1) f fd ["one", "other"] (spFac C) := by
  refine F.ok scFac (fun vs H Q E h => ?_) (fun cdv A outer s H vs Q E hr h => ?_)
  · obtain ⟨n, v, u, x, y, rfl, _⟩ := h
    rfl
  · obtain ⟨n, v, u, x, y, rfl, hx, hy, kN, kP⟩ := h
    have hu := hu_of hr
    refine ⟨_, (pss_cons (ps_if (PW.pt (pw_and (pt_val (pe_callB (call_isV U (T := "tuple") (by simp)) (by rfl) T.isi (by decide +kernel) (pa_cons (pv 0) (pa_cons (pe_bltn (v := .ty "tuple") (by rfl) T.tuple (by decide +kernel) rfl) pa_nil))))
        (pw_and (pt_val (pe_callB (call_isV U (T := "tuple") (by simp)) (by rfl) T.isi (by decide +kernel) (pa_cons (pv 1) (pa_cons (pe_bltn (v := .ty "tuple") (by rfl) T.tuple (by decide +kernel) rfl) pa_nil))))
        (pw_and1 (pt_cmpR op_eq (pe_callB call_len_seq (by rfl) T.len PySem.boot_len (pa_cons (pv 0) pa_nil)) (pe_callB call_len_seq (by rfl) T.len PySem.boot_len (pa_cons (pv 1) pa_nil)) (nomark _))))))
        (pss_one (ps_ret (pe_ifExp (pt_cmpR op_eq (pe_call DT.ok hr rfl DT.g DT.kp DT.b .nil pass0 (pa_cons (pv 0) pa_nil)) (pe_call DT.ok hr rfl DT.g DT.kp DT.b .nil pass0 (pa_cons (pv 1) pa_nil)) (nomark _)) (Lz.pe_listZip rfl (pa_cons (pv 0) (pa_cons (pv 1) pa_nil)) (by rfl) TE.list (by rfl) TE.zip) pe_non))) pss_nil)
      (pss_cons (ps_if (PW.pt (pw_and (pt_val (pe_callB (call_isV U (T := "dict") (by simp)) (by rfl) T.isi (by decide +kernel) (pa_cons (pv 0) (pa_cons (pe_bltn (v := .ty "dict") (by rfl) T.dict (by decide +kernel) rfl) pa_nil))))
        (pw_and (pt_val (pe_callB (call_isV U (T := "dict") (by simp)) (by rfl) T.isi (by decide +kernel) (pa_cons (pv 1) (pa_cons (pe_bltn (v := .ty "dict") (by rfl) T.dict (by decide +kernel) rfl) pa_nil))))
        (pw_and1 (pt_cmpR op_eq (pe_callB call_lenD (by rfl) T.len PySem.boot_len (pa_cons (pv 0) pa_nil)) (pe_callB call_lenD (by rfl) T.len PySem.boot_len (pa_cons (pv 1) pa_nil)) (nomark _))))))
        (pss_one (ps_if (pt_val (pe_callB (cr_all rfl) (by rfl) T.all (by decide +kernel) (pa_cons (pe_lock (pe_lc (own := [("key", 2)]) (g := gName 2) (tt := tYes) rfl scFac.nd (pi_keys (pv 0)) (blkOk_by (N := NFac) (sc := defScope sFac) (by decide +kernel)) (fun _ _ _ _ _ => pg_name (i := 2) scFac.nd rfl (Or.inl rfl)) (fun _ _ _ _ _ => pts_nil) (fun _ _ _ _ _ => pe_cmp (pc_din hu (pv 2) (pv 1)) rfl))) pa_nil)))
          (pss_one (ps_ret (pe_lock (pe_lc (own := [("key", 2)]) (g := gName 2) (tt := tYes) rfl scFac.nd (pi_keys (pv 0)) (blkOk_by (N := NFac) (sc := defScope sFac) (by decide +kernel)) (fun _ _ _ _ _ => pg_name (i := 2) scFac.nd rfl (Or.inl rfl)) (fun _ _ _ _ _ => pts_nil) (fun _ _ _ _ _ => pe_tup (pa_cons (pe_dget hu (pv 0) (pv 2) (fun _ _ => rfl)) (pa_cons (pe_dget hu (pv 1) (pv 2) (fun _ _ => rfl)) pa_nil)))))))
          pss_nil)) pss_nil)
      (pss_one (ps_ret pe_non)))), ?_⟩
    have hs := hx.stands
    have ht := hy.stands
    have none1 : isT "tuple" x = false → isT "dict" x = false → Q .non H := fun e1 e2 => kN (by cases x <;> first | rfl | (simp [isT, isA, tyN] at e1 e2)) H (Same.refl H)
    refine ⟨_, rfl, _, x, rfl, hs, _, rfl, ?_⟩
    cases x with
    | tup l =>
      refine iteC rfl ⟨_, rfl, _, y, rfl, ht, _, rfl, ?_⟩
      cases y with
      | tup m =>
        obtain ⟨a, us, rfl, ha, hl, pa⟩ := hx.tupW
        obtain ⟨b, ms, rfl, hb, hm, pb⟩ := hy.tupW
        have lu : us.length = l.length := (Paired.length pa).symm
        have lm : ms.length = m.length := (Paired.length pb).symm
        refine iteC rfl ⟨_, rfl, a, us, rfl, .inr (SqT.of ha), _, rfl, b, ms, rfl, .inr (SqT.of hb), rfl, _, rfl, ?_⟩
        by_cases el : l.length = m.length
        · refine iteC (by simp; omega) ?_
          refine ⟨_, rfl, n, _, .tup l, rfl, hx, fun H1 k1 => ⟨_, rfl, n, _, .tup m, rfl, hy.keep (Kp.of k1), fun H2 k2 => ⟨rfl, _, rfl, ?_⟩⟩⟩
          have k12 := Same.trans k1 k2
          by_cases et : isTagL l = isTagL m
          · refine iteC (by show decide (V.bl (isTagL l) = V.bl (isTagL m)) = true; rw [et]; simp) ?_
            refine ⟨_, rfl, _, rfl, a, b, us, ms, rfl, .inl ⟨SqT.of (k12 _ _ ha), SqT.of (k12 _ _ hb)⟩, by omega, fun H3 D ts z => ?_⟩
            obtain ⟨z1, z2, z3, z4, z5, z6, z7⟩ := z
            have lz : (l.zip m).length = l.length := by rw [List.length_zip]; omega
            have k3 := Same.trans k12 z1
            refine kP (l.zip m) (by rw [facL, if_pos ⟨el, et⟩]) D H3 k3 ⟨ts.map V.ref, z5, by rw [List.length_map]; omega, fun i p hp => ?_⟩ (by omega)
            have hi : i < ts.length := by
              have := (List.getElem?_eq_some_iff.mp hp).1
              omega
            have eT : ts[i]? = some ts[i] := List.getElem?_eq_getElem hi
            obtain ⟨c, d, e2, e3, e4⟩ := z7 i _ eT
            have hp' := List.getElem?_zip_eq_some.mp hp
            exact ⟨ts[i], c, d, by rw [List.getElem?_map, eT]; rfl, e4, (paired_at pa hp'.1 e2).keep (Kp.of k3), (paired_at pb hp'.2 e3).keep (Kp.of k3)⟩
          · refine iteN (by show decide (V.bl (isTagL l) = V.bl (isTagL m)) = false; simp [et]) ?_
            exact kN (by rw [facL, if_neg fun z => et z.2]) H2 k12
        · refine iteN (by simp; omega) ?_
          refine ⟨_, rfl, _, .tup l, rfl, hs, _, rfl, iteN rfl ?_⟩
          exact kN (by rw [facL, if_neg fun z => el z.1]) H (Same.refl H)
      | _ => exact iteN rfl ⟨_, rfl, _, .tup l, rfl, hs, _, rfl, iteN rfl (kN rfl H (Same.refl H))⟩
    | map l =>
      refine iteN rfl ⟨_, rfl, _, .map l, rfl, hs, _, rfl, iteC rfl ⟨_, rfl, _, y, rfl, ht, _, rfl, ?_⟩⟩
      cases y with
      | map m =>
        obtain ⟨a, us, rfl, ha, hl, nl, oa, ka, pa⟩ := hx.mapW
        obtain ⟨b, ms, rfl, hb, hm, nm, ob, kb, pb⟩ := hy.mapW
        have lu : us.length = l.length := by have := congrArg List.length ka; simpa using this
        have lm : ms.length = m.length := by have := congrArg List.length kb; simpa using this
        refine iteC rfl ⟨_, rfl, a, us, rfl, ha, _, rfl, b, ms, rfl, hb, rfl, _, rfl, ?_⟩
        by_cases el : l.length = m.length
        · refine iteC (by simp; omega) ?_
          refine ⟨a, .dK us, ha, True.intro, fun od => ⟨_, rfl, a, od, rfl, .inl ⟨us, upd_same, fun D hD => ?_⟩⟩⟩
          have rb : ∀ H3, Same (upd H a (.frz od (.dK us))) H3 → Rd H3 b (.dK ms) := fun H3 k3 => by
            by_cases eb : b = a
            · subst eb
              rw [ha] at hb
              cases hb
              exact .inr ⟨od, k3 _ _ upd_same⟩
            · exact .inl (k3 _ _ ((upd_ne eb).trans hb))
          refine lc_rel (walk_keys (d := a) (o := od) (kvs := us)) hD (fun i y _ => ∀ p, l[i]? = some p → y = V.bl (valV ms (.inr p.1)).isSome) (fun _ _ _ _ _ z => z) (Nat.lt_of_le_of_lt (show us.length ≤ 3 by omega) (by decide)) (fun H3 k3 => k3 _ _ upd_same) (fun i x H3 H3' N hi k3 y q => ?_) (fun H3 ws k3 h3 n3 r3 => ?_)
          · obtain ⟨rfl, kk, v0, e1, rfl⟩ := y
            have e2 : l[i]? = some (l[i]'(by omega)) := List.getElem?_eq_getElem _
            have ek : kk = .inr (l[i]'(by omega)).1 := by
              have h1 : (us.map (·.1))[i]? = some kk := by rw [List.getElem?_map, e1]; rfl
              rw [ka, List.getElem?_map, e2] at h1
              exact (Option.some.inj h1).symm
            subst ek
            refine ⟨rfl, _, rfl, _, rfl, b, _, rfl, .inl ⟨ms, _, rb _ k3, rfl, rfl⟩, ?_⟩
            refine q _ _ (Same.refl _) fun p hp => ?_
            rw [e2] at hp
            cases hp
            rfl
          · have ey : ws = (l.map fun p => (valV ms (.inr p.1)).isSome).map V.bl := by
              refine List.ext_getElem? fun i => ?_
              by_cases hi : i < us.length
              · obtain ⟨y0, e1, e2⟩ := r3 i hi
                have ep : l[i]? = some (l[i]'(by omega)) := List.getElem?_eq_getElem _
                rw [e1, e2 _ ep, List.getElem?_map, List.getElem?_map, ep]
                rfl
              · rw [List.getElem?_eq_none (by omega), List.getElem?_eq_none (by rw [List.length_map, List.length_map]; omega)]
            subst ey
            have ha3 : H3 a = some (.frz od (.dK us)) := k3 _ _ upd_same
            have nDa : D ≠ a := fun z => by rw [z, upd_same] at hD; cases hD
            have s3 : Same H (upd H3 a (.dK us)) := fun p o hp => by
              by_cases ea : p = a
              · subst ea
                rw [ha] at hp
                rw [upd_same]
                exact hp
              · rw [upd_ne ea]
                exact k3 _ _ ((upd_ne ea).trans hp)
            refine ⟨ha3, D, _, rfl, SqL.of ((upd_ne nDa).trans h3), _, rfl, ?_⟩
            generalize upd H3 a (.dK us) = H4 at s3
            have kiff := keysL_iff (m := m) nl
            have hall : ((l.map fun p => (valV ms (.inr p.1)).isSome).all id = true) ↔ ∀ p ∈ l, p.1 ∈ m.map (·.1) := by
              rw [List.all_map, List.all_eq_true]
              refine ⟨fun h p hp => (val_iff kb).mp (h p hp), fun h p hp => (val_iff kb).mpr (h p hp)⟩
            by_cases ek : keysL l m = true
            · refine iteC (hall.mpr (kiff.mp ek).2) ?_
              have pk : ∀ p ∈ l, p.1 ∈ m.map (·.1) := (kiff.mp ek).2
              refine ⟨a, .dK us, s3 _ _ ha, True.intro, fun od2 => ⟨_, rfl, a, od2, rfl, .inl ⟨us, upd_same, fun D2 hD2 => ?_⟩⟩⟩
              have rb2 : ∀ H5, Same (upd H4 a (.frz od2 (.dK us))) H5 → Rd H5 b (.dK ms) := fun H5 k5 => by
                by_cases eb : b = a
                · subst eb
                  rw [ha] at hb
                  cases hb
                  exact .inr ⟨od2, k5 _ _ upd_same⟩
                · exact .inl (k5 _ _ ((upd_ne eb).trans (s3 _ _ hb)))
              refine lc_rel (walk_keys (d := a) (o := od2) (kvs := us)) hD2 (fun i y Hh => ∃ TT z x c d, y = .ref TT ∧ l[i]? = some (z, x) ∧ valV us (.inr z) = some c ∧ valV ms (.inr z) = some d ∧ Hh TT = some (.tup [c, d])) (fun i y Ha Hb kk ⟨TT, z, x, c, d, e1, e2, e3, e4, e5⟩ => ⟨TT, z, x, c, d, e1, e2, e3, e4, kk _ _ e5 fun _ z => by cases z⟩) (Nat.lt_of_le_of_lt (show us.length ≤ 3 by omega) (by decide)) (fun H5 k5 => k5 _ _ upd_same) (fun i x H5 H5' N hi k5 y q => ?_) (fun H5 ws k5 h5 n5 r5 => ?_)
              · obtain ⟨rfl, kk, v0, e1, rfl⟩ := y
                obtain ⟨⟨z, x⟩, e2⟩ : ∃ p, l[i]? = some p := ⟨l[i], List.getElem?_eq_getElem (by omega)⟩
                have ek : kk = .inr z := by
                  have h1 : (us.map (·.1))[i]? = some kk := by rw [List.getElem?_map, e1]; rfl
                  rw [ka, List.getElem?_map, e2] at h1
                  exact (Option.some.inj h1).symm
                subst ek
                have mz : z ∈ l.map (·.1) := List.mem_map_of_mem (f := (·.1)) (List.mem_of_getElem? e2)
                obtain ⟨c, c1, _⟩ := val_at ka pa mz
                obtain ⟨d, d1, _⟩ := val_at kb pb (pk _ (List.mem_of_getElem? e2))
                refine ⟨rfl, _, rfl, _, rfl, a, c, rfl, .inl ⟨us, _, .inr ⟨od2, k5 _ _ upd_same⟩, rfl, c1.symm⟩, _, rfl, _, rfl, b, d, rfl, .inl ⟨ms, _, rb2 _ k5, rfl, d1.symm⟩, by show 2 ≤ sizeLine; decide, fun TT hT => ?_⟩
                exact q _ _ (sm_upd hT) ⟨TT, z, x, c, d, rfl, e2, c1, d1, upd_same⟩
              · have ka5 : H5 a = some (.frz od2 (.dK us)) := k5 _ _ upd_same
                refine ⟨ka5, ?_⟩
                have nD2a : D2 ≠ a := fun z => by rw [z, upd_same] at hD2; cases hD2
                have s5 : Same H (upd H5 a (.dK us)) := fun p o hp => by
                  by_cases ea : p = a
                  · subst ea
                    rw [ha] at hp
                    rw [upd_same]
                    exact hp
                  · rw [upd_ne ea]
                    exact k5 _ _ ((upd_ne ea).trans (s3 _ _ hp))
                refine kP (l.map fun p => (p.2, getL m p.1)) (by rw [facL, if_pos ek]) D2 _ s5 ⟨ws, by rw [upd_ne nD2a]; exact h5, by rw [List.length_map]; omega, fun i p hp => ?_⟩ (by rw [List.length_map]; exact hl)
                rw [List.getElem?_map] at hp
                obtain ⟨⟨z, x⟩, e2, e3⟩ := Option.map_eq_some_iff.mp hp
                subst e3
                have hi : i < us.length := by
                  have := (List.getElem?_eq_some_iff.mp e2).1
                  omega
                obtain ⟨y, hy3, TT, z', x', c, d, rfl, e4, e5, e6, e7⟩ := r5 i hi
                rw [e2] at e4
                cases e4
                have nTa : TT ≠ a := fun w => by rw [w, ka5] at e7; cases e7
                have mz : z ∈ l.map (·.1) := List.mem_map_of_mem (f := (·.1)) (List.mem_of_getElem? e2)
                obtain ⟨c', c1, c2⟩ := val_at ka pa mz
                obtain ⟨d', d1, d2⟩ := val_at kb pb (pk _ (List.mem_of_getElem? e2))
                rw [e5] at c1
                cases c1
                rw [e6] at d1
                cases d1
                rw [getL_at nl e2] at c2
                exact ⟨TT, c, d, hy3, (upd_ne nTa).trans e7, c2.keep (Kp.of s5), d2.keep (Kp.of s5)⟩
            · have : ¬ ((l.map fun p => (valV ms (.inr p.1)).isSome).all id = true) := fun z => ek (kiff.mpr ⟨el, hall.mp z⟩)
              refine iteN ((Bool.not_eq_true _).mp this) ?_
              exact kN (by rw [facL, if_neg ek]) H4 s3
        · refine iteN (by simp; omega) ?_
          exact kN (by rw [facL, if_neg fun z => el ((keysL_iff nl).mp z).1]) H (Same.refl H)
      | _ => exact iteN rfl (kN rfl H (Same.refl H))
    | _ => exact iteN rfl ⟨_, rfl, _, _, rfl, hs, _, rfl, iteN rfl (none1 rfl rfl)⟩
end
end Vl

set_option Elab.async false
set_option linter.all false
set_option maxRecDepth 100000
set_option maxHeartbeats 4000000
namespace Vl
open PySem PySem.Spec PyProof.Rows L2 Pf Dq
/-- the objects of the class Unknown -/
def OC (C : Addr) : Obs Unit := ⟨fun H _ v => ∃ a dx, v = .ref a ∧ H a = some (.ins C dx []), fun _ => C, fun _ _ => true⟩
def toD : Nat → LV → DV Unit
  | 0, _ => .non
  | _ + 1, .non => .non
  | _ + 1, .bl b => .bl b
  | _ + 1, .int i => .int i
  | _ + 1, .str s => .str s
  | _ + 1, .unk => .ob ()
  | n + 1, .tup l => .tup (l.map (toD n))
  | n + 1, .map l => .map (l.map (·.1)) (l.map fun p => toD n p.2)
theorem dvl_of {O : Obs Unit} {H : Hp} {f : LV → DV Unit} {R : LV → V → Prop} : ∀ {l : List LV} {us : List V}, Paired R l us → (∀ x v, R x v → Dv O H (f x) v) → DvL O H (l.map f) us
  | _, _, .nil, _ => rfl
  | _, _, .cons h t, k => ⟨_, _, rfl, k _ _ h, dvl_of t k⟩
theorem lv_dv {C : Addr} {H : Hp} : ∀ {n : Nat} {x : LV} {v : V}, Lv C H n x v → Dv (OC C) H (toD (n + 1) x) v
  | n, .non, v, h => (let ⟨_, h⟩ := h.stands; h)
  | n, .bl _, v, h => (let ⟨_, h⟩ := h.stands; h)
  | n, .int _, v, h => (let ⟨_, h⟩ := h.stands; h)
  | n, .str _, v, h => (let ⟨_, h, _⟩ := h.stands; h)
  | n, .unk, v, h => (let ⟨_, h⟩ := h.stands; h)
  | n, .tup l, v, h => by
    obtain ⟨a, us, rfl, ha, _, p⟩ := h.tupW
    refine ⟨a, us, rfl, ha, dvl_of p fun x v ⟨m, hm, hv⟩ => ?_⟩
    cases n with
    | zero => exact absurd hm (Nat.not_lt_zero _)
    | succ n => exact lv_dv (hv.le (Nat.le_of_lt_succ hm))
  | n, .map l, v, h => by
    obtain ⟨a, kvs, rfl, ha, _, nd, _, hk, p⟩ := h.mapW
    refine ⟨a, kvs, rfl, ha, nd, by rw [hk, List.map_map]; rfl, ?_⟩
    have := dvl_of (O := OC C) (H := H) (f := toD n) p fun x v ⟨m, hm, hv⟩ => by
      cases n with
      | zero => exact absurd hm (Nat.not_lt_zero _)
      | succ n => exact lv_dv (hv.le (Nat.le_of_lt_succ hm))
    rwa [List.map_map] at this
def bnd : Nat → Nat
  | 0 => 4
  | n + 1 => 4 + 3 * bnd n
theorem wtL_le {f : LV → DV Unit} {B : Nat} : ∀ {l : List LV}, (∀ x ∈ l, wt (f x) ≤ B) → wtL (l.map f) ≤ l.length * B
  | [], _ => by simp [wtL]
  | x :: l, h => by
    have := wtL_le (l := l) fun y hy => h y (List.mem_cons_of_mem _ hy)
    have := h x List.mem_cons_self
    rw [List.map_cons, wtL, List.length_cons, Nat.succ_mul]
    omega
theorem bnd_pos : ∀ n, 4 ≤ bnd n
  | 0 => Nat.le_refl _
  | n + 1 => by rw [bnd]; omega
theorem wt_toD {C : Addr} {H : Hp} : ∀ {n : Nat} {x : LV} {v : V}, Lv C H n x v → wt (toD (n + 1) x) ≤ bnd n
  | n, .non, v, h => Nat.le_trans (show 1 ≤ 4 by decide) (bnd_pos n)
  | n, .bl _, v, h => Nat.le_trans (show 1 ≤ 4 by decide) (bnd_pos n)
  | n, .int _, v, h => Nat.le_trans (show 1 ≤ 4 by decide) (bnd_pos n)
  | n, .str _, v, h => Nat.le_trans (show 1 ≤ 4 by decide) (bnd_pos n)
  | n, .unk, v, h => Nat.le_trans (show 1 ≤ 4 by decide) (bnd_pos n)
  | n, .tup l, v, h => by
    obtain ⟨a, us, rfl, ha, hl, p⟩ := h.tupW
    rw [toD, wt]
    cases n with
    | zero =>
      have : l = [] := by
        cases p with
        | nil => rfl
        | cons q0 _ => obtain ⟨m, hm, _⟩ := q0; exact absurd hm (Nat.not_lt_zero _)
      subst this
      simp [wtL, bnd]
    | succ n =>
      have := wtL_le (f := toD (n + 1)) (B := bnd n) (l := l) fun x hx => by
        obtain ⟨u, m, hm, hu⟩ := paired_mem p x hx
        exact wt_toD (hu.le (Nat.le_of_lt_succ hm))
      have := Nat.mul_le_mul_right (bnd n) hl
      rw [bnd]
      omega
  | n, .map l, v, h => by
    obtain ⟨a, kvs, rfl, ha, hl, nd, _, hk, p⟩ := h.mapW
    rw [toD, wt]
    have e : (l.map fun p => toD n p.2) = (l.map (·.2)).map (toD n) := by rw [List.map_map]; rfl
    rw [e, List.length_map]
    cases n with
    | zero =>
      have : l = [] := by
        cases l with
        | nil => rfl
        | cons q l =>
          cases kvs with
          | nil => cases hk
          | cons r kvs =>
            cases p with
            | cons q0 _ => obtain ⟨m, hm, _⟩ := q0; exact absurd hm (Nat.not_lt_zero _)
      subst this
      simp [wtL, bnd]
    | succ n =>
      have := wtL_le (f := toD (n + 1)) (B := bnd n) (l := l.map (·.2)) fun x hx => by
        obtain ⟨u, m, hm, hu⟩ := paired_mem p x hx
        exact wt_toD (hu.le (Nat.le_of_lt_succ hm))
      rw [List.length_map] at this
      have := Nat.mul_le_mul_right (bnd n) hl
      rw [bnd]
      omega
theorem bnd_le : ∀ n, n ≤ 8 → bnd n ≤ 90000 := by decide
/-- whether the program takes the two for the same, for some values of what is unknown -/
def canL (C : Addr) : Nat → LV → LV → Bool
  | 0, _, _ => true
  | n + 1, x, y => if (isU x || isU y) = true then true else match facL x y with
    | none => eqD (OC C) (toD (n + 1) x) (toD (n + 1) y)
    | some ps => ps.all fun p => canL C n p.1 p.2
def agL (C : Addr) : Nat → LV → LV → Bool
  | 0, _, _ => true
  | n + 1, x, y => if isU x = true then true else match facL x y with
    | none => eqD (OC C) (toD (n + 1) x) (toD (n + 1) y)
    | some ps => ps.all fun p => agL C n p.1 p.2
theorem getL_known {n : Nat} {m : List (Str × LV)} (h : (m.all fun p => knownL n p.2) = true) (k : Str) : knownL n (getL m k) = true := by
  induction m with
  | nil => cases n <;> rfl
  | cons q m ih =>
    rw [List.all_cons, Bool.and_eq_true] at h
    unfold getL
    rw [List.lookup]
    split
    · exact h.1
    · exact ih h.2
theorem ag_can (C : Addr) : ∀ (n : Nat) (x y : LV), knownL n y = true → agL C n x y = canL C n x y
  | 0, _, _, _ => rfl
  | n + 1, x, y, h => by
    have hy : isU y = false := by
      cases y <;> first | rfl | cases h
    have all : ∀ ps : List (LV × LV), (∀ p ∈ ps, knownL n p.2 = true) → (ps.all fun p => agL C n p.1 p.2) = ps.all fun p => canL C n p.1 p.2 := fun ps hp => by
      induction ps with
      | nil => rfl
      | cons q ps ih => rw [List.all_cons, List.all_cons, ag_can C n q.1 q.2 (hp q List.mem_cons_self), ih fun p h => hp p (List.mem_cons_of_mem _ h)]
    rw [agL, canL, hy, Bool.or_false]
    have key : ∀ ps, facL x y = some ps → ∀ p ∈ ps, knownL n p.2 = true := fun ps e p hp => by
      cases x <;> cases y <;> simp only [facL] at e <;> try cases e
      · split at e
        · cases e
          exact List.all_eq_true.mp h _ (List.of_mem_zip hp).2
        · cases e
      · split at e
        · cases e
          obtain ⟨q, _, rfl⟩ := List.mem_map.mp hp
          exact getL_known h _
        · cases e
    cases e : facL x y with
    | none => rfl
    | some ps =>
      show (if isU x = true then true else (ps.all fun p => agL C n p.1 p.2)) = (if isU x = true then true else ps.all fun p => canL C n p.1 p.2)
      rw [all ps (key ps e)]
theorem sort_iff {x y : LV} : sortL x = sortL y ↔ sortN x = sortN y := ⟨sortL_inj, fun h => by rw [sortL_N, sortL_N, h]⟩
theorem isU_4 (x : LV) : (sortN x == 4) = isU x := by
  cases x with
  | tup l => have := tupGe l; rw [show isU (.tup l) = false from rfl]; simp; omega
  | _ => rfl
theorem eq_str {C : Addr} {k : Nat} {s : Str} {a : LV} (h : eqD (OC C) (.str s) (toD (k + 1) a) = true) : a = .str s := by
  cases a <;> simp [toD, eqD] at h
  rw [h]
theorem eq_int {C : Addr} {k : Nat} {s : Int} {a : LV} (h : eqD (OC C) (.int s) (toD (k + 1) a) = true) : a = .int s := by
  cases a <;> simp [toD, eqD] at h
  rw [h]
theorem eq_str' {C : Addr} {k : Nat} {s : Str} {a : LV} (h : eqD (OC C) (toD (k + 1) a) (.str s) = true) : a = .str s := by
  cases a <;> simp [toD, eqD] at h
  rw [h]
theorem eq_int' {C : Addr} {k : Nat} {s : Int} {a : LV} (h : eqD (OC C) (toD (k + 1) a) (.int s) = true) : a = .int s := by
  cases a <;> simp [toD, eqD] at h
  rw [h]
theorem eqL_tag {C : Addr} {k : Nat} {l m : List LV} (h : isTagL l = true) (e : eqL (OC C) (l.map (toD (k + 1))) (m.map (toD (k + 1))) = true) : m = l := by
  obtain ⟨s, i, rfl⟩ := tag_form h
  match m with
  | [a, b, c] =>
    simp only [List.map_cons, List.map_nil, eqL, Bool.and_eq_true] at e
    rw [eq_str e.1, eq_str e.2.1, eq_int e.2.2.1]
  | [] => simp [eqL] at e
  | [_] => simp [eqL] at e
  | [_, _] => simp [eqL] at e
  | _ :: _ :: _ :: _ :: _ => simp [eqL] at e
theorem eqL_tag' {C : Addr} {k : Nat} {l m : List LV} (h : isTagL m = true) (e : eqL (OC C) (l.map (toD (k + 1))) (m.map (toD (k + 1))) = true) : l = m := by
  obtain ⟨s, i, rfl⟩ := tag_form h
  match l with
  | [a, b, c] =>
    simp only [List.map_cons, List.map_nil, eqL, Bool.and_eq_true] at e
    rw [eq_str' e.1, eq_str' e.2.1, eq_int' e.2.2.1]
  | [] => simp [eqL] at e
  | [_] => simp [eqL] at e
  | [_, _] => simp [eqL] at e
  | _ :: _ :: _ :: _ :: _ => simp [eqL] at e
theorem wf_pos {n : Nat} {z : LV} (h : Wf n z) : ∃ k, n = k + 1 := by
  cases n with
  | zero => exact h.elim
  | succ k => exact ⟨k, rfl⟩
theorem all_congr {ps : List (LV × LV)} {f g : LV × LV → Bool} (h : ∀ p ∈ ps, f p = g p) : ps.all f = ps.all g := by
  induction ps with
  | nil => rfl
  | cons q ps ih => rw [List.all_cons, List.all_cons, h q List.mem_cons_self, ih fun p hp => h p (List.mem_cons_of_mem _ hp)]
theorem getL_wf {n : Nat} {m : List (Str × LV)} (hm : ∀ p ∈ m, Wf n p.2) {k : Str} (hk : k ∈ m.map (·.1)) : Wf n (getL m k) := by
  induction m with
  | nil => cases hk
  | cons q m ih =>
    unfold getL
    rw [List.lookup]
    by_cases e : k = q.1
    · have e2 : (k == q.1) = true := by simpa using e
      rw [e2]
      exact hm q List.mem_cons_self
    · have e2 : (k == q.1) = false := by simpa using e
      rw [e2]
      refine ih (fun p hp => hm p (List.mem_cons_of_mem _ hp)) ?_
      rcases List.mem_cons.mp hk with h | h
      · exact absurd h e
      · exact h
theorem look_no {f : LV → DV Unit} {k : Str} : ∀ {m : List (Str × LV)}, ¬ k ∈ m.map (·.1) → look (m.map (·.1)) (m.map fun p => f p.2) k = none
  | [], _ => by simp [look]
  | q :: m, h => by
    have h1 : ¬ k = q.1 := fun e => h (by rw [e]; exact List.mem_cons_self)
    rw [List.map_cons, List.map_cons, look, if_neg h1]
    exact look_no fun z => h (List.mem_cons_of_mem _ z)
theorem can_may (C : Addr) : ∀ (n : Nat) (x y : LV), Wf n x → Wf n y → canL C n x y = mayL n x y
  | 0, _, _, h, _ => h.elim
  | n + 1, x, y, hx, hy => by
    have ih := can_may C n
    rw [canL, mayL, isU_4, isU_4]
    by_cases u : (isU x || isU y) = true
    · rw [if_pos u, if_pos u]
    rw [if_neg u, if_neg u]
    by_cases tt : ∃ l m, x = .tup l ∧ y = .tup m
    · obtain ⟨l, m, rfl, rfl⟩ := tt
      have hx' : ∀ z ∈ l, Wf n z := hx
      have hy' : ∀ z ∈ m, Wf n z := hy
      have sl : sortN (.tup l) = if isTagL l = true then 6 else 7 := rfl
      have sm : sortN (.tup m) = if isTagL m = true then 6 else 7 := rfl
      by_cases tl : isTagL l = true <;> by_cases tm : isTagL m = true
      · -- two Tags
        rw [if_pos (sort_iff.mpr (by rw [sl, sm, if_pos tl, if_pos tm]))]
        obtain ⟨s, i, rfl⟩ := tag_form tl
        obtain ⟨s', i', rfl⟩ := tag_form tm
        obtain ⟨k, rfl⟩ := wf_pos (hx' (.str "#") (by simp))
        rw [facL, if_pos ⟨rfl, tl.trans tm.symm⟩, pairsL, if_pos tl]
        have e1 : ∀ a b : Str, canL C (k + 1) (.str a) (.str b) = decide (a = b) := fun a b => by simp [canL, isU, facL, toD, eqD]
        have e2 : ∀ a b : Int, canL C (k + 1) (.int a) (.int b) = decide (a = b) := fun a b => by simp [canL, isU, facL, toD, eqD]
        show ([(LV.str "#", LV.str "#"), (LV.str s, LV.str s'), (LV.int i, LV.int i')].all fun p => canL C (k + 1) p.1 p.2) = _
        simp only [List.all_cons, List.all_nil, e1, e2, tagEq]
        by_cases a : s = s' <;> by_cases b : i = i' <;> simp [a, b]
      · rw [if_neg (fun e => by have := sort_iff.mp e; rw [sl, sm, if_pos tl, if_neg tm] at this; omega)]
        rw [facL, if_neg (fun e => tm (e.2.symm.trans tl))]
        show eqD (OC C) (.tup (l.map (toD n))) (.tup (m.map (toD n))) = false
        rw [eqD]
        obtain ⟨s, i, e⟩ := tag_form tl
        obtain ⟨k, rfl⟩ := wf_pos (hx' (.str "#") (by rw [e]; simp))
        refine (Bool.not_eq_true _).mp fun q => ?_
        rw [eqL_tag tl q] at tm
        exact tm tl
      · rw [if_neg (fun e => by have := sort_iff.mp e; rw [sl, sm, if_neg tl, if_pos tm] at this; omega)]
        rw [facL, if_neg (fun e => tl (e.2.trans tm))]
        show eqD (OC C) (.tup (l.map (toD n))) (.tup (m.map (toD n))) = false
        rw [eqD]
        obtain ⟨s, i, e⟩ := tag_form tm
        obtain ⟨k, rfl⟩ := wf_pos (hy' (.str "#") (by rw [e]; simp))
        refine (Bool.not_eq_true _).mp fun q => ?_
        rw [eqL_tag' tm q] at tl
        exact tl tm
      · rw [if_pos (sort_iff.mpr (by rw [sl, sm, if_neg tl, if_neg tm]))]
        have et : isTagL l = isTagL m := by rw [(Bool.not_eq_true _).mp tl, (Bool.not_eq_true _).mp tm]
        rw [facL, pairsL, if_neg tl]
        by_cases el : l.length = m.length
        · rw [if_pos ⟨el, et⟩, if_pos el]
          exact all_congr fun p hp => ih p.1 p.2 (hx' _ (List.of_mem_zip hp).1) (hy' _ (List.of_mem_zip hp).2)
        · rw [if_neg (fun e => el e.1), if_neg el]
          show eqD (OC C) (.tup (l.map (toD n))) (.tup (m.map (toD n))) = false
          rw [eqD]
          exact eqL_len _ _ (by simpa using el)
    by_cases mm : ∃ l m, x = .map l ∧ y = .map m
    · obtain ⟨l, m, rfl, rfl⟩ := mm
      rw [if_pos (show sortL (.map l) = sortL (.map m) from rfl), facL, pairsL]
      by_cases ek : keysL l m = true
      · rw [if_pos ek]
        have kk := (keysL_iff hx.1).mp ek
        refine all_congr fun p hp => ?_
        obtain ⟨q, hq, rfl⟩ := List.mem_map.mp hp
        exact ih _ _ (hx.2 q hq) (getL_wf hy.2 (kk.2 q hq))
      · rw [if_neg ek]
        show eqD (OC C) (.map (l.map (·.1)) (l.map fun p => toD n p.2)) (.map (m.map (·.1)) (m.map fun p => toD n p.2)) = false
        rw [eqD]
        by_cases el : l.length = m.length
        · have : ∃ p ∈ l, ¬ p.1 ∈ m.map (·.1) := Classical.byContradiction fun z => ek ((keysL_iff hx.1).mpr ⟨el, fun p hp => Classical.byContradiction fun w => z ⟨p, hp, w⟩⟩)
          obtain ⟨p, hp, hn⟩ := this
          rw [eqM_no _ _ _ _ (by simp) ⟨p.1, List.mem_map_of_mem hp, look_no hn⟩, Bool.and_false]
        · rw [decide_eq_false (by simpa using el), Bool.false_and]
    have fn : facL x y = none := by
      cases x <;> cases y <;> first | rfl | exact absurd ⟨_, _, rfl, rfl⟩ tt | exact absurd ⟨_, _, rfl, rfl⟩ mm
    rw [fn]
    show eqD (OC C) (toD (n + 1) x) (toD (n + 1) y) = _
    have six : ∀ l : List LV, 6 ≤ sortN (.tup l) := tupGe
    cases x with
    | tup l =>
      have := six l
      cases y with
      | tup m => exact absurd ⟨_, _, rfl, rfl⟩ tt
      | _ => rw [if_neg (fun e => by have := sort_iff.mp e; simp [sortN] at this; split at this <;> omega)]; simp [toD, eqD]
    | unk => exact absurd (by rfl) u
    | map l =>
      cases y with
      | map m => exact absurd ⟨_, _, rfl, rfl⟩ mm
      | tup m =>
        have := six m
        rw [if_neg (fun e => by have := sort_iff.mp e; rw [show sortN (.map l) = 5 from rfl] at this; omega)]; simp [toD, eqD]
      | unk => exact absurd (by rfl) u
      | _ => rw [if_neg (fun e => by have := sort_iff.mp e; simp [sortN] at this)]; simp [toD, eqD]
    | non =>
      cases y with
      | non => rw [if_pos rfl]; simp [toD, eqD, pairsL, flatEq]
      | tup m =>
        have := six m
        rw [if_neg (fun e => by have := sort_iff.mp e; rw [show sortN .non = 0 from rfl] at this; omega)]; simp [toD, eqD]
      | unk => exact absurd (by rfl) u
      | _ => rw [if_neg (fun e => by have := sort_iff.mp e; simp [sortN] at this)]; simp [toD, eqD]
    | bl b =>
      cases y with
      | bl c => rw [if_pos (show sortL (.bl b) = sortL (.bl c) from rfl)]; by_cases e : b = c <;> simp [toD, eqD, pairsL, flatEq, e]
      | tup m =>
        have := six m
        rw [if_neg (fun e => by have := sort_iff.mp e; rw [show sortN (.bl b) = 1 from rfl] at this; omega)]; simp [toD, eqD]
      | unk => exact absurd (by simp [isU]) u
      | _ => rw [if_neg (fun e => by have := sort_iff.mp e; simp [sortN] at this)]; simp [toD, eqD]
    | int b =>
      cases y with
      | int c => rw [if_pos (show sortL (.int b) = sortL (.int c) from rfl)]; by_cases e : b = c <;> simp [toD, eqD, pairsL, flatEq, e]
      | tup m =>
        have := six m
        rw [if_neg (fun e => by have := sort_iff.mp e; rw [show sortN (.int b) = 2 from rfl] at this; omega)]; simp [toD, eqD]
      | unk => exact absurd (by simp [isU]) u
      | _ => rw [if_neg (fun e => by have := sort_iff.mp e; simp [sortN] at this)]; simp [toD, eqD]
    | str b =>
      cases y with
      | str c => rw [if_pos (show sortL (.str b) = sortL (.str c) from rfl)]; by_cases e : b = c <;> simp [toD, eqD, pairsL, flatEq, e]
      | tup m =>
        have := six m
        rw [if_neg (fun e => by have := sort_iff.mp e; rw [show sortN (.str b) = 3 from rfl] at this; omega)]; simp [toD, eqD]
      | unk => exact absurd (by simp [isU]) u
      | _ => rw [if_neg (fun e => by have := sort_iff.mp e; simp [sortN] at this)]; simp [toD, eqD]
end Vl

set_option Elab.async false
set_option linter.all false
set_option maxRecDepth 100000
set_option maxHeartbeats 4000000
/-! what asks for touched texts: there are none among the values -/
namespace Vl
open PySem PySem.Spec PyProof.Rows L2 Pf Dq RZ
/-- the class Touched, as it stands to the values -/
structure TouC (K : PySem.W.Frag) (mg : Str → Option Value) (C D : Addr) : Prop where
  kT : ∀ T, T ∈ ["NoneType", "bool", "int", "str", "dict", "tuple"] → PySem.W.kitOne K (.type T) (.ref D) = some false
  kC : PySem.W.kitOne K (.ref C) (.ref D) = some false
  g : mg "Touched" = some (.ref D)
  zip : mg "zip" = none
theorem kit_tou {K : PySem.W.Frag} {mg : Str → Option Value} {C D : Addr} (O : TouC K mg C D) (x : LV) : PySem.W.kitOne K (tyOf C x) (.ref D) = some false := by
  cases x with
  | unk => exact O.kC
  | _ => exact O.kT _ (by simp [tyN])
section
variable {X : Cx} {C D : Addr}
def rTou (C D : Addr) : List V → Hp → VK → Prop := fun xs H Q => ∃ v x, xs = [v, .ref D] ∧ Stands C H x v ∧ Q (.bl false) H
theorem call_isTou (U : UnkC X.K C) (O : TouC X.K X.mg C D) : CallR X (.builtin "isinstance") (rTou C D) := fun pins s σ H xs us Q I r ⟨v, x, e, h, q⟩ =>
  call_isi pins s σ H xs us Q I r ⟨v, .ref D, tyOf C x, .ref D, false, e, .own D, h.ty U, kit_tou O x, q⟩
end
section
variable {K : PySem.W.Frag} {a b : Addr} {xs ys : List V}
theorem walk_zipT {n : Nat} (hn : n = min xs.length ys.length) : Walk (ItzT K a b) n (fun H => SqT K H a xs ∧ SqT K H b ys) (YPair (fun i => xs[i]?) (fun i => ys[i]?)) := by
  subst hn
  refine ⟨fun i _ hi q => ?_, fun _ q => ⟨xs, ys, q.1, q.2, by omega⟩, fun i H v H' _ q y => ?_⟩
  · have h1 : i < xs.length := by omega
    have h2 : i < ys.length := by omega
    exact ⟨xs, ys, xs[i], ys[i], q.1, q.2, by simp [h1], by simp [h2]⟩
  · obtain ⟨T, x, z, h1, h2, h3, h4, h5⟩ := y
    exact ⟨T, x, z, h1, h2, h3, h4 xs q.1, h5 ys q.2⟩
end
abbrev sBec : Stmt := top 9
abbrev NBec : List Str := ["one", "other", "part", "facing"]
theorem scBec : FnScope NBec ["one", "other"] (defScope sBec) := ⟨rfl, rfl, rfl, by decide +kernel, rfl, by decide +kernel, by decide +kernel⟩
def spBec (C : Addr) : Sp := fun vs H Q _ => ∃ (a b : Addr) (us ws : List V) (l m : List LV), vs = [.ref a, .ref b] ∧ H a = some (.tup us) ∧ H b = some (.tup ws) ∧ Paired (fun x v => Stands C H x v) l us ∧ Paired (fun x v => Stands C H x v) m ws ∧ ∀ H', Same H H' → Q .non H'
theorem Stands.keep {C : Addr} {H H' : Hp} {x : LV} {v : V} (h : Stands C H x v) (k : Kp H H') : Stands C H' x v := by
  obtain ⟨R, h⟩ := h
  exact ⟨R, Node.imp k (fun _ _ z => z) h⟩
theorem paired_get {R : LV → V → Prop} : ∀ {l : List LV} {us : List V}, Paired R l us → ∀ {i : Nat} {v : V}, us[i]? = some v → ∃ x, R x v
  | _, _, .nil, i, v, h => by simp at h
  | _, _, .cons r p, 0, v, h => by
    simp at h
    exact ⟨_, h ▸ r⟩
  | _, _, .cons r p, i + 1, v, h => paired_get p (i := i) (by simpa using h)
section
variable {P : Program} {w : World} {K : PySem.W.Frag} {mg : Str → Option Value} {base : Heap} {C D : Addr}
theorem ok_bec {f : Addr} {fd : FuncData} (F : Fun K "become" "become" sBec f fd) (T : TxtV mg C) (U : UnkC K C) (O : TouC K mg C D) : FnOk P w K mg base CX0 1 f fd ["one", "other"] (spBec C) := by
  refine F.ok scBec (fun vs H Q E h => ?_) (fun cdv A outer s H vs Q E hr h => ?_)
  · obtain ⟨a, b, us, ws, l, m, rfl, _⟩ := h
    rfl
  · obtain ⟨a, b, us, ws, l, m, rfl, ha, hb, pl, pm, k⟩ := h
    refine ⟨_, pss_one (ps_for PassesOwn.never rfl (pi_zipA (by rfl) O.zip (pa_cons (pv 0) (pa_cons (pv 1) pa_nil))) (pg_tup rfl (pgs_cons (pg_name (i := 2) scBec.nd rfl (.inl rfl)) (pgs_cons (pg_name (i := 3) scBec.nd rfl (.inl rfl)) pgs_nil)))
      (pss_cons (ps_if (PW.pt (pw_and (pt_val (pe_callB (call_isTou U O) (by rfl) T.isi (by decide +kernel) (pa_cons (pv 2) (pa_cons (pe_glob (v := .ref D) rfl O.g rfl) pa_nil)))) (pw_and1 (pt_val (pe_callB (call_isV U (T := "str") (by simp)) (by rfl) T.isi (by decide +kernel) (pa_cons (pv 3) (pa_cons (pe_bltn (v := .ty "str") (by rfl) T.str (by decide +kernel) rfl) pa_nil))))))) pss_never pss_nil)
      (pss_one (ps_if (PW.pt (pw_and (pt_val (pe_callB (call_isTou U O) (by rfl) T.isi (by decide +kernel) (pa_cons (pv 3) (pa_cons (pe_glob (v := .ref D) rfl O.g rfl) pa_nil)))) (pw_and1 (pt_val (pe_callB (call_isV U (T := "str") (by simp)) (by rfl) T.isi (by decide +kernel) (pa_cons (pv 2) (pa_cons (pe_bltn (v := .ty "str") (by rfl) T.str (by decide +kernel) rfl) pa_nil))))))) pss_never pss_nil)))), ?_⟩
    refine ⟨_, rfl, _, rfl, a, b, us, ws, rfl, .inr ⟨SqT.of ha, SqT.of hb, ?_⟩⟩
    refine for_it (walk_zipT rfl) (fun i σ H' => (∃ v2 v3 : Option V, σ = [some (.ref a), some (.ref b), v2, v3]) ∧ Same H H') ⟨⟨_, _, rfl⟩, Same.refl H⟩ (fun i σ H' _ h => ⟨SqT.of (h.2 _ _ ha), SqT.of (h.2 _ _ hb)⟩) (fun i x σ H1 H2 hi h y => ?_) (fun σ H' h => k H' h.2)
    obtain ⟨⟨v2, v3, rfl⟩, k1⟩ := h
    obtain ⟨TT, p, q, rfl, hT, rfl, ep, eq'⟩ := y
    have k2 := sm_upd (o := .tup [p, q]) hT
    have e2 : (upd H1 TT (.tup [p, q])) TT = some (.tup [p, q]) := upd_same
    generalize upd H1 TT (.tup [p, q]) = H2 at k2 e2 ⊢
    have k12 := Same.trans k1 k2
    obtain ⟨x, hx⟩ := paired_get pl ep
    obtain ⟨y, hy⟩ := paired_get pm eq'
    have hx := hx.keep (Kp.of k12)
    have hy := hy.keep (Kp.of k12)
    refine ⟨TT, _, rfl, SqT.of e2, rfl, _, _, rfl, _, _, rfl, rfl, ?_⟩
    refine ⟨_, rfl, p, x, rfl, hx, _, rfl, iteN rfl (iteN rfl ?_)⟩
    refine ⟨_, rfl, q, y, rfl, hy, _, rfl, iteN rfl (iteN rfl ?_)⟩
    exact ⟨⟨_, _, rfl⟩, k12⟩
end
end Vl

set_option Elab.async false
set_option linter.all false
set_option maxRecDepth 100000
set_option maxHeartbeats 4000000
namespace Vl
open PySem PySem.Spec PyProof.Rows L2 Pf Dq
abbrev sAg : Stmt := top 17
abbrev sSm : Stmt := top 18
abbrev sCan : Stmt := top 19
abbrev NCan : List Str := ["one", "other", "pairs", "a", "b"]
abbrev NAg : List Str := ["planned", "value", "pairs", "part", "known"]
theorem scCan : FnScope NCan ["one", "other"] (defScope sCan) := ⟨rfl, rfl, rfl, by decide +kernel, rfl, by decide +kernel, by decide +kernel⟩
theorem scAg : FnScope NAg ["planned", "value"] (defScope sAg) := ⟨rfl, rfl, rfl, by decide +kernel, rfl, by decide +kernel, by decide +kernel⟩
theorem scSm : FnScope ["one", "other"] ["one", "other"] (defScope sSm) := ⟨rfl, rfl, rfl, by decide +kernel, rfl, by decide +kernel, by decide +kernel⟩
def spCan (C : Addr) (n : Nat) : Sp := fun vs H Q _ => ∃ (v u : V) (x y : LV), vs = [v, u] ∧ Lw C H n x v ∧ Lw C H n y u ∧ ∀ H', Same H H' → Q (.bl (canL C n x y)) H'
def spAg (C : Addr) (n : Nat) : Sp := fun vs H Q _ => ∃ (v u : V) (x y : LV), vs = [v, u] ∧ Lw C H n x v ∧ Lw C H n y u ∧ ∀ H', Same H H' → Q (.bl (agL C n x y)) H'
section
variable {P : Program} {w : World} {K : PySem.W.Frag} {mg : Str → Option Value} {base : Heap} {C : Addr}
theorem ok_can {f fF fE : Addr} {fd fdF fdE : FuncData} (F : Fun K "_can_be_same" "_can_be_same" sCan f fd) (g : mg "_can_be_same" = some (.ref f)) (b : Binds K fd ["one", "other"] []) (T : TxtV mg C) (U : UnkC K C) {CT fB : Addr} {fdB : FuncData} (O : TouC K mg C CT) (DB : Def P w K mg base 1 "become" fB fdB ["one", "other"] (spBec C)) (DF : Def P w K mg base 3 "facing" fF fdF ["one", "other"] (spFac C))
    (DE : Def P w K mg base 2 "equal" fE fdE ["one", "other"] (spEqual (OC C))) : ∀ n, n ≤ 9 → FnOk P w K mg base CX0 (3 + n) f fd ["one", "other"] (spCan C n)
  | 0, _ => F.ok (k := 2) scCan (fun vs H Q E ⟨_, _, _, _, _, ⟨_, h, _⟩, _⟩ => absurd h (Nat.not_lt_zero _)) (fun cdv A outer s H vs Q E hr ⟨_, _, _, _, _, ⟨_, h, _⟩, _⟩ => absurd h (Nat.not_lt_zero _))
  | n + 1, hn9 => by
    have DM : Def P w K mg base (3 + n) "_can_be_same" f fd ["one", "other"] (spCan C n) := ⟨ok_can F g b T U O DB DF DE n (by omega), g, F.kp, b⟩
    refine F.ok (k := 3 + n) scCan (fun vs H Q E h => ?_) (fun cdv A outer s H vs Q E hr h => ?_)
    · obtain ⟨v, u, x, y, rfl, _⟩ := h
      rfl
    · obtain ⟨v, u, x, y, rfl, ⟨mx, lx, hx⟩, ⟨my, ly, hy⟩, k⟩ := h
      have hx := hx.le (Nat.le_of_lt_succ lx)
      have hy := hy.le (Nat.le_of_lt_succ ly)
      refine ⟨_, pss_cons (ps_if (PW.pt (pw_or (pt_val (pe_callB (call_isUk U) (by rfl) T.isi (by decide +kernel) (pa_cons (pv 0) (pa_cons (pe_glob (v := .ref C) rfl T.unk rfl) pa_nil)))) (pw_or1 (pt_val (pe_callB (call_isUk U) (by rfl) T.isi (by decide +kernel) (pa_cons (pv 1) (pa_cons (pe_glob (v := .ref C) rfl T.unk rfl) pa_nil))))))) (pss_one (ps_ret pe_bl)) pss_nil)
        (pss_cons (ps_if (PW.pt (pw_or (pt_val (pe_callB (call_isTou U O) (by rfl) T.isi (by decide +kernel) (pa_cons (pv 0) (pa_cons (pe_glob (v := .ref CT) rfl O.g rfl) pa_nil)))) (pw_or1 (pt_val (pe_callB (call_isTou U O) (by rfl) T.isi (by decide +kernel) (pa_cons (pv 1) (pa_cons (pe_glob (v := .ref CT) rfl O.g rfl) pa_nil))))))) pss_never pss_nil)
        (pss_cons (ps_set (i := 2) scCan.nd rfl (Or.inl rfl) (pe_call DF.ok (hr.mono (by omega)) rfl DF.g DF.kp DF.b .nil pass0 (pa_cons (pv 0) (pa_cons (pv 1) pa_nil))))
        (pss_cons (ps_if (pt_cmpR op_notN (pv 2) pe_non (nomark _)) (pss_one (ps_ret (pe_callB (cr_all rfl) (by rfl) T.all (by decide +kernel) (pa_cons (pe_lc (own := [("a", 3), ("b", 4)]) (g := gTup K 2 (gCons (gName 3) (gCons (gName 4) gNil))) (tt := tYes) rfl scCan.nd (pi_list (pv 2)) (blkOk_by (N := NCan) (sc := defScope sCan) (by decide +kernel)) (fun _ _ _ _ _ => (pg_tup rfl (pgs_cons (pg_name (i := 3) scCan.nd rfl (Or.inl rfl)) (pgs_cons (pg_name (i := 4) scCan.nd rfl (Or.inl rfl)) pgs_nil)))) (fun _ _ _ _ _ => pts_nil) (fun _ _ _ _ _ => (pe_call DM.ok hr rfl DM.g DM.kp DM.b .nil pass0 (pa_cons (pv 3) (pa_cons (pv 4) pa_nil))))) pa_nil)))) pss_nil)
        (pss_cons (ps_if (PW.pt (pw_and (pt_val (pe_callB (call_isV U (T := "tuple") (by simp)) (by rfl) T.isi (by decide +kernel) (pa_cons (pv 0) (pa_cons (pe_bltn (v := .ty "tuple") (by rfl) T.tuple (by decide +kernel) rfl) pa_nil)))) (pw_and1 (pt_val (pe_callB (call_isV U (T := "tuple") (by simp)) (by rfl) T.isi (by decide +kernel) (pa_cons (pv 1) (pa_cons (pe_bltn (v := .ty "tuple") (by rfl) T.tuple (by decide +kernel) rfl) pa_nil))))))) (pss_one (ps_expr (pe_call DB.ok (hr.mono (by omega)) rfl DB.g DB.kp DB.b .nil pass0 (pa_cons (pv 0) (pa_cons (pv 1) pa_nil))))) pss_nil)
        (pss_one (ps_ret (pe_call DE.ok (hr.mono (by omega)) rfl DE.g DE.kp DE.b .nil pass0 (pa_cons (pv 0) (pa_cons (pv 1) pa_nil))))))))), ?_⟩
      have fin : ∀ H', Same H H' → ∀ b, canL C (n + 1) x y = b → Q (.bl b) H' := fun H' k' b e => e ▸ k H' k'
      refine ⟨_, rfl, _, x, rfl, hx.stands, _, rfl, ?_⟩
      by_cases ux : isU x = true
      · refine iteC ux ?_
        exact fin H (Same.refl H) _ (by rw [canL, ux]; rfl)
      refine iteN ((Bool.not_eq_true _).mp ux) ?_
      refine ⟨_, rfl, _, y, rfl, hy.stands, _, rfl, ?_⟩
      by_cases uy : isU y = true
      · refine iteC uy ?_
        exact fin H (Same.refl H) _ (by rw [canL, uy, Bool.or_true]; rfl)
      refine iteN ((Bool.not_eq_true _).mp uy) ?_
      have nu : ¬ (isU x || isU y) = true := by simp [ux, uy]
      refine ⟨_, rfl, v, x, rfl, hx.stands, _, rfl, iteN rfl ?_⟩
      refine ⟨_, rfl, u, y, rfl, hy.stands, _, rfl, iteN rfl ?_⟩
      refine ⟨_, rfl, _, rfl, n, v, u, x, y, rfl, hx, hy, fun e H1 k1 => ?_, fun ps e D H1 k1 pa l3 => ?_⟩
      · refine ⟨_, rfl, rfl, _, rfl, iteN (by simp) ?_⟩
        have hx1 := hx.keep (Kp.of k1)
        have hy1 := hy.keep (Kp.of k1)
        have eqe : canL C (n + 1) x y = eqD (OC C) (toD (n + 1) x) (toD (n + 1) y) := by rw [canL, if_neg nu, e]
        have wx := Nat.le_trans (wt_toD hx1) (bnd_le n (by omega))
        have wy := Nat.le_trans (wt_toD hy1) (bnd_le n (by omega))
        refine ⟨_, rfl, v, x, rfl, hx1.stands, _, rfl, ?_⟩
        by_cases tx : isT "tuple" x = true
        case neg =>
          refine iteN ((Bool.not_eq_true _).mp tx) (iteN rfl ?_)
          exact ⟨_, rfl, _, rfl, v, u, _, _, rfl, lv_dv hx1, lv_dv hy1, wx, wy, fun H2 k2 => fin H2 (Same.trans k1 k2) _ eqe⟩
        refine iteC tx ⟨_, rfl, u, y, rfl, hy1.stands, _, rfl, ?_⟩
        by_cases ty : isT "tuple" y = true
        case neg =>
          refine iteN ((Bool.not_eq_true _).mp ty) ?_
          exact ⟨_, rfl, _, rfl, v, u, _, _, rfl, lv_dv hx1, lv_dv hy1, wx, wy, fun H2 k2 => fin H2 (Same.trans k1 k2) _ eqe⟩
        refine iteC ty ?_
        obtain ⟨l, ex⟩ : ∃ l, x = .tup l := by
          cases x <;> first | exact ⟨_, rfl⟩ | (exfalso; simp [isT, tyN, isA] at tx)
        obtain ⟨m, ey⟩ : ∃ m, y = .tup m := by
          cases y <;> first | exact ⟨_, rfl⟩ | (exfalso; simp [isT, tyN, isA] at ty)
        have hx2 := hx1
        have hy2 := hy1
        rw [ex] at hx2
        rw [ey] at hy2
        obtain ⟨a', us, ev, ha, _, pl⟩ := hx2.tupP
        obtain ⟨b', ws, eu, hb, _, pm⟩ := hy2.tupP
        refine ⟨_, rfl, _, rfl, a', b', us, ws, l, m, by rw [ev, eu]; rfl, ha, hb, pl, pm, fun H2 k2 => ?_⟩
        have hx3 := hx1.keep (Kp.of k2)
        have hy3 := hy1.keep (Kp.of k2)
        exact ⟨_, rfl, _, rfl, v, u, _, _, rfl, lv_dv hx3, lv_dv hy3, wx, wy, fun H3 k3 => fin H3 (Same.trans k1 (Same.trans k2 k3)) _ eqe⟩
      · refine ⟨_, rfl, rfl, _, rfl, iteC (by simp) ?_⟩
        obtain ⟨ws, hD, lw, pat⟩ := pa
        refine ⟨_, rfl, D, rfl, ⟨ws, SqL.of hD⟩, fun D2 hD2 => ?_⟩
        refine lc_rel walk_list hD2 (fun i y _ => ∀ p, ps[i]? = some p → y = V.bl (canL C n p.1 p.2)) (fun _ _ _ _ _ z => z) (Nat.lt_of_le_of_lt (show ws.length ≤ 3 by omega) (by decide)) (fun H8 k8 => SqL.of (k8 _ _ hD)) (fun i z H8 H8' N hi k8 yy q => ?_) (fun H8 ys k8 h8 n8 r8 => ?_)
        · obtain ⟨rfl, ez⟩ := yy
          have ep : ps[i]? = some (ps[i]'(by omega)) := List.getElem?_eq_getElem _
          obtain ⟨TT, a, b', et, hT, l1, l2⟩ := pat i _ ep
          rw [ez] at et
          cases et
          refine ⟨TT, _, rfl, SqT.of (k8 _ _ hT), rfl, _, _, rfl, _, _, rfl, rfl, rfl, ?_⟩
          refine ⟨_, rfl, _, rfl, a, b', _, _, rfl, l1.keep (Kp.of k8), l2.keep (Kp.of k8), fun H9 k9 => q _ H9 k9 fun p h => ?_⟩
          rw [ep] at h
          cases h
          rfl
        · have ey : ys = (ps.map fun p => canL C n p.1 p.2).map V.bl := by
            refine List.ext_getElem? fun i => ?_
            by_cases hi : i < ws.length
            · obtain ⟨y0, e1, e2⟩ := r8 i hi
              have ep : ps[i]? = some (ps[i]'(by omega)) := List.getElem?_eq_getElem _
              rw [e1, e2 _ ep, List.getElem?_map, List.getElem?_map, ep]
              rfl
            · rw [List.getElem?_eq_none (by omega), List.getElem?_eq_none (by rw [List.length_map, List.length_map]; omega)]
          subst ey
          refine ⟨D2, _, rfl, SqL.of h8, ?_⟩
          refine fin H8 (Same.trans k1 k8) _ ?_
          rw [canL, if_neg nu, e]
          simp
theorem ok_ag {f fF fE : Addr} {fd fdF fdE : FuncData} (F : Fun K "agrees" "agrees" sAg f fd) (g : mg "agrees" = some (.ref f)) (b : Binds K fd ["planned", "value"] []) (T : TxtV mg C) (U : UnkC K C) (DF : Def P w K mg base 3 "facing" fF fdF ["one", "other"] (spFac C))
    (DE : Def P w K mg base 2 "equal" fE fdE ["one", "other"] (spEqual (OC C))) : ∀ n, n ≤ 9 → FnOk P w K mg base CX0 (3 + n) f fd ["planned", "value"] (spAg C n)
  | 0, _ => F.ok (k := 2) scAg (fun vs H Q E ⟨_, _, _, _, _, ⟨_, h, _⟩, _⟩ => absurd h (Nat.not_lt_zero _)) (fun cdv A outer s H vs Q E hr ⟨_, _, _, _, _, ⟨_, h, _⟩, _⟩ => absurd h (Nat.not_lt_zero _))
  | n + 1, hn9 => by
    have DM : Def P w K mg base (3 + n) "agrees" f fd ["planned", "value"] (spAg C n) := ⟨ok_ag F g b T U DF DE n (by omega), g, F.kp, b⟩
    refine F.ok (k := 3 + n) scAg (fun vs H Q E h => ?_) (fun cdv A outer s H vs Q E hr h => ?_)
    · obtain ⟨v, u, x, y, rfl, _⟩ := h
      rfl
    · obtain ⟨v, u, x, y, rfl, ⟨mx, lx, hx⟩, ⟨my, ly, hy⟩, k⟩ := h
      have hx := hx.le (Nat.le_of_lt_succ lx)
      have hy := hy.le (Nat.le_of_lt_succ ly)
      refine ⟨_, (pss_cons (ps_if (pt_val (pe_callB (call_isUk U) (by rfl) T.isi (by decide +kernel) (pa_cons (pv 0) (pa_cons (pe_glob (v := .ref C) rfl T.unk rfl) pa_nil)))) (pss_one (ps_ret pe_bl)) pss_nil)
        (pss_cons (ps_set (i := 2) scAg.nd rfl (Or.inl rfl) (pe_call DF.ok (hr.mono (by omega)) rfl DF.g DF.kp DF.b .nil pass0 (pa_cons (pv 0) (pa_cons (pv 1) pa_nil))))
        (pss_cons (ps_if (pt_cmpR op_isN (pv 2) pe_non (nomark _)) (pss_one (ps_ret (pe_call DE.ok (hr.mono (by omega)) rfl DE.g DE.kp DE.b .nil pass0 (pa_cons (pv 0) (pa_cons (pv 1) pa_nil))))) pss_nil)
        (pss_one (ps_ret (pe_callB (cr_all rfl) (by rfl) T.all (by decide +kernel) (pa_cons (pe_lc (own := [("part", 3), ("known", 4)]) (g := gTup K 2 (gCons (gName 3) (gCons (gName 4) gNil))) (tt := tYes) rfl scAg.nd (pi_list (pv 2)) (blkOk_by (N := NAg) (sc := defScope sAg) (by decide +kernel)) (fun _ _ _ _ _ => (pg_tup rfl (pgs_cons (pg_name (i := 3) scAg.nd rfl (Or.inl rfl)) (pgs_cons (pg_name (i := 4) scAg.nd rfl (Or.inl rfl)) pgs_nil)))) (fun _ _ _ _ _ => pts_nil) (fun _ _ _ _ _ => (pe_call DM.ok hr rfl DM.g DM.kp DM.b .nil pass0 (pa_cons (pv 3) (pa_cons (pv 4) pa_nil))))) pa_nil))))))), ?_⟩
      have fin : ∀ H', Same H H' → ∀ b, agL C (n + 1) x y = b → Q (.bl b) H' := fun H' k' b e => e ▸ k H' k'
      refine ⟨_, rfl, _, x, rfl, hx.stands, _, rfl, ?_⟩
      by_cases ux : isU x = true
      · refine iteC ux ?_
        exact fin H (Same.refl H) _ (by rw [agL, if_pos ux])
      refine iteN ((Bool.not_eq_true _).mp ux) ?_
      refine ⟨_, rfl, _, rfl, n, v, u, x, y, rfl, hx, hy, fun e H1 k1 => ?_, fun ps e D H1 k1 pa l3 => ?_⟩
      · refine ⟨_, rfl, rfl, _, rfl, iteC (by simp) ?_⟩
        have hx1 := hx.keep (Kp.of k1)
        have hy1 := hy.keep (Kp.of k1)
        refine ⟨_, rfl, _, rfl, v, u, _, _, rfl, lv_dv hx1, lv_dv hy1, Nat.le_trans (wt_toD hx1) (bnd_le n (by omega)), Nat.le_trans (wt_toD hy1) (bnd_le n (by omega)), fun H2 k2 => ?_⟩
        exact fin H2 (Same.trans k1 k2) _ (by rw [agL, if_neg ux, e])
      · refine ⟨_, rfl, rfl, _, rfl, iteN (by simp) ?_⟩
        obtain ⟨ws, hD, lw, pat⟩ := pa
        refine ⟨_, rfl, D, rfl, ⟨ws, SqL.of hD⟩, fun D2 hD2 => ?_⟩
        refine lc_rel walk_list hD2 (fun i y _ => ∀ p, ps[i]? = some p → y = V.bl (agL C n p.1 p.2)) (fun _ _ _ _ _ z => z) (Nat.lt_of_le_of_lt (show ws.length ≤ 3 by omega) (by decide)) (fun H8 k8 => SqL.of (k8 _ _ hD)) (fun i z H8 H8' N hi k8 yy q => ?_) (fun H8 ys k8 h8 n8 r8 => ?_)
        · obtain ⟨rfl, ez⟩ := yy
          have ep : ps[i]? = some (ps[i]'(by omega)) := List.getElem?_eq_getElem _
          obtain ⟨TT, a, b', et, hT, l1, l2⟩ := pat i _ ep
          rw [ez] at et
          cases et
          refine ⟨TT, _, rfl, SqT.of (k8 _ _ hT), rfl, _, _, rfl, _, _, rfl, rfl, rfl, ?_⟩
          refine ⟨_, rfl, _, rfl, a, b', _, _, rfl, l1.keep (Kp.of k8), l2.keep (Kp.of k8), fun H9 k9 => q _ H9 k9 fun p h => ?_⟩
          rw [ep] at h
          cases h
          rfl
        · have ey : ys = (ps.map fun p => agL C n p.1 p.2).map V.bl := by
            refine List.ext_getElem? fun i => ?_
            by_cases hi : i < ws.length
            · obtain ⟨y0, e1, e2⟩ := r8 i hi
              have ep : ps[i]? = some (ps[i]'(by omega)) := List.getElem?_eq_getElem _
              rw [e1, e2 _ ep, List.getElem?_map, List.getElem?_map, ep]
              rfl
            · rw [List.getElem?_eq_none (by omega), List.getElem?_eq_none (by rw [List.length_map, List.length_map]; omega)]
          subst ey
          refine ⟨D2, _, rfl, SqL.of h8, ?_⟩
          refine fin H8 (Same.trans k1 k8) _ ?_
          rw [agL, if_neg ux, e]
          simp
theorem agrees_of {k : Nat} {f : Addr} {fd : FuncData} {ps : List Str} {n : Nat} (h : FnOk P w K mg base CX0 k f fd ps (spAg C n)) : FnOk P w K mg base CX0 k f fd ps (spAgrees C n) :=
  h.imp fun vs H Q E ⟨v, u, x, y, e, hx, hy, ho, q⟩ => ⟨v, u, x, y, e, hx, hy, fun H' k' => by
    have ky : knownL n y = true := by rw [known_open hy, ho]; rfl
    rw [ag_can C n x y ky, can_may C n x y hx.wf hy.wf]
    exact q H' k'⟩
theorem known_of {k : Nat} {f : Addr} {fd : FuncData} {ps : List Str} {n : Nat} (h : FnOk P w K mg base CX0 k f fd ps (spKn C n)) : FnOk P w K mg base CX0 k f fd ps (spKnown C n) :=
  h.imp fun vs H Q E ⟨v, x, e, hx, q⟩ => ⟨v, x, e, hx, fun H' k' => by
    rw [known_open hx]
    exact q H' k'⟩
theorem ok_psame {n k : Nat} {f fM fK : Addr} {fd fdM fdK : FuncData} (F : Fun K "same" "same" sSm f fd) (T : TxtV mg C) (M0 : Mk0 K C) (DM : Def P w K mg base k "_can_be_same" fM fdM ["one", "other"] (spCan C n)) (DK : Def P w K mg base k "is_known" fK fdK ["value"] (spKn C n)) : FnOk P w K mg base CX0 (k + 1) f fd ["one", "other"] (spSame C n) := by
  refine F.ok scSm (fun vs H Q E h => ?_) (fun cdv A outer s H vs Q E hr h => ?_)
  · obtain ⟨v, u, x, y, rfl, _⟩ := h
    rfl
  · obtain ⟨v, u, x, y, rfl, hx, hy, q⟩ := h
    refine ⟨_, (pss_cons (ps_if (pt_not (pt_val (pe_call DM.ok hr rfl DM.g DM.kp DM.b .nil pass0 (pa_cons (pv 0) (pa_cons (pv 1) pa_nil))))) (pss_one (ps_ret pe_bl)) pss_nil)
        (pss_cons (ps_if (PW.pt (pw_and (pt_val (pe_call DK.ok hr rfl DK.g DK.kp DK.b .nil pass0 (pa_cons (pv 0) pa_nil))) (pw_and1 (pt_val (pe_call DK.ok hr rfl DK.g DK.kp DK.b .nil pass0 (pa_cons (pv 1) pa_nil)))))) (pss_one (ps_ret pe_bl)) pss_nil)
        (pss_one (ps_ret (pe_mk0 M0 rfl T.unk))))), ?_⟩
    have fin : ∀ z, sameL n x y = z → ∀ (v' : V) (H' : Hp), Same H H' → Lv C H' 0 z v' → Q v' H' := fun z e v' H' s h => q v' H' s (e ▸ h)
    have ecm := can_may C n x y hx.wf hy.wf
    have o1 : 0 ≤ openL n x := (open_bound hx).1
    have o2 : 0 ≤ openL n y := (open_bound hy).1
    refine ⟨_, rfl, _, rfl, v, u, x, y, rfl, hx, hy, fun H1 k1 => ⟨_, rfl, ?_⟩⟩
    by_cases em : mayL n x y = true
    · refine iteN (by rw [ecm, em]; rfl) ?_
      refine ⟨_, rfl, v, x, rfl, hx.keep (Kp.of k1), fun H2 k2 => ⟨_, rfl, ?_⟩⟩
      have k12 := Same.trans k1 k2
      have last : ∀ H3, Same H H3 → ¬ openL n x + openL n y = 0 → tMk0 C [some v, some u] H3 Q := fun H3 k3 eo q' dx hq hdx ne => by
        have s4 : Same H3 (upd (upd H3 dx (.own q')) q' (.ins C dx [])) := Same.upd (sm_upd hdx) ((upd_ne (Ne.symm ne)).trans hq)
        exact fin .unk (by rw [sameL, if_pos em, if_neg eo]) _ _ (Same.trans k3 s4) ⟨q', dx, rfl, upd_same⟩
      by_cases kx : knownL n x = true
      · refine iteC kx ?_
        refine ⟨_, rfl, u, y, rfl, hy.keep (Kp.of k12), fun H3 k3 => ⟨_, rfl, ?_⟩⟩
        have k13 := Same.trans k12 k3
        have e1 : openL n x = 0 := of_decide_eq_true ((known_open hx).symm.trans kx)
        by_cases ky : knownL n y = true
        · refine iteC ky ?_
          have e2 : openL n y = 0 := of_decide_eq_true ((known_open hy).symm.trans ky)
          exact fin (.bl true) (by rw [sameL, if_pos em, if_pos (by omega)]) _ _ k13 rfl
        · refine iteN ((Bool.not_eq_true _).mp ky) ?_
          refine last H3 k13 fun e => ky ?_
          rw [known_open hy]
          exact decide_eq_true (by omega)
      · refine iteN ((Bool.not_eq_true _).mp kx) ?_
        refine last H2 k12 fun e => kx ?_
        rw [known_open hx]
        exact decide_eq_true (by omega)
    · refine iteC (by rw [ecm, (Bool.not_eq_true _).mp em]; rfl) ?_
      exact fin (.bl false) (by rw [sameL, if_neg em]) _ _ k1 rfl
end
end Vl

set_option Elab.async false
set_option linter.all false
set_option maxRecDepth 100000
set_option maxHeartbeats 8000000
namespace Vl
open PySem PySem.Spec PyProof.Rows L2 Pf Dq
theorem kitT_of {K : PySem.W.Frag} {C : Addr} {T : String} (h : PySem.W.mroIn K C (.type T) = some false) (e : PySem.W.kitMeta T = true) : PySem.W.kitOne K (.ref C) (.type T) = some false := by
  show (if ((Value.ref C) == Value.type T) = true then some true else if PySem.W.kitMeta T = true then PySem.W.subIn K (.ref C) (.type T) else none) = some false
  rw [if_neg (by intro z; cases z), if_pos e]
  exact h
theorem kitU_of {K : PySem.W.Frag} {C : Addr} {T : String} (c : PySem.W.isClsIn K C = true) (t : PySem.W.typeIn K (.ref C) = some (.type "type")) (h : PySem.W.subIn K (.type T) (.ref C) = some false) : PySem.W.kitOne K (.type T) (.ref C) = some false := by
  have e1 : ((PySem.W.clsIn K C).isSome && PySem.W.typeIn K (.ref C) == some (.type "type")) = true := by rw [show (PySem.W.clsIn K C).isSome = true from c, t]; rfl
  show (if ((Value.type T) == Value.ref C) = true then some true else if ((PySem.W.clsIn K C).isSome && PySem.W.typeIn K (.ref C) == some (.type "type")) = true then PySem.W.subIn K (.type T) (.ref C) else none) = some false
  rw [if_neg (by intro z; cases z), if_pos e1]
  exact h
theorem kitC_of {K : PySem.W.Frag} {C D : Addr} (n : C ≠ D) (c : PySem.W.isClsIn K D = true) (t : PySem.W.typeIn K (.ref D) = some (.type "type")) (h : PySem.W.subIn K (.ref C) (.ref D) = some false) : PySem.W.kitOne K (.ref C) (.ref D) = some false := by
  have e1 : ((PySem.W.clsIn K D).isSome && PySem.W.typeIn K (.ref D) == some (.type "type")) = true := by rw [show (PySem.W.clsIn K D).isSome = true from c, t]; rfl
  show (if ((Value.ref C) == Value.ref D) = true then some true else if ((PySem.W.clsIn K D).isSome && PySem.W.typeIn K (.ref D) == some (.type "type")) = true then PySem.W.subIn K (.ref C) (.ref D) else none) = some false
  rw [if_neg (by intro z; exact n (Value.ref.inj (beq_iff_eq.mp z))), if_pos e1]
  exact h
theorem unk_ob {P : Program} {w : World} {K : PySem.W.Frag} {mg : Str → Option Value} {base : Heap} {C fE : Addr} {fdE : FuncData} {pE : List Str} (U : UnkC K C) (EU : EqU K C fE) (GE : FnOk P w K mg base CX0 1 fE fdE pE (spEqU C)) (bE : Binds K fdE pE []) : ObEq P w K mg base 1 (OC C) := by
  refine ⟨?_⟩
  intro Y e1 e2 e3 e4 e5 hr
  subst e1 e2 e3 e4 e5
  intro pins s σ H x y v u Q I rx ry h
  obtain ⟨a, b, ⟨a1, dx1, ex, h1⟩, ⟨a2, dx2, ey, h2⟩, _, q⟩ := h
  exact op_eqU U EU GE bE hr pins s σ H x y v u Q I rx ry ⟨a1, dx1, .unk, ex, h1, ⟨fun _ _ => False, a2, dx2, ey, h2⟩, q H (Same.refl H)⟩
theorem all_mk {l : PySem.W.OpenLaw} {w : World} {K : PySem.W.Frag} {h : Heap} {mg : Str → Option Value} {fa C CT fEq fPod fInt fNam fPTag fKno fFac fBec fAg fSm fCan fWel fDrw fOne fVal fTag fSrt fPrs fMay fOpn fLSm fAlk fTrn fRgt fLaw fUEq : Addr} (X : K.In h) (G : h.Ns mainGlobals mg) (hfa : mg "law" = some (.ref fa))
    {odEq anEq odPod anPod odInt anInt odNam anNam odPTag anPTag odKno anKno odFac anFac odBec anBec odAg anAg odSm anSm odCan anCan odWel anWel odDrw anDrw odOne anOne odVal anVal odTag anTag odSrt anSrt odPrs anPrs odMay anMay odOpn anOpn odLSm anLSm odAlk anAlk odTrn anTrn odRgt anRgt odLaw anLaw odUEq anUEq : Option Addr} {slEq slPod slInt slNam slPTag slKno slFac slBec slAg slSm slCan slWel slDrw slOne slVal slTag slSrt slPrs slMay slOpn slLSm slAlk slTrn slRgt slLaw slUEq : Array (Option Value)} {ocEq kVEq dcEq pmEq cdEq ctEq ocPod kVPod dcPod pmPod cdPod ctPod ocInt kVInt dcInt pmInt cdInt ctInt ocNam kVNam dcNam pmNam cdNam ctNam ocPTag kVPTag dcPTag pmPTag cdPTag ctPTag ocKno kVKno dcKno pmKno cdKno ctKno ocFac kVFac dcFac pmFac cdFac ctFac ocBec kVBec dcBec pmBec cdBec ctBec ocAg kVAg dcAg pmAg cdAg ctAg ocSm kVSm dcSm pmSm cdSm ctSm ocCan kVCan dcCan pmCan cdCan ctCan ocWel kVWel dcWel pmWel cdWel ctWel ocDrw kVDrw dcDrw pmDrw cdDrw ctDrw ocOne kVOne dcOne pmOne cdOne ctOne ocVal kVVal dcVal pmVal cdVal ctVal ocTag kVTag dcTag pmTag cdTag ctTag ocSrt kVSrt dcSrt pmSrt cdSrt ctSrt ocPrs kVPrs dcPrs pmPrs cdPrs ctPrs ocMay kVMay dcMay pmMay cdMay ctMay ocOpn kVOpn dcOpn pmOpn cdOpn ctOpn ocLSm kVLSm dcLSm pmLSm cdLSm ctLSm ocAlk kVAlk dcAlk pmAlk cdAlk ctAlk ocTrn kVTrn dcTrn pmTrn cdTrn ctTrn ocRgt kVRgt dcRgt pmRgt cdRgt ctRgt ocLaw kVLaw dcLaw pmLaw cdLaw ctLaw ocUEq kVUEq dcUEq pmUEq cdUEq ctUEq : Value}
    (aEq : PySem.W.nsIn K mainGlobals "equal" = some (some (.ref fEq)))
    (lEq : K.lookup fEq = some ⟨ocEq, odEq, .func (PySem.W.fnOf "equal" "equal" (defArgs Dq.sEqual) (defBody Dq.sEqual) (defScope Dq.sEqual) .none kVEq dcEq pmEq anEq cdEq ctEq), slEq⟩)
    (cEq : PySem.W.codeIn K cdEq "equal" = true)
    (kEq : PySem.W.keepIn K (.ref fEq) = true)
    (aPod : PySem.W.nsIn K mainGlobals "_pairs_of_dicts" = some (some (.ref fPod)))
    (lPod : K.lookup fPod = some ⟨ocPod, odPod, .func (PySem.W.fnOf "_pairs_of_dicts" "_pairs_of_dicts" (defArgs Dq.sPod) (defBody Dq.sPod) (defScope Dq.sPod) .none kVPod dcPod pmPod anPod cdPod ctPod), slPod⟩)
    (cPod : PySem.W.codeIn K cdPod "_pairs_of_dicts" = true)
    (kPod : PySem.W.keepIn K (.ref fPod) = true)
    (aInt : PySem.W.nsIn K mainGlobals "is_integer" = some (some (.ref fInt)))
    (lInt : K.lookup fInt = some ⟨ocInt, odInt, .func (PySem.W.fnOf "is_integer" "is_integer" (defArgs sInt) (defBody sInt) (defScope sInt) .none kVInt dcInt pmInt anInt cdInt ctInt), slInt⟩)
    (cInt : PySem.W.codeIn K cdInt "is_integer" = true)
    (kInt : PySem.W.keepIn K (.ref fInt) = true)
    (aNam : PySem.W.nsIn K mainGlobals "is_name" = some (some (.ref fNam)))
    (lNam : K.lookup fNam = some ⟨ocNam, odNam, .func (PySem.W.fnOf "is_name" "is_name" (defArgs sName) (defBody sName) (defScope sName) .none kVNam dcNam pmNam anNam cdNam ctNam), slNam⟩)
    (cNam : PySem.W.codeIn K cdNam "is_name" = true)
    (kNam : PySem.W.keepIn K (.ref fNam) = true)
    (aPTag : PySem.W.nsIn K mainGlobals "is_tag" = some (some (.ref fPTag)))
    (lPTag : K.lookup fPTag = some ⟨ocPTag, odPTag, .func (PySem.W.fnOf "is_tag" "is_tag" (defArgs sPTag) (defBody sPTag) (defScope sPTag) .none kVPTag dcPTag pmPTag anPTag cdPTag ctPTag), slPTag⟩)
    (cPTag : PySem.W.codeIn K cdPTag "is_tag" = true)
    (kPTag : PySem.W.keepIn K (.ref fPTag) = true)
    (aKno : PySem.W.nsIn K mainGlobals "is_known" = some (some (.ref fKno)))
    (lKno : K.lookup fKno = some ⟨ocKno, odKno, .func (PySem.W.fnOf "is_known" "is_known" (defArgs sKnown) (defBody sKnown) (defScope sKnown) .none kVKno dcKno pmKno anKno cdKno ctKno), slKno⟩)
    (cKno : PySem.W.codeIn K cdKno "is_known" = true)
    (kKno : PySem.W.keepIn K (.ref fKno) = true)
    (aFac : PySem.W.nsIn K mainGlobals "facing" = some (some (.ref fFac)))
    (lFac : K.lookup fFac = some ⟨ocFac, odFac, .func (PySem.W.fnOf "facing" "facing" (defArgs sFac) (defBody sFac) (defScope sFac) .none kVFac dcFac pmFac anFac cdFac ctFac), slFac⟩)
    (cFac : PySem.W.codeIn K cdFac "facing" = true)
    (kFac : PySem.W.keepIn K (.ref fFac) = true)
    (aBec : PySem.W.nsIn K mainGlobals "become" = some (some (.ref fBec)))
    (lBec : K.lookup fBec = some ⟨ocBec, odBec, .func (PySem.W.fnOf "become" "become" (defArgs sBec) (defBody sBec) (defScope sBec) .none kVBec dcBec pmBec anBec cdBec ctBec), slBec⟩)
    (cBec : PySem.W.codeIn K cdBec "become" = true)
    (kBec : PySem.W.keepIn K (.ref fBec) = true)
    (aAg : PySem.W.nsIn K mainGlobals "agrees" = some (some (.ref fAg)))
    (lAg : K.lookup fAg = some ⟨ocAg, odAg, .func (PySem.W.fnOf "agrees" "agrees" (defArgs sAg) (defBody sAg) (defScope sAg) .none kVAg dcAg pmAg anAg cdAg ctAg), slAg⟩)
    (cAg : PySem.W.codeIn K cdAg "agrees" = true)
    (kAg : PySem.W.keepIn K (.ref fAg) = true)
    (aSm : PySem.W.nsIn K mainGlobals "same" = some (some (.ref fSm)))
    (lSm : K.lookup fSm = some ⟨ocSm, odSm, .func (PySem.W.fnOf "same" "same" (defArgs sSm) (defBody sSm) (defScope sSm) .none kVSm dcSm pmSm anSm cdSm ctSm), slSm⟩)
    (cSm : PySem.W.codeIn K cdSm "same" = true)
    (kSm : PySem.W.keepIn K (.ref fSm) = true)
    (aCan : PySem.W.nsIn K mainGlobals "_can_be_same" = some (some (.ref fCan)))
    (lCan : K.lookup fCan = some ⟨ocCan, odCan, .func (PySem.W.fnOf "_can_be_same" "_can_be_same" (defArgs sCan) (defBody sCan) (defScope sCan) .none kVCan dcCan pmCan anCan cdCan ctCan), slCan⟩)
    (cCan : PySem.W.codeIn K cdCan "_can_be_same" = true)
    (kCan : PySem.W.keepIn K (.ref fCan) = true)
    (aWel : PySem.W.nsIn K mainGlobals "_law_well" = some (some (.ref fWel)))
    (lWel : K.lookup fWel = some ⟨ocWel, odWel, .func (PySem.W.fnOf "_law_well" "_law_well" (defArgs Pf.sWell) (defBody Pf.sWell) (defScope Pf.sWell) .none kVWel dcWel pmWel anWel cdWel ctWel), slWel⟩)
    (cWel : PySem.W.codeIn K cdWel "_law_well" = true)
    (kWel : PySem.W.keepIn K (.ref fWel) = true)
    (aDrw : PySem.W.nsIn K mainGlobals "_law_draw" = some (some (.ref fDrw)))
    (lDrw : K.lookup fDrw = some ⟨ocDrw, odDrw, .func (PySem.W.fnOf "_law_draw" "_law_draw" (defArgs Pf.sDraw) (defBody Pf.sDraw) (defScope Pf.sDraw) .none kVDrw dcDrw pmDrw anDrw cdDrw ctDrw), slDrw⟩)
    (cDrw : PySem.W.codeIn K cdDrw "_law_draw" = true)
    (kDrw : PySem.W.keepIn K (.ref fDrw) = true)
    (aOne : PySem.W.nsIn K mainGlobals "_law_one" = some (some (.ref fOne)))
    (lOne : K.lookup fOne = some ⟨ocOne, odOne, .func (PySem.W.fnOf "_law_one" "_law_one" (defArgs Pf.sOne) (defBody Pf.sOne) (defScope Pf.sOne) .none kVOne dcOne pmOne anOne cdOne ctOne), slOne⟩)
    (cOne : PySem.W.codeIn K cdOne "_law_one" = true)
    (kOne : PySem.W.keepIn K (.ref fOne) = true)
    (aVal : PySem.W.nsIn K mainGlobals "_law_value" = some (some (.ref fVal)))
    (lVal : K.lookup fVal = some ⟨ocVal, odVal, .func (PySem.W.fnOf "_law_value" "_law_value" (defArgs sValue) (defBody sValue) (defScope sValue) .none kVVal dcVal pmVal anVal cdVal ctVal), slVal⟩)
    (cVal : PySem.W.codeIn K cdVal "_law_value" = true)
    (kVal : PySem.W.keepIn K (.ref fVal) = true)
    (aTag : PySem.W.nsIn K mainGlobals "_law_is_tag" = some (some (.ref fTag)))
    (lTag : K.lookup fTag = some ⟨ocTag, odTag, .func (PySem.W.fnOf "_law_is_tag" "_law_is_tag" (defArgs sTag) (defBody sTag) (defScope sTag) .none kVTag dcTag pmTag anTag cdTag ctTag), slTag⟩)
    (cTag : PySem.W.codeIn K cdTag "_law_is_tag" = true)
    (kTag : PySem.W.keepIn K (.ref fTag) = true)
    (aSrt : PySem.W.nsIn K mainGlobals "_law_sort" = some (some (.ref fSrt)))
    (lSrt : K.lookup fSrt = some ⟨ocSrt, odSrt, .func (PySem.W.fnOf "_law_sort" "_law_sort" (defArgs sSort) (defBody sSort) (defScope sSort) .none kVSrt dcSrt pmSrt anSrt cdSrt ctSrt), slSrt⟩)
    (cSrt : PySem.W.codeIn K cdSrt "_law_sort" = true)
    (kSrt : PySem.W.keepIn K (.ref fSrt) = true)
    (aPrs : PySem.W.nsIn K mainGlobals "_law_pairs" = some (some (.ref fPrs)))
    (lPrs : K.lookup fPrs = some ⟨ocPrs, odPrs, .func (PySem.W.fnOf "_law_pairs" "_law_pairs" (defArgs sPairs) (defBody sPairs) (defScope sPairs) .none kVPrs dcPrs pmPrs anPrs cdPrs ctPrs), slPrs⟩)
    (cPrs : PySem.W.codeIn K cdPrs "_law_pairs" = true)
    (kPrs : PySem.W.keepIn K (.ref fPrs) = true)
    (aMay : PySem.W.nsIn K mainGlobals "_law_may" = some (some (.ref fMay)))
    (lMay : K.lookup fMay = some ⟨ocMay, odMay, .func (PySem.W.fnOf "_law_may" "_law_may" (defArgs sMay) (defBody sMay) (defScope sMay) .none kVMay dcMay pmMay anMay cdMay ctMay), slMay⟩)
    (cMay : PySem.W.codeIn K cdMay "_law_may" = true)
    (kMay : PySem.W.keepIn K (.ref fMay) = true)
    (aOpn : PySem.W.nsIn K mainGlobals "_law_open" = some (some (.ref fOpn)))
    (lOpn : K.lookup fOpn = some ⟨ocOpn, odOpn, .func (PySem.W.fnOf "_law_open" "_law_open" (defArgs sOpen) (defBody sOpen) (defScope sOpen) .none kVOpn dcOpn pmOpn anOpn cdOpn ctOpn), slOpn⟩)
    (cOpn : PySem.W.codeIn K cdOpn "_law_open" = true)
    (kOpn : PySem.W.keepIn K (.ref fOpn) = true)
    (aLSm : PySem.W.nsIn K mainGlobals "_law_same" = some (some (.ref fLSm)))
    (lLSm : K.lookup fLSm = some ⟨ocLSm, odLSm, .func (PySem.W.fnOf "_law_same" "_law_same" (defArgs sLsame) (defBody sLsame) (defScope sLsame) .none kVLSm dcLSm pmLSm anLSm cdLSm ctLSm), slLSm⟩)
    (cLSm : PySem.W.codeIn K cdLSm "_law_same" = true)
    (kLSm : PySem.W.keepIn K (.ref fLSm) = true)
    (aAlk : PySem.W.nsIn K mainGlobals "_law_alike" = some (some (.ref fAlk)))
    (lAlk : K.lookup fAlk = some ⟨ocAlk, odAlk, .func (PySem.W.fnOf "_law_alike" "_law_alike" (defArgs sAlike) (defBody sAlike) (defScope sAlike) .none kVAlk dcAlk pmAlk anAlk cdAlk ctAlk), slAlk⟩)
    (cAlk : PySem.W.codeIn K cdAlk "_law_alike" = true)
    (kAlk : PySem.W.keepIn K (.ref fAlk) = true)
    (aTrn : PySem.W.nsIn K mainGlobals "_law_turned" = some (some (.ref fTrn)))
    (lTrn : K.lookup fTrn = some ⟨ocTrn, odTrn, .func (PySem.W.fnOf "_law_turned" "_law_turned" (defArgs sTurned) (defBody sTurned) (defScope sTurned) .none kVTrn dcTrn pmTrn anTrn cdTrn ctTrn), slTrn⟩)
    (cTrn : PySem.W.codeIn K cdTrn "_law_turned" = true)
    (kTrn : PySem.W.keepIn K (.ref fTrn) = true)
    (aRgt : PySem.W.nsIn K mainGlobals "_law_pair_right" = some (some (.ref fRgt)))
    (lRgt : K.lookup fRgt = some ⟨ocRgt, odRgt, .func (PySem.W.fnOf "_law_pair_right" "_law_pair_right" (defArgs sRight) (defBody sRight) (defScope sRight) .none kVRgt dcRgt pmRgt anRgt cdRgt ctRgt), slRgt⟩)
    (cRgt : PySem.W.codeIn K cdRgt "_law_pair_right" = true)
    (kRgt : PySem.W.keepIn K (.ref fRgt) = true)
    (aLaw : PySem.W.nsIn K mainGlobals "law" = some (some (.ref fLaw)))
    (lLaw : K.lookup fLaw = some ⟨ocLaw, odLaw, .func (PySem.W.fnOf "law" "law" (defArgs sLaw) (defBody sLaw) (defScope sLaw) .none kVLaw dcLaw pmLaw anLaw cdLaw ctLaw), slLaw⟩)
    (cLaw : PySem.W.codeIn K cdLaw "law" = true)
    (kLaw : PySem.W.keepIn K (.ref fLaw) = true)
    (z_isinstance : PySem.W.nsIn K mainGlobals "isinstance" = some none)
    (z_len : PySem.W.nsIn K mainGlobals "len" = some none)
    (z_int : PySem.W.nsIn K mainGlobals "int" = some none)
    (z_bool : PySem.W.nsIn K mainGlobals "bool" = some none)
    (z_str : PySem.W.nsIn K mainGlobals "str" = some none)
    (z_dict : PySem.W.nsIn K mainGlobals "dict" = some none)
    (z_tuple : PySem.W.nsIn K mainGlobals "tuple" = some none)
    (z_list : PySem.W.nsIn K mainGlobals "list" = some none)
    (z_all : PySem.W.nsIn K mainGlobals "all" = some none)
    (z_sum : PySem.W.nsIn K mainGlobals "sum" = some none)
    (z_range : PySem.W.nsIn K mainGlobals "range" = some none)
    (z_sorted : PySem.W.nsIn K mainGlobals "sorted" = some none)
    (z_enumerate : PySem.W.nsIn K mainGlobals "enumerate" = some none)
    (z_repr : PySem.W.nsIn K mainGlobals "repr" = some none)
    (z_zip : PySem.W.nsIn K mainGlobals "zip" = some none)
    (z_type : PySem.W.nsIn K mainGlobals "type" = some none)
    (aC : PySem.W.nsIn K mainGlobals "Unknown" = some (some (.ref C)))
    (aT : PySem.W.nsIn K mainGlobals "Touched" = some (some (.ref CT)))
    (icT : PySem.W.isClsIn K CT = true)
    (tyT : PySem.W.typeIn K (.ref CT) = some (.type "type"))
    (sCT : PySem.W.subIn K (.ref C) (.ref CT) = some false)
    (nCT : C ≠ CT)
    (sW_NoneType : PySem.W.subIn K (.type "NoneType") (.ref CT) = some false)
    (sW_bool : PySem.W.subIn K (.type "bool") (.ref CT) = some false)
    (sW_int : PySem.W.subIn K (.type "int") (.ref CT) = some false)
    (sW_str : PySem.W.subIn K (.type "str") (.ref CT) = some false)
    (sW_dict : PySem.W.subIn K (.type "dict") (.ref CT) = some false)
    (sW_tuple : PySem.W.subIn K (.type "tuple") (.ref CT) = some false)
    (pg : PySem.W.plainGet K C Str.empty = true)
    (hd : PySem.W.hasDictIn K C = true)
    (po : PySem.W.plainOver K C = true)
    (sa : PySem.W.findIn K (.ref C) "__setattr__" = some (some (.builtin "object.__setattr__")))
    (ha : PySem.W.findIn K (.ref C) "__class__" = some (some (.builtin "object.__class__")))
    (hn : PySem.W.specialIn K (.builtin "object.__class__") "__get__" = some (some (.builtin "getset_descriptor.__get__")))
    (htk : PySem.W.takesIn K (.builtin "object.__class__") = some true)
    (hm : PySem.W.mroIn K C (.type "object") = some true)
    (mk : PySem.W.makesIn K C = true)
    (kc : PySem.W.keepIn K (.ref C) = true)
    (ini : PySem.W.findIn K (.ref C) "__init__" = some (some (.builtin "object.__init__")))
    (cC : PySem.W.isClsIn K C = true)
    (tyC : PySem.W.typeIn K (.ref C) = some (.type "type"))
    (mT_bool : PySem.W.mroIn K C (.type "bool") = some false)
    (mT_int : PySem.W.mroIn K C (.type "int") = some false)
    (mT_str : PySem.W.mroIn K C (.type "str") = some false)
    (mT_dict : PySem.W.mroIn K C (.type "dict") = some false)
    (mT_tuple : PySem.W.mroIn K C (.type "tuple") = some false)
    (mT_list : PySem.W.mroIn K C (.type "list") = some false)
    (sU_NoneType : PySem.W.subIn K (.type "NoneType") (.ref C) = some false)
    (sU_bool : PySem.W.subIn K (.type "bool") (.ref C) = some false)
    (sU_int : PySem.W.subIn K (.type "int") (.ref C) = some false)
    (sU_str : PySem.W.subIn K (.type "str") (.ref C) = some false)
    (sU_dict : PySem.W.subIn K (.type "dict") (.ref C) = some false)
    (sU_tuple : PySem.W.subIn K (.type "tuple") (.ref C) = some false)
    (aUEq : PySem.W.findIn K (.ref C) "__eq__" = some (some (.ref fUEq)))
    (iUEq : PySem.W.isFn K (.ref fUEq) = true)
    (lUEq : K.lookup fUEq = some ⟨ocUEq, odUEq, .func (PySem.W.fnOf "__eq__" "Unknown.__eq__" (defArgs sEq) (defBody sEq) (defScope sEq) .none kVUEq dcUEq pmUEq anUEq cdUEq ctUEq), slUEq⟩)
    (cUEq : PySem.W.codeIn K cdUEq "Unknown.__eq__" = true)
    (kUEq : PySem.W.keepIn K (.ref fUEq) = true)
    : ∃ fd : FuncData, (∀ (s : Shared) (v : Value), BindsTo s fd ⟨[v], []⟩ [("_law_script", v)]) ∧ ∀ base : Heap, K.In base → base.Ns mainGlobals mg → FnOk l.prog w K mg base CX0 16 fa fd ["_law_script"] (spLaw K) := by
  have e := hfa.symm.trans (PySem.W.mg_of X G aLaw)
  cases e
  have FEq := fun_mk (st := Dq.sEqual) lEq cEq kEq
  have FPod := fun_mk (st := Dq.sPod) lPod cPod kPod
  have FInt := fun_mk (st := sInt) lInt cInt kInt
  have FNam := fun_mk (st := sName) lNam cNam kNam
  have FPTag := fun_mk (st := sPTag) lPTag cPTag kPTag
  have FKno := fun_mk (st := sKnown) lKno cKno kKno
  have FFac := fun_mk (st := sFac) lFac cFac kFac
  have FBec := fun_mk (st := sBec) lBec cBec kBec
  have FAg := fun_mk (st := sAg) lAg cAg kAg
  have FSm := fun_mk (st := sSm) lSm cSm kSm
  have FCan := fun_mk (st := sCan) lCan cCan kCan
  have FWel := fun_mk (st := Pf.sWell) lWel cWel kWel
  have FDrw := fun_mk (st := Pf.sDraw) lDrw cDrw kDrw
  have FOne := fun_mk (st := Pf.sOne) lOne cOne kOne
  have FVal := fun_mk (st := sValue) lVal cVal kVal
  have FTag := fun_mk (st := sTag) lTag cTag kTag
  have FSrt := fun_mk (st := sSort) lSrt cSrt kSrt
  have FPrs := fun_mk (st := sPairs) lPrs cPrs kPrs
  have FMay := fun_mk (st := sMay) lMay cMay kMay
  have FOpn := fun_mk (st := sOpen) lOpn cOpn kOpn
  have FLSm := fun_mk (st := sLsame) lLSm cLSm kLSm
  have FAlk := fun_mk (st := sAlike) lAlk cAlk kAlk
  have FTrn := fun_mk (st := sTurned) lTrn cTrn kTrn
  have FRgt := fun_mk (st := sRight) lRgt cRgt kRgt
  have FLaw := fun_mk (st := sLaw) lLaw cLaw kLaw
  have FUEq := fun_mk (st := sEq) lUEq cUEq kUEq
  have bEq := FEq.binds (ps := ["one", "other"]) fun _ _ _ _ _ _ us hl => match us, hl with | [_, _], _ => rfl
  have bPod := FPod.binds (ps := ["one", "other"]) fun _ _ _ _ _ _ us hl => match us, hl with | [_, _], _ => rfl
  have bInt := FInt.binds (ps := ["thing"]) fun _ _ _ _ _ _ us hl => match us, hl with | [_], _ => rfl
  have bNam := FNam.binds (ps := ["thing"]) fun _ _ _ _ _ _ us hl => match us, hl with | [_], _ => rfl
  have bPTag := FPTag.binds (ps := ["thing"]) fun _ _ _ _ _ _ us hl => match us, hl with | [_], _ => rfl
  have bKno := FKno.binds (ps := ["value"]) fun _ _ _ _ _ _ us hl => match us, hl with | [_], _ => rfl
  have bFac := FFac.binds (ps := ["one", "other"]) fun _ _ _ _ _ _ us hl => match us, hl with | [_, _], _ => rfl
  have bBec := FBec.binds (ps := ["one", "other"]) fun _ _ _ _ _ _ us hl => match us, hl with | [_, _], _ => rfl
  have bAg := FAg.binds (ps := ["planned", "value"]) fun _ _ _ _ _ _ us hl => match us, hl with | [_, _], _ => rfl
  have bSm := FSm.binds (ps := ["one", "other"]) fun _ _ _ _ _ _ us hl => match us, hl with | [_, _], _ => rfl
  have bCan := FCan.binds (ps := ["one", "other"]) fun _ _ _ _ _ _ us hl => match us, hl with | [_, _], _ => rfl
  have bWel := FWel.binds (ps := ["_law_cell"]) fun _ _ _ _ _ _ us hl => match us, hl with | [_], _ => rfl
  have bDrw := FDrw.binds (ps := ["_law_well_here", "_law_below"]) fun _ _ _ _ _ _ us hl => match us, hl with | [_, _], _ => rfl
  have bOne := FOne.binds (ps := ["_law_well_here", "_law_some"]) fun _ _ _ _ _ _ us hl => match us, hl with | [_, _], _ => rfl
  have bVal := FVal.binds (ps := ["_law_well_here", "_law_deep", "_law_dim"]) fun _ _ _ _ _ _ us hl => match us, hl with | [_, _, _], _ => rfl
  have bTag := FTag.binds (ps := ["_law_value_here"]) fun _ _ _ _ _ _ us hl => match us, hl with | [_], _ => rfl
  have bSrt := FSrt.binds (ps := ["_law_value_here"]) fun _ _ _ _ _ _ us hl => match us, hl with | [_], _ => rfl
  have bPrs := FPrs.binds (ps := ["_law_one_here", "_law_other"]) fun _ _ _ _ _ _ us hl => match us, hl with | [_, _], _ => rfl
  have bMay := FMay.binds (ps := ["_law_one_here", "_law_other"]) fun _ _ _ _ _ _ us hl => match us, hl with | [_, _], _ => rfl
  have bOpn := FOpn.binds (ps := ["_law_value_here"]) fun _ _ _ _ _ _ us hl => match us, hl with | [_], _ => rfl
  have bLSm := FLSm.binds (ps := ["_law_one_here", "_law_other"]) fun _ _ _ _ _ _ us hl => match us, hl with | [_, _], _ => rfl
  have bAlk := FAlk.binds (ps := ["_law_one_here", "_law_other"]) fun _ _ _ _ _ _ us hl => match us, hl with | [_, _], _ => rfl
  have bTrn := FTrn.binds (ps := ["_law_well_here", "_law_value_here", "_law_dim"]) fun _ _ _ _ _ _ us hl => match us, hl with | [_, _, _], _ => rfl
  have bRgt := FRgt.binds (ps := ["_law_one_here", "_law_other"]) fun _ _ _ _ _ _ us hl => match us, hl with | [_, _], _ => rfl
  have bLaw := FLaw.binds (ps := ["_law_script"]) fun _ _ _ _ _ _ us hl => match us, hl with | [_], _ => rfl
  have bUEq := FUEq.binds (ps := ["self", "other"]) fun _ _ _ _ _ _ us hl => match us, hl with | [_, _], _ => rfl
  have gEq := PySem.W.mg_of X G aEq
  have gPod := PySem.W.mg_of X G aPod
  have gInt := PySem.W.mg_of X G aInt
  have gNam := PySem.W.mg_of X G aNam
  have gPTag := PySem.W.mg_of X G aPTag
  have gKno := PySem.W.mg_of X G aKno
  have gFac := PySem.W.mg_of X G aFac
  have gBec := PySem.W.mg_of X G aBec
  have gAg := PySem.W.mg_of X G aAg
  have gSm := PySem.W.mg_of X G aSm
  have gCan := PySem.W.mg_of X G aCan
  have gWel := PySem.W.mg_of X G aWel
  have gDrw := PySem.W.mg_of X G aDrw
  have gOne := PySem.W.mg_of X G aOne
  have gVal := PySem.W.mg_of X G aVal
  have gTag := PySem.W.mg_of X G aTag
  have gSrt := PySem.W.mg_of X G aSrt
  have gPrs := PySem.W.mg_of X G aPrs
  have gMay := PySem.W.mg_of X G aMay
  have gOpn := PySem.W.mg_of X G aOpn
  have gLSm := PySem.W.mg_of X G aLSm
  have gAlk := PySem.W.mg_of X G aAlk
  have gTrn := PySem.W.mg_of X G aTrn
  have gRgt := PySem.W.mg_of X G aRgt
  have gLaw := PySem.W.mg_of X G aLaw
  have n_isinstance := PySem.W.mg_none_of X G z_isinstance
  have n_len := PySem.W.mg_none_of X G z_len
  have n_int := PySem.W.mg_none_of X G z_int
  have n_bool := PySem.W.mg_none_of X G z_bool
  have n_str := PySem.W.mg_none_of X G z_str
  have n_dict := PySem.W.mg_none_of X G z_dict
  have n_tuple := PySem.W.mg_none_of X G z_tuple
  have n_list := PySem.W.mg_none_of X G z_list
  have n_all := PySem.W.mg_none_of X G z_all
  have n_sum := PySem.W.mg_none_of X G z_sum
  have n_range := PySem.W.mg_none_of X G z_range
  have n_sorted := PySem.W.mg_none_of X G z_sorted
  have n_enumerate := PySem.W.mg_none_of X G z_enumerate
  have n_repr := PySem.W.mg_none_of X G z_repr
  have n_zip := PySem.W.mg_none_of X G z_zip
  have n_type := PySem.W.mg_none_of X G z_type
  have T : TxtV mg C := ⟨n_isinstance, n_len, n_int, n_bool, n_str, n_dict, n_tuple, n_list, n_all, n_sum, n_range, n_sorted, n_enumerate, PySem.W.mg_of X G aC⟩
  have TW : TxtW mg := ⟨n_repr, n_range⟩
  have TN : TxtN mg := ⟨n_int, n_len⟩
  have TE : TxtE mg := ⟨n_len, n_list, n_zip, n_type, n_tuple, n_dict, n_isinstance⟩
  have me : PySem.W.kitOne K (.ref C) (.ref C) = some true := by unfold PySem.W.kitOne; rw [if_pos (beq_self_eq_true _)]
  have kT_bool := kitT_of (K := K) (C := C) (T := "bool") mT_bool (by decide +kernel)
  have kT_int := kitT_of (K := K) (C := C) (T := "int") mT_int (by decide +kernel)
  have kT_str := kitT_of (K := K) (C := C) (T := "str") mT_str (by decide +kernel)
  have kT_dict := kitT_of (K := K) (C := C) (T := "dict") mT_dict (by decide +kernel)
  have kT_tuple := kitT_of (K := K) (C := C) (T := "tuple") mT_tuple (by decide +kernel)
  have kT_list := kitT_of (K := K) (C := C) (T := "list") mT_list (by decide +kernel)
  have kU_NoneType := kitU_of (K := K) (C := C) (T := "NoneType") cC tyC sU_NoneType
  have kU_bool := kitU_of (K := K) (C := C) (T := "bool") cC tyC sU_bool
  have kU_int := kitU_of (K := K) (C := C) (T := "int") cC tyC sU_int
  have kU_str := kitU_of (K := K) (C := C) (T := "str") cC tyC sU_str
  have kU_dict := kitU_of (K := K) (C := C) (T := "dict") cC tyC sU_dict
  have kU_tuple := kitU_of (K := K) (C := C) (T := "tuple") cC tyC sU_tuple
  have IC : C8.InsC K C := ⟨⟨pg, hd, po, sa⟩, ha, hn, htk, hm, me⟩
  have U : UnkC K C := ⟨IC, fun T hT => by
    simp only [List.mem_cons, List.not_mem_nil, or_false] at hT
    rcases hT with rfl | rfl | rfl | rfl | rfl <;> assumption, fun T hT => by
    simp only [List.mem_cons, List.not_mem_nil, or_false] at hT
    rcases hT with rfl | rfl | rfl | rfl | rfl | rfl <;> assumption⟩
  have EU : EqU K C fUEq := ⟨aUEq, iUEq, fun T hT => by
    simp only [List.mem_cons, List.not_mem_nil, or_false] at hT
    rcases hT with rfl | rfl | rfl | rfl | rfl | rfl <;> assumption⟩
  have M0 : Mk0 K C := ⟨mk, ini, kc⟩
  have kW_NoneType := kitU_of (K := K) (C := CT) (T := "NoneType") icT tyT sW_NoneType
  have kW_bool := kitU_of (K := K) (C := CT) (T := "bool") icT tyT sW_bool
  have kW_int := kitU_of (K := K) (C := CT) (T := "int") icT tyT sW_int
  have kW_str := kitU_of (K := K) (C := CT) (T := "str") icT tyT sW_str
  have kW_dict := kitU_of (K := K) (C := CT) (T := "dict") icT tyT sW_dict
  have kW_tuple := kitU_of (K := K) (C := CT) (T := "tuple") icT tyT sW_tuple
  have TO : TouC K mg C CT := ⟨fun T hT => by
    simp only [List.mem_cons, List.not_mem_nil, or_false] at hT
    rcases hT with rfl | rfl | rfl | rfl | rfl | rfl <;> assumption, kitC_of nCT icT tyT sCT, PySem.W.mg_of X G aT, n_zip⟩
  have OK : ObsOk K (OC C) := ⟨fun k ⟨a, dx, e, h⟩ => ⟨a, dx, e, k _ _ h⟩, fun ⟨a, dx, e, h⟩ => ⟨a, dx, [], e, h⟩, fun _ => IC, fun _ T hT => by
    simp only [List.mem_cons, List.not_mem_nil, or_false] at hT
    rcases hT with rfl | rfl | rfl <;> assumption, fun _ => mk⟩
  refine ⟨PySem.W.fnOf "law" "law" (defArgs sLaw) (defBody sLaw) (defScope sLaw) .none kVLaw dcLaw pmLaw anLaw cdLaw ctLaw, fun s v => .of_eq rfl, fun base _ _ => ?_⟩
  have GE := ok_ueq (P := l.prog) (w := w) (mg := mg) (base := base) FUEq T U
  have OE : ObEq l.prog w K mg base 1 (OC C) := unk_ob U EU GE bUEq
  have DPod : Def l.prog w K mg base 1 "_pairs_of_dicts" fPod _ ["one", "other"] spPod := ⟨ok_pod FPod TE, gPod, FPod.kp, bPod⟩
  have DEq : Def l.prog w K mg base 2 "equal" fEq _ ["one", "other"] (spEqual (OC C)) := ⟨ok_equal (Nat.le_refl 1) FEq TE OK OE DPod, gEq, FEq.kp, bEq⟩
  have DInt : Def l.prog w K mg base 1 "is_integer" fInt _ ["thing"] (spInt C) := ⟨ok_int FInt T U, gInt, FInt.kp, bInt⟩
  have DNam : Def l.prog w K mg base 1 "is_name" fNam _ ["thing"] (spName C) := ⟨ok_name FNam T U, gNam, FNam.kp, bNam⟩
  have DPT : Def l.prog w K mg base 2 "is_tag" fPTag _ ["thing"] (spPTag C) := ⟨ok_ptag FPTag T U EU GE bUEq DNam DInt, gPTag, FPTag.kp, bPTag⟩
  have DFac : Def l.prog w K mg base 3 "facing" fFac _ ["one", "other"] (spFac C) := ⟨ok_fac (by decide) FFac T TE U DPT, gFac, FFac.kp, bFac⟩
  have DBec : Def l.prog w K mg base 1 "become" fBec _ ["one", "other"] (spBec C) := ⟨ok_bec FBec T U TO, gBec, FBec.kp, bBec⟩
  have DCan : Def l.prog w K mg base 13 "_can_be_same" fCan _ ["one", "other"] (spCan C 9) := ⟨(ok_can FCan gCan bCan T U TO DBec DFac DEq 9 (Nat.le_refl 9)).mono (by decide), gCan, FCan.kp, bCan⟩
  have DKn0 : Def l.prog w K mg base 13 "is_known" fKno _ ["value"] (spKn C 9) := ⟨(ok_known FKno gKno bKno T U 9).mono (by decide), gKno, FKno.kp, bKno⟩
  have DKn : Def l.prog w K mg base 14 "is_known" fKno _ ["value"] (spKnown C 9) := ⟨(known_of DKn0.ok).mono (by decide), gKno, FKno.kp, bKno⟩
  have DAg : Def l.prog w K mg base 14 "agrees" fAg _ ["planned", "value"] (spAgrees C 9) := ⟨(agrees_of (ok_ag FAg gAg bAg T U DFac DEq 9 (Nat.le_refl 9))).mono (by decide), gAg, FAg.kp, bAg⟩
  have DSm : Def l.prog w K mg base 14 "same" fSm _ ["one", "other"] (spSame C 9) := ⟨ok_psame FSm T M0 DCan DKn0, gSm, FSm.kp, bSm⟩
  have DW : Def l.prog w K mg base 1 "_law_well" fWel _ ["_law_cell"] spWell := ⟨ok_well FWel TN, gWel, FWel.kp, bWel⟩
  have DD : Def l.prog w K mg base 1 "_law_draw" fDrw _ ["_law_well_here", "_law_below"] spDraw := ⟨ok_draw FDrw TN, gDrw, FDrw.kp, bDrw⟩
  have D1 : Def l.prog w K mg base 2 "_law_one" fOne _ ["_law_well_here", "_law_some"] (spOne K) := ⟨ok_one (fL := fOne) FOne TN FDrw bDrw gDrw, gOne, FOne.kp, bOne⟩
  have DV3 : Def l.prog w K mg base 7 "_law_value" fVal _ ["_law_well_here", "_law_deep", "_law_dim"] (spValue C 3) := ⟨ok_lvalue FVal gVal bVal T M0 DD D1 3, gVal, FVal.kp, bVal⟩
  have DV1 : Def l.prog w K mg base 5 "_law_value" fVal _ ["_law_well_here", "_law_deep", "_law_dim"] (spValue C 1) := ⟨ok_lvalue FVal gVal bVal T M0 DD D1 1, gVal, FVal.kp, bVal⟩
  have DTg : Def l.prog w K mg base 1 "_law_is_tag" fTag _ ["_law_value_here"] (spTag C) := ⟨ok_ltag FTag T U, gTag, FTag.kp, bTag⟩
  have DS : Def l.prog w K mg base 2 "_law_sort" fSrt _ ["_law_value_here"] (spSort C) := ⟨ok_lsort FSrt T U DTg, gSrt, FSrt.kp, bSrt⟩
  have DP : Def l.prog w K mg base 3 "_law_pairs" fPrs _ ["_law_one_here", "_law_other"] (spPairs C) := ⟨ok_lpairs FPrs T DS, gPrs, FPrs.kp, bPrs⟩
  have DM : Def l.prog w K mg base (4 + 9) "_law_may" fMay _ ["_law_one_here", "_law_other"] (spMay C 9) := ⟨ok_lmay FMay gMay bMay T DS DP 9, gMay, FMay.kp, bMay⟩
  have DO : Def l.prog w K mg base (3 + 9) "_law_open" fOpn _ ["_law_value_here"] (spOpen C 9) := ⟨ok_lopen FOpn gOpn bOpn T U DS 9, gOpn, FOpn.kp, bOpn⟩
  have DLS : Def l.prog w K mg base (5 + 9) "_law_same" fLSm _ ["_law_one_here", "_law_other"] (spSame C 9) := ⟨ok_lsame 9 FLSm T M0 DM DO, gLSm, FLSm.kp, bLSm⟩
  have DA : Def l.prog w K mg base 5 "_law_alike" fAlk _ ["_law_one_here", "_law_other"] (spAlike C 1) := ⟨ok_lalike FAlk gAlk bAlk T DS DP 1, gAlk, FAlk.kp, bAlk⟩
  have DT : Def l.prog w K mg base 11 "_law_turned" fTrn _ ["_law_well_here", "_law_value_here", "_law_dim"] (spTurned C 5) := ⟨ok_lturned FTrn gTrn bTrn T M0 DD D1 DV1 DS 5, gTrn, FTrn.kp, bTrn⟩
  have DR : Def l.prog w K mg base 15 "_law_pair_right" fRgt _ ["_law_one_here", "_law_other"] (spRight C 9) := ⟨ok_lright 9 14 (by decide) (may_symm 9) FRgt DSm DLS DA DKn DO DAg DM, gRgt, FRgt.kp, bRgt⟩
  exact ok_law 15 15 (by decide) (by decide) FLaw T TW M0 U EU GE bUEq DW DD DV3 DT DO DR DS
end Vl

open PySem PySem.W PyProof.Rows
set_option Elab.async false
set_option maxRecDepth 100000 in
set_option maxHeartbeats 0 in
theorem PySem.Challenge.cw_planfirst_k01_values_that_are_the_same_holds : PySem.Challenge.rw_planfirst_k01_values_that_are_the_same.Holds := by
  w_on; o_law; k_head; (case hw => w_witness2)
  k_fill
  refine L2.walk_of (l := PySem.Challenge.rw_planfirst_k01_values_that_are_the_same) (n := 63) (k := 16) (x := "_law_script") (CX := fun _ => L2.CX0) (sp := fun w => Vl.spLaw _) rfl (by decide) rfl ⟨rfl, by decide, by decide⟩ (fun w h Y => PySem.W.kIn_of Y) ?F (fun _ _ a ns hl _ hS => ⟨a, ns, rfl, hS, hl, fun _ => rfl⟩) (fun _ _ _ _ _ h => h)
  case F =>
    intro w mg fa h KX G hmg
    refine' Vl.all_mk KX G hmg ?aEq ?lEq ?cEq ?kEq ?aPod ?lPod ?cPod ?kPod ?aInt ?lInt ?cInt ?kInt ?aNam ?lNam ?cNam ?kNam ?aPTag ?lPTag ?cPTag ?kPTag ?aKno ?lKno ?cKno ?kKno ?aFac ?lFac ?cFac ?kFac ?aBec ?lBec ?cBec ?kBec ?aAg ?lAg ?cAg ?kAg ?aSm ?lSm ?cSm ?kSm ?aCan ?lCan ?cCan ?kCan ?aWel ?lWel ?cWel ?kWel ?aDrw ?lDrw ?cDrw ?kDrw ?aOne ?lOne ?cOne ?kOne ?aVal ?lVal ?cVal ?kVal ?aTag ?lTag ?cTag ?kTag ?aSrt ?lSrt ?cSrt ?kSrt ?aPrs ?lPrs ?cPrs ?kPrs ?aMay ?lMay ?cMay ?kMay ?aOpn ?lOpn ?cOpn ?kOpn ?aLSm ?lLSm ?cLSm ?kLSm ?aAlk ?lAlk ?cAlk ?kAlk ?aTrn ?lTrn ?cTrn ?kTrn ?aRgt ?lRgt ?cRgt ?kRgt ?aLaw ?lLaw ?cLaw ?kLaw ?z_isinstance ?z_len ?z_int ?z_bool ?z_str ?z_dict ?z_tuple ?z_list ?z_all ?z_sum ?z_range ?z_sorted ?z_enumerate ?z_repr ?z_zip ?z_type ?aC ?aT ?icT ?tyT ?sCT ?nCT ?sW_NoneType ?sW_bool ?sW_int ?sW_str ?sW_dict ?sW_tuple ?pg ?hd ?po ?sa ?ha ?hn ?htk ?hm ?mk ?kc ?ini ?cC ?tyC ?mT_bool ?mT_int ?mT_str ?mT_dict ?mT_tuple ?mT_list ?sU_NoneType ?sU_bool ?sU_int ?sU_str ?sU_dict ?sU_tuple ?aUEq ?iUEq ?lUEq ?cUEq ?kUEq
    (case aEq => k_is)
    (case lEq => k_is)
    (case cEq => k_is)
    (case kEq => k_is)
    (case aPod => k_is)
    (case lPod => k_is)
    (case cPod => k_is)
    (case kPod => k_is)
    (case aInt => k_is)
    (case lInt => k_is)
    (case cInt => k_is)
    (case kInt => k_is)
    (case aNam => k_is)
    (case lNam => k_is)
    (case cNam => k_is)
    (case kNam => k_is)
    (case aPTag => k_is)
    (case lPTag => k_is)
    (case cPTag => k_is)
    (case kPTag => k_is)
    (case aKno => k_is)
    (case lKno => k_is)
    (case cKno => k_is)
    (case kKno => k_is)
    (case aFac => k_is)
    (case lFac => k_is)
    (case cFac => k_is)
    (case kFac => k_is)
    (case aBec => k_is)
    (case lBec => k_is)
    (case cBec => k_is)
    (case kBec => k_is)
    (case aAg => k_is)
    (case lAg => k_is)
    (case cAg => k_is)
    (case kAg => k_is)
    (case aSm => k_is)
    (case lSm => k_is)
    (case cSm => k_is)
    (case kSm => k_is)
    (case aCan => k_is)
    (case lCan => k_is)
    (case cCan => k_is)
    (case kCan => k_is)
    (case aWel => k_is)
    (case lWel => k_is)
    (case cWel => k_is)
    (case kWel => k_is)
    (case aDrw => k_is)
    (case lDrw => k_is)
    (case cDrw => k_is)
    (case kDrw => k_is)
    (case aOne => k_is)
    (case lOne => k_is)
    (case cOne => k_is)
    (case kOne => k_is)
    (case aVal => k_is)
    (case lVal => k_is)
    (case cVal => k_is)
    (case kVal => k_is)
    (case aTag => k_is)
    (case lTag => k_is)
    (case cTag => k_is)
    (case kTag => k_is)
    (case aSrt => k_is)
    (case lSrt => k_is)
    (case cSrt => k_is)
    (case kSrt => k_is)
    (case aPrs => k_is)
    (case lPrs => k_is)
    (case cPrs => k_is)
    (case kPrs => k_is)
    (case aMay => k_is)
    (case lMay => k_is)
    (case cMay => k_is)
    (case kMay => k_is)
    (case aOpn => k_is)
    (case lOpn => k_is)
    (case cOpn => k_is)
    (case kOpn => k_is)
    (case aLSm => k_is)
    (case lLSm => k_is)
    (case cLSm => k_is)
    (case kLSm => k_is)
    (case aAlk => k_is)
    (case lAlk => k_is)
    (case cAlk => k_is)
    (case kAlk => k_is)
    (case aTrn => k_is)
    (case lTrn => k_is)
    (case cTrn => k_is)
    (case kTrn => k_is)
    (case aRgt => k_is)
    (case lRgt => k_is)
    (case cRgt => k_is)
    (case kRgt => k_is)
    (case aLaw => k_is)
    (case lLaw => k_is)
    (case cLaw => k_is)
    (case kLaw => k_is)
    (case z_isinstance => k_is)
    (case z_len => k_is)
    (case z_int => k_is)
    (case z_bool => k_is)
    (case z_str => k_is)
    (case z_dict => k_is)
    (case z_tuple => k_is)
    (case z_list => k_is)
    (case z_all => k_is)
    (case z_sum => k_is)
    (case z_range => k_is)
    (case z_sorted => k_is)
    (case z_enumerate => k_is)
    (case z_repr => k_is)
    (case z_zip => k_is)
    (case z_type => k_is)
    (case aC => k_is)
    (case aT => k_is)
    (case icT => k_is)
    (case tyT => k_is)
    (case sCT => k_is)
    (case nCT => decide)
    (case sW_NoneType => k_is)
    (case sW_bool => k_is)
    (case sW_int => k_is)
    (case sW_str => k_is)
    (case sW_dict => k_is)
    (case sW_tuple => k_is)
    (case pg => k_is)
    (case hd => k_is)
    (case po => k_is)
    (case sa => k_is)
    (case ha => k_is)
    (case hn => k_is)
    (case htk => k_is)
    (case hm => k_is)
    (case mk => k_is)
    (case kc => k_is)
    (case ini => k_is)
    (case cC => k_is)
    (case tyC => k_is)
    (case mT_bool => k_is)
    (case mT_int => k_is)
    (case mT_str => k_is)
    (case mT_dict => k_is)
    (case mT_tuple => k_is)
    (case mT_list => k_is)
    (case sU_NoneType => k_is)
    (case sU_bool => k_is)
    (case sU_int => k_is)
    (case sU_str => k_is)
    (case sU_dict => k_is)
    (case sU_tuple => k_is)
    (case aUEq => k_is)
    (case iUEq => k_is)
    (case lUEq => k_is)
    (case cUEq => k_is)
    (case kUEq => k_is)

