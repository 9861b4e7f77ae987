import PyProof.Rows.All
import Wide.All
import OpenK.AllK
import Wide.FinOn
import HandS.Base
import HandS.Call
import HandS.List
import HandS.Comp
import HandS.Ends
import HandS.Exc
import HandS.TryOnly
import HandS.ExcOwn
import HandS.Words
import HandS.WordsList
import HandS.WordsExc
import HandS.Flow
import HandS.Wide
import HandS.Style
import HandS.IsInst
import HandS.ExcIs
import KE.RegKIsAll
import PySem.Challenge.RW_countermarch_k02_dual_operations
set_option Elab.async false
set_option linter.all false
set_option maxRecDepth 100000
set_option maxHeartbeats 4000000
namespace Fld
/-! ### 1. The mathematics: 2147483647 is a prime; Euclid's loop; the inverse -/
def top0 : Nat := 2147483647
/-- no number from a to a + 2 ^ k - 1 divides the prime -/
def clear (a : Nat) : Nat → Bool
  | 0 => top0 % a != 0
  | k + 1 => clear a k && clear (a + 2 ^ k) k
theorem clear_at : ∀ (k a : Nat), clear a k = true → ∀ d, a ≤ d → d < a + 2 ^ k → top0 % d ≠ 0
  | 0, a, h, d, h1, h2 => by
    have e : d = a := by simp at h2; omega
    subst e
    simpa [clear] using h
  | k + 1, a, h, d, h1, h2 => by
    have h' : clear a k = true ∧ clear (a + 2 ^ k) k = true := by simpa [clear] using h
    by_cases c : d < a + 2 ^ k
    · exact clear_at k a h'.1 d h1 c
    · exact clear_at k (a + 2 ^ k) h'.2 d (by omega) (by rw [Nat.pow_succ] at h2; omega)
theorem clear_all : clear 2 16 = true := by decide +kernel
theorem prime_div {d : Nat} (h : d ∣ top0) (h1 : d ≠ 1) : d = top0 := by
  obtain ⟨e, he⟩ := h
  have hP : top0 = 2147483647 := rfl
  have small : ∀ x, 2 ≤ x → x < 65538 → ¬ x ∣ top0 := fun x a b c => clear_at 16 2 clear_all x a (by simpa using b) (Nat.mod_eq_zero_of_dvd c)
  have d0 : d ≠ 0 := by intro z; rw [z] at he; simp [top0] at he
  have e0 : e ≠ 0 := by intro z; rw [z] at he; simp [top0] at he
  by_cases hd : d < 65538
  · exact absurd ⟨e, he⟩ (small d (by omega) hd)
  · by_cases he1 : e = 1
    · rw [he1] at he; omega
    · by_cases hc : e < 65538
      · exact absurd ⟨d, by rw [he, Nat.mul_comm]⟩ (small e (by omega) hc)
      · have := Nat.mul_le_mul (show 65538 ≤ d by omega) (show 65538 ≤ e by omega)
        omega
theorem gcd_one {n : Nat} (h0 : 0 < n) (h1 : n < top0) : Nat.gcd top0 n = 1 := by
  by_cases h : Nat.gcd top0 n = 1
  · exact h
  · have e := prime_div (Nat.gcd_dvd_left top0 n) h
    have := Nat.le_of_dvd h0 (Nat.gcd_dvd_right top0 n)
    omega
/-- Euclid's loop for n: the two rests, the two factors -/
structure Euc (n lr r lf f : Int) : Prop where
  pos : 0 < r
  less : r < lr
  top : lr ≤ 2147483647
  one : Nat.gcd lr.toNat r.toNat = 1
  old : ∃ q : Int, lr = lf * n + 2147483647 * q
  new : ∃ q : Int, r = f * n + 2147483647 * q
theorem euc_start {n r : Int} (hr : r = n % 2147483647) (h0 : r ≠ 0) : Euc n 2147483647 r 0 1 := by
  have a := Int.emod_nonneg n (show (2147483647 : Int) ≠ 0 by decide)
  have b := Int.emod_lt_of_pos n (show (0 : Int) < 2147483647 by decide)
  have d := Int.emod_add_mul_ediv n 2147483647
  refine ⟨by omega, by omega, Int.le_refl _, gcd_one (by omega) (by unfold top0; omega), ⟨1, by omega⟩, ⟨-(n / 2147483647), ?_⟩⟩
  rw [Int.one_mul, Int.mul_neg]
  omega
theorem euc_turn {n lr r lf f : Int} (h : Euc n lr r lf f) (h1 : r ≠ 1) : Euc n r (lr - lr / r * r) f (lf - lr / r * f) := by
  obtain ⟨pos, less, top, one, ⟨q, hq⟩, ⟨p, hp⟩⟩ := h
  have e : lr - lr / r * r = lr % r := by rw [Int.emod_def, Int.mul_comm]
  have a := Int.emod_nonneg lr (show r ≠ 0 by omega)
  have b := Int.emod_lt_of_pos lr pos
  have et : (lr % r).toNat = lr.toNat % r.toNat := Int.toNat_emod (by omega) (by omega)
  have g : Nat.gcd r.toNat (lr % r).toNat = 1 := by
    rw [et, Nat.gcd_comm, ← Nat.gcd_rec, Nat.gcd_comm]
    exact one
  have nz : lr % r ≠ 0 := by
    intro z
    rw [z] at g
    simp at g
    omega
  refine ⟨by omega, by omega, by omega, by rw [e]; exact g, ⟨p, hp⟩, ⟨q - lr / r * p, ?_⟩⟩
  generalize lr / r = t
  rw [Int.sub_mul, Int.mul_sub, Int.mul_assoc]
  have x : t * r = t * (f * n) + 2147483647 * (t * p) := by
    conv => lhs; rw [hp]
    rw [Int.mul_add, Int.mul_left_comm, Int.mul_left_comm t 2147483647 p]
  omega
theorem euc_less {n lr r lf f : Int} (h : Euc n lr r lf f) : (lr - lr / r * r).toNat < r.toNat := by
  have pos := h.pos
  have e : lr - lr / r * r = lr % r := by rw [Int.emod_def, Int.mul_comm]
  have a := Int.emod_nonneg lr (show r ≠ 0 by omega)
  have b := Int.emod_lt_of_pos lr pos
  omega
theorem euc_end {n lr lf f : Int} (h : Euc n lr 1 lf f) : (f * n) % 2147483647 = 1 := by
  obtain ⟨p, hp⟩ := h.new
  omega
/-- x is the number whose product with n is 1 -/
structure IsInv (n x : Int) : Prop where
  lo : 0 ≤ x
  hi : x < 2147483647
  one : (x * n) % 2147483647 = 1
theorem emod_mul_left (a b : Int) : (a % 2147483647 * b) % 2147483647 = (a * b) % 2147483647 := by
  rw [Int.mul_emod, Int.emod_emod, ← Int.mul_emod]
theorem emod_mul_right (a b : Int) : (a * (b % 2147483647)) % 2147483647 = (a * b) % 2147483647 := by
  rw [Int.mul_emod, Int.emod_emod, ← Int.mul_emod]
theorem euc_is {n lr lf f : Int} (h : Euc n lr 1 lf f) : IsInv n (f % 2147483647) :=
  ⟨Int.emod_nonneg f (by decide), Int.emod_lt_of_pos f (by decide), by rw [emod_mul_left]; exact euc_end h⟩
theorem euc_some {n : Int} : ∀ (m : Nat) (lr r lf f : Int), r.toNat ≤ m → Euc n lr r lf f → ∃ x, IsInv n x
  | 0, lr, r, lf, f, hm, h => by have := h.pos; omega
  | m + 1, lr, r, lf, f, hm, h => by
    by_cases c : r = 1
    · subst c; exact ⟨_, euc_is h⟩
    · exact euc_some m _ _ _ _ (by have := euc_less h; omega) (euc_turn h c)
theorem inv_some {n : Int} (h : n % 2147483647 ≠ 0) : ∃ x, IsInv n x := euc_some _ _ _ _ _ (Nat.le_refl _) (euc_start rfl h)
theorem inv_one {n x y : Int} (hx : IsInv n x) (hy : IsInv n y) : x = y := by
  have a : (x * n * y) % 2147483647 = y := by
    rw [← emod_mul_left, hx.one, Int.one_mul]
    have := hy.lo; have := hy.hi
    omega
  have b : (y * n * x) % 2147483647 = x := by
    rw [← emod_mul_left, hy.one, Int.one_mul]
    have := hx.lo; have := hx.hi
    omega
  have c : x * n * y = y * n * x := by rw [Int.mul_comm, Int.mul_comm x n, Int.mul_assoc]
  rw [c, b] at a
  exact a
open Classical in
noncomputable def inv (n : Int) : Int := if h : ∃ x, IsInv n x then choose h else 0
theorem inv_is {n : Int} (h : n % 2147483647 ≠ 0) : IsInv n (inv n) := by
  have e := inv_some h
  unfold inv
  rw [dif_pos e]
  exact Classical.choose_spec e
theorem inv_eq {n x : Int} (h : IsInv n x) : inv n = x := by
  have e : ∃ x, IsInv n x := ⟨x, h⟩
  refine inv_one (n := n) ?_ h
  unfold inv
  rw [dif_pos e]
  exact Classical.choose_spec e
end Fld

namespace Fld
open PySem L2
/-! ### 2. The text by places -/
def top (i : Nat) : Stmt := PySem.Challenge.pw_countermarch_k02_dual_operations.main.body.getD i (.Pass ⟨0, 0, 0, 0⟩)
abbrev sRed : Stmt := top 5
abbrev sInv : Stmt := top 6
abbrev sCmb : Stmt := top 7
/-! ### 3. The four operations and what the defs promise -/
inductive Op where
  | add | sub | mul | div
def Op.str : Op → Str
  | .add => "add" | .sub => "sub" | .mul => "mul" | .div => "div"
/-- may the operation be done with this second operand -/
def Op.fine : Op → Int → Prop
  | .div, b => b % 2147483647 ≠ 0
  | _, _ => True
noncomputable def cmb : Op → Int → Int → Int
  | .add, a, b => (a + b) % 2147483647
  | .sub, a, b => (a - b) % 2147483647
  | .mul, a, b => (a * b) % 2147483647
  | .div, a, b => (a * inv b) % 2147483647
theorem cmb_in (o : Op) (a b : Int) : 0 ≤ cmb o a b ∧ cmb o a b < 2147483647 := by
  cases o <;> exact ⟨Int.emod_nonneg _ (by decide), Int.emod_lt_of_pos _ (by decide)⟩
theorem inv_in {n : Int} (h : n % 2147483647 ≠ 0) : 0 ≤ inv n ∧ inv n < 2147483647 := ⟨(inv_is h).lo, (inv_is h).hi⟩
/-- the quotient's product with the divisor -/
theorem div_back {a b : Int} (h : b % 2147483647 ≠ 0) : (cmb .div a b * b) % 2147483647 = a % 2147483647 := by
  show ((a * inv b) % 2147483647 * b) % 2147483647 = a % 2147483647
  rw [emod_mul_left, Int.mul_assoc, ← emod_mul_right, (inv_is h).one, Int.mul_one]
def spRed : Sp := fun vs H Q _ => ∃ n : Int, vs = [.int n] ∧ Q (.int (n % 2147483647)) H
def spInv (C : Addr) : Sp := fun vs H Q E => ∃ n : Int, vs = [.int n] ∧ (n % 2147483647 = 0 → E (.ref C) none H) ∧ (n % 2147483647 ≠ 0 → Q (.int (inv n)) H)
/-- the product's left factor is kept below 2 ^ 64 -/
def Small (a : Int) : Prop := -(2 ^ 64) < a ∧ a < 2 ^ 64
def spCmb (C : Addr) : Sp := fun vs H Q E => ∃ (o : Op) (a b : Int), vs = [.str o.str, .int a, .int b] ∧ Small a ∧ (¬ o.fine b → E (.ref C) none H) ∧ (o.fine b → Q (.int (cmb o a b)) H)
section
variable {X : Cx} {C : Addr} {bmB : List Value} {B newId initId : String}
/-- X(), X a class of the text's own over a built-in one, without an __init__ of its own -/
theorem pmk_own0 {x : Str} {p pos : Pos} (F : ExcBaseFacts B newId initId bmB) (q : PySem.W.excIn X.K C bmB newId = true) (gC : X.mg x = some (.ref C)) (kC : PySem.W.keepIn X.K (.ref C) = true) (r : Raises X (.ref C)) (hg : Gl X x)
    (hdb : (x == ("__debug__" : Str)) = false := by decide) : PMk X (.Call (.Name x p) [] [] pos) (fun _ H Q => Q (.ref C) none H) := by
  intro pins s σ H Q I h
  refine wpAny_Call_Name_kw (ld_glob I hg gC ?_ hdb)
  refine PySem.W.callWith_K0 I.kIn kC ?_
  obtain ⟨bm, N, nm, qn, bs, hdct, sn, sub, ab, col, dd, k0, k1, k2, k3, k5, mN, hC, hN, hni, T⟩ := exc_obj I.kIn q
  obtain ⟨hp1, g1, d1, tk1, os1⟩ := s
  refine wpAny_call_exc_subT F T hC hN hni (fun h' e hm => ?_) (Nat.zero_le _)
  exact mk_of I hm r h (I.hok.gone hm.new)
end
theorem iteT' {c : Bool} {A B : Prop} (h : c = true) (a : A) : if c = true then A else B := by
  rw [if_pos h]
  exact a
theorem iteF' {c : Bool} {A B : Prop} (h : c = false) (b : B) : if c = true then A else B := by
  rw [h, if_neg Bool.false_ne_true]
  exact b
/-- what the top has written of the error's class and of the prime -/
structure Txt (K : PySem.W.Frag) (mg : Str → Option Value) (C : Addr) : Prop where
  gC : mg "FieldError" = some (.ref C)
  xC : PySem.W.excIn K C [.type "ValueError", .type "Exception", .type "BaseException", .type "object"] "ValueError.__new__" = true
  kC : PySem.W.keepIn K (.ref C) = true
  bC : PySem.W.subIn K (.ref C) (.type "BaseException") = some true
  tC : PySem.W.typeIn K (.ref C) = some (.type "type")
  gP : ∃ t, mg "PRIME" = some (.int 2147483647 t)
section
variable {P : Program} {w : World} {K : PySem.W.Frag} {mg : Str → Option Value} {base : Heap} {C : Addr}
theorem scRed : FnScope ["n"] ["n"] (defScope sRed) := ⟨rfl, rfl, rfl, by decide +kernel, rfl, by decide +kernel, by decide +kernel⟩
theorem ok_red {f : Addr} {fd : FuncData} (F : Fun K "reduce_number" "reduce_number" sRed f fd) (T : Txt K mg C) : FnOk P w K mg base CX0 1 f fd ["n"] spRed := by
  obtain ⟨tp, gP⟩ := T.gP
  refine F.ok scRed (fun vs H Q E h => ?_) (fun cdv A outer s H vs Q E hr h => ?_)
  · obtain ⟨n, rfl, _⟩ := h
    rfl
  · obtain ⟨n, rfl, q⟩ := h
    refine ⟨_, pss_one (ps_ret (pe_op op_mod (pv 0) (pe_glob (v := .int 2147483647) rfl gP ⟨_, rfl⟩))), ?_⟩
    exact ⟨_, rfl, _, _, rfl, rfl, (by show (0 : Int) < 2147483647; decide), q⟩
theorem scInv : FnScope ["number", "rest", "last_rest", "last_factor", "factor", "times"] ["number"] (defScope sInv) := ⟨rfl, rfl, rfl, by decide +kernel, rfl, by decide +kernel, by decide +kernel⟩
theorem ok_inv {f fR : Addr} {fd fdR : FuncData} (F : Fun K "inverse" "inverse" sInv f fd) (T : Txt K mg C) (GR : FnOk P w K mg base CX0 1 fR fdR ["n"] spRed) (bR : Binds K fdR ["n"] []) (kR : PySem.W.keepIn K (.ref fR) = true) (mR : mg "reduce_number" = some (.ref fR)) :
    FnOk P w K mg base (L2.CX P w) 2 f fd ["number"] (spInv C) := by
  obtain ⟨tp, gP⟩ := T.gP
  refine F.okX scInv (fun vs H Q E h => ?_) (fun cdv A outer s H vs Q E hr h => ?_)
  · obtain ⟨n, rfl, _⟩ := h
    rfl
  · obtain ⟨n, rfl, qe, q⟩ := h
    refine ⟨_, pss_cons (ps_set (i := 1) scInv.nd rfl (Or.inl rfl) (pe_call GR hr rfl mR kR bR .nil pass0 (pa_cons (pv 0) pa_nil)))
      (pss_cons (ps_if (pt_cmpR op_eq (pv 1) pe_int (nomark _)) (pss_one (ps_raise rfl (takes_of rfl rfl rfl rfl) (pmk_own0 PySem.F.excBase_ValueError T.xC T.gC T.kC (raises_own T.bC T.tC) rfl))) pss_nil)
      (pss_cons (ps_par3 (i := 2) (j := 3) (l := 4) rfl scInv.nd rfl rfl rfl (by decide) (by decide) (by decide) rfl rfl rfl (pa_cons (pe_glob (v := .int 2147483647) rfl gP ⟨_, rfl⟩) (pa_cons pe_int (pa_cons pe_int pa_nil))) (by rfl))
      (pss_cons (ps_while (passes_of rfl) (pt_cmpR op_ne (pv 1) pe_int (nomark _))
        (pss_cons (ps_set (i := 5) scInv.nd rfl (Or.inl rfl) (pe_op op_fdivW (pv 2) (pv 1)))
        (pss_cons (ps_par (i := 2) (j := 1) rfl scInv.nd rfl rfl (by decide) rfl rfl (pa_cons (pv 1) (pa_cons (pe_op op_sub (pv 2) (pe_op op_mul (pv 5) (pv 1))) pa_nil)) (by rfl))
        (pss_one (ps_par (i := 3) (j := 4) rfl scInv.nd rfl rfl (by decide) rfl rfl (pa_cons (pv 4) (pa_cons (pe_op op_sub (pv 3) (pe_op op_mul (pv 5) (pv 4))) pa_nil)) (by rfl))))))
      (pss_one (ps_ret (pe_call GR hr rfl mR kR bR .nil pass0 (pa_cons (pv 4) pa_nil))))))), ?_⟩
    refine ⟨_, rfl, n, rfl, _, rfl, rfl, _, rfl, ?_⟩
    by_cases c : n % 2147483647 = 0
    · refine iteT' (by rw [c]; rfl) ?_
      exact qe c
    · refine iteF' (by simp [c]) ?_
      refine ⟨_, _, _, rfl, ?_⟩
      refine while_by (fun σ H' => H' = H ∧ ∃ (lr r lf f : Int) (t : Option V), σ = [some (.int n), some (.int r), some (.int lr), some (.int lf), some (.int f), t] ∧ Euc n lr r lf f)
        (fun σ _ => match σ with | [_, some (.int r), _, _, _, _] => r.toNat | _ => 0)
        ⟨rfl, 2147483647, n % 2147483647, 0, 1, none, rfl, euc_start rfl c⟩ ?_ ?_
      · rintro σ H' ⟨rfl, lr, r, lf, f, t, rfl, e⟩
        refine ⟨_, rfl, rfl, _, rfl, ?_⟩
        have p0 := e.pos
        have p1 := e.less
        have p2 := e.top
        by_cases c1 : r = 1
        · refine iteF' (by subst c1; rfl) ?_
          subst c1
          refine ⟨_, rfl, f, rfl, ?_⟩
          rw [← inv_eq (euc_is e)]
          exact q c
        · refine iteT' (by simp [c1]) ?_
          have t0 : 0 ≤ lr / r := Int.ediv_nonneg (by omega) (by omega)
          have t1 : lr / r ≤ lr := Int.ediv_le_self r (by omega)
          refine ⟨_, rfl, _, rfl, _, _, rfl, rfl, wide_div (b := 32) p0 (by omega) (by decide) (by decide), ?_⟩
          refine ⟨_, rfl, _, rfl, _, rfl, _, rfl, _, _, rfl, rfl, .inl ⟨by omega, by omega⟩, _, _, rfl, rfl, _, _, rfl, ?_⟩
          refine ⟨_, rfl, _, rfl, _, rfl, _, rfl, _, _, rfl, rfl, .inl ⟨by omega, by omega⟩, _, _, rfl, rfl, _, _, rfl, ?_⟩
          refine ⟨⟨rfl, r, lr - lr / r * r, f, lf - lr / r * f, _, rfl, euc_turn e c1⟩, ?_⟩
          exact euc_less e
      · intro σ H' Q1 Q2 hq h
        obtain ⟨v, h1, h2, k, h3, h4⟩ := h
        exact ⟨v, h1, h2, k, h3, hq _ _ h4⟩

theorem scCmb : FnScope ["op", "first", "second"] ["op", "first", "second"] (defScope sCmb) := ⟨rfl, rfl, rfl, by decide +kernel, rfl, by decide +kernel, by decide +kernel⟩
theorem ok_cmb {f fR fI : Addr} {fd fdR fdI : FuncData} (F : Fun K "combine" "combine" sCmb f fd) (GR : FnOk P w K mg base CX0 1 fR fdR ["n"] spRed) (bR : Binds K fdR ["n"] []) (kR : PySem.W.keepIn K (.ref fR) = true) (mR : mg "reduce_number" = some (.ref fR))
    (GI : FnOk P w K mg base (L2.CX P w) 2 fI fdI ["number"] (spInv C)) (bI : Binds K fdI ["number"] []) (kI : PySem.W.keepIn K (.ref fI) = true) (mI : mg "inverse" = some (.ref fI)) :
    FnOk P w K mg base (L2.CX P w) 3 f fd ["op", "first", "second"] (spCmb C) := by
  refine F.okX scCmb (fun vs H Q E h => ?_) (fun cdv A outer s H vs Q E hr h => ?_)
  · obtain ⟨o, a, b, rfl, _⟩ := h
    rfl
  · obtain ⟨o, a, b, rfl, sa, qe, q⟩ := h
    have hr1 : Room 1 _ := hr.mono (by decide)
    refine ⟨_, pss_cons (ps_if (pt_cmpR op_eq (pv 0) pe_str (nomark _)) (pss_one (ps_ret (pe_call GR hr1 rfl mR kR bR .nil pass0 (pa_cons (pe_op op_add (pv 1) (pv 2)) pa_nil)))) pss_nil)
      (pss_cons (ps_if (pt_cmpR op_eq (pv 0) pe_str (nomark _)) (pss_one (ps_ret (pe_call GR hr1 rfl mR kR bR .nil pass0 (pa_cons (pe_op op_sub (pv 1) (pv 2)) pa_nil)))) pss_nil)
      (pss_cons (ps_if (pt_cmpR op_eq (pv 0) pe_str (nomark _)) (pss_one (ps_ret (pe_call GR hr1 rfl mR kR bR .nil pass0 (pa_cons (pe_op op_mul (pv 1) (pv 2)) pa_nil)))) pss_nil)
      (pss_one (ps_ret (pe_call GR hr1 rfl mR kR bR .nil pass0 (pa_cons (pe_op op_mul (pv 1) (pe_call GI hr rfl mI kI bI .nil (passes_call (takes_of rfl rfl rfl rfl) (fun _ _ _ _ h => h)) (pa_cons (pv 2) pa_nil))) pa_nil)))))), ?_⟩
    cases o with
    | add =>
      refine ⟨_, rfl, rfl, _, rfl, iteT' (by decide +kernel) ?_⟩
      exact ⟨_, rfl, _, rfl, _, _, rfl, rfl, _, rfl, q trivial⟩
    | sub =>
      refine ⟨_, rfl, rfl, _, rfl, iteF' (by decide +kernel) ?_⟩
      refine ⟨_, rfl, rfl, _, rfl, iteT' (by decide +kernel) ?_⟩
      exact ⟨_, rfl, _, rfl, _, _, rfl, rfl, _, rfl, q trivial⟩
    | mul =>
      refine ⟨_, rfl, rfl, _, rfl, iteF' (by decide +kernel) ?_⟩
      refine ⟨_, rfl, rfl, _, rfl, iteF' (by decide +kernel) ?_⟩
      refine ⟨_, rfl, rfl, _, rfl, iteT' (by decide +kernel) ?_⟩
      exact ⟨_, rfl, _, rfl, _, _, rfl, rfl, .inl sa, _, rfl, q trivial⟩
    | div =>
      refine ⟨_, rfl, rfl, _, rfl, iteF' (by decide +kernel) ?_⟩
      refine ⟨_, rfl, rfl, _, rfl, iteF' (by decide +kernel) ?_⟩
      refine ⟨_, rfl, rfl, _, rfl, iteF' (by decide +kernel) ?_⟩
      refine ⟨_, rfl, _, rfl, b, rfl, fun z => qe (fun y => y z), fun z => ?_⟩
      exact ⟨_, _, rfl, rfl, .inl sa, _, rfl, q z⟩

/-! ### 4. The law's own small defs -/
abbrev sCell : Stmt := top 10
/-- the j-th number of the script, 0 behind its end -/
def cl (ns : List Int) (j : Int) : Int := if j < (ns.length : Int) then ns.getD j.toNat 0 else 0
theorem cl_at {ns : List Int} {j : Int} (h0 : 0 ≤ j) (h : j < (ns.length : Int)) : atI (ns.map V.int) j = some (.int (cl ns j)) := by
  have e : j = ((j.toNat : Nat) : Int) := by omega
  have hk : j.toNat < ns.length := by omega
  have q : atI (ns.map V.int) ((j.toNat : Nat) : Int) = some (.int ns[j.toNat]) := atI_nat (by rw [List.getElem?_map, List.getElem?_eq_getElem hk] <;> rfl)
  unfold cl
  rw [if_pos h, List.getD_eq_getElem?_getD, List.getElem?_eq_getElem hk]
  rw [← e] at q
  exact q
def spCellF (K : PySem.W.Frag) : Sp := fun vs H Q _ => ∃ (a : Addr) (ns : List Int) (j : Int), vs = [.ref a, .int j] ∧ SqL K H a (ns.map V.int) ∧ 0 ≤ j ∧ Q (.int (cl ns j)) H
theorem scCell : FnScope ["script", "at"] ["script", "at"] (defScope sCell) := ⟨rfl, rfl, rfl, by decide +kernel, rfl, by decide +kernel, by decide +kernel⟩
theorem ok_cell {f : Addr} {fd : FuncData} (F : Fun K "_law_cell" "_law_cell" sCell f fd) (ml : mg "len" = none) : FnOk P w K mg base CX0 1 f fd ["script", "at"] (spCellF K) := by
  refine F.ok scCell (fun vs H Q E h => ?_) (fun cdv A outer s H vs Q E hr h => ?_)
  · obtain ⟨a, ns, j, rfl, _⟩ := h
    rfl
  · obtain ⟨a, ns, j, rfl, hS, h0, q⟩ := h
    refine ⟨_, pss_cons (ps_if (pt_cmpR op_lt (pv 1) (pe_callB call_len_seq rfl ml PySem.boot_len (pa_cons (pv 0) pa_nil)) (nomark _)) (pss_one (ps_ret (pe_ix ix_list (pv 0) (pv 1) (fun _ _ => rfl)))) pss_nil)
      (pss_one (ps_ret pe_int)), ?_⟩
    refine ⟨_, rfl, _, rfl, a, _, rfl, .inl hS, _, _, rfl, rfl, _, rfl, ?_⟩
    rw [List.length_map]
    by_cases c : j < (ns.length : Int)
    · refine iteT' (decide_eq_true c) ?_
      exact ⟨_, rfl, _, rfl, a, _, _, _, rfl, rfl, hS, cl_at h0 c, q⟩
    · refine iteF' (decide_eq_false c) ?_
      have e : cl ns j = 0 := if_neg c
      rw [e] at q
      exact q

/-! ### 4. Pairs -/
abbrev sDua : Stmt := top 8
/-- a number of the field -/
def Nm (a : Int) : Prop := 0 ≤ a ∧ a < 2147483647
theorem Nm.small {a : Int} (h : Nm a) : Small a := ⟨by have := h.1; omega, by have := h.2; omega⟩
theorem Nm.self {a : Int} (h : Nm a) : a % 2147483647 = a := by have := h.1; have := h.2; omega
theorem cmb_nm (o : Op) (a b : Int) : Nm (cmb o a b) := cmb_in o a b
theorem nm_mod (n : Int) : Nm (n % 2147483647) := ⟨Int.emod_nonneg _ (by decide), Int.emod_lt_of_pos _ (by decide)⟩
theorem same_new {H : Hp} {p : Addr} (h : H p = none) (o : HO) : Same H (upd H p o) := fun b u q => by rw [upd_ne (ne_of_none q h)]; exact q
/-- the slope, before it is reduced -/
noncomputable def raw : Op → Int → Int → Int → Int → Int
  | .add, _, b, _, d => b + d
  | .sub, _, b, _, d => b - d
  | .mul, a, b, c, d => a * d + b * c
  | .div, a, b, c, d => (b - cmb .div a c * d) * inv c
noncomputable def dsl (o : Op) (a b c d : Int) : Int := raw o a b c d % 2147483647
theorem dsl_nm (o : Op) (a b c d : Int) : Nm (dsl o a b c d) := nm_mod _
theorem rest (x : Int) : ∃ q : Int, x % 2147483647 = x + 2147483647 * q := ⟨-(x / 2147483647), by have := Int.emod_add_mul_ediv x 2147483647; omega⟩
theorem gone {x : Int} (h : ∃ r : Int, x = 2147483647 * r) : x % 2147483647 = 0 := by
  obtain ⟨r, rfl⟩ := h
  exact Int.mul_emod_right _ _
theorem dsl_sum (o : Op) (a b c d e f : Int) : (dsl o a ((b + e) % 2147483647) c ((d + f) % 2147483647) - (dsl o a b c d + dsl o a e c f)) % 2147483647 = 0 := by
  obtain ⟨q1, h1⟩ := rest (b + e)
  obtain ⟨q2, h2⟩ := rest (d + f)
  rw [h1, h2]
  unfold dsl
  obtain ⟨q3, h3⟩ := rest (raw o a (b + e + 2147483647 * q1) c (d + f + 2147483647 * q2))
  obtain ⟨q4, h4⟩ := rest (raw o a b c d)
  obtain ⟨q5, h5⟩ := rest (raw o a e c f)
  rw [h3, h4, h5]
  apply gone
  cases o with
  | add => exact ⟨q1 + q2 + q3 - q4 - q5, by simp only [raw]; grind⟩
  | sub => exact ⟨q1 - q2 + q3 - q4 - q5, by simp only [raw]; grind⟩
  | mul => exact ⟨a * q2 + q1 * c + q3 - q4 - q5, by simp only [raw]; grind⟩
  | div =>
    refine ⟨(q1 - cmb .div a c * q2) * inv c + q3 - q4 - q5, ?_⟩
    simp only [raw]
    generalize cmb .div a c = v
    generalize inv c = i
    grind
theorem dsl_many (o : Op) (a b c d k : Int) : (dsl o a ((k * b) % 2147483647) c ((k * d) % 2147483647) - k * dsl o a b c d) % 2147483647 = 0 := by
  obtain ⟨q1, h1⟩ := rest (k * b)
  obtain ⟨q2, h2⟩ := rest (k * d)
  rw [h1, h2]
  unfold dsl
  obtain ⟨q3, h3⟩ := rest (raw o a (k * b + 2147483647 * q1) c (k * d + 2147483647 * q2))
  obtain ⟨q4, h4⟩ := rest (raw o a b c d)
  rw [h3, h4]
  apply gone
  cases o with
  | add => exact ⟨q1 + q2 + q3 - k * q4, by simp only [raw]; grind⟩
  | sub => exact ⟨q1 - q2 + q3 - k * q4, by simp only [raw]; grind⟩
  | mul => exact ⟨a * q2 + q1 * c + q3 - k * q4, by simp only [raw]; grind⟩
  | div =>
    refine ⟨(q1 - cmb .div a c * q2) * inv c + q3 - k * q4, ?_⟩
    simp only [raw]
    generalize cmb .div a c = v
    generalize inv c = i
    grind
theorem dsl_back {a b c d : Int} (h : c % 2147483647 ≠ 0) : (dsl .div a b c d * c + cmb .div a c * d - b) % 2147483647 = 0 := by
  unfold dsl
  obtain ⟨q1, h1⟩ := rest (raw .div a b c d)
  obtain ⟨q2, h2⟩ := rest (inv c * c)
  rw [(inv_is h).one] at h2
  rw [h1]
  apply gone
  refine ⟨q1 * c - q2 * (b - cmb .div a c * d), ?_⟩
  simp only [raw]
  generalize cmb .div a c = v at *
  generalize inv c = i at *
  grind
/-- the rows of the operation's slope without a division -/
theorem dsl_same {o : Op} {a b c d x : Int} (h : raw o a b c d = x) : (dsl o a b c d - x) % 2147483647 = 0 := by
  unfold dsl
  rw [h]
  omega
def spDua (K : PySem.W.Frag) (C : Addr) : Sp := fun vs H Q E => ∃ (o : Op) (p1 p2 : Addr) (a b c d : Int), vs = [.str o.str, .ref p1, .ref p2] ∧ SqT K H p1 [.int a, .int b] ∧ SqT K H p2 [.int c, .int d] ∧ Nm a ∧ Nm b ∧ Nm c ∧ Nm d ∧
  (¬ o.fine c → E (.ref C) none H) ∧ (o.fine c → ∀ p, H p = none → Q (.ref p) (upd H p (.tup [.int (cmb o a c), .int (dsl o a b c d)])))
theorem scDua : FnScope ["op", "first", "second", "a", "b", "c", "d", "value", "slope"] ["op", "first", "second"] (defScope sDua) := ⟨rfl, rfl, rfl, by decide +kernel, rfl, by decide +kernel, by decide +kernel⟩
theorem ok_dua {f fR fI fM : Addr} {fd fdR fdI fdM : FuncData} (F : Fun K "combine_duals" "combine_duals" sDua f fd) (GR : FnOk P w K mg base CX0 1 fR fdR ["n"] spRed) (bR : Binds K fdR ["n"] []) (kR : PySem.W.keepIn K (.ref fR) = true) (mR : mg "reduce_number" = some (.ref fR))
    (GI : FnOk P w K mg base (L2.CX P w) 2 fI fdI ["number"] (spInv C)) (bI : Binds K fdI ["number"] []) (kI : PySem.W.keepIn K (.ref fI) = true) (mI : mg "inverse" = some (.ref fI))
    (GM : FnOk P w K mg base (L2.CX P w) 3 fM fdM ["op", "first", "second"] (spCmb C)) (bM : Binds K fdM ["op", "first", "second"] []) (kM : PySem.W.keepIn K (.ref fM) = true) (mM : mg "combine" = some (.ref fM)) :
    FnOk P w K mg base (L2.CX P w) 4 f fd ["op", "first", "second"] (spDua K C) := by
  refine F.okX scDua (fun vs H Q E h => ?_) (fun cdv A outer s H vs Q E hr h => ?_)
  · obtain ⟨o, p1, p2, a, b, c, d, rfl, _⟩ := h
    rfl
  · obtain ⟨o, p1, p2, a, b, c, d, rfl, t1, t2, na, nb, nc, nd, qe, q⟩ := h
    have hr1 : Room 1 _ := hr.mono (by decide)
    have hr2 : Room 2 _ := hr.mono (by decide)
    refine ⟨_, pss_cons (ps_asg (pv 1) (pg_tup (by rfl) (pgs_cons (pg_name (i := 3) scDua.nd rfl (.inl rfl)) (pgs_cons (pg_name (i := 4) scDua.nd rfl (.inl rfl)) pgs_nil))))
      (pss_cons (ps_asg (pv 2) (pg_tup (by rfl) (pgs_cons (pg_name (i := 5) scDua.nd rfl (.inl rfl)) (pgs_cons (pg_name (i := 6) scDua.nd rfl (.inl rfl)) pgs_nil))))
      (pss_cons (ps_set (i := 7) scDua.nd rfl (Or.inl rfl) (pe_call GM hr rfl mM kM bM .nil (passes_call (takes_of rfl rfl rfl rfl) (fun _ _ _ _ h => h)) (pa_cons (pv 0) (pa_cons (pv 3) (pa_cons (pv 5) pa_nil)))))
      (pss_cons (ps_if (pt_cmpR op_eq (pv 0) pe_str (nomark _)) (pss_one (ps_set (i := 8) scDua.nd rfl (Or.inl rfl) (pe_op op_add (pv 4) (pv 6))))
        (pss_one (ps_if (pt_cmpR op_eq (pv 0) pe_str (nomark _)) (pss_one (ps_set (i := 8) scDua.nd rfl (Or.inl rfl) (pe_op op_sub (pv 4) (pv 6))))
          (pss_one (ps_if (pt_cmpR op_eq (pv 0) pe_str (nomark _)) (pss_one (ps_set (i := 8) scDua.nd rfl (Or.inl rfl) (pe_op op_add (pe_op op_mul (pv 3) (pv 6)) (pe_op op_mul (pv 4) (pv 5)))))
            (pss_one (ps_set (i := 8) scDua.nd rfl (Or.inl rfl) (pe_op op_mul (pe_op op_sub (pv 4) (pe_op op_mul (pv 7) (pv 6))) (pe_call GI hr2 rfl mI kI bI .nil (passes_call (takes_of rfl rfl rfl rfl) (fun _ _ _ _ h => h)) (pa_cons (pv 5) pa_nil))))))))))
      (pss_one (ps_ret (pe_tup (pa_cons (pv 7) (pa_cons (pe_call GR hr1 rfl mR kR bR .nil pass0 (pa_cons (pv 8) pa_nil)) pa_nil)))))))), ?_⟩
    refine ⟨_, rfl, p1, _, rfl, t1, rfl, _, _, rfl, _, _, rfl, rfl, ?_⟩
    refine ⟨_, rfl, p2, _, rfl, t2, rfl, _, _, rfl, _, _, rfl, rfl, ?_⟩
    refine ⟨_, rfl, _, rfl, _, rfl, o, a, c, rfl, na.small, qe, fun fc => ?_⟩
    have q' := q fc
    have two : 2 ≤ sizeLine := by decide
    cases o with
    | add =>
      refine ⟨_, rfl, rfl, _, rfl, iteT' (by decide +kernel) ?_⟩
      exact ⟨_, rfl, _, rfl, _, _, rfl, rfl, _, rfl, _, rfl, _, rfl, two, q'⟩
    | sub =>
      refine ⟨_, rfl, rfl, _, rfl, iteF' (by decide +kernel) ?_⟩
      refine ⟨_, rfl, rfl, _, rfl, iteT' (by decide +kernel) ?_⟩
      exact ⟨_, rfl, _, rfl, _, _, rfl, rfl, _, rfl, _, rfl, _, rfl, two, q'⟩
    | mul =>
      refine ⟨_, rfl, rfl, _, rfl, iteF' (by decide +kernel) ?_⟩
      refine ⟨_, rfl, rfl, _, rfl, iteF' (by decide +kernel) ?_⟩
      refine ⟨_, rfl, rfl, _, rfl, iteT' (by decide +kernel) ?_⟩
      exact ⟨_, rfl, _, rfl, _, _, rfl, rfl, .inl na.small, _, rfl, _, rfl, _, _, rfl, rfl, .inl nb.small, _, _, rfl, rfl, _, rfl, _, rfl, _, rfl, two, q'⟩
    | div =>
      refine ⟨_, rfl, rfl, _, rfl, iteF' (by decide +kernel) ?_⟩
      refine ⟨_, rfl, rfl, _, rfl, iteF' (by decide +kernel) ?_⟩
      refine ⟨_, rfl, rfl, _, rfl, iteF' (by decide +kernel) ?_⟩
      have ni : Nm (inv c) := inv_in fc
      exact ⟨_, rfl, _, rfl, _, rfl, _, _, rfl, rfl, .inl (cmb_nm .div a c).small, _, _, rfl, rfl, _, rfl, c, rfl, fun z => absurd z fc, fun _ => ⟨_, _, rfl, rfl, .inr ni.small, _, rfl, _, rfl, _, rfl, two, q'⟩⟩

/-! ### 5. The law's own small defs -/
abbrev sNum : Stmt := top 11
abbrev sSame : Stmt := top 12
abbrev sPair : Stmt := top 13
abbrev sRight : Stmt := top 14
abbrev sFail : Stmt := top 15
abbrev sLaw : Stmt := top 16
def spNum : Sp := fun vs H Q _ => ∃ c : Int, vs = [.int c] ∧ ∀ n, Nm n → Q (.int n) H
theorem scNum : FnScope ["cell"] ["cell"] (defScope sNum) := ⟨rfl, rfl, rfl, by decide +kernel, rfl, by decide +kernel, by decide +kernel⟩
theorem ok_num {f : Addr} {fd : FuncData} (F : Fun K "_law_number" "_law_number" sNum f fd) : FnOk P w K mg base CX0 1 f fd ["cell"] spNum := by
  refine F.ok scNum (fun vs H Q E h => ?_) (fun cdv A outer s H vs Q E hr h => ?_)
  · obtain ⟨c, rfl, _⟩ := h
    rfl
  · obtain ⟨c, rfl, q⟩ := h
    refine ⟨_, pss_cons (ps_if (pt_cmpR op_eq (pe_op op_mod (pv 0) pe_int) pe_int (nomark _)) (pss_one (ps_ret (pe_op op_mod (pe_op op_fdiv (pv 0) pe_int) pe_int))) pss_nil)
      (pss_one (ps_ret (pe_op op_mod (pe_op op_fdiv (pv 0) pe_int) pe_int))), ?_⟩
    refine ⟨_, rfl, _, _, rfl, rfl, (by show (0 : Int) < 2; decide), rfl, _, rfl, ?_⟩
    refine ite2 (fun _ => ?_) (fun _ => ?_)
    · refine ⟨_, rfl, _, _, rfl, rfl, ⟨by decide, by decide⟩, _, _, rfl, rfl, (by show (0 : Int) < 12; decide), q _ ?_⟩
      have h0 := Int.emod_nonneg (c / 2) (show (12 : Int) ≠ 0 by decide)
      have h1 := Int.emod_lt_of_pos (c / 2) (show (0 : Int) < 12 by decide)
      exact ⟨h0, Int.lt_of_lt_of_le h1 (by decide)⟩
    · exact ⟨_, rfl, _, _, rfl, rfl, ⟨by decide, by decide⟩, _, _, rfl, rfl, (by show (0 : Int) < 2147483647; decide), q _ (nm_mod _)⟩
def spSame : Sp := fun vs H Q _ => ∃ x y : Int, vs = [.int x, .int y] ∧ (x - y) % 2147483647 = 0 ∧ Q (.bl true) H
theorem scSame : FnScope ["first", "second"] ["first", "second"] (defScope sSame) := ⟨rfl, rfl, rfl, by decide +kernel, rfl, by decide +kernel, by decide +kernel⟩
theorem ok_same {f : Addr} {fd : FuncData} (F : Fun K "_law_same" "_law_same" sSame f fd) (mInt : mg "int" = none) : FnOk P w K mg base CX0 1 f fd ["first", "second"] spSame := by
  refine F.ok scSame (fun vs H Q E h => ?_) (fun cdv A outer s H vs Q E hr h => ?_)
  · obtain ⟨x, y, rfl, _⟩ := h
    rfl
  · obtain ⟨x, y, rfl, e, q⟩ := h
    refine ⟨_, pss_one (ps_ret (pe_cmpR op_eq (pe_op op_mod (pe_callTy call_int1 rfl mInt PyProof.Rows.boot_int (pa_cons (pe_op op_sub (pv 0) (pv 1)) pa_nil)) pe_int) pe_int (nomark _))), ?_⟩
    refine ⟨_, rfl, _, rfl, _, _, rfl, rfl, .inl ⟨_, rfl, _, _, rfl, rfl, (by show (0 : Int) < 2147483647; decide), rfl, ?_⟩⟩
    have e' : decide (V.int ((x - y) % 2147483647) = V.int 0) = true := decide_eq_true (congrArg V.int e)
    exact Eq.mpr (congrArg (fun z => Q (.bl z) H) e') q
theorem isi_at {X : Cx} {K' : PySem.W.Frag} (h : X.K = K') : CallR X (.builtin "isinstance") (rIsi K') := by
  subst h
  exact call_isi
def spPair : Sp := fun vs H Q _ => ∃ (p : Addr) (u v : Int), vs = [.ref p] ∧ H p = some (.tup [.int u, .int v]) ∧ Nm u ∧ Nm v ∧ ∀ H', Same H H' → Q (.bl true) H'
theorem scPair : FnScope ["actual", "number"] ["actual"] (defScope sPair) := ⟨rfl, rfl, rfl, by decide +kernel, rfl, by decide +kernel, by decide +kernel⟩
theorem ok_pair {f : Addr} {fd : FuncData} (F : Fun K "_law_pair" "_law_pair" sPair f fd) (mi : mg "isinstance" = none) (mInt : mg "int" = none) (mB : mg "bool" = none) (mT : mg "tuple" = none) (ml : mg "len" = none) : FnOk P w K mg base CX0 1 f fd ["actual"] spPair := by
  refine F.ok scPair (fun vs H Q E h => ?_) (fun cdv A outer s H vs Q E hr h => ?_)
  · obtain ⟨p, u, v, rfl, _⟩ := h
    rfl
  · obtain ⟨p, u, v, rfl, ht, nu, nv, q⟩ := h
    refine ⟨_, pss_cons (ps_if (PW.pt (pw_or (pt_not (pt_val (pe_callB (isi_at (K' := K) rfl) rfl mi PyProof.Rows.boot_isinstance (pa_cons (pv 0) (pa_cons (pe_bltn (v := .ty "tuple") rfl mT PyProof.Rows.boot_tuple rfl) pa_nil)))))
          (pw_or1 (pt_cmpR op_ne (pe_callB call_len rfl ml PySem.boot_len (pa_cons (pv 0) pa_nil)) pe_int (nomark _))))) (pss_one (ps_ret pe_bl)) pss_nil)
      (pss_one (ps_ret (pe_notT (pe_lc (own := [("number", 1)]) (g := gName 1) rfl scPair.nd (pi_tup (pv 0)) (blkOk_by (N := ["actual", "number"]) (sc := defScope sPair) (by decide +kernel))
        (fun _ _ _ _ _ => pg_name (i := 1) scPair.nd rfl (Or.inl rfl))
        (fun _ _ _ _ _ => pts_one (PW.pt (pw_or (pt_not (pt_val (pe_callB (isi_at (K' := K) rfl) rfl mi PyProof.Rows.boot_isinstance (pa_cons (pv 1) (pa_cons (pe_bltn (v := .ty "int") rfl mInt PyProof.Rows.boot_int rfl) pa_nil)))))
          (pw_or (pt_val (pe_callB (isi_at (K' := K) rfl) rfl mi PyProof.Rows.boot_isinstance (pa_cons (pv 1) (pa_cons (pe_bltn (v := .ty "bool") rfl mB PyProof.Rows.boot_bool rfl) pa_nil))))
            (pw_or1 (pt_not (pt_chain op_le op_lt pe_int (pv 1) pe_int)))))))
        (fun _ _ _ _ _ => pv 1))))), ?_⟩
    refine ⟨_, rfl, .ref p, .ty "tuple", .type "tuple", .type "tuple", true, rfl, .ty _, .base (.tup ht), kit_ty (by decide +kernel), true, rfl, iteF ?_⟩
    have hT : SqT K H p [V.int u, V.int v] := SqT.of ht
    refine ⟨_, rfl, _, _, rfl, .inr ⟨_, hT, rfl⟩, rfl, _, rfl, iteNS rfl ?_⟩
    refine ⟨_, rfl, p, rfl, ⟨_, hT⟩, fun D hD => ?_⟩
    have SD := same_new hD (.lst [])
    refine lc_tup (K := K) (a := p) (xs := [V.int u, V.int v]) (fun _ H' => H' = upd H D (.lst [])) rfl (fun i H' _ e => by rw [e]; exact SqT.of (SD _ _ ht)) ?_ ?_
    · rintro i x H' hi rfl
      have hx : ∃ n, x = .int n ∧ Nm n := by
        match i, hi with
        | 0, hi => exact ⟨u, (Option.some.inj hi).symm, nu⟩
        | 1, hi => exact ⟨v, (Option.some.inj hi).symm, nv⟩
        | n + 2, hi => simp at hi
      obtain ⟨n, rfl, h0, h1⟩ := hx
      refine ⟨rfl, ?_⟩
      refine ⟨_, rfl, .int n, .ty "int", .type "int", .type "int", true, rfl, .ty _, .base (.int n), kit_ty (by decide +kernel), true, rfl, iteF ?_⟩
      refine ⟨_, rfl, .int n, .ty "bool", .type "int", .type "bool", false, rfl, .ty _, .base (.int n), kit_ty (by decide +kernel), false, rfl, iteF ?_⟩
      refine ⟨_, rfl, _, _, rfl, rfl, true, congrArg V.bl (decide_eq_true h0), iteT ?_⟩
      refine ⟨_, _, rfl, rfl, true, congrArg V.bl (decide_eq_true h1), iteF ?_⟩
      rfl
    · rintro H' rfl
      exact ⟨false, .inl ⟨_, SqL.of upd_same, rfl⟩, q _ SD⟩

def spRt (K : PySem.W.Frag) : Sp := fun vs H Q _ => ∃ (o : Op) (a b c d : Int), vs = [.str o.str, .int a, .int b, .int c, .int d] ∧ Nm a ∧ Nm b ∧ Nm c ∧ Nm d ∧ o.fine c ∧ ∀ H', Same H H' → Q (.bl true) H'
theorem scRt : FnScope ["op", "a", "b", "c", "d", "actual"] ["op", "a", "b", "c", "d"] (defScope sRight) := ⟨rfl, rfl, rfl, by decide +kernel, rfl, by decide +kernel, by decide +kernel⟩
theorem ok_rt {f fD fP fM fS : Addr} {fd fdD fdP fdM fdS : FuncData} (F : Fun K "_law_right" "_law_right" sRight f fd)
    (GD : FnOk P w K mg base (L2.CX P w) 4 fD fdD ["op", "first", "second"] (spDua K C)) (bD : Binds K fdD ["op", "first", "second"] []) (kD : PySem.W.keepIn K (.ref fD) = true) (mD : mg "combine_duals" = some (.ref fD))
    (GP : FnOk P w K mg base CX0 1 fP fdP ["actual"] spPair) (bP : Binds K fdP ["actual"] []) (kP : PySem.W.keepIn K (.ref fP) = true) (mP : mg "_law_pair" = some (.ref fP))
    (GM : FnOk P w K mg base (L2.CX P w) 3 fM fdM ["op", "first", "second"] (spCmb C)) (bM : Binds K fdM ["op", "first", "second"] []) (kM : PySem.W.keepIn K (.ref fM) = true) (mM : mg "combine" = some (.ref fM))
    (GS : FnOk P w K mg base CX0 1 fS fdS ["first", "second"] spSame) (bS : Binds K fdS ["first", "second"] []) (kS : PySem.W.keepIn K (.ref fS) = true) (mS : mg "_law_same" = some (.ref fS)) :
    FnOk P w K mg base CX0 5 f fd ["op", "a", "b", "c", "d"] (spRt K) := by
  refine F.ok scRt (fun vs H Q E h => ?_) (fun cdv A outer s H vs Q E hr h => ?_)
  · obtain ⟨o, a, b, c, d, rfl, _⟩ := h
    rfl
  · obtain ⟨o, a, b, c, d, rfl, na, nb, nc, nd, fc, q⟩ := h
    have hr1 : Room 1 _ := hr.mono (by decide)
    have hr3 : Room 3 _ := hr.mono (by decide)
    have two : 2 ≤ sizeLine := by decide
    refine ⟨_, pss_cons (ps_set (i := 5) scRt.nd rfl (Or.inl rfl) (pe_call GD hr rfl mD kD bD .nil passL (pa_cons (pv 0) (pa_cons (pe_tup (pa_cons (pv 1) (pa_cons (pv 2) pa_nil))) (pa_cons (pe_tup (pa_cons (pv 3) (pa_cons (pv 4) pa_nil))) pa_nil)))))
      (pss_cons (ps_if (PW.pt (pw_or (pt_not (pt_val (pe_call GP hr1 rfl mP kP bP .nil pass0 (pa_cons (pv 5) pa_nil)))) (pw_or1 (pt_cmpR op_ne (pe_ix ix_tup (pv 5) pe_int (fun _ _ => rfl)) (pe_call GM hr3 rfl mM kM bM .nil passL (pa_cons (pv 0) (pa_cons (pv 1) (pa_cons (pv 3) pa_nil)))) (nomark _)))))
        (pss_one (ps_ret pe_bl)) pss_nil)
      (pss_cons (ps_if (pt_cmpR op_eq (pv 0) pe_str (nomark _)) (pss_one (ps_ret (pe_call GS hr1 rfl mS kS bS .nil pass0 (pa_cons (pe_ix ix_tup (pv 5) pe_int (fun _ _ => rfl)) (pa_cons (pe_op op_add (pv 2) (pv 4)) pa_nil))))) pss_nil)
      (pss_cons (ps_if (pt_cmpR op_eq (pv 0) pe_str (nomark _)) (pss_one (ps_ret (pe_call GS hr1 rfl mS kS bS .nil pass0 (pa_cons (pe_ix ix_tup (pv 5) pe_int (fun _ _ => rfl)) (pa_cons (pe_op op_sub (pv 2) (pv 4)) pa_nil))))) pss_nil)
      (pss_cons (ps_if (pt_cmpR op_eq (pv 0) pe_str (nomark _)) (pss_one (ps_ret (pe_call GS hr1 rfl mS kS bS .nil pass0 (pa_cons (pe_ix ix_tup (pv 5) pe_int (fun _ _ => rfl)) (pa_cons (pe_op op_add (pe_op op_mul (pv 1) (pv 4)) (pe_op op_mul (pv 2) (pv 3))) pa_nil))))) pss_nil)
      (pss_one (ps_ret (pe_call GS hr1 rfl mS kS bS .nil pass0 (pa_cons (pe_op op_add (pe_op op_mul (pe_ix ix_tup (pv 5) pe_int (fun _ _ => rfl)) (pv 3)) (pe_op op_mul (pe_ix ix_tup (pv 5) pe_int (fun _ _ => rfl)) (pv 4))) (pa_cons (pv 2) pa_nil))))))))), ?_⟩
    refine ⟨_, rfl, _, rfl, _, rfl, two, fun t1 h1 => ⟨_, rfl, _, rfl, two, fun t2 h2 => ?_⟩⟩
    have S1 := same_new h1 (.tup [V.int a, V.int b])
    have S2 := same_new h2 (.tup [V.int c, V.int d])
    have e1 := S2 _ _ (upd_same (H := H) (a := t1) (o := .tup [V.int a, V.int b]))
    refine ⟨o, t1, t2, a, b, c, d, rfl, SqT.of e1, SqT.of upd_same, na, nb, nc, nd, fun z => absurd fc z, fun _ p hp => ?_⟩
    have S3 := same_new hp (.tup [V.int (cmb o a c), V.int (dsl o a b c d)])
    have SA := S1.trans (S2.trans S3)
    have ep := upd_same (H := upd (upd H t1 (.tup [V.int a, V.int b])) t2 (.tup [V.int c, V.int d])) (a := p) (o := .tup [V.int (cmb o a c), V.int (dsl o a b c d)])
    generalize upd (upd (upd H t1 (.tup [V.int a, V.int b])) t2 (.tup [V.int c, V.int d])) p (.tup [V.int (cmb o a c), V.int (dsl o a b c d)]) = HL at SA ep
    have nu := cmb_nm o a c
    have nv := dsl_nm o a b c d
    refine ⟨_, rfl, p, _, _, rfl, ep, nu, nv, fun H5 S5 => ⟨true, rfl, iteF ?_⟩⟩
    have e5 := S5 _ _ ep
    have S6 := SA.trans S5
    refine ⟨_, rfl, p, _, _, _, rfl, rfl, SqT.of e5, rfl, ?_⟩
    refine ⟨_, rfl, _, rfl, _, rfl, o, a, c, rfl, na.small, fun z => absurd fc z, fun _ => ?_⟩
    refine ⟨rfl, _, rfl, iteNS rfl ?_⟩
    cases o with
    | add =>
      refine ⟨_, rfl, rfl, _, rfl, iteT' (by decide +kernel) ?_⟩
      exact ⟨_, rfl, p, _, _, _, rfl, rfl, SqT.of e5, rfl, _, rfl, _, rfl, _, _, rfl, rfl, _, _, rfl, dsl_same rfl, q _ S6⟩
    | sub =>
      refine ⟨_, rfl, rfl, _, rfl, iteF' (by decide +kernel) ?_⟩
      refine ⟨_, rfl, rfl, _, rfl, iteT' (by decide +kernel) ?_⟩
      exact ⟨_, rfl, p, _, _, _, rfl, rfl, SqT.of e5, rfl, _, rfl, _, rfl, _, _, rfl, rfl, _, _, rfl, dsl_same rfl, q _ S6⟩
    | mul =>
      refine ⟨_, rfl, rfl, _, rfl, iteF' (by decide +kernel) ?_⟩
      refine ⟨_, rfl, rfl, _, rfl, iteF' (by decide +kernel) ?_⟩
      refine ⟨_, rfl, rfl, _, rfl, iteT' (by decide +kernel) ?_⟩
      exact ⟨_, rfl, p, _, _, _, rfl, rfl, SqT.of e5, rfl, _, rfl, _, rfl, _, _, rfl, rfl, .inl na.small, _, rfl, _, rfl, _, _, rfl, rfl, .inl nb.small, _, _, rfl, rfl, _, _, rfl, dsl_same rfl, q _ S6⟩
    | div =>
      refine ⟨_, rfl, rfl, _, rfl, iteF' (by decide +kernel) ?_⟩
      refine ⟨_, rfl, rfl, _, rfl, iteF' (by decide +kernel) ?_⟩
      refine ⟨_, rfl, rfl, _, rfl, iteF' (by decide +kernel) ?_⟩
      exact ⟨_, rfl, p, _, _, _, rfl, rfl, SqT.of e5, rfl, _, rfl, _, _, rfl, rfl, .inl nv.small, _, rfl, p, _, _, _, rfl, rfl, SqT.of e5, rfl, _, rfl, _, _, rfl, rfl, .inl nu.small, _, _, rfl, rfl, _, rfl, _, _, rfl, dsl_back fc, q _ S6⟩
def spFail : Sp := fun vs H Q _ => ∃ a b d : Int, vs = [.int a, .int b, .int d] ∧ Nm a ∧ Nm b ∧ Nm d ∧ ∀ H', Same H H' → Q (.bl true) H'
theorem scFail : FnScope ["a", "b", "d"] ["a", "b", "d"] (defScope sFail) := ⟨rfl, rfl, rfl, by decide +kernel, rfl, by decide +kernel, by decide +kernel⟩
theorem ok_fail {f fD : Addr} {fd fdD : FuncData} (F : Fun K "_law_fails" "_law_fails" sFail f fd) (T : Txt K mg C) (ex : PySem.W.exmOne K (.ref C) (.ref C) = some true)
    (GD : FnOk P w K mg base (L2.CX P w) 4 fD fdD ["op", "first", "second"] (spDua K C)) (bD : Binds K fdD ["op", "first", "second"] []) (kD : PySem.W.keepIn K (.ref fD) = true) (mD : mg "combine_duals" = some (.ref fD)) :
    FnOk P w K mg base CX0 5 f fd ["a", "b", "d"] spFail := by
  refine F.ok scFail (fun vs H Q E h => ?_) (fun cdv A outer s H vs Q E hr h => ?_)
  · obtain ⟨a, b, d, rfl, _⟩ := h
    rfl
  · obtain ⟨a, b, d, rfl, na, nb, nd, q⟩ := h
    have two : 2 ≤ sizeLine := by decide
    refine ⟨_, pss_cons (ps_try_only rfl rfl ⟨rfl, by decide, Or.inl T.gC⟩ takes0
        (fun W pn xe tk _ => pss_one (ps_expr (by exact (pe_callS GD hr rfl mD kD bD (fun σ => passAt tk σ) (by exact (pa_cons pe_str (pa_cons (pe_tup (pa_cons (pv 0) (pa_cons (pv 1) pa_nil))) (pa_cons (pe_tup (pa_cons pe_int (pa_cons (pv 2) pa_nil))) pa_nil))))))))
        (fun a oe cls d pn _ _ => pss_one (ps_ret pe_bl)))
      (pss_one (ps_ret pe_bl)), ?_⟩
    refine ⟨_, rfl, _, rfl, two, fun t1 h1 => ⟨_, rfl, two, fun t2 h2 => ?_⟩⟩
    have S1 := same_new h1 (.tup [V.int a, V.int b])
    have S2 := same_new h2 (.tup [V.int 0, V.int d])
    have e1 := S2 _ _ (upd_same (H := H) (a := t1) (o := .tup [V.int a, V.int b]))
    refine ⟨.div, t1, t2, a, b, 0, d, rfl, SqT.of e1, SqT.of upd_same, na, nb, ⟨by decide, by decide⟩, nd, fun _ => ?_, fun z => absurd rfl z⟩
    exact ⟨true, ex, fun _ a0 ha => q _ (S1.trans S2), fun z => nomatch z⟩

def spLaw (K : PySem.W.Frag) : Sp := fun vs H Q _ => ∃ (a : Addr) (ns : List Int), vs = [.ref a] ∧ SqL K H a (ns.map V.int) ∧ ns.length ≤ 63 ∧ ∀ H', Q (.bl true) H'
abbrev nLaw : List Str := ["script", "a", "b", "c", "d", "e", "f", "k", "op", "slopes", "first", "second", "both", "many", "at"]
theorem scLaw : FnScope nLaw ["script"] (defScope sLaw) := ⟨rfl, rfl, rfl, by decide +kernel, rfl, by decide +kernel, by decide +kernel⟩
theorem seven {xs : List V} (h : xs.length = 7) (hn : ∀ x ∈ xs, ∃ n, x = .int n ∧ Nm n) : ∃ a b c d e f k : Int, xs = [.int a, .int b, .int c, .int d, .int e, .int f, .int k] ∧ Nm a ∧ Nm b ∧ Nm c ∧ Nm d ∧ Nm e ∧ Nm f ∧ Nm k := by
  match xs, h with
  | [x1, x2, x3, x4, x5, x6, x7], _ =>
    obtain ⟨a, rfl, na⟩ := hn x1 (by simp)
    obtain ⟨b, rfl, nb⟩ := hn x2 (by simp)
    obtain ⟨c, rfl, nc⟩ := hn x3 (by simp)
    obtain ⟨d, rfl, nd⟩ := hn x4 (by simp)
    obtain ⟨e, rfl, ne⟩ := hn x5 (by simp)
    obtain ⟨f, rfl, nf⟩ := hn x6 (by simp)
    obtain ⟨k, rfl, nk⟩ := hn x7 (by simp)
    exact ⟨a, b, c, d, e, f, k, rfl, na, nb, nc, nd, ne, nf, nk⟩
theorem op_of : ∀ (i : Nat) (x : V), [V.str "add", V.str "sub", V.str "mul", V.str "div"][i]? = some x → ∃ o : Op, x = .str o.str
  | 0, _, h => ⟨.add, (Option.some.inj h).symm⟩
  | 1, _, h => ⟨.sub, (Option.some.inj h).symm⟩
  | 2, _, h => ⟨.mul, (Option.some.inj h).symm⟩
  | 3, _, h => ⟨.div, (Option.some.inj h).symm⟩
  | n + 4, _, h => by simp at h
theorem same_upd {H H' : Hp} {D : Addr} {o : HO} (s : Same H H') (h : H D = none) : Same H (upd H' D o) := fun b u q => by rw [upd_ne (ne_of_none q h)]; exact s b u q
theorem ok_law {f' fC fN fF fR fD fM fS : Addr} {fd fdC fdN fdF fdR fdD fdM fdS : FuncData} (F : Fun K "law" "law" sLaw f' fd) (mRg : mg "range" = none)
    (GC : FnOk P w K mg base CX0 1 fC fdC ["script", "at"] (spCellF K)) (bC : Binds K fdC ["script", "at"] []) (kC : PySem.W.keepIn K (.ref fC) = true) (mC : mg "_law_cell" = some (.ref fC))
    (GN : FnOk P w K mg base CX0 1 fN fdN ["cell"] spNum) (bN : Binds K fdN ["cell"] []) (kN : PySem.W.keepIn K (.ref fN) = true) (mN : mg "_law_number" = some (.ref fN))
    (GF : FnOk P w K mg base CX0 5 fF fdF ["a", "b", "d"] spFail) (bF : Binds K fdF ["a", "b", "d"] []) (kF : PySem.W.keepIn K (.ref fF) = true) (mF : mg "_law_fails" = some (.ref fF))
    (GR : FnOk P w K mg base CX0 5 fR fdR ["op", "a", "b", "c", "d"] (spRt K)) (bR : Binds K fdR ["op", "a", "b", "c", "d"] []) (kR : PySem.W.keepIn K (.ref fR) = true) (mR : mg "_law_right" = some (.ref fR))
    (GD : FnOk P w K mg base (L2.CX P w) 4 fD fdD ["op", "first", "second"] (spDua K C)) (bD : Binds K fdD ["op", "first", "second"] []) (kD : PySem.W.keepIn K (.ref fD) = true) (mD : mg "combine_duals" = some (.ref fD))
    (GM : FnOk P w K mg base (L2.CX P w) 3 fM fdM ["op", "first", "second"] (spCmb C)) (bM : Binds K fdM ["op", "first", "second"] []) (kM : PySem.W.keepIn K (.ref fM) = true) (mM : mg "combine" = some (.ref fM))
    (GS : FnOk P w K mg base CX0 1 fS fdS ["first", "second"] spSame) (bS : Binds K fdS ["first", "second"] []) (kS : PySem.W.keepIn K (.ref fS) = true) (mS : mg "_law_same" = some (.ref fS)) :
    FnOk P w K mg base CX0 6 f' fd ["script"] (spLaw K) := by
  refine F.ok scLaw (fun vs H Q E h => ?_) (fun cdv A outer s H vs Q E hr h => ?_)
  · obtain ⟨a, ns, rfl, _⟩ := h
    rfl
  · obtain ⟨l, ns, rfl, hS, _, q⟩ := h
    have hr1 : Room 1 _ := hr.mono (by decide)
    have hr3 : Room 3 _ := hr.mono (by decide)
    have hr4 : Room 4 _ := hr.mono (by decide)
    have two : 2 ≤ sizeLine := by decide
    have four : 4 ≤ sizeLine := by decide
    have nd := scLaw.nd
    refine ⟨_, pss_cons (ps_asg (pe_lc (own := [("at", 14)]) (g := gName 14) (tt := tYes) rfl nd (pi_range1 rfl mRg (pa_cons pe_int pa_nil)) (blkOk_by (N := nLaw) (sc := defScope sLaw) (by decide +kernel)) (fun _ _ _ _ _ => pg_name (i := 14) nd rfl (Or.inl rfl)) (fun _ _ _ _ _ => pts_nil)
          (fun _ _ _ _ _ => pe_call GN hr1 rfl mN kN bN .nil pass0 (pa_cons (pe_call GC hr1 rfl mC kC bC .nil pass0 (pa_cons (pv 0) (pa_cons (pv 14) pa_nil))) pa_nil)))
        (pg_lst (by rfl) (pgs_cons (pg_name (i := 1) nd rfl (.inl rfl)) (pgs_cons (pg_name (i := 2) nd rfl (.inl rfl)) (pgs_cons (pg_name (i := 3) nd rfl (.inl rfl)) (pgs_cons (pg_name (i := 4) nd rfl (.inl rfl))
          (pgs_cons (pg_name (i := 5) nd rfl (.inl rfl)) (pgs_cons (pg_name (i := 6) nd rfl (.inl rfl)) (pgs_cons (pg_name (i := 7) nd rfl (.inl rfl)) pgs_nil)))))))))
      (pss_cons (ps_if (pt_not (pt_val (pe_call GF hr rfl mF kF bF .nil pass0 (pa_cons (pv 1) (pa_cons (pv 2) (pa_cons (pv 4) pa_nil)))))) (pss_one (ps_ret pe_bl)) pss_nil)
      (pss_cons (ps_for PassesOwn.never rfl (pi_tup (pe_tup (pa_cons pe_str (pa_cons pe_str (pa_cons pe_str (pa_cons pe_str pa_nil)))))) (pg_name (i := 8) nd rfl (.inl rfl))
        (pss_cons (ps_if (PW.pt (pw_and (pt_cmpR op_eq (pv 8) pe_str (nomark _)) (pw_and1 (pt_cmpR op_eq (pv 3) pe_int (nomark _))))) (pss_one ps_continue) pss_nil)
        (pss_cons (ps_for PassesOwn.never rfl (pi_tup (pe_tup (pa_cons (pe_tup (pa_cons (pv 2) (pa_cons (pv 4) pa_nil))) (pa_cons (pe_tup (pa_cons (pv 5) (pa_cons (pv 6) pa_nil))) (pa_cons (pe_tup (pa_cons pe_int (pa_cons pe_int pa_nil))) (pa_cons (pe_tup (pa_cons (pv 4) (pa_cons (pv 2) pa_nil))) pa_nil)))))) (pg_name (i := 9) nd rfl (.inl rfl))
          (pss_one (ps_if (pt_not (pt_val (pe_call GR hr rfl mR kR bR .nil pass0 (pa_cons (pv 8) (pa_cons (pv 1) (pa_cons (pe_ix ix_tup (pv 9) pe_int (fun _ _ => rfl)) (pa_cons (pv 3) (pa_cons (pe_ix ix_tup (pv 9) pe_int (fun _ _ => rfl)) pa_nil)))))))) (pss_one (ps_ret pe_bl)) pss_nil)))
        (pss_cons (ps_set (i := 10) nd rfl (.inl rfl) (pe_ix ix_tup (pe_call GD hr4 rfl mD kD bD .nil passL (pa_cons (pv 8) (pa_cons (pe_tup (pa_cons (pv 1) (pa_cons (pv 2) pa_nil))) (pa_cons (pe_tup (pa_cons (pv 3) (pa_cons (pv 4) pa_nil))) pa_nil)))) pe_int (fun _ _ => rfl)))
        (pss_cons (ps_set (i := 11) nd rfl (.inl rfl) (pe_ix ix_tup (pe_call GD hr4 rfl mD kD bD .nil passL (pa_cons (pv 8) (pa_cons (pe_tup (pa_cons (pv 1) (pa_cons (pv 5) pa_nil))) (pa_cons (pe_tup (pa_cons (pv 3) (pa_cons (pv 6) pa_nil))) pa_nil)))) pe_int (fun _ _ => rfl)))
        (pss_cons (ps_set (i := 12) nd rfl (.inl rfl) (pe_ix ix_tup (pe_call GD hr4 rfl mD kD bD .nil passL (pa_cons (pv 8) (pa_cons (pe_tup (pa_cons (pv 1) (pa_cons (pe_call GM hr3 rfl mM kM bM .nil passL (pa_cons pe_str (pa_cons (pv 2) (pa_cons (pv 5) pa_nil)))) pa_nil)))
            (pa_cons (pe_tup (pa_cons (pv 3) (pa_cons (pe_call GM hr3 rfl mM kM bM .nil passL (pa_cons pe_str (pa_cons (pv 4) (pa_cons (pv 6) pa_nil)))) pa_nil))) pa_nil)))) pe_int (fun _ _ => rfl)))
        (pss_cons (ps_set (i := 13) nd rfl (.inl rfl) (pe_ix ix_tup (pe_call GD hr4 rfl mD kD bD .nil passL (pa_cons (pv 8) (pa_cons (pe_tup (pa_cons (pv 1) (pa_cons (pe_call GM hr3 rfl mM kM bM .nil passL (pa_cons pe_str (pa_cons (pv 7) (pa_cons (pv 2) pa_nil)))) pa_nil)))
            (pa_cons (pe_tup (pa_cons (pv 3) (pa_cons (pe_call GM hr3 rfl mM kM bM .nil passL (pa_cons pe_str (pa_cons (pv 7) (pa_cons (pv 4) pa_nil)))) pa_nil))) pa_nil)))) pe_int (fun _ _ => rfl)))
        (pss_one (ps_if (PW.pt (pw_or (pt_not (pt_val (pe_call GS hr1 rfl mS kS bS .nil pass0 (pa_cons (pv 12) (pa_cons (pe_op op_add (pv 10) (pv 11)) pa_nil))))) (pw_or1 (pt_not (pt_val (pe_call GS hr1 rfl mS kS bS .nil pass0 (pa_cons (pv 13) (pa_cons (pe_op op_mul (pv 7) (pv 10)) pa_nil)))))))) (pss_one (ps_ret pe_bl)) pss_nil)))))))))
      (pss_one (ps_ret pe_bl)))), ?_⟩
    refine ⟨7, rfl, by decide, by decide, fun D hD => ?_⟩
    refine lc_range (lo := 0) (n := 7) (fun i H' => Same H H' ∧ ∃ xs, H' D = some (.lst xs) ∧ xs.length = i ∧ ∀ x ∈ xs, ∃ n, x = V.int n ∧ Nm n) ⟨same_new hD _, [], upd_same, rfl, by simp⟩ ?_ ?_
    · rintro i H' hi ⟨s1, xs, e1, l1, a1⟩
      refine ⟨rfl, _, rfl, _, rfl, l, ns, _, rfl, s1.seq hS, (by omega), cl ns (0 + (i : Int)), rfl, fun n hn => ?_⟩
      refine ⟨xs, e1, (by rw [l1]; exact Nat.lt_of_lt_of_le hi (by decide)), same_upd s1 hD, xs ++ [V.int n], upd_same, (by rw [List.length_append, l1]; rfl), ?_⟩
      intro x hx
      rcases List.mem_append.mp hx with h | h
      · exact a1 x h
      · rw [List.mem_singleton.mp h]
        exact ⟨n, rfl, hn⟩
    · rintro H1 ⟨s1, xs, e1, l1, a1⟩
      obtain ⟨a, b, c, d, e, f, k, rfl, na, nb, nc, ndd, ne, nf, nk⟩ := seven l1 a1
      refine ⟨D, _, rfl, SqL.of e1, rfl, _, _, rfl, _, _, rfl, _, _, rfl, _, _, rfl, _, _, rfl, _, _, rfl, _, _, rfl, rfl, ?_⟩
      refine ⟨_, rfl, _, rfl, _, rfl, a, b, d, rfl, na, nb, ndd, fun H2 s2 => ⟨true, rfl, iteF ?_⟩⟩
      refine ⟨four, fun T hT => ?_⟩
      have eT := upd_same (H := H2) (a := T) (o := .tup [V.str "add", V.str "sub", V.str "mul", V.str "div"])
      generalize upd H2 T (.tup [V.str "add", V.str "sub", V.str "mul", V.str "div"]) = H3 at eT
      refine ⟨T, rfl, ⟨_, SqT.of eT⟩, for_tup (K := K) (a := T) (xs := [V.str "add", V.str "sub", V.str "mul", V.str "div"])
        (fun i σ H' => Same H3 H' ∧ ∃ u1 u2 u3 u4 u5 u6 : Option V, σ = [some (.ref l), some (.int a), some (.int b), some (.int c), some (.int d), some (.int e), some (.int f), some (.int k), u1, u2, u3, u4, u5, u6, none])
        ⟨Same.refl _, none, none, none, none, none, none, rfl⟩ (fun i σ H' _ z => SqT.of (z.1 _ _ eT)) ?_ (fun σ H' _ => q H')⟩
      rintro i x σ H4 hi ⟨s4, u1, u2, u3, u4, u5, u6, rfl⟩
      obtain ⟨o, rfl⟩ := op_of i x hi
      have nz : o.str = ("div" : Str) → c ≠ 0 → o.fine c := by
        intro h hc
        cases o with
        | div => show c % 2147483647 ≠ 0; rw [nc.self]; exact hc
        | _ => trivial
      have ny : o.str ≠ ("div" : Str) → o.fine c := by
        intro h
        cases o with
        | div => exact absurd rfl h
        | _ => trivial
      refine ⟨_, rfl, rfl, _, rfl, ?_⟩
      refine ite2 (fun hd => ⟨_, rfl, rfl, _, rfl, ?_⟩) (fun hd => ?_)
      · have hd' : o.str = ("div" : Str) := V.str.inj (of_decide_eq_true hd)
        by_cases hc : c = 0
        · refine iteT' (decide_eq_true (congrArg V.int hc)) ?_
          exact ⟨s4, _, _, _, _, _, _, rfl⟩
        · refine iteF' (decide_eq_false (fun y => hc (V.int.inj y))) ?_
          have fc := nz hd' hc
          clear hd hd' hc nz ny
          refine ⟨_, rfl, _, rfl, two, fun t1 h1 => ⟨_, rfl, _, rfl, two, fun t2 h2 => ⟨two, fun t3 h3 => ⟨_, rfl, _, rfl, two, fun t4 h4 => ⟨four, fun U hU => ?_⟩⟩⟩⟩⟩
          have k1 := same_new h1 (.tup [V.int b, V.int d])
          have k2 := same_new h2 (.tup [V.int e, V.int f])
          have k3 := same_new h3 (.tup [V.int 0, V.int 0])
          have k4 := same_new h4 (.tup [V.int d, V.int b])
          have k5 := same_new hU (.tup [V.ref t1, V.ref t2, V.ref t3, V.ref t4])
          have g1 := k5 _ _ (k4 _ _ (k3 _ _ (k2 _ _ upd_same)))
          have g2 := k5 _ _ (k4 _ _ (k3 _ _ upd_same))
          have g3 := k5 _ _ (k4 _ _ upd_same)
          have g4 := k5 _ _ upd_same
          have sL := s4.trans (k1.trans (k2.trans (k3.trans (k4.trans k5))))
          have gU := upd_same (H := upd (upd (upd (upd H4 t1 (.tup [V.int b, V.int d])) t2 (.tup [V.int e, V.int f])) t3 (.tup [V.int 0, V.int 0])) t4 (.tup [V.int d, V.int b])) (a := U) (o := .tup [V.ref t1, V.ref t2, V.ref t3, V.ref t4])
          generalize upd (upd (upd (upd (upd H4 t1 (.tup [V.int b, V.int d])) t2 (.tup [V.int e, V.int f])) t3 (.tup [V.int 0, V.int 0])) t4 (.tup [V.int d, V.int b])) U (.tup [V.ref t1, V.ref t2, V.ref t3, V.ref t4]) = HL at g1 g2 g3 g4 gU sL
          have items : ∀ (i : Nat) (x : V), [V.ref t1, V.ref t2, V.ref t3, V.ref t4][i]? = some x → ∃ (t : Addr) (y z : Int), x = .ref t ∧ HL t = some (.tup [V.int y, V.int z]) ∧ Nm y ∧ Nm z := by
            intro i x hx
            match i, hx with
            | 0, hx => exact ⟨t1, b, d, (Option.some.inj hx).symm, g1, nb, ndd⟩
            | 1, hx => exact ⟨t2, e, f, (Option.some.inj hx).symm, g2, ne, nf⟩
            | 2, hx => exact ⟨t3, 0, 0, (Option.some.inj hx).symm, g3, ⟨by decide, by decide⟩, ⟨by decide, by decide⟩⟩
            | 3, hx => exact ⟨t4, d, b, (Option.some.inj hx).symm, g4, ndd, nb⟩
            | n + 4, hx => simp at hx
          refine ⟨U, rfl, ⟨_, SqT.of gU⟩, for_tup (K := K) (a := U) (xs := [V.ref t1, V.ref t2, V.ref t3, V.ref t4]) (fun i σ H' => Same HL H' ∧ ∃ v9 : Option V, σ = [some (.ref l), some (.int a), some (.int b), some (.int c), some (.int d), some (.int e), some (.int f), some (.int k), some (.str o.str), v9, u3, u4, u5, u6, none])
            ⟨Same.refl _, _, rfl⟩ (fun i σ H' _ z => SqT.of (z.1 _ _ gU)) ?_ ?_⟩
          · rintro j x σ H5 hj ⟨s5, v9, rfl⟩
            obtain ⟨t, y, z, rfl, et, ny, nz⟩ := items j x hj
            refine ⟨_, rfl, _, rfl, _, rfl, t, _, _, _, rfl, rfl, SqT.of (s5 _ _ et), rfl, _, rfl, _, rfl, t, _, _, _, rfl, rfl, SqT.of (s5 _ _ et), rfl, ?_⟩
            refine ⟨o, a, y, c, z, rfl, na, ny, nc, nz, fc, fun H6 s6 => ⟨true, rfl, iteF ?_⟩⟩
            exact ⟨s5.trans s6, _, rfl⟩
          · rintro σ H5 ⟨s5, v9, rfl⟩
            refine ⟨_, rfl, _, rfl, _, rfl, two, fun w11 x11 => ⟨_, rfl, _, rfl, two, fun w12 x12 => ?_⟩⟩
            refine ⟨o, w11, w12, a, b, c, d, rfl, SqT.of (same_new x12 _ _ _ upd_same), SqT.of upd_same, na, ?ny, nc, ?nz, fun z => absurd fc z, fun _ p1 y1 => ?_⟩
            case ny => first | assumption | exact cmb_nm _ _ _
            case nz => first | assumption | exact cmb_nm _ _ _
            refine ⟨p1, _, _, _, rfl, rfl, SqT.of upd_same, rfl, ?_⟩
            have r1 := s5.trans ((same_new x11 (.tup [V.int a, V.int (b)])).trans ((same_new x12 (.tup [V.int c, V.int (d)])).trans (same_new y1 (.tup [V.int (cmb o a c), V.int (dsl o a (b) c (d))]))))
            generalize upd (upd (upd _ w11 (.tup [V.int a, V.int (b)])) w12 (.tup [V.int c, V.int (d)])) p1 (.tup [V.int (cmb o a c), V.int (dsl o a (b) c (d))]) = HH1 at r1 ⊢
            refine ⟨_, rfl, _, rfl, _, rfl, two, fun w21 x21 => ⟨_, rfl, _, rfl, two, fun w22 x22 => ?_⟩⟩
            refine ⟨o, w21, w22, a, e, c, f, rfl, SqT.of (same_new x22 _ _ _ upd_same), SqT.of upd_same, na, ?ny, nc, ?nz, fun z => absurd fc z, fun _ p2 y2 => ?_⟩
            case ny => first | assumption | exact cmb_nm _ _ _
            case nz => first | assumption | exact cmb_nm _ _ _
            refine ⟨p2, _, _, _, rfl, rfl, SqT.of upd_same, rfl, ?_⟩
            have r2 := r1.trans ((same_new x21 (.tup [V.int a, V.int (e)])).trans ((same_new x22 (.tup [V.int c, V.int (f)])).trans (same_new y2 (.tup [V.int (cmb o a c), V.int (dsl o a (e) c (f))]))))
            generalize upd (upd (upd _ w21 (.tup [V.int a, V.int (e)])) w22 (.tup [V.int c, V.int (f)])) p2 (.tup [V.int (cmb o a c), V.int (dsl o a (e) c (f))]) = HH2 at r2 ⊢
            refine ⟨_, rfl, _, rfl, _, rfl, _, rfl, Op.add, b, e, rfl, nb.small, fun z => absurd trivial z, fun _ => ?_⟩
            refine ⟨two, fun w31 x31 => ⟨_, rfl, _, rfl, _, rfl, Op.add, d, f, rfl, ndd.small, fun z => absurd trivial z, fun _ => ?_⟩⟩
            refine ⟨two, fun w32 x32 => ?_⟩
            refine ⟨o, w31, w32, a, cmb .add b e, c, cmb .add d f, rfl, SqT.of (same_new x32 _ _ _ upd_same), SqT.of upd_same, na, ?ny, nc, ?nz, fun z => absurd fc z, fun _ p3 y3 => ?_⟩
            case ny => first | assumption | exact cmb_nm _ _ _
            case nz => first | assumption | exact cmb_nm _ _ _
            refine ⟨p3, _, _, _, rfl, rfl, SqT.of upd_same, rfl, ?_⟩
            have r3 := r2.trans ((same_new x31 (.tup [V.int a, V.int (cmb .add b e)])).trans ((same_new x32 (.tup [V.int c, V.int (cmb .add d f)])).trans (same_new y3 (.tup [V.int (cmb o a c), V.int (dsl o a (cmb .add b e) c (cmb .add d f))]))))
            generalize upd (upd (upd _ w31 (.tup [V.int a, V.int (cmb .add b e)])) w32 (.tup [V.int c, V.int (cmb .add d f)])) p3 (.tup [V.int (cmb o a c), V.int (dsl o a (cmb .add b e) c (cmb .add d f))]) = HH3 at r3 ⊢
            refine ⟨_, rfl, _, rfl, _, rfl, _, rfl, Op.mul, k, b, rfl, nk.small, fun z => absurd trivial z, fun _ => ?_⟩
            refine ⟨two, fun w41 x41 => ⟨_, rfl, _, rfl, _, rfl, Op.mul, k, d, rfl, nk.small, fun z => absurd trivial z, fun _ => ?_⟩⟩
            refine ⟨two, fun w42 x42 => ?_⟩
            refine ⟨o, w41, w42, a, cmb .mul k b, c, cmb .mul k d, rfl, SqT.of (same_new x42 _ _ _ upd_same), SqT.of upd_same, na, ?ny, nc, ?nz, fun z => absurd fc z, fun _ p4 y4 => ?_⟩
            case ny => first | assumption | exact cmb_nm _ _ _
            case nz => first | assumption | exact cmb_nm _ _ _
            refine ⟨p4, _, _, _, rfl, rfl, SqT.of upd_same, rfl, ?_⟩
            have r4 := r3.trans ((same_new x41 (.tup [V.int a, V.int (cmb .mul k b)])).trans ((same_new x42 (.tup [V.int c, V.int (cmb .mul k d)])).trans (same_new y4 (.tup [V.int (cmb o a c), V.int (dsl o a (cmb .mul k b) c (cmb .mul k d))]))))
            generalize upd (upd (upd _ w41 (.tup [V.int a, V.int (cmb .mul k b)])) w42 (.tup [V.int c, V.int (cmb .mul k d)])) p4 (.tup [V.int (cmb o a c), V.int (dsl o a (cmb .mul k b) c (cmb .mul k d))]) = HH4 at r4 ⊢
            refine ⟨_, rfl, _, rfl, _, rfl, _, _, rfl, rfl, _, _, rfl, dsl_sum o a b c d e f, true, rfl, iteF ?_⟩
            refine ⟨_, rfl, _, rfl, _, rfl, _, _, rfl, rfl, .inl nk.small, _, _, rfl, dsl_many o a b c d k, true, rfl, iteF ?_⟩
            exact ⟨sL.trans r4, _, _, _, _, _, _, rfl⟩
      · have fc := ny (fun y => hd (decide_eq_true (congrArg V.str y)))
        clear hd nz ny
        refine iteF ?_
        refine ⟨_, rfl, _, rfl, two, fun t1 h1 => ⟨_, rfl, _, rfl, two, fun t2 h2 => ⟨two, fun t3 h3 => ⟨_, rfl, _, rfl, two, fun t4 h4 => ⟨four, fun U hU => ?_⟩⟩⟩⟩⟩
        have k1 := same_new h1 (.tup [V.int b, V.int d])
        have k2 := same_new h2 (.tup [V.int e, V.int f])
        have k3 := same_new h3 (.tup [V.int 0, V.int 0])
        have k4 := same_new h4 (.tup [V.int d, V.int b])
        have k5 := same_new hU (.tup [V.ref t1, V.ref t2, V.ref t3, V.ref t4])
        have g1 := k5 _ _ (k4 _ _ (k3 _ _ (k2 _ _ upd_same)))
        have g2 := k5 _ _ (k4 _ _ (k3 _ _ upd_same))
        have g3 := k5 _ _ (k4 _ _ upd_same)
        have g4 := k5 _ _ upd_same
        have sL := s4.trans (k1.trans (k2.trans (k3.trans (k4.trans k5))))
        have gU := upd_same (H := upd (upd (upd (upd H4 t1 (.tup [V.int b, V.int d])) t2 (.tup [V.int e, V.int f])) t3 (.tup [V.int 0, V.int 0])) t4 (.tup [V.int d, V.int b])) (a := U) (o := .tup [V.ref t1, V.ref t2, V.ref t3, V.ref t4])
        generalize upd (upd (upd (upd (upd H4 t1 (.tup [V.int b, V.int d])) t2 (.tup [V.int e, V.int f])) t3 (.tup [V.int 0, V.int 0])) t4 (.tup [V.int d, V.int b])) U (.tup [V.ref t1, V.ref t2, V.ref t3, V.ref t4]) = HL at g1 g2 g3 g4 gU sL
        have items : ∀ (i : Nat) (x : V), [V.ref t1, V.ref t2, V.ref t3, V.ref t4][i]? = some x → ∃ (t : Addr) (y z : Int), x = .ref t ∧ HL t = some (.tup [V.int y, V.int z]) ∧ Nm y ∧ Nm z := by
          intro i x hx
          match i, hx with
          | 0, hx => exact ⟨t1, b, d, (Option.some.inj hx).symm, g1, nb, ndd⟩
          | 1, hx => exact ⟨t2, e, f, (Option.some.inj hx).symm, g2, ne, nf⟩
          | 2, hx => exact ⟨t3, 0, 0, (Option.some.inj hx).symm, g3, ⟨by decide, by decide⟩, ⟨by decide, by decide⟩⟩
          | 3, hx => exact ⟨t4, d, b, (Option.some.inj hx).symm, g4, ndd, nb⟩
          | n + 4, hx => simp at hx
        refine ⟨U, rfl, ⟨_, SqT.of gU⟩, for_tup (K := K) (a := U) (xs := [V.ref t1, V.ref t2, V.ref t3, V.ref t4]) (fun i σ H' => Same HL H' ∧ ∃ v9 : Option V, σ = [some (.ref l), some (.int a), some (.int b), some (.int c), some (.int d), some (.int e), some (.int f), some (.int k), some (.str o.str), v9, u3, u4, u5, u6, none])
          ⟨Same.refl _, _, rfl⟩ (fun i σ H' _ z => SqT.of (z.1 _ _ gU)) ?_ ?_⟩
        · rintro j x σ H5 hj ⟨s5, v9, rfl⟩
          obtain ⟨t, y, z, rfl, et, ny, nz⟩ := items j x hj
          refine ⟨_, rfl, _, rfl, _, rfl, t, _, _, _, rfl, rfl, SqT.of (s5 _ _ et), rfl, _, rfl, _, rfl, t, _, _, _, rfl, rfl, SqT.of (s5 _ _ et), rfl, ?_⟩
          refine ⟨o, a, y, c, z, rfl, na, ny, nc, nz, fc, fun H6 s6 => ⟨true, rfl, iteF ?_⟩⟩
          exact ⟨s5.trans s6, _, rfl⟩
        · rintro σ H5 ⟨s5, v9, rfl⟩
          refine ⟨_, rfl, _, rfl, _, rfl, two, fun w11 x11 => ⟨_, rfl, _, rfl, two, fun w12 x12 => ?_⟩⟩
          refine ⟨o, w11, w12, a, b, c, d, rfl, SqT.of (same_new x12 _ _ _ upd_same), SqT.of upd_same, na, ?ny, nc, ?nz, fun z => absurd fc z, fun _ p1 y1 => ?_⟩
          case ny => first | assumption | exact cmb_nm _ _ _
          case nz => first | assumption | exact cmb_nm _ _ _
          refine ⟨p1, _, _, _, rfl, rfl, SqT.of upd_same, rfl, ?_⟩
          have r1 := s5.trans ((same_new x11 (.tup [V.int a, V.int (b)])).trans ((same_new x12 (.tup [V.int c, V.int (d)])).trans (same_new y1 (.tup [V.int (cmb o a c), V.int (dsl o a (b) c (d))]))))
          generalize upd (upd (upd _ w11 (.tup [V.int a, V.int (b)])) w12 (.tup [V.int c, V.int (d)])) p1 (.tup [V.int (cmb o a c), V.int (dsl o a (b) c (d))]) = HH1 at r1 ⊢
          refine ⟨_, rfl, _, rfl, _, rfl, two, fun w21 x21 => ⟨_, rfl, _, rfl, two, fun w22 x22 => ?_⟩⟩
          refine ⟨o, w21, w22, a, e, c, f, rfl, SqT.of (same_new x22 _ _ _ upd_same), SqT.of upd_same, na, ?ny, nc, ?nz, fun z => absurd fc z, fun _ p2 y2 => ?_⟩
          case ny => first | assumption | exact cmb_nm _ _ _
          case nz => first | assumption | exact cmb_nm _ _ _
          refine ⟨p2, _, _, _, rfl, rfl, SqT.of upd_same, rfl, ?_⟩
          have r2 := r1.trans ((same_new x21 (.tup [V.int a, V.int (e)])).trans ((same_new x22 (.tup [V.int c, V.int (f)])).trans (same_new y2 (.tup [V.int (cmb o a c), V.int (dsl o a (e) c (f))]))))
          generalize upd (upd (upd _ w21 (.tup [V.int a, V.int (e)])) w22 (.tup [V.int c, V.int (f)])) p2 (.tup [V.int (cmb o a c), V.int (dsl o a (e) c (f))]) = HH2 at r2 ⊢
          refine ⟨_, rfl, _, rfl, _, rfl, _, rfl, Op.add, b, e, rfl, nb.small, fun z => absurd trivial z, fun _ => ?_⟩
          refine ⟨two, fun w31 x31 => ⟨_, rfl, _, rfl, _, rfl, Op.add, d, f, rfl, ndd.small, fun z => absurd trivial z, fun _ => ?_⟩⟩
          refine ⟨two, fun w32 x32 => ?_⟩
          refine ⟨o, w31, w32, a, cmb .add b e, c, cmb .add d f, rfl, SqT.of (same_new x32 _ _ _ upd_same), SqT.of upd_same, na, ?ny, nc, ?nz, fun z => absurd fc z, fun _ p3 y3 => ?_⟩
          case ny => first | assumption | exact cmb_nm _ _ _
          case nz => first | assumption | exact cmb_nm _ _ _
          refine ⟨p3, _, _, _, rfl, rfl, SqT.of upd_same, rfl, ?_⟩
          have r3 := r2.trans ((same_new x31 (.tup [V.int a, V.int (cmb .add b e)])).trans ((same_new x32 (.tup [V.int c, V.int (cmb .add d f)])).trans (same_new y3 (.tup [V.int (cmb o a c), V.int (dsl o a (cmb .add b e) c (cmb .add d f))]))))
          generalize upd (upd (upd _ w31 (.tup [V.int a, V.int (cmb .add b e)])) w32 (.tup [V.int c, V.int (cmb .add d f)])) p3 (.tup [V.int (cmb o a c), V.int (dsl o a (cmb .add b e) c (cmb .add d f))]) = HH3 at r3 ⊢
          refine ⟨_, rfl, _, rfl, _, rfl, _, rfl, Op.mul, k, b, rfl, nk.small, fun z => absurd trivial z, fun _ => ?_⟩
          refine ⟨two, fun w41 x41 => ⟨_, rfl, _, rfl, _, rfl, Op.mul, k, d, rfl, nk.small, fun z => absurd trivial z, fun _ => ?_⟩⟩
          refine ⟨two, fun w42 x42 => ?_⟩
          refine ⟨o, w41, w42, a, cmb .mul k b, c, cmb .mul k d, rfl, SqT.of (same_new x42 _ _ _ upd_same), SqT.of upd_same, na, ?ny, nc, ?nz, fun z => absurd fc z, fun _ p4 y4 => ?_⟩
          case ny => first | assumption | exact cmb_nm _ _ _
          case nz => first | assumption | exact cmb_nm _ _ _
          refine ⟨p4, _, _, _, rfl, rfl, SqT.of upd_same, rfl, ?_⟩
          have r4 := r3.trans ((same_new x41 (.tup [V.int a, V.int (cmb .mul k b)])).trans ((same_new x42 (.tup [V.int c, V.int (cmb .mul k d)])).trans (same_new y4 (.tup [V.int (cmb o a c), V.int (dsl o a (cmb .mul k b) c (cmb .mul k d))]))))
          generalize upd (upd (upd _ w41 (.tup [V.int a, V.int (cmb .mul k b)])) w42 (.tup [V.int c, V.int (cmb .mul k d)])) p4 (.tup [V.int (cmb o a c), V.int (dsl o a (cmb .mul k b) c (cmb .mul k d))]) = HH4 at r4 ⊢
          refine ⟨_, rfl, _, rfl, _, rfl, _, _, rfl, rfl, _, _, rfl, dsl_sum o a b c d e f, true, rfl, iteF ?_⟩
          refine ⟨_, rfl, _, rfl, _, rfl, _, _, rfl, rfl, .inl nk.small, _, _, rfl, dsl_many o a b c d k, true, rfl, iteF ?_⟩
          exact ⟨sL.trans r4, _, _, _, _, _, _, rfl⟩
end

theorem all_mk {l : PySem.W.OpenLaw} {w : World} {K : PySem.W.Frag} {h : Heap} {mg : Str → Option Value} {fa f1 f2 f3 f4 f5 f6 f7 f8 f9 f10 f11 : Addr} (X : K.In h) (G : h.Ns mainGlobals mg) (hfa : mg "law" = some (.ref fa))
    {od1 an1 od2 an2 od3 an3 od4 an4 od5 an5 od6 an6 od7 an7 od8 an8 od9 an9 od10 an10 od11 an11 : Option Addr} {sl1 sl2 sl3 sl4 sl5 sl6 sl7 sl8 sl9 sl10 sl11 : Array (Option Value)} {oc1 kV1 dc1 pm1 cd1 ct1 oc2 kV2 dc2 pm2 cd2 ct2 oc3 kV3 dc3 pm3 cd3 ct3 oc4 kV4 dc4 pm4 cd4 ct4 oc5 kV5 dc5 pm5 cd5 ct5 oc6 kV6 dc6 pm6 cd6 ct6 oc7 kV7 dc7 pm7 cd7 ct7 oc8 kV8 dc8 pm8 cd8 ct8 oc9 kV9 dc9 pm9 cd9 ct9 oc10 kV10 dc10 pm10 cd10 ct10 oc11 kV11 dc11 pm11 cd11 ct11 : Value}
    (a1 : PySem.W.nsIn K mainGlobals "reduce_number" = some (some (.ref f1))) (l1 : K.lookup f1 = some ⟨oc1, od1, .func (PySem.W.fnOf "reduce_number" "reduce_number" (defArgs sRed) (defBody sRed) (defScope sRed) .none kV1 dc1 pm1 an1 cd1 ct1), sl1⟩) (c1 : PySem.W.codeIn K cd1 "reduce_number" = true) (k1 : PySem.W.keepIn K (.ref f1) = true)
    (a2 : PySem.W.nsIn K mainGlobals "inverse" = some (some (.ref f2))) (l2 : K.lookup f2 = some ⟨oc2, od2, .func (PySem.W.fnOf "inverse" "inverse" (defArgs sInv) (defBody sInv) (defScope sInv) .none kV2 dc2 pm2 an2 cd2 ct2), sl2⟩) (c2 : PySem.W.codeIn K cd2 "inverse" = true) (k2 : PySem.W.keepIn K (.ref f2) = true)
    (a3 : PySem.W.nsIn K mainGlobals "combine" = some (some (.ref f3))) (l3 : K.lookup f3 = some ⟨oc3, od3, .func (PySem.W.fnOf "combine" "combine" (defArgs sCmb) (defBody sCmb) (defScope sCmb) .none kV3 dc3 pm3 an3 cd3 ct3), sl3⟩) (c3 : PySem.W.codeIn K cd3 "combine" = true) (k3 : PySem.W.keepIn K (.ref f3) = true)
    (a4 : PySem.W.nsIn K mainGlobals "combine_duals" = some (some (.ref f4))) (l4 : K.lookup f4 = some ⟨oc4, od4, .func (PySem.W.fnOf "combine_duals" "combine_duals" (defArgs sDua) (defBody sDua) (defScope sDua) .none kV4 dc4 pm4 an4 cd4 ct4), sl4⟩) (c4 : PySem.W.codeIn K cd4 "combine_duals" = true) (k4 : PySem.W.keepIn K (.ref f4) = true)
    (a5 : PySem.W.nsIn K mainGlobals "_law_cell" = some (some (.ref f5))) (l5 : K.lookup f5 = some ⟨oc5, od5, .func (PySem.W.fnOf "_law_cell" "_law_cell" (defArgs sCell) (defBody sCell) (defScope sCell) .none kV5 dc5 pm5 an5 cd5 ct5), sl5⟩) (c5 : PySem.W.codeIn K cd5 "_law_cell" = true) (k5 : PySem.W.keepIn K (.ref f5) = true)
    (a6 : PySem.W.nsIn K mainGlobals "_law_number" = some (some (.ref f6))) (l6 : K.lookup f6 = some ⟨oc6, od6, .func (PySem.W.fnOf "_law_number" "_law_number" (defArgs sNum) (defBody sNum) (defScope sNum) .none kV6 dc6 pm6 an6 cd6 ct6), sl6⟩) (c6 : PySem.W.codeIn K cd6 "_law_number" = true) (k6 : PySem.W.keepIn K (.ref f6) = true)
    (a7 : PySem.W.nsIn K mainGlobals "_law_same" = some (some (.ref f7))) (l7 : K.lookup f7 = some ⟨oc7, od7, .func (PySem.W.fnOf "_law_same" "_law_same" (defArgs sSame) (defBody sSame) (defScope sSame) .none kV7 dc7 pm7 an7 cd7 ct7), sl7⟩) (c7 : PySem.W.codeIn K cd7 "_law_same" = true) (k7 : PySem.W.keepIn K (.ref f7) = true)
    (a8 : PySem.W.nsIn K mainGlobals "_law_pair" = some (some (.ref f8))) (l8 : K.lookup f8 = some ⟨oc8, od8, .func (PySem.W.fnOf "_law_pair" "_law_pair" (defArgs sPair) (defBody sPair) (defScope sPair) .none kV8 dc8 pm8 an8 cd8 ct8), sl8⟩) (c8 : PySem.W.codeIn K cd8 "_law_pair" = true) (k8 : PySem.W.keepIn K (.ref f8) = true)
    (a9 : PySem.W.nsIn K mainGlobals "_law_right" = some (some (.ref f9))) (l9 : K.lookup f9 = some ⟨oc9, od9, .func (PySem.W.fnOf "_law_right" "_law_right" (defArgs sRight) (defBody sRight) (defScope sRight) .none kV9 dc9 pm9 an9 cd9 ct9), sl9⟩) (c9 : PySem.W.codeIn K cd9 "_law_right" = true) (k9 : PySem.W.keepIn K (.ref f9) = true)
    (a10 : PySem.W.nsIn K mainGlobals "_law_fails" = some (some (.ref f10))) (l10 : K.lookup f10 = some ⟨oc10, od10, .func (PySem.W.fnOf "_law_fails" "_law_fails" (defArgs sFail) (defBody sFail) (defScope sFail) .none kV10 dc10 pm10 an10 cd10 ct10), sl10⟩) (c10 : PySem.W.codeIn K cd10 "_law_fails" = true) (k10 : PySem.W.keepIn K (.ref f10) = true)
    (a11 : PySem.W.nsIn K mainGlobals "law" = some (some (.ref f11))) (l11 : K.lookup f11 = some ⟨oc11, od11, .func (PySem.W.fnOf "law" "law" (defArgs sLaw) (defBody sLaw) (defScope sLaw) .none kV11 dc11 pm11 an11 cd11 ct11), sl11⟩) (c11 : PySem.W.codeIn K cd11 "law" = true) (k11 : PySem.W.keepIn K (.ref f11) = true)
    {C : Addr} (aC : PySem.W.nsIn K mainGlobals "FieldError" = some (some (.ref C)))
    (xC : PySem.W.excIn K C [.type "ValueError", .type "Exception", .type "BaseException", .type "object"] "ValueError.__new__" = true)
    (kC : PySem.W.keepIn K (.ref C) = true)
    (sC : PySem.W.subIn K (.ref C) (.type "BaseException") = some true)
    (tC : PySem.W.typeIn K (.ref C) = some (.type "type"))
    (hC : PySem.W.hasDictIn K C = true)
    (sCC : PySem.W.subIn K (.ref C) (.ref C) = some true)
    {tp : Tok} (aP : PySem.W.nsIn K mainGlobals "PRIME" = some (some (.int 2147483647 tp)))
    (zi : PySem.W.nsIn K mainGlobals "isinstance" = some none)
    (zI : PySem.W.nsIn K mainGlobals "int" = some none)
    (zB : PySem.W.nsIn K mainGlobals "bool" = some none)
    (zT : PySem.W.nsIn K mainGlobals "tuple" = some none)
    (zL : PySem.W.nsIn K mainGlobals "len" = some none)
    (zR : PySem.W.nsIn K mainGlobals "range" = some none) :
    ∃ fd : FuncData, (∀ (s : Shared) (v : Value), BindsTo s fd ⟨[v], []⟩ [("script", v)]) ∧ ∀ base : Heap, K.In base → base.Ns mainGlobals mg → FnOk l.prog w K mg base CX0 6 fa fd ["script"] (spLaw K) := by
  have e := hfa.symm.trans (PySem.W.mg_of X G a11)
  cases e
  have F1 := fun_mk (st := sRed) l1 c1 k1
  have b1 := F1.binds (ps := ["n"]) fun _ _ _ _ _ _ us hl => match us, hl with | [_], _ => rfl
  have m1 := PySem.W.mg_of X G a1
  have F2 := fun_mk (st := sInv) l2 c2 k2
  have b2 := F2.binds (ps := ["number"]) fun _ _ _ _ _ _ us hl => match us, hl with | [_], _ => rfl
  have m2 := PySem.W.mg_of X G a2
  have F3 := fun_mk (st := sCmb) l3 c3 k3
  have b3 := F3.binds (ps := ["op", "first", "second"]) fun _ _ _ _ _ _ us hl => match us, hl with | [_, _, _], _ => rfl
  have m3 := PySem.W.mg_of X G a3
  have F4 := fun_mk (st := sDua) l4 c4 k4
  have b4 := F4.binds (ps := ["op", "first", "second"]) fun _ _ _ _ _ _ us hl => match us, hl with | [_, _, _], _ => rfl
  have m4 := PySem.W.mg_of X G a4
  have F5 := fun_mk (st := sCell) l5 c5 k5
  have b5 := F5.binds (ps := ["script", "at"]) fun _ _ _ _ _ _ us hl => match us, hl with | [_, _], _ => rfl
  have m5 := PySem.W.mg_of X G a5
  have F6 := fun_mk (st := sNum) l6 c6 k6
  have b6 := F6.binds (ps := ["cell"]) fun _ _ _ _ _ _ us hl => match us, hl with | [_], _ => rfl
  have m6 := PySem.W.mg_of X G a6
  have F7 := fun_mk (st := sSame) l7 c7 k7
  have b7 := F7.binds (ps := ["first", "second"]) fun _ _ _ _ _ _ us hl => match us, hl with | [_, _], _ => rfl
  have m7 := PySem.W.mg_of X G a7
  have F8 := fun_mk (st := sPair) l8 c8 k8
  have b8 := F8.binds (ps := ["actual"]) fun _ _ _ _ _ _ us hl => match us, hl with | [_], _ => rfl
  have m8 := PySem.W.mg_of X G a8
  have F9 := fun_mk (st := sRight) l9 c9 k9
  have b9 := F9.binds (ps := ["op", "a", "b", "c", "d"]) fun _ _ _ _ _ _ us hl => match us, hl with | [_, _, _, _, _], _ => rfl
  have m9 := PySem.W.mg_of X G a9
  have F10 := fun_mk (st := sFail) l10 c10 k10
  have b10 := F10.binds (ps := ["a", "b", "d"]) fun _ _ _ _ _ _ us hl => match us, hl with | [_, _, _], _ => rfl
  have m10 := PySem.W.mg_of X G a10
  have F11 := fun_mk (st := sLaw) l11 c11 k11
  refine ⟨PySem.W.fnOf "law" "law" (defArgs sLaw) (defBody sLaw) (defScope sLaw) .none kV11 dc11 pm11 an11 cd11 ct11, fun s v => .of_eq rfl, fun base _ _ => ?_⟩
  have T : Txt K mg C := ⟨PySem.W.mg_of X G aC, xC, kC, sC, tC, ⟨_, PySem.W.mg_of X G aP⟩⟩
  have mInt := PySem.W.mg_none_of X G zI
  have mLen := PySem.W.mg_none_of X G zL
  have G1 : FnOk l.prog w K mg base CX0 1 f1 _ ["n"] spRed := ok_red F1 T
  have G2 : FnOk l.prog w K mg base (L2.CX l.prog w) 2 f2 _ ["number"] (spInv C) := ok_inv F2 T G1 b1 k1 m1
  have G3 : FnOk l.prog w K mg base (L2.CX l.prog w) 3 f3 _ ["op", "first", "second"] (spCmb C) := ok_cmb F3 G1 b1 k1 m1 G2 b2 k2 m2
  have G4 : FnOk l.prog w K mg base (L2.CX l.prog w) 4 f4 _ ["op", "first", "second"] (spDua K C) := ok_dua F4 G1 b1 k1 m1 G2 b2 k2 m2 G3 b3 k3 m3
  have G5 : FnOk l.prog w K mg base CX0 1 f5 _ ["script", "at"] (spCellF K) := ok_cell F5 mLen
  have G6 : FnOk l.prog w K mg base CX0 1 f6 _ ["cell"] spNum := ok_num F6
  have G7 : FnOk l.prog w K mg base CX0 1 f7 _ ["first", "second"] spSame := ok_same F7 mInt
  have G8 : FnOk l.prog w K mg base CX0 1 f8 _ ["actual"] spPair := ok_pair F8 (PySem.W.mg_none_of X G zi) mInt (PySem.W.mg_none_of X G zB) (PySem.W.mg_none_of X G zT) mLen
  have G9 : FnOk l.prog w K mg base CX0 5 f9 _ ["op", "a", "b", "c", "d"] (spRt K) := ok_rt F9 G4 b4 k4 m4 G8 b8 k8 m8 G3 b3 k3 m3 G7 b7 k7 m7
  have G10 : FnOk l.prog w K mg base CX0 5 f10 _ ["a", "b", "d"] spFail := ok_fail F10 T (PySem.W.exm_ref sC hC tC sCC) G4 b4 k4 m4
  exact ok_law F11 (PySem.W.mg_none_of X G zR) G5 b5 k5 m5 G6 b6 k6 m6 G10 b10 k10 m10 G9 b9 k9 m9 G4 b4 k4 m4 G3 b3 k3 m3 G7 b7 k7 m7
theorem walk {l : PySem.W.OpenLaw} {q : Program} {loose : List Str} {XP : (Str → Option Value) → Heap → Prop} {YP : World → Heap → Prop} {d : DefRec} {K : Params → PySem.W.Frag} (hn : l.most = some 63) (hdf : d.params.defaults = [])
    (hY : ∀ (w : World) (h : Heap), YP w h → (K w.params).In h)
    (F : ∀ (w : World) (mg : Str → Option Value) (fa : Addr) (h : Heap), (K w.params).In h → h.Ns mainGlobals mg → mg d.name = some (.ref fa) →
      ∃ fd : FuncData, (∀ (s : Shared) (u : Value), BindsTo s fd ⟨[u], []⟩ [("script", u)]) ∧ ∀ base : Heap, (K w.params).In base → base.Ns mainGlobals mg → FnOk l.prog w (K w.params) mg base CX0 6 fa fd ["script"] (spLaw (K w.params))) :
    PySem.W.WalkO q loose XP YP l.row.toRowW d [] (fun f vs => PySem.call f vs) :=
  L2.walk_of (n := 63) (k := 6) (x := "script") (CX := fun _ => CX0) (sp := fun w => spLaw (K w.params)) hn (by decide) hdf ⟨rfl, by decide, by decide⟩ hY F (fun _ _ a ns hl _ hS => ⟨a, ns, rfl, hS, hl, fun _ => rfl⟩) fun _ _ _ _ _ z => z
end Fld
open PySem PySem.W PyProof.Rows
set_option maxRecDepth 100000 in
set_option maxHeartbeats 0 in
theorem PySem.Challenge.cw_countermarch_k02_dual_operations_holds : PySem.Challenge.rw_countermarch_k02_dual_operations.Holds := by
  w_on; o_law; k_head; (case hw => w_witness2)
  k_fill
  refine Fld.walk (l := PySem.Challenge.rw_countermarch_k02_dual_operations) rfl rfl (fun w h Y => PySem.W.kIn_of Y) ?F
  case F =>
    intro w mg fa h KX G hmg
    refine' Fld.all_mk KX G hmg ?a1 ?l1 ?c1 ?k1 ?a2 ?l2 ?c2 ?k2 ?a3 ?l3 ?c3 ?k3 ?a4 ?l4 ?c4 ?k4 ?a5 ?l5 ?c5 ?k5 ?a6 ?l6 ?c6 ?k6 ?a7 ?l7 ?c7 ?k7 ?a8 ?l8 ?c8 ?k8 ?a9 ?l9 ?c9 ?k9 ?a10 ?l10 ?c10 ?k10 ?a11 ?l11 ?c11 ?k11 ?aC ?xC ?kC ?sC ?tC ?hC ?sCC ?aP ?zi ?zI ?zB ?zT ?zL ?zR
    (case a1 => k_is)
    (case l1 => k_is)
    (case c1 => k_is)
    (case k1 => k_is)
    (case a2 => k_is)
    (case l2 => k_is)
    (case c2 => k_is)
    (case k2 => k_is)
    (case a3 => k_is)
    (case l3 => k_is)
    (case c3 => k_is)
    (case k3 => k_is)
    (case a4 => k_is)
    (case l4 => k_is)
    (case c4 => k_is)
    (case k4 => k_is)
    (case a5 => k_is)
    (case l5 => k_is)
    (case c5 => k_is)
    (case k5 => k_is)
    (case a6 => k_is)
    (case l6 => k_is)
    (case c6 => k_is)
    (case k6 => k_is)
    (case a7 => k_is)
    (case l7 => k_is)
    (case c7 => k_is)
    (case k7 => k_is)
    (case a8 => k_is)
    (case l8 => k_is)
    (case c8 => k_is)
    (case k8 => k_is)
    (case a9 => k_is)
    (case l9 => k_is)
    (case c9 => k_is)
    (case k9 => k_is)
    (case a10 => k_is)
    (case l10 => k_is)
    (case c10 => k_is)
    (case k10 => k_is)
    (case a11 => k_is)
    (case l11 => k_is)
    (case c11 => k_is)
    (case k11 => k_is)
    (case aC => k_is)
    (case xC => k_exc)
    (case kC => k_is)
    (case sC => k_is)
    (case tC => k_is)
    (case hC => k_is)
    (case sCC => k_is)
    (case aP => k_is)
    (case zi => k_is)
    (case zI => k_is)
    (case zB => k_is)
    (case zT => k_is)
    (case zL => k_is)
    (case zR => k_is)
#print axioms PySem.Challenge.cw_countermarch_k02_dual_operations_holds

