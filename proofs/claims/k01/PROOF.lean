import PyProof.Rows.All
import Wide.All
import OpenK.AllK
import Wide.FinOn
import HandS.Base
import HandS.Call
import HandS.List
import HandS.Ends
import HandS.Exc
import HandS.TryOnly
import HandS.ExcOwn
import HandS.Words
import HandS.WordsList
import HandS.WordsExc
import HandS.Wide
import HandS.Style
import HandS.IsInst
import HandS.ExcIs
import KE.RegKIsAll
import PySem.Challenge.RW_countermarch_k01_field_operations
set_option Elab.async false
set_option linter.all false
set_option maxRecDepth 100000
set_option maxHeartbeats 4000000
namespace Fld
/-! ### 1. The mathematics: 2147483647 is a prime; Euclid's loop; the inverse -/
def top0 : Nat := 2147483647
/-- no number from a to a + 2 ^ k - 1 divides the prime -/
def clear (a : Nat) : Nat → Bool
  | 0 => top0 % a != 0
  | k + 1 => clear a k && clear (a + 2 ^ k) k
theorem clear_at : ∀ (k a : Nat), clear a k = true → ∀ d, a ≤ d → d < a + 2 ^ k → top0 % d ≠ 0
  | 0, a, h, d, h1, h2 => by
    have e : d = a := by simp at h2; omega
    subst e
    simpa [clear] using h
  | k + 1, a, h, d, h1, h2 => by
    have h' : clear a k = true ∧ clear (a + 2 ^ k) k = true := by simpa [clear] using h
    by_cases c : d < a + 2 ^ k
    · exact clear_at k a h'.1 d h1 c
    · exact clear_at k (a + 2 ^ k) h'.2 d (by omega) (by rw [Nat.pow_succ] at h2; omega)
theorem clear_all : clear 2 16 = true := by decide +kernel
theorem prime_div {d : Nat} (h : d ∣ top0) (h1 : d ≠ 1) : d = top0 := by
  obtain ⟨e, he⟩ := h
  have hP : top0 = 2147483647 := rfl
  have small : ∀ x, 2 ≤ x → x < 65538 → ¬ x ∣ top0 := fun x a b c => clear_at 16 2 clear_all x a (by simpa using b) (Nat.mod_eq_zero_of_dvd c)
  have d0 : d ≠ 0 := by intro z; rw [z] at he; simp [top0] at he
  have e0 : e ≠ 0 := by intro z; rw [z] at he; simp [top0] at he
  by_cases hd : d < 65538
  · exact absurd ⟨e, he⟩ (small d (by omega) hd)
  · by_cases he1 : e = 1
    · rw [he1] at he; omega
    · by_cases hc : e < 65538
      · exact absurd ⟨d, by rw [he, Nat.mul_comm]⟩ (small e (by omega) hc)
      · have := Nat.mul_le_mul (show 65538 ≤ d by omega) (show 65538 ≤ e by omega)
        omega
theorem gcd_one {n : Nat} (h0 : 0 < n) (h1 : n < top0) : Nat.gcd top0 n = 1 := by
  by_cases h : Nat.gcd top0 n = 1
  · exact h
  · have e := prime_div (Nat.gcd_dvd_left top0 n) h
    have := Nat.le_of_dvd h0 (Nat.gcd_dvd_right top0 n)
    omega
/-- Euclid's loop for n: the two rests, the two factors -/
structure Euc (n lr r lf f : Int) : Prop where
  pos : 0 < r
  less : r < lr
  top : lr ≤ 2147483647
  one : Nat.gcd lr.toNat r.toNat = 1
  old : ∃ q : Int, lr = lf * n + 2147483647 * q
  new : ∃ q : Int, r = f * n + 2147483647 * q
theorem euc_start {n r : Int} (hr : r = n % 2147483647) (h0 : r ≠ 0) : Euc n 2147483647 r 0 1 := by
  have a := Int.emod_nonneg n (show (2147483647 : Int) ≠ 0 by decide)
  have b := Int.emod_lt_of_pos n (show (0 : Int) < 2147483647 by decide)
  have d := Int.emod_add_mul_ediv n 2147483647
  refine ⟨by omega, by omega, Int.le_refl _, gcd_one (by omega) (by unfold top0; omega), ⟨1, by omega⟩, ⟨-(n / 2147483647), ?_⟩⟩
  rw [Int.one_mul, Int.mul_neg]
  omega
theorem euc_turn {n lr r lf f : Int} (h : Euc n lr r lf f) (h1 : r ≠ 1) : Euc n r (lr - lr / r * r) f (lf - lr / r * f) := by
  obtain ⟨pos, less, top, one, ⟨q, hq⟩, ⟨p, hp⟩⟩ := h
  have e : lr - lr / r * r = lr % r := by rw [Int.emod_def, Int.mul_comm]
  have a := Int.emod_nonneg lr (show r ≠ 0 by omega)
  have b := Int.emod_lt_of_pos lr pos
  have et : (lr % r).toNat = lr.toNat % r.toNat := Int.toNat_emod (by omega) (by omega)
  have g : Nat.gcd r.toNat (lr % r).toNat = 1 := by
    rw [et, Nat.gcd_comm, ← Nat.gcd_rec, Nat.gcd_comm]
    exact one
  have nz : lr % r ≠ 0 := by
    intro z
    rw [z] at g
    simp at g
    omega
  refine ⟨by omega, by omega, by omega, by rw [e]; exact g, ⟨p, hp⟩, ⟨q - lr / r * p, ?_⟩⟩
  generalize lr / r = t
  rw [Int.sub_mul, Int.mul_sub, Int.mul_assoc]
  have x : t * r = t * (f * n) + 2147483647 * (t * p) := by
    conv => lhs; rw [hp]
    rw [Int.mul_add, Int.mul_left_comm, Int.mul_left_comm t 2147483647 p]
  omega
theorem euc_less {n lr r lf f : Int} (h : Euc n lr r lf f) : (lr - lr / r * r).toNat < r.toNat := by
  have pos := h.pos
  have e : lr - lr / r * r = lr % r := by rw [Int.emod_def, Int.mul_comm]
  have a := Int.emod_nonneg lr (show r ≠ 0 by omega)
  have b := Int.emod_lt_of_pos lr pos
  omega
theorem euc_end {n lr lf f : Int} (h : Euc n lr 1 lf f) : (f * n) % 2147483647 = 1 := by
  obtain ⟨p, hp⟩ := h.new
  omega
/-- x is the number whose product with n is 1 -/
structure IsInv (n x : Int) : Prop where
  lo : 0 ≤ x
  hi : x < 2147483647
  one : (x * n) % 2147483647 = 1
theorem emod_mul_left (a b : Int) : (a % 2147483647 * b) % 2147483647 = (a * b) % 2147483647 := by
  rw [Int.mul_emod, Int.emod_emod, ← Int.mul_emod]
theorem emod_mul_right (a b : Int) : (a * (b % 2147483647)) % 2147483647 = (a * b) % 2147483647 := by
  rw [Int.mul_emod, Int.emod_emod, ← Int.mul_emod]
theorem euc_is {n lr lf f : Int} (h : Euc n lr 1 lf f) : IsInv n (f % 2147483647) :=
  ⟨Int.emod_nonneg f (by decide), Int.emod_lt_of_pos f (by decide), by rw [emod_mul_left]; exact euc_end h⟩
theorem euc_some {n : Int} : ∀ (m : Nat) (lr r lf f : Int), r.toNat ≤ m → Euc n lr r lf f → ∃ x, IsInv n x
  | 0, lr, r, lf, f, hm, h => by have := h.pos; omega
  | m + 1, lr, r, lf, f, hm, h => by
    by_cases c : r = 1
    · subst c; exact ⟨_, euc_is h⟩
    · exact euc_some m _ _ _ _ (by have := euc_less h; omega) (euc_turn h c)
theorem inv_some {n : Int} (h : n % 2147483647 ≠ 0) : ∃ x, IsInv n x := euc_some _ _ _ _ _ (Nat.le_refl _) (euc_start rfl h)
theorem inv_one {n x y : Int} (hx : IsInv n x) (hy : IsInv n y) : x = y := by
  have a : (x * n * y) % 2147483647 = y := by
    rw [← emod_mul_left, hx.one, Int.one_mul]
    have := hy.lo; have := hy.hi
    omega
  have b : (y * n * x) % 2147483647 = x := by
    rw [← emod_mul_left, hy.one, Int.one_mul]
    have := hx.lo; have := hx.hi
    omega
  have c : x * n * y = y * n * x := by rw [Int.mul_comm, Int.mul_comm x n, Int.mul_assoc]
  rw [c, b] at a
  exact a
open Classical in
noncomputable def inv (n : Int) : Int := if h : ∃ x, IsInv n x then choose h else 0
theorem inv_is {n : Int} (h : n % 2147483647 ≠ 0) : IsInv n (inv n) := by
  have e := inv_some h
  unfold inv
  rw [dif_pos e]
  exact Classical.choose_spec e
theorem inv_eq {n x : Int} (h : IsInv n x) : inv n = x := by
  have e : ∃ x, IsInv n x := ⟨x, h⟩
  refine inv_one (n := n) ?_ h
  unfold inv
  rw [dif_pos e]
  exact Classical.choose_spec e
end Fld

namespace Fld
open PySem L2
/-! ### 2. The text by places -/
def top (i : Nat) : Stmt := PySem.Challenge.pw_countermarch_k01_field_operations.main.body.getD i (.Pass ⟨0, 0, 0, 0⟩)
abbrev sRed : Stmt := top 6
abbrev sInv : Stmt := top 7
abbrev sCmb : Stmt := top 8
/-! ### 3. The four operations and what the defs promise -/
inductive Op where
  | add | sub | mul | div
def Op.str : Op → Str
  | .add => "add" | .sub => "sub" | .mul => "mul" | .div => "div"
/-- may the operation be done with this second operand -/
def Op.fine : Op → Int → Prop
  | .div, b => b % 2147483647 ≠ 0
  | _, _ => True
noncomputable def cmb : Op → Int → Int → Int
  | .add, a, b => (a + b) % 2147483647
  | .sub, a, b => (a - b) % 2147483647
  | .mul, a, b => (a * b) % 2147483647
  | .div, a, b => (a * inv b) % 2147483647
theorem cmb_in (o : Op) (a b : Int) : 0 ≤ cmb o a b ∧ cmb o a b < 2147483647 := by
  cases o <;> exact ⟨Int.emod_nonneg _ (by decide), Int.emod_lt_of_pos _ (by decide)⟩
theorem inv_in {n : Int} (h : n % 2147483647 ≠ 0) : 0 ≤ inv n ∧ inv n < 2147483647 := ⟨(inv_is h).lo, (inv_is h).hi⟩
/-- the quotient's product with the divisor -/
theorem div_back {a b : Int} (h : b % 2147483647 ≠ 0) : (cmb .div a b * b) % 2147483647 = a % 2147483647 := by
  show ((a * inv b) % 2147483647 * b) % 2147483647 = a % 2147483647
  rw [emod_mul_left, Int.mul_assoc, ← emod_mul_right, (inv_is h).one, Int.mul_one]
def spRed : Sp := fun vs H Q _ => ∃ n : Int, vs = [.int n] ∧ Q (.int (n % 2147483647)) H
def spInv (C : Addr) : Sp := fun vs H Q E => ∃ n : Int, vs = [.int n] ∧ (n % 2147483647 = 0 → E (.ref C) none H) ∧ (n % 2147483647 ≠ 0 → Q (.int (inv n)) H)
/-- the product's left factor is kept below 2 ^ 64 -/
def Small (a : Int) : Prop := -(2 ^ 64) < a ∧ a < 2 ^ 64
def spCmb (C : Addr) : Sp := fun vs H Q E => ∃ (o : Op) (a b : Int), vs = [.str o.str, .int a, .int b] ∧ Small a ∧ (¬ o.fine b → E (.ref C) none H) ∧ (o.fine b → Q (.int (cmb o a b)) H)
section
variable {X : Cx} {C : Addr} {bmB : List Value} {B newId initId : String}
/-- X(), X a class of the text's own over a built-in one, without an __init__ of its own -/
theorem pmk_own0 {x : Str} {p pos : Pos} (F : ExcBaseFacts B newId initId bmB) (q : PySem.W.excIn X.K C bmB newId = true) (gC : X.mg x = some (.ref C)) (kC : PySem.W.keepIn X.K (.ref C) = true) (r : Raises X (.ref C)) (hg : Gl X x)
    (hdb : (x == ("__debug__" : Str)) = false := by decide) : PMk X (.Call (.Name x p) [] [] pos) (fun _ H Q => Q (.ref C) none H) := by
  intro pins s σ H Q I h
  refine wpAny_Call_Name_kw (ld_glob I hg gC ?_ hdb)
  refine PySem.W.callWith_K0 I.kIn kC ?_
  obtain ⟨bm, N, nm, qn, bs, hdct, sn, sub, ab, col, dd, k0, k1, k2, k3, k5, mN, hC, hN, hni, T⟩ := exc_obj I.kIn q
  obtain ⟨hp1, g1, d1, tk1, os1⟩ := s
  refine wpAny_call_exc_subT F T hC hN hni (fun h' e hm => ?_) (Nat.zero_le _)
  exact mk_of I hm r h (I.hok.gone hm.new)
end
theorem iteT' {c : Bool} {A B : Prop} (h : c = true) (a : A) : if c = true then A else B := by
  rw [if_pos h]
  exact a
theorem iteF' {c : Bool} {A B : Prop} (h : c = false) (b : B) : if c = true then A else B := by
  rw [h, if_neg Bool.false_ne_true]
  exact b
/-- what the top has written of the error's class and of the prime -/
structure Txt (K : PySem.W.Frag) (mg : Str → Option Value) (C : Addr) : Prop where
  gC : mg "FieldError" = some (.ref C)
  xC : PySem.W.excIn K C [.type "ValueError", .type "Exception", .type "BaseException", .type "object"] "ValueError.__new__" = true
  kC : PySem.W.keepIn K (.ref C) = true
  bC : PySem.W.subIn K (.ref C) (.type "BaseException") = some true
  tC : PySem.W.typeIn K (.ref C) = some (.type "type")
  gP : ∃ t, mg "PRIME" = some (.int 2147483647 t)
section
variable {P : Program} {w : World} {K : PySem.W.Frag} {mg : Str → Option Value} {base : Heap} {C : Addr}
theorem scRed : FnScope ["n"] ["n"] (defScope sRed) := ⟨rfl, rfl, rfl, by decide +kernel, rfl, by decide +kernel, by decide +kernel⟩
theorem ok_red {f : Addr} {fd : FuncData} (F : Fun K "reduce_number" "reduce_number" sRed f fd) (T : Txt K mg C) : FnOk P w K mg base CX0 1 f fd ["n"] spRed := by
  obtain ⟨tp, gP⟩ := T.gP
  refine F.ok scRed (fun vs H Q E h => ?_) (fun cdv A outer s H vs Q E hr h => ?_)
  · obtain ⟨n, rfl, _⟩ := h
    rfl
  · obtain ⟨n, rfl, q⟩ := h
    refine ⟨_, pss_one (ps_ret (pe_op op_mod (pv 0) (pe_glob (v := .int 2147483647) rfl gP ⟨_, rfl⟩))), ?_⟩
    exact ⟨_, rfl, _, _, rfl, rfl, (by show (0 : Int) < 2147483647; decide), q⟩
theorem scInv : FnScope ["number", "rest", "last_rest", "last_factor", "factor", "times"] ["number"] (defScope sInv) := ⟨rfl, rfl, rfl, by decide +kernel, rfl, by decide +kernel, by decide +kernel⟩
theorem ok_inv {f fR : Addr} {fd fdR : FuncData} (F : Fun K "inverse" "inverse" sInv f fd) (T : Txt K mg C) (GR : FnOk P w K mg base CX0 1 fR fdR ["n"] spRed) (bR : Binds K fdR ["n"] []) (kR : PySem.W.keepIn K (.ref fR) = true) (mR : mg "reduce_number" = some (.ref fR)) :
    FnOk P w K mg base (L2.CX P w) 2 f fd ["number"] (spInv C) := by
  obtain ⟨tp, gP⟩ := T.gP
  refine F.okX scInv (fun vs H Q E h => ?_) (fun cdv A outer s H vs Q E hr h => ?_)
  · obtain ⟨n, rfl, _⟩ := h
    rfl
  · obtain ⟨n, rfl, qe, q⟩ := h
    refine ⟨_, pss_cons (ps_set (i := 1) scInv.nd rfl (Or.inl rfl) (pe_call GR hr rfl mR kR bR .nil pass0 (pa_cons (pv 0) pa_nil)))
      (pss_cons (ps_if (pt_cmpR op_eq (pv 1) pe_int (nomark _)) (pss_one (ps_raise rfl (takes_of rfl rfl rfl rfl) (pmk_own0 PySem.F.excBase_ValueError T.xC T.gC T.kC (raises_own T.bC T.tC) rfl))) pss_nil)
      (pss_cons (ps_par3 (i := 2) (j := 3) (l := 4) rfl scInv.nd rfl rfl rfl (by decide) (by decide) (by decide) rfl rfl rfl (pa_cons (pe_glob (v := .int 2147483647) rfl gP ⟨_, rfl⟩) (pa_cons pe_int (pa_cons pe_int pa_nil))) (by rfl))
      (pss_cons (ps_while (passes_of rfl) (pt_cmpR op_ne (pv 1) pe_int (nomark _))
        (pss_cons (ps_set (i := 5) scInv.nd rfl (Or.inl rfl) (pe_op op_fdivW (pv 2) (pv 1)))
        (pss_cons (ps_par (i := 2) (j := 1) rfl scInv.nd rfl rfl (by decide) rfl rfl (pa_cons (pv 1) (pa_cons (pe_op op_sub (pv 2) (pe_op op_mul (pv 5) (pv 1))) pa_nil)) (by rfl))
        (pss_one (ps_par (i := 3) (j := 4) rfl scInv.nd rfl rfl (by decide) rfl rfl (pa_cons (pv 4) (pa_cons (pe_op op_sub (pv 3) (pe_op op_mul (pv 5) (pv 4))) pa_nil)) (by rfl))))))
      (pss_one (ps_ret (pe_call GR hr rfl mR kR bR .nil pass0 (pa_cons (pv 4) pa_nil))))))), ?_⟩
    refine ⟨_, rfl, n, rfl, _, rfl, rfl, _, rfl, ?_⟩
    by_cases c : n % 2147483647 = 0
    · refine iteT' (by rw [c]; rfl) ?_
      exact qe c
    · refine iteF' (by simp [c]) ?_
      refine ⟨_, _, _, rfl, ?_⟩
      refine while_by (fun σ H' => H' = H ∧ ∃ (lr r lf f : Int) (t : Option V), σ = [some (.int n), some (.int r), some (.int lr), some (.int lf), some (.int f), t] ∧ Euc n lr r lf f)
        (fun σ _ => match σ with | [_, some (.int r), _, _, _, _] => r.toNat | _ => 0)
        ⟨rfl, 2147483647, n % 2147483647, 0, 1, none, rfl, euc_start rfl c⟩ ?_ ?_
      · rintro σ H' ⟨rfl, lr, r, lf, f, t, rfl, e⟩
        refine ⟨_, rfl, rfl, _, rfl, ?_⟩
        have p0 := e.pos
        have p1 := e.less
        have p2 := e.top
        by_cases c1 : r = 1
        · refine iteF' (by subst c1; rfl) ?_
          subst c1
          refine ⟨_, rfl, f, rfl, ?_⟩
          rw [← inv_eq (euc_is e)]
          exact q c
        · refine iteT' (by simp [c1]) ?_
          have t0 : 0 ≤ lr / r := Int.ediv_nonneg (by omega) (by omega)
          have t1 : lr / r ≤ lr := Int.ediv_le_self r (by omega)
          refine ⟨_, rfl, _, rfl, _, _, rfl, rfl, wide_div (b := 32) p0 (by omega) (by decide) (by decide), ?_⟩
          refine ⟨_, rfl, _, rfl, _, rfl, _, rfl, _, _, rfl, rfl, .inl ⟨by omega, by omega⟩, _, _, rfl, rfl, _, _, rfl, ?_⟩
          refine ⟨_, rfl, _, rfl, _, rfl, _, rfl, _, _, rfl, rfl, .inl ⟨by omega, by omega⟩, _, _, rfl, rfl, _, _, rfl, ?_⟩
          refine ⟨⟨rfl, r, lr - lr / r * r, f, lf - lr / r * f, _, rfl, euc_turn e c1⟩, ?_⟩
          exact euc_less e
      · intro σ H' Q1 Q2 hq h
        obtain ⟨v, h1, h2, k, h3, h4⟩ := h
        exact ⟨v, h1, h2, k, h3, hq _ _ h4⟩

theorem scCmb : FnScope ["op", "first", "second"] ["op", "first", "second"] (defScope sCmb) := ⟨rfl, rfl, rfl, by decide +kernel, rfl, by decide +kernel, by decide +kernel⟩
theorem ok_cmb {f fR fI : Addr} {fd fdR fdI : FuncData} (F : Fun K "combine" "combine" sCmb f fd) (GR : FnOk P w K mg base CX0 1 fR fdR ["n"] spRed) (bR : Binds K fdR ["n"] []) (kR : PySem.W.keepIn K (.ref fR) = true) (mR : mg "reduce_number" = some (.ref fR))
    (GI : FnOk P w K mg base (L2.CX P w) 2 fI fdI ["number"] (spInv C)) (bI : Binds K fdI ["number"] []) (kI : PySem.W.keepIn K (.ref fI) = true) (mI : mg "inverse" = some (.ref fI)) :
    FnOk P w K mg base (L2.CX P w) 3 f fd ["op", "first", "second"] (spCmb C) := by
  refine F.okX scCmb (fun vs H Q E h => ?_) (fun cdv A outer s H vs Q E hr h => ?_)
  · obtain ⟨o, a, b, rfl, _⟩ := h
    rfl
  · obtain ⟨o, a, b, rfl, sa, qe, q⟩ := h
    have hr1 : Room 1 _ := hr.mono (by decide)
    refine ⟨_, pss_cons (ps_if (pt_cmpR op_eq (pv 0) pe_str (nomark _)) (pss_one (ps_ret (pe_call GR hr1 rfl mR kR bR .nil pass0 (pa_cons (pe_op op_add (pv 1) (pv 2)) pa_nil)))) pss_nil)
      (pss_cons (ps_if (pt_cmpR op_eq (pv 0) pe_str (nomark _)) (pss_one (ps_ret (pe_call GR hr1 rfl mR kR bR .nil pass0 (pa_cons (pe_op op_sub (pv 1) (pv 2)) pa_nil)))) pss_nil)
      (pss_cons (ps_if (pt_cmpR op_eq (pv 0) pe_str (nomark _)) (pss_one (ps_ret (pe_call GR hr1 rfl mR kR bR .nil pass0 (pa_cons (pe_op op_mul (pv 1) (pv 2)) pa_nil)))) pss_nil)
      (pss_one (ps_ret (pe_call GR hr1 rfl mR kR bR .nil pass0 (pa_cons (pe_op op_mul (pv 1) (pe_call GI hr rfl mI kI bI .nil (passes_call (takes_of rfl rfl rfl rfl) (fun _ _ _ _ h => h)) (pa_cons (pv 2) pa_nil))) pa_nil)))))), ?_⟩
    cases o with
    | add =>
      refine ⟨_, rfl, rfl, _, rfl, iteT' (by decide +kernel) ?_⟩
      exact ⟨_, rfl, _, rfl, _, _, rfl, rfl, _, rfl, q trivial⟩
    | sub =>
      refine ⟨_, rfl, rfl, _, rfl, iteF' (by decide +kernel) ?_⟩
      refine ⟨_, rfl, rfl, _, rfl, iteT' (by decide +kernel) ?_⟩
      exact ⟨_, rfl, _, rfl, _, _, rfl, rfl, _, rfl, q trivial⟩
    | mul =>
      refine ⟨_, rfl, rfl, _, rfl, iteF' (by decide +kernel) ?_⟩
      refine ⟨_, rfl, rfl, _, rfl, iteF' (by decide +kernel) ?_⟩
      refine ⟨_, rfl, rfl, _, rfl, iteT' (by decide +kernel) ?_⟩
      exact ⟨_, rfl, _, rfl, _, _, rfl, rfl, .inl sa, _, rfl, q trivial⟩
    | div =>
      refine ⟨_, rfl, rfl, _, rfl, iteF' (by decide +kernel) ?_⟩
      refine ⟨_, rfl, rfl, _, rfl, iteF' (by decide +kernel) ?_⟩
      refine ⟨_, rfl, rfl, _, rfl, iteF' (by decide +kernel) ?_⟩
      refine ⟨_, rfl, _, rfl, b, rfl, fun z => qe (fun y => y z), fun z => ?_⟩
      exact ⟨_, _, rfl, rfl, .inl sa, _, rfl, q z⟩

/-! ### 4. The law's own small defs -/
abbrev sCell : Stmt := top 10
/-- the j-th number of the script, 0 behind its end -/
def cl (ns : List Int) (j : Int) : Int := if j < (ns.length : Int) then ns.getD j.toNat 0 else 0
theorem cl_at {ns : List Int} {j : Int} (h0 : 0 ≤ j) (h : j < (ns.length : Int)) : atI (ns.map V.int) j = some (.int (cl ns j)) := by
  have e : j = ((j.toNat : Nat) : Int) := by omega
  have hk : j.toNat < ns.length := by omega
  have q : atI (ns.map V.int) ((j.toNat : Nat) : Int) = some (.int ns[j.toNat]) := atI_nat (by rw [List.getElem?_map, List.getElem?_eq_getElem hk] <;> rfl)
  unfold cl
  rw [if_pos h, List.getD_eq_getElem?_getD, List.getElem?_eq_getElem hk]
  rw [← e] at q
  exact q
def spCellF (K : PySem.W.Frag) : Sp := fun vs H Q _ => ∃ (a : Addr) (ns : List Int) (j : Int), vs = [.ref a, .int j] ∧ SqL K H a (ns.map V.int) ∧ 0 ≤ j ∧ Q (.int (cl ns j)) H
theorem scCell : FnScope ["script", "at"] ["script", "at"] (defScope sCell) := ⟨rfl, rfl, rfl, by decide +kernel, rfl, by decide +kernel, by decide +kernel⟩
theorem ok_cell {f : Addr} {fd : FuncData} (F : Fun K "_law_cell" "_law_cell" sCell f fd) (ml : mg "len" = none) : FnOk P w K mg base CX0 1 f fd ["script", "at"] (spCellF K) := by
  refine F.ok scCell (fun vs H Q E h => ?_) (fun cdv A outer s H vs Q E hr h => ?_)
  · obtain ⟨a, ns, j, rfl, _⟩ := h
    rfl
  · obtain ⟨a, ns, j, rfl, hS, h0, q⟩ := h
    refine ⟨_, pss_cons (ps_if (pt_cmpR op_lt (pv 1) (pe_callB call_len_seq rfl ml PySem.boot_len (pa_cons (pv 0) pa_nil)) (nomark _)) (pss_one (ps_ret (pe_ix ix_list (pv 0) (pv 1) (fun _ _ => rfl)))) pss_nil)
      (pss_one (ps_ret pe_int)), ?_⟩
    refine ⟨_, rfl, _, rfl, a, _, rfl, .inl hS, _, _, rfl, rfl, _, rfl, ?_⟩
    rw [List.length_map]
    by_cases c : j < (ns.length : Int)
    · refine iteT' (decide_eq_true c) ?_
      exact ⟨_, rfl, _, rfl, a, _, _, _, rfl, rfl, hS, cl_at h0 c, q⟩
    · refine iteF' (decide_eq_false c) ?_
      have e : cl ns j = 0 := if_neg c
      rw [e] at q
      exact q

abbrev sLin : Stmt := top 11
abbrev sIsN : Stmt := top 12
def lint (c : Int) : Int := (if c / 2 % 3 = 1 then 2147483647 * (c / 6 % 5) + c / 30 % 7 - 3 else c / 6 % 1180591620717411303424) * (1 - 2 * (c % 2))
def spLin : Sp := fun vs H Q _ => ∃ c : Int, vs = [.int c] ∧ Q (.int (lint c)) H
theorem scLin : FnScope ["cell", "number"] ["cell"] (defScope sLin) := ⟨rfl, rfl, rfl, by decide +kernel, rfl, by decide +kernel, by decide +kernel⟩
theorem ok_lin {f : Addr} {fd : FuncData} (F : Fun K "_law_integer" "_law_integer" sLin f fd) : FnOk P w K mg base CX0 1 f fd ["cell"] spLin := by
  refine F.ok scLin (fun vs H Q E h => ?_) (fun cdv A outer s H vs Q E hr h => ?_)
  · obtain ⟨c, rfl, _⟩ := h
    rfl
  · obtain ⟨c, rfl, q⟩ := h
    refine ⟨_, pss_cons (ps_set (i := 1) scLin.nd rfl (Or.inl rfl) (pe_op op_mod (pe_op op_fdiv (pv 0) pe_int) pe_int))
      (pss_cons (ps_if (pt_cmpR op_eq (pe_op op_mod (pe_op op_fdiv (pv 0) pe_int) pe_int) pe_int (nomark _))
        (pss_one (ps_set (i := 1) scLin.nd rfl (Or.inl rfl) (pe_op op_sub (pe_op op_add (pe_op op_mul pe_int (pe_op op_mod (pe_op op_fdiv (pv 0) pe_int) pe_int)) (pe_op op_mod (pe_op op_fdiv (pv 0) pe_int) pe_int)) pe_int))) pss_nil)
      (pss_one (ps_ret (pe_op op_mul (pv 1) (pe_op op_sub pe_int (pe_op op_mul pe_int (pe_op op_mod (pv 0) pe_int))))))), ?_⟩
    refine ⟨_, rfl, _, _, rfl, rfl, ⟨by decide, by decide⟩, _, _, rfl, rfl, (by show (0 : Int) < 1180591620717411303424; decide), ?_⟩
    refine ⟨_, rfl, _, _, rfl, rfl, ⟨by decide, by decide⟩, _, _, rfl, rfl, (by show (0 : Int) < 3; decide), rfl, _, rfl, ?_⟩
    have m0 := Int.emod_nonneg c (show (2 : Int) ≠ 0 by decide)
    have m1 := Int.emod_lt_of_pos c (show (0 : Int) < 2 by decide)
    by_cases z : c / 2 % 3 = 1
    · refine iteT' (decide_eq_true (congrArg V.int z)) ?_
      refine ⟨_, rfl, _, _, rfl, rfl, ⟨by decide, by decide⟩, _, _, rfl, rfl, (by show (0 : Int) < 5; decide), _, _, rfl, rfl, .inl ⟨by decide, by decide⟩, ?_⟩
      refine ⟨_, rfl, _, _, rfl, rfl, ⟨by decide, by decide⟩, _, _, rfl, rfl, (by show (0 : Int) < 7; decide), _, _, rfl, rfl, _, _, rfl, rfl, ?_⟩
      refine ⟨_, rfl, _, rfl, _, _, rfl, rfl, (by show (0 : Int) < 2; decide), _, _, rfl, rfl, .inl ⟨by decide, by decide⟩, _, _, rfl, rfl, _, _, rfl, rfl, .inr ⟨by omega, by omega⟩, ?_⟩
      have e : lint c = (2147483647 * (c / 6 % 5) + c / 30 % 7 - 3) * (1 - 2 * (c % 2)) := by unfold lint; rw [if_pos z]
      rw [e] at q
      exact q
    · refine iteF' (decide_eq_false (fun y => z (V.int.inj y))) ?_
      refine ⟨_, rfl, _, rfl, _, _, rfl, rfl, (by show (0 : Int) < 2; decide), _, _, rfl, rfl, .inl ⟨by decide, by decide⟩, _, _, rfl, rfl, _, _, rfl, rfl, .inr ⟨by omega, by omega⟩, ?_⟩
      have e : lint c = (c / 6 % 1180591620717411303424) * (1 - 2 * (c % 2)) := by unfold lint; rw [if_neg z]
      rw [e] at q
      exact q
/-- a number of the field -/
def Nm (a : Int) : Prop := 0 ≤ a ∧ a < 2147483647
def spIsN : Sp := fun vs H Q _ => ∃ a : Int, vs = [.int a] ∧ Nm a ∧ Q (.bl true) H
theorem scIsN : FnScope ["actual"] ["actual"] (defScope sIsN) := ⟨rfl, rfl, rfl, by decide +kernel, rfl, by decide +kernel, by decide +kernel⟩
theorem ok_isn {f : Addr} {fd : FuncData} (F : Fun K "_law_is_number" "_law_is_number" sIsN f fd) (mi : mg "isinstance" = none) (mI : mg "int" = none) (mB : mg "bool" = none) : FnOk P w K mg base CX0 1 f fd ["actual"] spIsN := by
  refine F.ok scIsN (fun vs H Q E h => ?_) (fun cdv A outer s H vs Q E hr h => ?_)
  · obtain ⟨a, rfl, _⟩ := h
    rfl
  · obtain ⟨a, rfl, ⟨h0, h1⟩, q⟩ := h
    refine ⟨_, pss_one (ps_ret (pe_and (pe_callB call_isi rfl mi PyProof.Rows.boot_isinstance (pa_cons (pv 0) (pa_cons (pe_bltn (v := .ty "int") rfl mI PyProof.Rows.boot_int rfl) pa_nil)))
      (pe_and (pe_not (pe_callB call_isi rfl mi PyProof.Rows.boot_isinstance (pa_cons (pv 0) (pa_cons (pe_bltn (v := .ty "bool") rfl mB PyProof.Rows.boot_bool rfl) pa_nil))))
      (pe_one (pe_chain op_le op_lt pe_int (pv 0) pe_int))))), ?_⟩
    refine ⟨_, rfl, .int a, .ty "int", .type "int", .type "int", true, rfl, .ty _, .base (.int a), kit_ty (by decide +kernel), true, rfl, iteT ?_⟩
    refine ⟨_, rfl, .int a, .ty "bool", .type "int", .type "bool", false, rfl, .ty _, .base (.int a), kit_ty (by decide +kernel), false, rfl, true, rfl, iteT ?_⟩
    refine ⟨_, rfl, _, _, rfl, rfl, true, congrArg V.bl (decide_eq_true h0), iteT ?_⟩
    refine ⟨_, _, rfl, rfl, ?_⟩
    have e : (V.bl (decide (a < 2147483647))) = V.bl true := congrArg V.bl (decide_eq_true h1)
    exact Eq.mpr (congrArg (fun z => Q z H) e) q

abbrev sFail : Stmt := top 13
abbrev sRight : Stmt := top 14
abbrev sLaw : Stmt := top 15
/-- what the law's except clause and its isinstance ask of the classes -/
structure TxtE (K : PySem.W.Frag) (mg : Str → Option Value) (C B A : Addr) : Prop where
  gB : mg "CountermarchError" = some (.ref B)
  gA : mg "ArgumentError" = some (.ref A)
  mV : mg "ValueError" = none
  mi : mg "isinstance" = none
  ex : PySem.W.exmOne K (.ref C) (.ref B) = some true
  ec : ExcC K C
  k1 : PySem.W.kitOne K (.ref C) (.ref C) = some true
  k2 : PySem.W.kitOne K (.ref C) (.type "ValueError") = some true
  k3 : PySem.W.kitOne K (.ref C) (.ref A) = some false
/-- isinstance of the caught error, its class told by the reading -/
theorem call_isEr {X : Cx} {a D : Addr} {oe : Obj} {cls : Value} {d : Option Addr} {pn : List (Addr × Obj)} (C : ExcC X.K D) (hz : Zc cls d oe) (hf : ∃ vs, oe.data = .fields vs) :
    CallR (X.suite a ((a, oe) :: pn)) (.builtin "isinstance") (fun xs H Q => cls = .ref D ∧ d = none ∧ rIsE X.K D a xs H Q) := by
  intro pins s σ H xs us Q I r h
  obtain ⟨e1, e2, h⟩ := h
  subst e1 e2
  exact call_isE C hz hf pins s σ H xs us Q I r h
def spFail (K : PySem.W.Frag) : Sp := fun vs H Q _ => ∃ (s : Str) (a : Int), vs = [.str s, .int a] ∧ (s = "inverse" ∨ s = "div") ∧ Small a ∧ Q (.bl true) H
theorem scFail : FnScope ["op", "first", "e"] ["op", "first"] (defScope sFail) := ⟨rfl, rfl, rfl, by decide +kernel, rfl, by decide +kernel, by decide +kernel⟩
theorem ok_fail {f fI fM A' B' : Addr} {fd fdI fdM : FuncData} (F : Fun K "_law_fails" "_law_fails" sFail f fd) (T : Txt K mg C) (E' : TxtE K mg C B' A')
    (GI : FnOk P w K mg base (L2.CX P w) 2 fI fdI ["number"] (spInv C)) (bI : Binds K fdI ["number"] []) (kI : PySem.W.keepIn K (.ref fI) = true) (mI : mg "inverse" = some (.ref fI))
    (GM : FnOk P w K mg base (L2.CX P w) 3 fM fdM ["op", "first", "second"] (spCmb C)) (bM : Binds K fdM ["op", "first", "second"] []) (kM : PySem.W.keepIn K (.ref fM) = true) (mM : mg "combine" = some (.ref fM)) :
    FnOk P w K mg base CX0 4 f fd ["op", "first"] (spFail K) := by
  refine F.ok scFail (fun vs H Q E h => ?_) (fun cdv A outer s H vs Q E hr h => ?_)
  · obtain ⟨o, a, rfl, _⟩ := h
    rfl
  · obtain ⟨o, a, rfl, ho, sa, q⟩ := h
    have hr1 : Room 2 _ := hr.mono (by decide)
    refine ⟨_, pss_cons (ps_try_as (i := 2) rfl rfl scFail.nd rfl rfl ⟨rfl, by decide, Or.inl E'.gB⟩ takes0
        (fun W pn xe tk _ => pss_one (ps_if (pt_cmpR op_eq (pv 0) pe_str (nomark _))
          (pss_one (ps_expr (by exact (pe_callS GI hr1 rfl mI kI bI (fun σ => passAt tk σ) (by exact (pa_cons pe_int pa_nil))))))
          (pss_one (ps_expr (by exact (pe_callS GM hr rfl mM kM bM (fun σ => passAt tk σ) (by exact (pa_cons (pv 0) (pa_cons (pv 1) (pa_cons pe_int pa_nil))))))))))
        (fun a oe cls d pn hz hf => pss_one (ps_ret (by exact (pe_and (pe_callB (call_isEr E'.ec hz hf) rfl E'.mi PyProof.Rows.boot_isinstance (pa_cons (pv 2) (pa_cons (pe_glob (v := .ref C) rfl T.gC rfl) pa_nil)))
          (pe_and (pe_callB (call_isEr E'.ec hz hf) rfl E'.mi PyProof.Rows.boot_isinstance (pa_cons (pv 2) (pa_cons (pe_bltn (v := .ty "ValueError") rfl E'.mV (by decide +kernel) rfl) pa_nil)))
          (pe_one (pe_not (pe_callB (call_isEr E'.ec hz hf) rfl E'.mi PyProof.Rows.boot_isinstance (pa_cons (pv 2) (pa_cons (pe_glob (v := .ref A') rfl E'.gA rfl) pa_nil)))))))))))
      (pss_one (ps_ret pe_bl)), ?_⟩
    -- the except suite's reading, for the error of the class at C
    have SU : ∀ (a0 : Addr), H a0 = none → ∀ (D : Ends) (σ : St), D.rt = Q → σ[2]? = some (some (.ref a0)) → (tRet (tAndV (tCB (fun xs H Q => Value.ref C = .ref C ∧ (none : Option Addr) = none ∧ rIsE K C a0 xs H Q) (tCons (tVar 2) (tCons (tC (.ref C)) tNil)))
        (tAndV (tCB (fun xs H Q => Value.ref C = .ref C ∧ (none : Option Addr) = none ∧ rIsE K C a0 xs H Q) (tCons (tVar 2) (tCons (tC (.ty "ValueError")) tNil)))
          (tNotV (tCB (fun xs H Q => Value.ref C = .ref C ∧ (none : Option Addr) = none ∧ rIsE K C a0 xs H Q) (tCons (tVar 2) (tCons (tC (.ref A')) tNil)))))) : TS) D σ H := by
      intro a0 _ D σ hD hσ
      refine ⟨_, hσ, rfl, rfl, .ref C, .ref C, true, rfl, fun _ z => z, E'.k1, true, rfl, iteT ?_⟩
      refine ⟨_, hσ, rfl, rfl, .ty "ValueError", .type "ValueError", true, rfl, fun _ z => z, E'.k2, true, rfl, iteT ?_⟩
      refine ⟨_, hσ, rfl, rfl, .ref A', .ref A', false, rfl, fun _ z => z, E'.k3, false, rfl, ?_⟩
      rw [hD]
      exact q
    refine ⟨_, rfl, rfl, _, rfl, ?_⟩
    by_cases c : o = ("inverse" : Str)
    · refine iteT' (decide_eq_true (congrArg V.str c)) ?_
      refine ⟨0, rfl, fun _ => ?_, fun z => absurd rfl z⟩
      exact ⟨true, E'.ex, fun _ a0 ha => SU a0 ha _ _ (by rfl) (by rfl), fun z => nomatch z⟩
    · refine iteF' (decide_eq_false (fun y => c (V.str.inj y))) ?_
      have d : o = ("div" : Str) := ho.resolve_left c
      refine ⟨_, rfl, _, rfl, Op.div, a, 0, (by rw [d]; rfl), sa, fun _ => ?_, fun z => absurd rfl z⟩
      exact ⟨true, E'.ex, fun _ a0 ha => SU a0 ha _ _ (by rfl) (by rfl), fun z => nomatch z⟩

def spRight (K : PySem.W.Frag) : Sp := fun vs H Q _ => ∃ a b : Int, vs = [.int a, .int b] ∧ Nm a ∧ Nm b ∧ ∀ H', Same H H' → Q (.bl true) H'
theorem Nm.small {a : Int} (h : Nm a) : Small a := ⟨by have := h.1; omega, by have := h.2; omega⟩
theorem Nm.self {a : Int} (h : Nm a) : a % 2147483647 = a := by have := h.1; have := h.2; omega
theorem cmb_nm (o : Op) (a b : Int) : Nm (cmb o a b) := cmb_in o a b
theorem same_new {H : Hp} {p : Addr} (h : H p = none) (o : HO) : Same H (upd H p o) := fun b u q => by rw [upd_ne (ne_of_none q h)]; exact q
theorem scRight : FnScope ["a", "b", "op", "due", "actual", "quotient", "one"] ["a", "b"] (defScope sRight) := ⟨rfl, rfl, rfl, by decide +kernel, rfl, by decide +kernel, by decide +kernel⟩
theorem ok_right {f fI fM fN fF : Addr} {fd fdI fdM fdN fdF : FuncData} (F : Fun K "_law_right" "_law_right" sRight f fd) (mInt : mg "int" = none)
    (GI : FnOk P w K mg base (L2.CX P w) 2 fI fdI ["number"] (spInv C)) (bI : Binds K fdI ["number"] []) (kI : PySem.W.keepIn K (.ref fI) = true) (mI : mg "inverse" = some (.ref fI))
    (GM : FnOk P w K mg base (L2.CX P w) 3 fM fdM ["op", "first", "second"] (spCmb C)) (bM : Binds K fdM ["op", "first", "second"] []) (kM : PySem.W.keepIn K (.ref fM) = true) (mM : mg "combine" = some (.ref fM))
    (GN : FnOk P w K mg base CX0 1 fN fdN ["actual"] spIsN) (bN : Binds K fdN ["actual"] []) (kN : PySem.W.keepIn K (.ref fN) = true) (mN : mg "_law_is_number" = some (.ref fN))
    (GF : FnOk P w K mg base CX0 4 fF fdF ["op", "first"] (spFail K)) (bF : Binds K fdF ["op", "first"] []) (kF : PySem.W.keepIn K (.ref fF) = true) (mF : mg "_law_fails" = some (.ref fF)) :
    FnOk P w K mg base CX0 5 f fd ["a", "b"] (spRight K) := by
  refine F.ok scRight (fun vs H Q E h => ?_) (fun cdv A outer s H vs Q E hr h => ?_)
  · obtain ⟨a, b, rfl, _⟩ := h
    rfl
  · obtain ⟨a, b, rfl, na, nb, q⟩ := h
    have hr1 : Room 1 _ := hr.mono (by decide)
    have hr2 : Room 2 _ := hr.mono (by decide)
    have hr3 : Room 3 _ := hr.mono (by decide)
    refine ⟨_, pss_cons (ps_for PassesOwn.never rfl (pi_tup (pe_tup (pa_cons (pe_tup (pa_cons pe_str (pa_cons (pe_op op_add (pv 0) (pv 1)) pa_nil))) (pa_cons (pe_tup (pa_cons pe_str (pa_cons (pe_op op_sub (pv 0) (pv 1)) pa_nil))) (pa_cons (pe_tup (pa_cons pe_str (pa_cons (pe_op op_mul (pv 0) (pv 1)) pa_nil))) pa_nil)))))
        (pg_tup (by rfl) (pgs_cons (pg_name (i := 2) scRight.nd rfl (.inl rfl)) (pgs_cons (pg_name (i := 3) scRight.nd rfl (.inl rfl)) pgs_nil)))
        (pss_cons (ps_set (i := 4) scRight.nd rfl (Or.inl rfl) (pe_call GM hr3 rfl mM kM bM .nil passL (pa_cons (pv 2) (pa_cons (pv 0) (pa_cons (pv 1) pa_nil)))))
        (pss_one (ps_if (PW.pt (pw_or (pt_not (pt_val (pe_call GN hr1 rfl mN kN bN .nil pass0 (pa_cons (pv 4) pa_nil)))) (pw_or1 (pt_cmpR op_ne (pv 4) (pe_op op_mod (pe_callTy call_int1 rfl mInt PyProof.Rows.boot_int (pa_cons (pv 3) pa_nil)) pe_int) (nomark _)))))
          (pss_one (ps_ret pe_bl)) pss_nil))))
      (pss_cons (ps_if (pt_cmpR op_eq (pv 1) pe_int (nomark _)) (pss_one (ps_ret (pe_call GF hr rfl mF kF bF .nil pass0 (pa_cons pe_str (pa_cons (pv 0) pa_nil))))) pss_nil)
      (pss_cons (ps_set (i := 5) scRight.nd rfl (Or.inl rfl) (pe_call GM hr3 rfl mM kM bM .nil passL (pa_cons pe_str (pa_cons (pv 0) (pa_cons (pv 1) pa_nil)))))
      (pss_cons (ps_set (i := 6) scRight.nd rfl (Or.inl rfl) (pe_call GI hr2 rfl mI kI bI .nil passL (pa_cons (pv 1) pa_nil)))
      (pss_cons (ps_if (PW.pt (pw_or (pt_not (pt_val (pe_call GN hr1 rfl mN kN bN .nil pass0 (pa_cons (pv 5) pa_nil)))) (pw_or1 (pt_cmpR op_ne (pe_op op_mod (pe_callTy call_int1 rfl mInt PyProof.Rows.boot_int (pa_cons (pe_op op_mul (pv 5) (pv 1)) pa_nil)) pe_int) (pv 0) (nomark _)))))
          (pss_one (ps_ret pe_bl)) pss_nil)
      (pss_one (ps_ret (pe_and (pe_call GN hr1 rfl mN kN bN .nil pass0 (pa_cons (pv 6) pa_nil)) (pe_one (pe_cmpR op_eq (pe_op op_mod (pe_callTy call_int1 rfl mInt PyProof.Rows.boot_int (pa_cons (pe_op op_mul (pv 6) (pv 1)) pa_nil)) pe_int) pe_int (nomark _)))))))))), ?_⟩
    have two : 2 ≤ sizeLine := by decide
    have three : 3 ≤ sizeLine := by decide
    refine ⟨_, rfl, _, rfl, _, _, rfl, rfl, two, fun t1 h1 => ?_⟩
    refine ⟨_, rfl, _, rfl, _, _, rfl, rfl, two, fun t2 h2 => ?_⟩
    refine ⟨_, rfl, _, rfl, _, _, rfl, rfl, .inl na.small, two, fun t3 h3 => ?_⟩
    refine ⟨three, fun T hT => ?_⟩
    have S1 := same_new h1 (.tup [V.str "add", V.int (a + b)])
    have S2 := same_new h2 (.tup [V.str "sub", V.int (a - b)])
    have S3 := same_new h3 (.tup [V.str "mul", V.int (a * b)])
    have S4 := same_new hT (.tup [V.ref t1, V.ref t2, V.ref t3])
    have SA := S1.trans (S2.trans (S3.trans S4))
    have e1 := S4 _ _ (S3 _ _ (S2 _ _ (upd_same (H := H) (a := t1) (o := .tup [V.str "add", V.int (a + b)]))))
    have e2 := S4 _ _ (S3 _ _ (upd_same (H := upd H t1 (.tup [V.str "add", V.int (a + b)])) (a := t2) (o := .tup [V.str "sub", V.int (a - b)])))
    have e3 := S4 _ _ (upd_same (H := upd (upd H t1 (.tup [V.str "add", V.int (a + b)])) t2 (.tup [V.str "sub", V.int (a - b)])) (a := t3) (o := .tup [V.str "mul", V.int (a * b)]))
    have eT := upd_same (H := upd (upd (upd H t1 (.tup [V.str "add", V.int (a + b)])) t2 (.tup [V.str "sub", V.int (a - b)])) t3 (.tup [V.str "mul", V.int (a * b)])) (a := T) (o := .tup [V.ref t1, V.ref t2, V.ref t3])
    generalize upd (upd (upd (upd H t1 (.tup [V.str "add", V.int (a + b)])) t2 (.tup [V.str "sub", V.int (a - b)])) t3 (.tup [V.str "mul", V.int (a * b)])) T (.tup [V.ref t1, V.ref t2, V.ref t3]) = HL at SA e1 e2 e3 eT
    -- what the i-th item is
    have item : ∀ (i : Nat) (x : V), [V.ref t1, V.ref t2, V.ref t3][i]? = some x → ∃ (o : Op) (t : Addr) (d : Int), x = .ref t ∧ HL t = some (.tup [V.str o.str, V.int d]) ∧ o.fine b ∧ cmb o a b = d % 2147483647 := by
      intro i x hx
      match i, hx with
      | 0, hx => exact ⟨.add, t1, _, (Option.some.inj hx).symm, e1, trivial, rfl⟩
      | 1, hx => exact ⟨.sub, t2, _, (Option.some.inj hx).symm, e2, trivial, rfl⟩
      | 2, hx => exact ⟨.mul, t3, _, (Option.some.inj hx).symm, e3, trivial, rfl⟩
      | n + 3, hx => simp at hx
    refine ⟨T, rfl, ⟨_, SqT.of eT⟩, for_tup (K := K) (a := T) (xs := [V.ref t1, V.ref t2, V.ref t3]) (fun i σ H2 => H2 = HL ∧ ∃ u v x : Option V, σ = [some (.int a), some (.int b), u, v, x, none, none])
      ⟨rfl, none, none, none, rfl⟩ (fun i σ H2 _ ⟨z, _⟩ => by rw [z]; exact SqT.of eT) ?_ ?_⟩
    · rintro i x σ H2 hi ⟨rfl, u, v, y, rfl⟩
      obtain ⟨o, t, d, rfl, et, fo, ec⟩ := item i x hi
      refine ⟨t, _, rfl, SqT.of et, rfl, _, _, rfl, _, _, rfl, rfl, ?_⟩
      refine ⟨_, rfl, _, rfl, _, rfl, o, a, b, rfl, na.small, fun z => absurd fo z, fun _ => ?_⟩
      refine ⟨_, rfl, _, rfl, cmb_nm o a b, true, rfl, iteF ?_⟩
      refine ⟨_, rfl, _, rfl, .inl ⟨_, rfl, _, _, rfl, rfl, (by show (0 : Int) < 2147483647; decide), rfl, _, rfl, ?_⟩⟩
      refine iteNS (congrArg V.int ec) ?_
      exact ⟨rfl, _, _, _, rfl⟩
    · rintro σ H2 ⟨rfl, u, v, y, rfl⟩
      refine ⟨_, rfl, rfl, _, rfl, ?_⟩
      by_cases c : b = 0
      · refine iteT' (decide_eq_true (congrArg V.int c)) ?_
        exact ⟨_, rfl, _, a, rfl, .inr rfl, na.small, q _ SA⟩
      · refine iteF' (decide_eq_false (fun y => c (V.int.inj y))) ?_
        have fb : b % 2147483647 ≠ 0 := by rw [nb.self]; exact c
        refine ⟨_, rfl, _, rfl, Op.div, a, b, rfl, na.small, fun z => absurd fb z, fun _ => ?_⟩
        refine ⟨_, rfl, b, rfl, fun z => absurd z fb, fun _ => ?_⟩
        have nq := cmb_nm .div a b
        have ni : Nm (inv b) := inv_in fb
        refine ⟨_, rfl, _, rfl, nq, true, rfl, iteF ?_⟩
        refine ⟨_, rfl, _, rfl, _, _, rfl, rfl, .inl nq.small, .inl ⟨_, rfl, _, _, rfl, rfl, (by show (0 : Int) < 2147483647; decide), _, rfl, rfl, _, rfl, ?_⟩⟩
        have eq : cmb .div a b * b % 2147483647 = a := by rw [div_back fb, na.self]
        refine iteNS (congrArg V.int eq) ?_
        refine ⟨_, rfl, _, rfl, ni, true, rfl, iteT ?_⟩
        refine ⟨_, rfl, _, rfl, _, _, rfl, rfl, .inl ni.small, .inl ⟨_, rfl, _, _, rfl, rfl, (by show (0 : Int) < 2147483647; decide), rfl, ?_⟩⟩
        have e : decide (V.int (inv b * b % 2147483647) = V.int 1) = true := decide_eq_true (congrArg V.int (inv_is fb).one)
        exact Eq.mpr (congrArg (fun z => Q (.bl z) _) e) (q _ SA)

def spLaw (K : PySem.W.Frag) : Sp := fun vs H Q _ => ∃ (a : Addr) (ns : List Int), vs = [.ref a] ∧ SqL K H a (ns.map V.int) ∧ ns.length ≤ 63 ∧ ∀ H', Q (.bl true) H'
theorem scLaw : FnScope ["script", "first", "second", "a", "b"] ["script"] (defScope sLaw) := ⟨rfl, rfl, rfl, by decide +kernel, rfl, by decide +kernel, by decide +kernel⟩
theorem nm_mod (n : Int) : Nm (n % 2147483647) := ⟨Int.emod_nonneg _ (by decide), Int.emod_lt_of_pos _ (by decide)⟩
theorem ok_law {f fR fC fL fN fF fG : Addr} {fd fdR fdC fdL fdN fdF fdG : FuncData} (F : Fun K "law" "law" sLaw f fd) (mInt : mg "int" = none)
    (GR : FnOk P w K mg base CX0 1 fR fdR ["n"] spRed) (bR : Binds K fdR ["n"] []) (kR : PySem.W.keepIn K (.ref fR) = true) (mR : mg "reduce_number" = some (.ref fR))
    (GC : FnOk P w K mg base CX0 1 fC fdC ["script", "at"] (spCellF K)) (bC : Binds K fdC ["script", "at"] []) (kC : PySem.W.keepIn K (.ref fC) = true) (mC : mg "_law_cell" = some (.ref fC))
    (GL : FnOk P w K mg base CX0 1 fL fdL ["cell"] spLin) (bL : Binds K fdL ["cell"] []) (kL : PySem.W.keepIn K (.ref fL) = true) (mL : mg "_law_integer" = some (.ref fL))
    (GN : FnOk P w K mg base CX0 1 fN fdN ["actual"] spIsN) (bN : Binds K fdN ["actual"] []) (kN : PySem.W.keepIn K (.ref fN) = true) (mN : mg "_law_is_number" = some (.ref fN))
    (GF : FnOk P w K mg base CX0 4 fF fdF ["op", "first"] (spFail K)) (bF : Binds K fdF ["op", "first"] []) (kF : PySem.W.keepIn K (.ref fF) = true) (mF : mg "_law_fails" = some (.ref fF))
    (GG : FnOk P w K mg base CX0 5 fG fdG ["a", "b"] (spRight K)) (bG : Binds K fdG ["a", "b"] []) (kG : PySem.W.keepIn K (.ref fG) = true) (mG : mg "_law_right" = some (.ref fG)) :
    FnOk P w K mg base CX0 6 f fd ["script"] (spLaw K) := by
  refine F.ok scLaw (fun vs H Q E h => ?_) (fun cdv A outer s H vs Q E hr h => ?_)
  · obtain ⟨a, ns, rfl, _⟩ := h
    rfl
  · obtain ⟨l, ns, rfl, hS, _, q⟩ := h
    have hr1 : Room 1 _ := hr.mono (by decide)
    have hr4 : Room 4 _ := hr.mono (by decide)
    refine ⟨_, pss_cons (ps_set (i := 1) scLaw.nd rfl (Or.inl rfl) (pe_call GL hr1 rfl mL kL bL .nil pass0 (pa_cons (pe_call GC hr1 rfl mC kC bC .nil pass0 (pa_cons (pv 0) (pa_cons pe_int pa_nil))) pa_nil)))
      (pss_cons (ps_set (i := 2) scLaw.nd rfl (Or.inl rfl) (pe_call GL hr1 rfl mL kL bL .nil pass0 (pa_cons (pe_call GC hr1 rfl mC kC bC .nil pass0 (pa_cons (pv 0) (pa_cons pe_int pa_nil))) pa_nil)))
      (pss_cons (ps_set (i := 3) scLaw.nd rfl (Or.inl rfl) (pe_call GR hr1 rfl mR kR bR .nil pass0 (pa_cons (pv 1) pa_nil)))
      (pss_cons (ps_set (i := 4) scLaw.nd rfl (Or.inl rfl) (pe_call GR hr1 rfl mR kR bR .nil pass0 (pa_cons (pv 2) pa_nil)))
      (pss_cons (ps_if (PW.pt (pw_or (pt_not (pt_val (pe_call GN hr1 rfl mN kN bN .nil pass0 (pa_cons (pv 3) pa_nil)))) (pw_or1 (pt_cmpR op_ne (pe_op op_mod (pe_callTy call_int1 rfl mInt PyProof.Rows.boot_int (pa_cons (pe_op op_sub (pv 1) (pv 3)) pa_nil)) pe_int) pe_int (nomark _)))))
          (pss_one (ps_ret pe_bl)) pss_nil)
      (pss_cons (ps_if (PW.pt (pw_or (pt_not (pt_val (pe_call GN hr1 rfl mN kN bN .nil pass0 (pa_cons (pv 4) pa_nil)))) (pw_or1 (pt_cmpR op_ne (pe_op op_mod (pe_callTy call_int1 rfl mInt PyProof.Rows.boot_int (pa_cons (pe_op op_sub (pv 2) (pv 4)) pa_nil)) pe_int) pe_int (nomark _)))))
          (pss_one (ps_ret pe_bl)) pss_nil)
      (pss_cons (ps_if (PW.pt (pw_or (pt_not (pt_val (pe_call GF hr4 rfl mF kF bF .nil pass0 (pa_cons pe_str (pa_cons (pv 3) pa_nil))))) (pw_or (pt_not (pt_val (pe_call GF hr4 rfl mF kF bF .nil pass0 (pa_cons pe_str (pa_cons (pv 3) pa_nil))))) (pw_or1 (pt_not (pt_val (pe_call GF hr4 rfl mF kF bF .nil pass0 (pa_cons pe_str (pa_cons pe_int pa_nil)))))))))
          (pss_one (ps_ret pe_bl)) pss_nil)
      (pss_one (ps_ret (pe_and (pe_call GG hr rfl mG kG bG .nil pass0 (pa_cons (pv 3) (pa_cons (pv 4) pa_nil))) (pe_and (pe_call GG hr rfl mG kG bG .nil pass0 (pa_cons (pv 4) (pa_cons (pv 3) pa_nil))) (pe_one (pe_call GG hr rfl mG kG bG .nil pass0 (pa_cons (pv 3) (pa_cons (pv 3) pa_nil)))))))))))))), ?_⟩
    refine ⟨_, rfl, l, ns, 0, rfl, hS, by decide, cl ns 0, rfl, ?_⟩
    refine ⟨_, rfl, l, ns, 1, rfl, hS, by decide, cl ns 1, rfl, ?_⟩
    generalize lint (cl ns 0) = u
    generalize lint (cl ns 1) = v
    refine ⟨_, rfl, _, rfl, _, rfl, _, rfl, ?_⟩
    have nu := nm_mod u
    have nv := nm_mod v
    have du : (u - u % 2147483647) % 2147483647 = 0 := by omega
    have dv : (v - v % 2147483647) % 2147483647 = 0 := by omega
    refine ⟨_, rfl, _, rfl, nu, true, rfl, iteF ?_⟩
    refine ⟨_, rfl, _, rfl, _, _, rfl, rfl, .inl ⟨_, rfl, _, _, rfl, rfl, (by show (0 : Int) < 2147483647; decide), rfl, _, rfl, iteNS (congrArg V.int du) ?_⟩⟩
    refine ⟨_, rfl, _, rfl, nv, true, rfl, iteF ?_⟩
    refine ⟨_, rfl, _, rfl, _, _, rfl, rfl, .inl ⟨_, rfl, _, _, rfl, rfl, (by show (0 : Int) < 2147483647; decide), rfl, _, rfl, iteNS (congrArg V.int dv) ?_⟩⟩
    refine ⟨_, rfl, _, _, rfl, .inl rfl, nu.small, true, rfl, iteF ?_⟩
    refine ⟨_, rfl, _, _, rfl, .inr rfl, nu.small, true, rfl, iteF ?_⟩
    refine ⟨_, _, rfl, .inr rfl, ⟨by decide, by decide⟩, true, rfl, iteF ?_⟩
    refine ⟨_, rfl, _, rfl, _, _, rfl, nu, nv, fun H1 S1 => ⟨true, rfl, iteT ?_⟩⟩
    refine ⟨_, rfl, _, rfl, _, _, rfl, nv, nu, fun H2 S2 => ⟨true, rfl, iteT ?_⟩⟩
    exact ⟨_, rfl, _, rfl, _, _, rfl, nu, nu, fun H3 S3 => q H3⟩
end

theorem all_mk {l : PySem.W.OpenLaw} {w : World} {K : PySem.W.Frag} {h : Heap} {mg : Str → Option Value} {fa f1 f2 f3 f4 f5 f6 f7 f8 f9 : Addr} (X : K.In h) (G : h.Ns mainGlobals mg) (hfa : mg "law" = some (.ref fa))
    {od1 an1 od2 an2 od3 an3 od4 an4 od5 an5 od6 an6 od7 an7 od8 an8 od9 an9 : Option Addr} {sl1 sl2 sl3 sl4 sl5 sl6 sl7 sl8 sl9 : Array (Option Value)} {oc1 kV1 dc1 pm1 cd1 ct1 oc2 kV2 dc2 pm2 cd2 ct2 oc3 kV3 dc3 pm3 cd3 ct3 oc4 kV4 dc4 pm4 cd4 ct4 oc5 kV5 dc5 pm5 cd5 ct5 oc6 kV6 dc6 pm6 cd6 ct6 oc7 kV7 dc7 pm7 cd7 ct7 oc8 kV8 dc8 pm8 cd8 ct8 oc9 kV9 dc9 pm9 cd9 ct9 : Value}
    (a1 : PySem.W.nsIn K mainGlobals "reduce_number" = some (some (.ref f1))) (l1 : K.lookup f1 = some ⟨oc1, od1, .func (PySem.W.fnOf "reduce_number" "reduce_number" (defArgs sRed) (defBody sRed) (defScope sRed) .none kV1 dc1 pm1 an1 cd1 ct1), sl1⟩) (c1 : PySem.W.codeIn K cd1 "reduce_number" = true) (k1 : PySem.W.keepIn K (.ref f1) = true)
    (a2 : PySem.W.nsIn K mainGlobals "inverse" = some (some (.ref f2))) (l2 : K.lookup f2 = some ⟨oc2, od2, .func (PySem.W.fnOf "inverse" "inverse" (defArgs sInv) (defBody sInv) (defScope sInv) .none kV2 dc2 pm2 an2 cd2 ct2), sl2⟩) (c2 : PySem.W.codeIn K cd2 "inverse" = true) (k2 : PySem.W.keepIn K (.ref f2) = true)
    (a3 : PySem.W.nsIn K mainGlobals "combine" = some (some (.ref f3))) (l3 : K.lookup f3 = some ⟨oc3, od3, .func (PySem.W.fnOf "combine" "combine" (defArgs sCmb) (defBody sCmb) (defScope sCmb) .none kV3 dc3 pm3 an3 cd3 ct3), sl3⟩) (c3 : PySem.W.codeIn K cd3 "combine" = true) (k3 : PySem.W.keepIn K (.ref f3) = true)
    (a4 : PySem.W.nsIn K mainGlobals "_law_cell" = some (some (.ref f4))) (l4 : K.lookup f4 = some ⟨oc4, od4, .func (PySem.W.fnOf "_law_cell" "_law_cell" (defArgs sCell) (defBody sCell) (defScope sCell) .none kV4 dc4 pm4 an4 cd4 ct4), sl4⟩) (c4 : PySem.W.codeIn K cd4 "_law_cell" = true) (k4 : PySem.W.keepIn K (.ref f4) = true)
    (a5 : PySem.W.nsIn K mainGlobals "_law_integer" = some (some (.ref f5))) (l5 : K.lookup f5 = some ⟨oc5, od5, .func (PySem.W.fnOf "_law_integer" "_law_integer" (defArgs sLin) (defBody sLin) (defScope sLin) .none kV5 dc5 pm5 an5 cd5 ct5), sl5⟩) (c5 : PySem.W.codeIn K cd5 "_law_integer" = true) (k5 : PySem.W.keepIn K (.ref f5) = true)
    (a6 : PySem.W.nsIn K mainGlobals "_law_is_number" = some (some (.ref f6))) (l6 : K.lookup f6 = some ⟨oc6, od6, .func (PySem.W.fnOf "_law_is_number" "_law_is_number" (defArgs sIsN) (defBody sIsN) (defScope sIsN) .none kV6 dc6 pm6 an6 cd6 ct6), sl6⟩) (c6 : PySem.W.codeIn K cd6 "_law_is_number" = true) (k6 : PySem.W.keepIn K (.ref f6) = true)
    (a7 : PySem.W.nsIn K mainGlobals "_law_fails" = some (some (.ref f7))) (l7 : K.lookup f7 = some ⟨oc7, od7, .func (PySem.W.fnOf "_law_fails" "_law_fails" (defArgs sFail) (defBody sFail) (defScope sFail) .none kV7 dc7 pm7 an7 cd7 ct7), sl7⟩) (c7 : PySem.W.codeIn K cd7 "_law_fails" = true) (k7 : PySem.W.keepIn K (.ref f7) = true)
    (a8 : PySem.W.nsIn K mainGlobals "_law_right" = some (some (.ref f8))) (l8 : K.lookup f8 = some ⟨oc8, od8, .func (PySem.W.fnOf "_law_right" "_law_right" (defArgs sRight) (defBody sRight) (defScope sRight) .none kV8 dc8 pm8 an8 cd8 ct8), sl8⟩) (c8 : PySem.W.codeIn K cd8 "_law_right" = true) (k8 : PySem.W.keepIn K (.ref f8) = true)
    (a9 : PySem.W.nsIn K mainGlobals "law" = some (some (.ref f9))) (l9 : K.lookup f9 = some ⟨oc9, od9, .func (PySem.W.fnOf "law" "law" (defArgs sLaw) (defBody sLaw) (defScope sLaw) .none kV9 dc9 pm9 an9 cd9 ct9), sl9⟩) (c9 : PySem.W.codeIn K cd9 "law" = true) (k9 : PySem.W.keepIn K (.ref f9) = true)
    {C : Addr} (aC : PySem.W.nsIn K mainGlobals "FieldError" = some (some (.ref C)))
    (xC : PySem.W.excIn K C [.type "ValueError", .type "Exception", .type "BaseException", .type "object"] "ValueError.__new__" = true)
    (kC : PySem.W.keepIn K (.ref C) = true)
    (sC : PySem.W.subIn K (.ref C) (.type "BaseException") = some true)
    (tC : PySem.W.typeIn K (.ref C) = some (.type "type"))
    {tp : Tok} (aP : PySem.W.nsIn K mainGlobals "PRIME" = some (some (.int 2147483647 tp)))
    {B : Addr} (aB : PySem.W.nsIn K mainGlobals "CountermarchError" = some (some (.ref B)))
    {A : Addr} (aA : PySem.W.nsIn K mainGlobals "ArgumentError" = some (some (.ref A)))
    (zV : PySem.W.nsIn K mainGlobals "ValueError" = some none)
    (zi : PySem.W.nsIn K mainGlobals "isinstance" = some none)
    (zI : PySem.W.nsIn K mainGlobals "int" = some none)
    (zB : PySem.W.nsIn K mainGlobals "bool" = some none)
    (zL : PySem.W.nsIn K mainGlobals "len" = some none)
    (sB : PySem.W.subIn K (.ref B) (.type "BaseException") = some true)
    (hB : PySem.W.hasDictIn K B = true)
    (tB : PySem.W.typeIn K (.ref B) = some (.type "type"))
    (sCB : PySem.W.subIn K (.ref C) (.ref B) = some true)
    (e1 : PySem.W.findIn K (.ref C) "__getattribute__" = some (some (.builtin "BaseException.__getattribute__")))
    (e2 : PySem.W.findIn K (.ref C) "__getattr__" = some none)
    (e4 : PySem.W.hasDictIn K C = true)
    (e5 : PySem.W.findIn K (.ref C) "__class__" = some (some (.builtin "object.__class__")))
    (e6 : PySem.W.specialIn K (.builtin "object.__class__") "__get__" = some (some (.builtin "getset_descriptor.__get__")))
    (e7 : PySem.W.takesIn K (.builtin "object.__class__") = some true)
    (e8 : PySem.W.mroIn K C (.type "object") = some true)
    (q1 : PySem.W.kitOne K (.ref C) (.ref C) = some true)
    (q2 : PySem.W.kitOne K (.ref C) (.type "ValueError") = some true)
    (q3 : PySem.W.kitOne K (.ref C) (.ref A) = some false) :
    ∃ fd : FuncData, (∀ (s : Shared) (v : Value), BindsTo s fd ⟨[v], []⟩ [("script", v)]) ∧ ∀ base : Heap, K.In base → base.Ns mainGlobals mg → FnOk l.prog w K mg base CX0 6 fa fd ["script"] (spLaw K) := by
  have e := hfa.symm.trans (PySem.W.mg_of X G a9)
  cases e
  have F1 := fun_mk (st := sRed) l1 c1 k1
  have b1 := F1.binds (ps := ["n"]) fun _ _ _ _ _ _ us hl => match us, hl with | [_], _ => rfl
  have m1 := PySem.W.mg_of X G a1
  have F2 := fun_mk (st := sInv) l2 c2 k2
  have b2 := F2.binds (ps := ["number"]) fun _ _ _ _ _ _ us hl => match us, hl with | [_], _ => rfl
  have m2 := PySem.W.mg_of X G a2
  have F3 := fun_mk (st := sCmb) l3 c3 k3
  have b3 := F3.binds (ps := ["op", "first", "second"]) fun _ _ _ _ _ _ us hl => match us, hl with | [_, _, _], _ => rfl
  have m3 := PySem.W.mg_of X G a3
  have F4 := fun_mk (st := sCell) l4 c4 k4
  have b4 := F4.binds (ps := ["script", "at"]) fun _ _ _ _ _ _ us hl => match us, hl with | [_, _], _ => rfl
  have m4 := PySem.W.mg_of X G a4
  have F5 := fun_mk (st := sLin) l5 c5 k5
  have b5 := F5.binds (ps := ["cell"]) fun _ _ _ _ _ _ us hl => match us, hl with | [_], _ => rfl
  have m5 := PySem.W.mg_of X G a5
  have F6 := fun_mk (st := sIsN) l6 c6 k6
  have b6 := F6.binds (ps := ["actual"]) fun _ _ _ _ _ _ us hl => match us, hl with | [_], _ => rfl
  have m6 := PySem.W.mg_of X G a6
  have F7 := fun_mk (st := sFail) l7 c7 k7
  have b7 := F7.binds (ps := ["op", "first"]) fun _ _ _ _ _ _ us hl => match us, hl with | [_, _], _ => rfl
  have m7 := PySem.W.mg_of X G a7
  have F8 := fun_mk (st := sRight) l8 c8 k8
  have b8 := F8.binds (ps := ["a", "b"]) fun _ _ _ _ _ _ us hl => match us, hl with | [_, _], _ => rfl
  have m8 := PySem.W.mg_of X G a8
  have F9 := fun_mk (st := sLaw) l9 c9 k9
  refine ⟨PySem.W.fnOf "law" "law" (defArgs sLaw) (defBody sLaw) (defScope sLaw) .none kV9 dc9 pm9 an9 cd9 ct9, fun s v => .of_eq rfl, fun base _ _ => ?_⟩
  have T : Txt K mg C := ⟨PySem.W.mg_of X G aC, xC, kC, sC, tC, ⟨_, PySem.W.mg_of X G aP⟩⟩
  have E' : TxtE K mg C B A := ⟨PySem.W.mg_of X G aB, PySem.W.mg_of X G aA, PySem.W.mg_none_of X G zV, PySem.W.mg_none_of X G zi, PySem.W.exm_ref sB hB tB sCB, ⟨e1, e2, sC, e4, e5, e6, e7, e8⟩, q1, q2, q3⟩
  have mInt := PySem.W.mg_none_of X G zI
  have G1 : FnOk l.prog w K mg base CX0 1 f1 _ ["n"] spRed := ok_red F1 T
  have G2 : FnOk l.prog w K mg base (L2.CX l.prog w) 2 f2 _ ["number"] (spInv C) := ok_inv F2 T G1 b1 k1 m1
  have G3 : FnOk l.prog w K mg base (L2.CX l.prog w) 3 f3 _ ["op", "first", "second"] (spCmb C) := ok_cmb F3 G1 b1 k1 m1 G2 b2 k2 m2
  have G4 : FnOk l.prog w K mg base CX0 1 f4 _ ["script", "at"] (spCellF K) := ok_cell F4 (PySem.W.mg_none_of X G zL)
  have G5 : FnOk l.prog w K mg base CX0 1 f5 _ ["cell"] spLin := ok_lin F5
  have G6 : FnOk l.prog w K mg base CX0 1 f6 _ ["actual"] spIsN := ok_isn F6 E'.mi mInt (PySem.W.mg_none_of X G zB)
  have G7 : FnOk l.prog w K mg base CX0 4 f7 _ ["op", "first"] (spFail K) := ok_fail F7 T E' G2 b2 k2 m2 G3 b3 k3 m3
  have G8 : FnOk l.prog w K mg base CX0 5 f8 _ ["a", "b"] (spRight K) := ok_right F8 mInt G2 b2 k2 m2 G3 b3 k3 m3 G6 b6 k6 m6 G7 b7 k7 m7
  exact ok_law F9 mInt G1 b1 k1 m1 G4 b4 k4 m4 G5 b5 k5 m5 G6 b6 k6 m6 G7 b7 k7 m7 G8 b8 k8 m8
theorem walk {l : PySem.W.OpenLaw} {q : Program} {loose : List Str} {XP : (Str → Option Value) → Heap → Prop} {YP : World → Heap → Prop} {d : DefRec} {K : Params → PySem.W.Frag} (hn : l.most = some 63) (hdf : d.params.defaults = [])
    (hY : ∀ (w : World) (h : Heap), YP w h → (K w.params).In h)
    (F : ∀ (w : World) (mg : Str → Option Value) (fa : Addr) (h : Heap), (K w.params).In h → h.Ns mainGlobals mg → mg d.name = some (.ref fa) →
      ∃ fd : FuncData, (∀ (s : Shared) (u : Value), BindsTo s fd ⟨[u], []⟩ [("script", u)]) ∧ ∀ base : Heap, (K w.params).In base → base.Ns mainGlobals mg → FnOk l.prog w (K w.params) mg base CX0 6 fa fd ["script"] (spLaw (K w.params))) :
    PySem.W.WalkO q loose XP YP l.row.toRowW d [] (fun f vs => PySem.call f vs) :=
  L2.walk_of (n := 63) (k := 6) (x := "script") (CX := fun _ => CX0) (sp := fun w => spLaw (K w.params)) hn (by decide) hdf ⟨rfl, by decide, by decide⟩ hY F (fun _ _ a ns hl _ hS => ⟨a, ns, rfl, hS, hl, fun _ => rfl⟩) fun _ _ _ _ _ z => z
end Fld
open PySem PySem.W PyProof.Rows
set_option maxRecDepth 100000 in
set_option maxHeartbeats 0 in
theorem PySem.Challenge.cw_countermarch_k01_field_operations_holds : PySem.Challenge.rw_countermarch_k01_field_operations.Holds := by
  w_on; o_law; k_head; (case hw => w_witness2)
  k_fill
  refine Fld.walk (l := PySem.Challenge.rw_countermarch_k01_field_operations) rfl rfl (fun w h Y => PySem.W.kIn_of Y) ?F
  case F =>
    intro w mg fa h KX G hmg
    refine' Fld.all_mk KX G hmg ?a1 ?l1 ?c1 ?k1 ?a2 ?l2 ?c2 ?k2 ?a3 ?l3 ?c3 ?k3 ?a4 ?l4 ?c4 ?k4 ?a5 ?l5 ?c5 ?k5 ?a6 ?l6 ?c6 ?k6 ?a7 ?l7 ?c7 ?k7 ?a8 ?l8 ?c8 ?k8 ?a9 ?l9 ?c9 ?k9 ?aC ?xC ?kC ?sC ?tC ?aP ?aB ?aA ?zV ?zi ?zI ?zB ?zL ?sB ?hB ?tB ?sCB ?e1 ?e2 ?e4 ?e5 ?e6 ?e7 ?e8 ?q1 ?q2 ?q3
    (case a1 => k_is)
    (case l1 => k_is)
    (case c1 => k_is)
    (case k1 => k_is)
    (case a2 => k_is)
    (case l2 => k_is)
    (case c2 => k_is)
    (case k2 => k_is)
    (case a3 => k_is)
    (case l3 => k_is)
    (case c3 => k_is)
    (case k3 => k_is)
    (case a4 => k_is)
    (case l4 => k_is)
    (case c4 => k_is)
    (case k4 => k_is)
    (case a5 => k_is)
    (case l5 => k_is)
    (case c5 => k_is)
    (case k5 => k_is)
    (case a6 => k_is)
    (case l6 => k_is)
    (case c6 => k_is)
    (case k6 => k_is)
    (case a7 => k_is)
    (case l7 => k_is)
    (case c7 => k_is)
    (case k7 => k_is)
    (case a8 => k_is)
    (case l8 => k_is)
    (case c8 => k_is)
    (case k8 => k_is)
    (case a9 => k_is)
    (case l9 => k_is)
    (case c9 => k_is)
    (case k9 => k_is)
    (case aC => k_is)
    (case xC => k_exc)
    (case kC => k_is)
    (case sC => k_is)
    (case tC => k_is)
    (case aP => k_is)
    (case aB => k_is)
    (case aA => k_is)
    (case zV => k_is)
    (case zi => k_is)
    (case zI => k_is)
    (case zB => k_is)
    (case zL => k_is)
    (case sB => k_is)
    (case hB => k_is)
    (case tB => k_is)
    (case sCB => k_is)
    (case e1 => k_is)
    (case e2 => k_is)
    (case e4 => k_is)
    (case e5 => k_is)
    (case e6 => k_is)
    (case e7 => k_is)
    (case e8 => k_is)
    (case q1 => kit_is)
    (case q2 => kit_is)
    (case q3 => kit_is)
#print axioms PySem.Challenge.cw_countermarch_k01_field_operations_holds

