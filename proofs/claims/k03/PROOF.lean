import PyProof.Rows.All
import Wide.All
import OpenK.AllK
import Wide.FinOn
import HandS.Base
import HandS.Call
import HandS.List
import HandS.Comp
import HandS.Ends
import HandS.Exc
import HandS.TryOnly
import HandS.ExcOwn
import HandS.Words
import HandS.WordsList
import HandS.WordsExc
import HandS.Flow
import HandS.Wide
import HandS.Style
import HandS.IsInst
import HandS.ExcIs
import KE.RegKIsAll
import HandS.Walk
import HandS.Zip0
import HandS.Zip
import PySem.Challenge.RW_countermarch_k03_shares_and_rows
set_option Elab.async false
set_option linter.all false
set_option maxRecDepth 100000
set_option maxHeartbeats 4000000
namespace Fld
/-! ### 1. The mathematics: 2147483647 is a prime; Euclid's loop; the inverse -/
def top0 : Nat := 2147483647
/-- no number from a to a + 2 ^ k - 1 divides the prime -/
def clear (a : Nat) : Nat → Bool
  | 0 => top0 % a != 0
  | k + 1 => clear a k && clear (a + 2 ^ k) k
theorem clear_at : ∀ (k a : Nat), clear a k = true → ∀ d, a ≤ d → d < a + 2 ^ k → top0 % d ≠ 0
  | 0, a, h, d, h1, h2 => by
    have e : d = a := by simp at h2; omega
    subst e
    simpa [clear] using h
  | k + 1, a, h, d, h1, h2 => by
    have h' : clear a k = true ∧ clear (a + 2 ^ k) k = true := by simpa [clear] using h
    by_cases c : d < a + 2 ^ k
    · exact clear_at k a h'.1 d h1 c
    · exact clear_at k (a + 2 ^ k) h'.2 d (by omega) (by rw [Nat.pow_succ] at h2; omega)
theorem clear_all : clear 2 16 = true := by decide +kernel
theorem prime_div {d : Nat} (h : d ∣ top0) (h1 : d ≠ 1) : d = top0 := by
  obtain ⟨e, he⟩ := h
  have hP : top0 = 2147483647 := rfl
  have small : ∀ x, 2 ≤ x → x < 65538 → ¬ x ∣ top0 := fun x a b c => clear_at 16 2 clear_all x a (by simpa using b) (Nat.mod_eq_zero_of_dvd c)
  have d0 : d ≠ 0 := by intro z; rw [z] at he; simp [top0] at he
  have e0 : e ≠ 0 := by intro z; rw [z] at he; simp [top0] at he
  by_cases hd : d < 65538
  · exact absurd ⟨e, he⟩ (small d (by omega) hd)
  · by_cases he1 : e = 1
    · rw [he1] at he; omega
    · by_cases hc : e < 65538
      · exact absurd ⟨d, by rw [he, Nat.mul_comm]⟩ (small e (by omega) hc)
      · have := Nat.mul_le_mul (show 65538 ≤ d by omega) (show 65538 ≤ e by omega)
        omega
theorem gcd_one {n : Nat} (h0 : 0 < n) (h1 : n < top0) : Nat.gcd top0 n = 1 := by
  by_cases h : Nat.gcd top0 n = 1
  · exact h
  · have e := prime_div (Nat.gcd_dvd_left top0 n) h
    have := Nat.le_of_dvd h0 (Nat.gcd_dvd_right top0 n)
    omega
/-- Euclid's loop for n: the two rests, the two factors -/
structure Euc (n lr r lf f : Int) : Prop where
  pos : 0 < r
  less : r < lr
  top : lr ≤ 2147483647
  one : Nat.gcd lr.toNat r.toNat = 1
  old : ∃ q : Int, lr = lf * n + 2147483647 * q
  new : ∃ q : Int, r = f * n + 2147483647 * q
theorem euc_start {n r : Int} (hr : r = n % 2147483647) (h0 : r ≠ 0) : Euc n 2147483647 r 0 1 := by
  have a := Int.emod_nonneg n (show (2147483647 : Int) ≠ 0 by decide)
  have b := Int.emod_lt_of_pos n (show (0 : Int) < 2147483647 by decide)
  have d := Int.emod_add_mul_ediv n 2147483647
  refine ⟨by omega, by omega, Int.le_refl _, gcd_one (by omega) (by unfold top0; omega), ⟨1, by omega⟩, ⟨-(n / 2147483647), ?_⟩⟩
  rw [Int.one_mul, Int.mul_neg]
  omega
theorem euc_turn {n lr r lf f : Int} (h : Euc n lr r lf f) (h1 : r ≠ 1) : Euc n r (lr - lr / r * r) f (lf - lr / r * f) := by
  obtain ⟨pos, less, top, one, ⟨q, hq⟩, ⟨p, hp⟩⟩ := h
  have e : lr - lr / r * r = lr % r := by rw [Int.emod_def, Int.mul_comm]
  have a := Int.emod_nonneg lr (show r ≠ 0 by omega)
  have b := Int.emod_lt_of_pos lr pos
  have et : (lr % r).toNat = lr.toNat % r.toNat := Int.toNat_emod (by omega) (by omega)
  have g : Nat.gcd r.toNat (lr % r).toNat = 1 := by
    rw [et, Nat.gcd_comm, ← Nat.gcd_rec, Nat.gcd_comm]
    exact one
  have nz : lr % r ≠ 0 := by
    intro z
    rw [z] at g
    simp at g
    omega
  refine ⟨by omega, by omega, by omega, by rw [e]; exact g, ⟨p, hp⟩, ⟨q - lr / r * p, ?_⟩⟩
  generalize lr / r = t
  rw [Int.sub_mul, Int.mul_sub, Int.mul_assoc]
  have x : t * r = t * (f * n) + 2147483647 * (t * p) := by
    conv => lhs; rw [hp]
    rw [Int.mul_add, Int.mul_left_comm, Int.mul_left_comm t 2147483647 p]
  omega
theorem euc_less {n lr r lf f : Int} (h : Euc n lr r lf f) : (lr - lr / r * r).toNat < r.toNat := by
  have pos := h.pos
  have e : lr - lr / r * r = lr % r := by rw [Int.emod_def, Int.mul_comm]
  have a := Int.emod_nonneg lr (show r ≠ 0 by omega)
  have b := Int.emod_lt_of_pos lr pos
  omega
theorem euc_end {n lr lf f : Int} (h : Euc n lr 1 lf f) : (f * n) % 2147483647 = 1 := by
  obtain ⟨p, hp⟩ := h.new
  omega
/-- x is the number whose product with n is 1 -/
structure IsInv (n x : Int) : Prop where
  lo : 0 ≤ x
  hi : x < 2147483647
  one : (x * n) % 2147483647 = 1
theorem emod_mul_left (a b : Int) : (a % 2147483647 * b) % 2147483647 = (a * b) % 2147483647 := by
  rw [Int.mul_emod, Int.emod_emod, ← Int.mul_emod]
theorem emod_mul_right (a b : Int) : (a * (b % 2147483647)) % 2147483647 = (a * b) % 2147483647 := by
  rw [Int.mul_emod, Int.emod_emod, ← Int.mul_emod]
theorem euc_is {n lr lf f : Int} (h : Euc n lr 1 lf f) : IsInv n (f % 2147483647) :=
  ⟨Int.emod_nonneg f (by decide), Int.emod_lt_of_pos f (by decide), by rw [emod_mul_left]; exact euc_end h⟩
theorem euc_some {n : Int} : ∀ (m : Nat) (lr r lf f : Int), r.toNat ≤ m → Euc n lr r lf f → ∃ x, IsInv n x
  | 0, lr, r, lf, f, hm, h => by have := h.pos; omega
  | m + 1, lr, r, lf, f, hm, h => by
    by_cases c : r = 1
    · subst c; exact ⟨_, euc_is h⟩
    · exact euc_some m _ _ _ _ (by have := euc_less h; omega) (euc_turn h c)
theorem inv_some {n : Int} (h : n % 2147483647 ≠ 0) : ∃ x, IsInv n x := euc_some _ _ _ _ _ (Nat.le_refl _) (euc_start rfl h)
theorem inv_one {n x y : Int} (hx : IsInv n x) (hy : IsInv n y) : x = y := by
  have a : (x * n * y) % 2147483647 = y := by
    rw [← emod_mul_left, hx.one, Int.one_mul]
    have := hy.lo; have := hy.hi
    omega
  have b : (y * n * x) % 2147483647 = x := by
    rw [← emod_mul_left, hy.one, Int.one_mul]
    have := hx.lo; have := hx.hi
    omega
  have c : x * n * y = y * n * x := by rw [Int.mul_comm, Int.mul_comm x n, Int.mul_assoc]
  rw [c, b] at a
  exact a
open Classical in
noncomputable def inv (n : Int) : Int := if h : ∃ x, IsInv n x then choose h else 0
theorem inv_is {n : Int} (h : n % 2147483647 ≠ 0) : IsInv n (inv n) := by
  have e := inv_some h
  unfold inv
  rw [dif_pos e]
  exact Classical.choose_spec e
theorem inv_eq {n x : Int} (h : IsInv n x) : inv n = x := by
  have e : ∃ x, IsInv n x := ⟨x, h⟩
  refine inv_one (n := n) ?_ h
  unfold inv
  rw [dif_pos e]
  exact Classical.choose_spec e
end Fld

namespace Fld
open PySem L2
/-! ### 2. The text by places -/
def top (i : Nat) : Stmt := PySem.Challenge.pw_countermarch_k03_shares_and_rows.main.body.getD i (.Pass ⟨0, 0, 0, 0⟩)
abbrev sRed : Stmt := top 5
abbrev sInv : Stmt := top 6
abbrev sCmb : Stmt := top 7
/-! ### 3. The four operations and what the defs promise -/
inductive Op where
  | add | sub | mul | div
def Op.str : Op → Str
  | .add => "add" | .sub => "sub" | .mul => "mul" | .div => "div"
/-- may the operation be done with this second operand -/
def Op.fine : Op → Int → Prop
  | .div, b => b % 2147483647 ≠ 0
  | _, _ => True
noncomputable def cmb : Op → Int → Int → Int
  | .add, a, b => (a + b) % 2147483647
  | .sub, a, b => (a - b) % 2147483647
  | .mul, a, b => (a * b) % 2147483647
  | .div, a, b => (a * inv b) % 2147483647
theorem cmb_in (o : Op) (a b : Int) : 0 ≤ cmb o a b ∧ cmb o a b < 2147483647 := by
  cases o <;> exact ⟨Int.emod_nonneg _ (by decide), Int.emod_lt_of_pos _ (by decide)⟩
theorem inv_in {n : Int} (h : n % 2147483647 ≠ 0) : 0 ≤ inv n ∧ inv n < 2147483647 := ⟨(inv_is h).lo, (inv_is h).hi⟩
/-- the quotient's product with the divisor -/
theorem div_back {a b : Int} (h : b % 2147483647 ≠ 0) : (cmb .div a b * b) % 2147483647 = a % 2147483647 := by
  show ((a * inv b) % 2147483647 * b) % 2147483647 = a % 2147483647
  rw [emod_mul_left, Int.mul_assoc, ← emod_mul_right, (inv_is h).one, Int.mul_one]
def spRed : Sp := fun vs H Q _ => ∃ n : Int, vs = [.int n] ∧ Q (.int (n % 2147483647)) H
def spInv (C : Addr) : Sp := fun vs H Q E => ∃ n : Int, vs = [.int n] ∧ (n % 2147483647 = 0 → E (.ref C) none H) ∧ (n % 2147483647 ≠ 0 → Q (.int (inv n)) H)
/-- the product's left factor is kept below 2 ^ 64 -/
def Small (a : Int) : Prop := -(2 ^ 64) < a ∧ a < 2 ^ 64
def spCmb (C : Addr) : Sp := fun vs H Q E => ∃ (o : Op) (a b : Int), vs = [.str o.str, .int a, .int b] ∧ Small a ∧ (¬ o.fine b → E (.ref C) none H) ∧ (o.fine b → Q (.int (cmb o a b)) H)
section
variable {X : Cx} {C : Addr} {bmB : List Value} {B newId initId : String}
/-- X(), X a class of the text's own over a built-in one, without an __init__ of its own -/
theorem pmk_own0 {x : Str} {p pos : Pos} (F : ExcBaseFacts B newId initId bmB) (q : PySem.W.excIn X.K C bmB newId = true) (gC : X.mg x = some (.ref C)) (kC : PySem.W.keepIn X.K (.ref C) = true) (r : Raises X (.ref C)) (hg : Gl X x)
    (hdb : (x == ("__debug__" : Str)) = false := by decide) : PMk X (.Call (.Name x p) [] [] pos) (fun _ H Q => Q (.ref C) none H) := by
  intro pins s σ H Q I h
  refine wpAny_Call_Name_kw (ld_glob I hg gC ?_ hdb)
  refine PySem.W.callWith_K0 I.kIn kC ?_
  obtain ⟨bm, N, nm, qn, bs, hdct, sn, sub, ab, col, dd, k0, k1, k2, k3, k5, mN, hC, hN, hni, T⟩ := exc_obj I.kIn q
  obtain ⟨hp1, g1, d1, tk1, os1⟩ := s
  refine wpAny_call_exc_subT F T hC hN hni (fun h' e hm => ?_) (Nat.zero_le _)
  exact mk_of I hm r h (I.hok.gone hm.new)
end
theorem iteT' {c : Bool} {A B : Prop} (h : c = true) (a : A) : if c = true then A else B := by
  rw [if_pos h]
  exact a
theorem iteF' {c : Bool} {A B : Prop} (h : c = false) (b : B) : if c = true then A else B := by
  rw [h, if_neg Bool.false_ne_true]
  exact b
/-- what the top has written of the error's class and of the prime -/
structure Txt (K : PySem.W.Frag) (mg : Str → Option Value) (C : Addr) : Prop where
  gC : mg "FieldError" = some (.ref C)
  xC : PySem.W.excIn K C [.type "ValueError", .type "Exception", .type "BaseException", .type "object"] "ValueError.__new__" = true
  kC : PySem.W.keepIn K (.ref C) = true
  bC : PySem.W.subIn K (.ref C) (.type "BaseException") = some true
  tC : PySem.W.typeIn K (.ref C) = some (.type "type")
  gP : ∃ t, mg "PRIME" = some (.int 2147483647 t)
section
variable {P : Program} {w : World} {K : PySem.W.Frag} {mg : Str → Option Value} {base : Heap} {C : Addr}
theorem scRed : FnScope ["n"] ["n"] (defScope sRed) := ⟨rfl, rfl, rfl, by decide +kernel, rfl, by decide +kernel, by decide +kernel⟩
theorem ok_red {f : Addr} {fd : FuncData} (F : Fun K "reduce_number" "reduce_number" sRed f fd) (T : Txt K mg C) : FnOk P w K mg base CX0 1 f fd ["n"] spRed := by
  obtain ⟨tp, gP⟩ := T.gP
  refine F.ok scRed (fun vs H Q E h => ?_) (fun cdv A outer s H vs Q E hr h => ?_)
  · obtain ⟨n, rfl, _⟩ := h
    rfl
  · obtain ⟨n, rfl, q⟩ := h
    refine ⟨_, pss_one (ps_ret (pe_op op_mod (pv 0) (pe_glob (v := .int 2147483647) rfl gP ⟨_, rfl⟩))), ?_⟩
    exact ⟨_, rfl, _, _, rfl, rfl, (by show (0 : Int) < 2147483647; decide), q⟩
theorem scInv : FnScope ["number", "rest", "last_rest", "last_factor", "factor", "times"] ["number"] (defScope sInv) := ⟨rfl, rfl, rfl, by decide +kernel, rfl, by decide +kernel, by decide +kernel⟩
theorem ok_inv {f fR : Addr} {fd fdR : FuncData} (F : Fun K "inverse" "inverse" sInv f fd) (T : Txt K mg C) (GR : FnOk P w K mg base CX0 1 fR fdR ["n"] spRed) (bR : Binds K fdR ["n"] []) (kR : PySem.W.keepIn K (.ref fR) = true) (mR : mg "reduce_number" = some (.ref fR)) :
    FnOk P w K mg base (L2.CX P w) 2 f fd ["number"] (spInv C) := by
  obtain ⟨tp, gP⟩ := T.gP
  refine F.okX scInv (fun vs H Q E h => ?_) (fun cdv A outer s H vs Q E hr h => ?_)
  · obtain ⟨n, rfl, _⟩ := h
    rfl
  · obtain ⟨n, rfl, qe, q⟩ := h
    refine ⟨_, pss_cons (ps_set (i := 1) scInv.nd rfl (Or.inl rfl) (pe_call GR hr rfl mR kR bR .nil pass0 (pa_cons (pv 0) pa_nil)))
      (pss_cons (ps_if (pt_cmpR op_eq (pv 1) pe_int (nomark _)) (pss_one (ps_raise rfl (takes_of rfl rfl rfl rfl) (pmk_own0 PySem.F.excBase_ValueError T.xC T.gC T.kC (raises_own T.bC T.tC) rfl))) pss_nil)
      (pss_cons (ps_par3 (i := 2) (j := 3) (l := 4) rfl scInv.nd rfl rfl rfl (by decide) (by decide) (by decide) rfl rfl rfl (pa_cons (pe_glob (v := .int 2147483647) rfl gP ⟨_, rfl⟩) (pa_cons pe_int (pa_cons pe_int pa_nil))) (by rfl))
      (pss_cons (ps_while (passes_of rfl) (pt_cmpR op_ne (pv 1) pe_int (nomark _))
        (pss_cons (ps_set (i := 5) scInv.nd rfl (Or.inl rfl) (pe_op op_fdivW (pv 2) (pv 1)))
        (pss_cons (ps_par (i := 2) (j := 1) rfl scInv.nd rfl rfl (by decide) rfl rfl (pa_cons (pv 1) (pa_cons (pe_op op_sub (pv 2) (pe_op op_mul (pv 5) (pv 1))) pa_nil)) (by rfl))
        (pss_one (ps_par (i := 3) (j := 4) rfl scInv.nd rfl rfl (by decide) rfl rfl (pa_cons (pv 4) (pa_cons (pe_op op_sub (pv 3) (pe_op op_mul (pv 5) (pv 4))) pa_nil)) (by rfl))))))
      (pss_one (ps_ret (pe_call GR hr rfl mR kR bR .nil pass0 (pa_cons (pv 4) pa_nil))))))), ?_⟩
    refine ⟨_, rfl, n, rfl, _, rfl, rfl, _, rfl, ?_⟩
    by_cases c : n % 2147483647 = 0
    · refine iteT' (by rw [c]; rfl) ?_
      exact qe c
    · refine iteF' (by simp [c]) ?_
      refine ⟨_, _, _, rfl, ?_⟩
      refine while_by (fun σ H' => H' = H ∧ ∃ (lr r lf f : Int) (t : Option V), σ = [some (.int n), some (.int r), some (.int lr), some (.int lf), some (.int f), t] ∧ Euc n lr r lf f)
        (fun σ _ => match σ with | [_, some (.int r), _, _, _, _] => r.toNat | _ => 0)
        ⟨rfl, 2147483647, n % 2147483647, 0, 1, none, rfl, euc_start rfl c⟩ ?_ ?_
      · rintro σ H' ⟨rfl, lr, r, lf, f, t, rfl, e⟩
        refine ⟨_, rfl, rfl, _, rfl, ?_⟩
        have p0 := e.pos
        have p1 := e.less
        have p2 := e.top
        by_cases c1 : r = 1
        · refine iteF' (by subst c1; rfl) ?_
          subst c1
          refine ⟨_, rfl, f, rfl, ?_⟩
          rw [← inv_eq (euc_is e)]
          exact q c
        · refine iteT' (by simp [c1]) ?_
          have t0 : 0 ≤ lr / r := Int.ediv_nonneg (by omega) (by omega)
          have t1 : lr / r ≤ lr := Int.ediv_le_self r (by omega)
          refine ⟨_, rfl, _, rfl, _, _, rfl, rfl, wide_div (b := 32) p0 (by omega) (by decide) (by decide), ?_⟩
          refine ⟨_, rfl, _, rfl, _, rfl, _, rfl, _, _, rfl, rfl, .inl ⟨by omega, by omega⟩, _, _, rfl, rfl, _, _, rfl, ?_⟩
          refine ⟨_, rfl, _, rfl, _, rfl, _, rfl, _, _, rfl, rfl, .inl ⟨by omega, by omega⟩, _, _, rfl, rfl, _, _, rfl, ?_⟩
          refine ⟨⟨rfl, r, lr - lr / r * r, f, lf - lr / r * f, _, rfl, euc_turn e c1⟩, ?_⟩
          exact euc_less e
      · intro σ H' Q1 Q2 hq h
        obtain ⟨v, h1, h2, k, h3, h4⟩ := h
        exact ⟨v, h1, h2, k, h3, hq _ _ h4⟩

theorem scCmb : FnScope ["op", "first", "second"] ["op", "first", "second"] (defScope sCmb) := ⟨rfl, rfl, rfl, by decide +kernel, rfl, by decide +kernel, by decide +kernel⟩
theorem ok_cmb {f fR fI : Addr} {fd fdR fdI : FuncData} (F : Fun K "combine" "combine" sCmb f fd) (GR : FnOk P w K mg base CX0 1 fR fdR ["n"] spRed) (bR : Binds K fdR ["n"] []) (kR : PySem.W.keepIn K (.ref fR) = true) (mR : mg "reduce_number" = some (.ref fR))
    (GI : FnOk P w K mg base (L2.CX P w) 2 fI fdI ["number"] (spInv C)) (bI : Binds K fdI ["number"] []) (kI : PySem.W.keepIn K (.ref fI) = true) (mI : mg "inverse" = some (.ref fI)) :
    FnOk P w K mg base (L2.CX P w) 3 f fd ["op", "first", "second"] (spCmb C) := by
  refine F.okX scCmb (fun vs H Q E h => ?_) (fun cdv A outer s H vs Q E hr h => ?_)
  · obtain ⟨o, a, b, rfl, _⟩ := h
    rfl
  · obtain ⟨o, a, b, rfl, sa, qe, q⟩ := h
    have hr1 : Room 1 _ := hr.mono (by decide)
    refine ⟨_, pss_cons (ps_if (pt_cmpR op_eq (pv 0) pe_str (nomark _)) (pss_one (ps_ret (pe_call GR hr1 rfl mR kR bR .nil pass0 (pa_cons (pe_op op_add (pv 1) (pv 2)) pa_nil)))) pss_nil)
      (pss_cons (ps_if (pt_cmpR op_eq (pv 0) pe_str (nomark _)) (pss_one (ps_ret (pe_call GR hr1 rfl mR kR bR .nil pass0 (pa_cons (pe_op op_sub (pv 1) (pv 2)) pa_nil)))) pss_nil)
      (pss_cons (ps_if (pt_cmpR op_eq (pv 0) pe_str (nomark _)) (pss_one (ps_ret (pe_call GR hr1 rfl mR kR bR .nil pass0 (pa_cons (pe_op op_mul (pv 1) (pv 2)) pa_nil)))) pss_nil)
      (pss_one (ps_ret (pe_call GR hr1 rfl mR kR bR .nil pass0 (pa_cons (pe_op op_mul (pv 1) (pe_call GI hr rfl mI kI bI .nil (passes_call (takes_of rfl rfl rfl rfl) (fun _ _ _ _ h => h)) (pa_cons (pv 2) pa_nil))) pa_nil)))))), ?_⟩
    cases o with
    | add =>
      refine ⟨_, rfl, rfl, _, rfl, iteT' (by decide +kernel) ?_⟩
      exact ⟨_, rfl, _, rfl, _, _, rfl, rfl, _, rfl, q trivial⟩
    | sub =>
      refine ⟨_, rfl, rfl, _, rfl, iteF' (by decide +kernel) ?_⟩
      refine ⟨_, rfl, rfl, _, rfl, iteT' (by decide +kernel) ?_⟩
      exact ⟨_, rfl, _, rfl, _, _, rfl, rfl, _, rfl, q trivial⟩
    | mul =>
      refine ⟨_, rfl, rfl, _, rfl, iteF' (by decide +kernel) ?_⟩
      refine ⟨_, rfl, rfl, _, rfl, iteF' (by decide +kernel) ?_⟩
      refine ⟨_, rfl, rfl, _, rfl, iteT' (by decide +kernel) ?_⟩
      exact ⟨_, rfl, _, rfl, _, _, rfl, rfl, .inl sa, _, rfl, q trivial⟩
    | div =>
      refine ⟨_, rfl, rfl, _, rfl, iteF' (by decide +kernel) ?_⟩
      refine ⟨_, rfl, rfl, _, rfl, iteF' (by decide +kernel) ?_⟩
      refine ⟨_, rfl, rfl, _, rfl, iteF' (by decide +kernel) ?_⟩
      refine ⟨_, rfl, _, rfl, b, rfl, fun z => qe (fun y => y z), fun z => ?_⟩
      exact ⟨_, _, rfl, rfl, .inl sa, _, rfl, q z⟩

/-! ### 4. The law's own small defs -/
abbrev sCell : Stmt := top 13
/-- the j-th number of the script, 0 behind its end -/
def cl (ns : List Int) (j : Int) : Int := if j < (ns.length : Int) then ns.getD j.toNat 0 else 0
theorem cl_at {ns : List Int} {j : Int} (h0 : 0 ≤ j) (h : j < (ns.length : Int)) : atI (ns.map V.int) j = some (.int (cl ns j)) := by
  have e : j = ((j.toNat : Nat) : Int) := by omega
  have hk : j.toNat < ns.length := by omega
  have q : atI (ns.map V.int) ((j.toNat : Nat) : Int) = some (.int ns[j.toNat]) := atI_nat (by rw [List.getElem?_map, List.getElem?_eq_getElem hk] <;> rfl)
  unfold cl
  rw [if_pos h, List.getD_eq_getElem?_getD, List.getElem?_eq_getElem hk]
  rw [← e] at q
  exact q
def spCellF (K : PySem.W.Frag) : Sp := fun vs H Q _ => ∃ (a : Addr) (ns : List Int) (j : Int), vs = [.ref a, .int j] ∧ SqL K H a (ns.map V.int) ∧ 0 ≤ j ∧ Q (.int (cl ns j)) H
theorem scCell : FnScope ["script", "at"] ["script", "at"] (defScope sCell) := ⟨rfl, rfl, rfl, by decide +kernel, rfl, by decide +kernel, by decide +kernel⟩
theorem ok_cell {f : Addr} {fd : FuncData} (F : Fun K "_law_cell" "_law_cell" sCell f fd) (ml : mg "len" = none) : FnOk P w K mg base CX0 1 f fd ["script", "at"] (spCellF K) := by
  refine F.ok scCell (fun vs H Q E h => ?_) (fun cdv A outer s H vs Q E hr h => ?_)
  · obtain ⟨a, ns, j, rfl, _⟩ := h
    rfl
  · obtain ⟨a, ns, j, rfl, hS, h0, q⟩ := h
    refine ⟨_, pss_cons (ps_if (pt_cmpR op_lt (pv 1) (pe_callB call_len_seq rfl ml PySem.boot_len (pa_cons (pv 0) pa_nil)) (nomark _)) (pss_one (ps_ret (pe_ix ix_list (pv 0) (pv 1) (fun _ _ => rfl)))) pss_nil)
      (pss_one (ps_ret pe_int)), ?_⟩
    refine ⟨_, rfl, _, rfl, a, _, rfl, .inl hS, _, _, rfl, rfl, _, rfl, ?_⟩
    rw [List.length_map]
    by_cases c : j < (ns.length : Int)
    · refine iteT' (decide_eq_true c) ?_
      exact ⟨_, rfl, _, rfl, a, _, _, _, rfl, rfl, hS, cl_at h0 c, q⟩
    · refine iteF' (decide_eq_false c) ?_
      have e : cl ns j = 0 := if_neg c
      rw [e] at q
      exact q

/-! ### 4. Pairs -/
abbrev sDua : Stmt := top 8
/-- a number of the field -/
def Nm (a : Int) : Prop := 0 ≤ a ∧ a < 2147483647
theorem Nm.small {a : Int} (h : Nm a) : Small a := ⟨by have := h.1; omega, by have := h.2; omega⟩
theorem Nm.self {a : Int} (h : Nm a) : a % 2147483647 = a := by have := h.1; have := h.2; omega
theorem cmb_nm (o : Op) (a b : Int) : Nm (cmb o a b) := cmb_in o a b
theorem nm_mod (n : Int) : Nm (n % 2147483647) := ⟨Int.emod_nonneg _ (by decide), Int.emod_lt_of_pos _ (by decide)⟩
theorem same_new {H : Hp} {p : Addr} (h : H p = none) (o : HO) : Same H (upd H p o) := fun b u q => by rw [upd_ne (ne_of_none q h)]; exact q
/-- the slope, before it is reduced -/
noncomputable def raw : Op → Int → Int → Int → Int → Int
  | .add, _, b, _, d => b + d
  | .sub, _, b, _, d => b - d
  | .mul, a, b, c, d => a * d + b * c
  | .div, a, b, c, d => (b - cmb .div a c * d) * inv c
noncomputable def dsl (o : Op) (a b c d : Int) : Int := raw o a b c d % 2147483647
theorem dsl_nm (o : Op) (a b c d : Int) : Nm (dsl o a b c d) := nm_mod _
theorem rest (x : Int) : ∃ q : Int, x % 2147483647 = x + 2147483647 * q := ⟨-(x / 2147483647), by have := Int.emod_add_mul_ediv x 2147483647; omega⟩
theorem gone {x : Int} (h : ∃ r : Int, x = 2147483647 * r) : x % 2147483647 = 0 := by
  obtain ⟨r, rfl⟩ := h
  exact Int.mul_emod_right _ _
theorem dsl_sum (o : Op) (a b c d e f : Int) : (dsl o a ((b + e) % 2147483647) c ((d + f) % 2147483647) - (dsl o a b c d + dsl o a e c f)) % 2147483647 = 0 := by
  obtain ⟨q1, h1⟩ := rest (b + e)
  obtain ⟨q2, h2⟩ := rest (d + f)
  rw [h1, h2]
  unfold dsl
  obtain ⟨q3, h3⟩ := rest (raw o a (b + e + 2147483647 * q1) c (d + f + 2147483647 * q2))
  obtain ⟨q4, h4⟩ := rest (raw o a b c d)
  obtain ⟨q5, h5⟩ := rest (raw o a e c f)
  rw [h3, h4, h5]
  apply gone
  cases o with
  | add => exact ⟨q1 + q2 + q3 - q4 - q5, by simp only [raw]; grind⟩
  | sub => exact ⟨q1 - q2 + q3 - q4 - q5, by simp only [raw]; grind⟩
  | mul => exact ⟨a * q2 + q1 * c + q3 - q4 - q5, by simp only [raw]; grind⟩
  | div =>
    refine ⟨(q1 - cmb .div a c * q2) * inv c + q3 - q4 - q5, ?_⟩
    simp only [raw]
    generalize cmb .div a c = v
    generalize inv c = i
    grind
theorem dsl_many (o : Op) (a b c d k : Int) : (dsl o a ((k * b) % 2147483647) c ((k * d) % 2147483647) - k * dsl o a b c d) % 2147483647 = 0 := by
  obtain ⟨q1, h1⟩ := rest (k * b)
  obtain ⟨q2, h2⟩ := rest (k * d)
  rw [h1, h2]
  unfold dsl
  obtain ⟨q3, h3⟩ := rest (raw o a (k * b + 2147483647 * q1) c (k * d + 2147483647 * q2))
  obtain ⟨q4, h4⟩ := rest (raw o a b c d)
  rw [h3, h4]
  apply gone
  cases o with
  | add => exact ⟨q1 + q2 + q3 - k * q4, by simp only [raw]; grind⟩
  | sub => exact ⟨q1 - q2 + q3 - k * q4, by simp only [raw]; grind⟩
  | mul => exact ⟨a * q2 + q1 * c + q3 - k * q4, by simp only [raw]; grind⟩
  | div =>
    refine ⟨(q1 - cmb .div a c * q2) * inv c + q3 - k * q4, ?_⟩
    simp only [raw]
    generalize cmb .div a c = v
    generalize inv c = i
    grind
theorem dsl_back {a b c d : Int} (h : c % 2147483647 ≠ 0) : (dsl .div a b c d * c + cmb .div a c * d - b) % 2147483647 = 0 := by
  unfold dsl
  obtain ⟨q1, h1⟩ := rest (raw .div a b c d)
  obtain ⟨q2, h2⟩ := rest (inv c * c)
  rw [(inv_is h).one] at h2
  rw [h1]
  apply gone
  refine ⟨q1 * c - q2 * (b - cmb .div a c * d), ?_⟩
  simp only [raw]
  generalize cmb .div a c = v at *
  generalize inv c = i at *
  grind
/-- the rows of the operation's slope without a division -/
theorem dsl_same {o : Op} {a b c d x : Int} (h : raw o a b c d = x) : (dsl o a b c d - x) % 2147483647 = 0 := by
  unfold dsl
  rw [h]
  omega
def spDua (K : PySem.W.Frag) (C : Addr) : Sp := fun vs H Q E => ∃ (o : Op) (p1 p2 : Addr) (a b c d : Int), vs = [.str o.str, .ref p1, .ref p2] ∧ SqT K H p1 [.int a, .int b] ∧ SqT K H p2 [.int c, .int d] ∧ Nm a ∧ Nm b ∧ Nm c ∧ Nm d ∧
  (¬ o.fine c → E (.ref C) none H) ∧ (o.fine c → ∀ p, H p = none → Q (.ref p) (upd H p (.tup [.int (cmb o a c), .int (dsl o a b c d)])))
theorem scDua : FnScope ["op", "first", "second", "a", "b", "c", "d", "value", "slope"] ["op", "first", "second"] (defScope sDua) := ⟨rfl, rfl, rfl, by decide +kernel, rfl, by decide +kernel, by decide +kernel⟩
theorem ok_dua {f fR fI fM : Addr} {fd fdR fdI fdM : FuncData} (F : Fun K "combine_duals" "combine_duals" sDua f fd) (GR : FnOk P w K mg base CX0 1 fR fdR ["n"] spRed) (bR : Binds K fdR ["n"] []) (kR : PySem.W.keepIn K (.ref fR) = true) (mR : mg "reduce_number" = some (.ref fR))
    (GI : FnOk P w K mg base (L2.CX P w) 2 fI fdI ["number"] (spInv C)) (bI : Binds K fdI ["number"] []) (kI : PySem.W.keepIn K (.ref fI) = true) (mI : mg "inverse" = some (.ref fI))
    (GM : FnOk P w K mg base (L2.CX P w) 3 fM fdM ["op", "first", "second"] (spCmb C)) (bM : Binds K fdM ["op", "first", "second"] []) (kM : PySem.W.keepIn K (.ref fM) = true) (mM : mg "combine" = some (.ref fM)) :
    FnOk P w K mg base (L2.CX P w) 4 f fd ["op", "first", "second"] (spDua K C) := by
  refine F.okX scDua (fun vs H Q E h => ?_) (fun cdv A outer s H vs Q E hr h => ?_)
  · obtain ⟨o, p1, p2, a, b, c, d, rfl, _⟩ := h
    rfl
  · obtain ⟨o, p1, p2, a, b, c, d, rfl, t1, t2, na, nb, nc, nd, qe, q⟩ := h
    have hr1 : Room 1 _ := hr.mono (by decide)
    have hr2 : Room 2 _ := hr.mono (by decide)
    refine ⟨_, pss_cons (ps_asg (pv 1) (pg_tup (by rfl) (pgs_cons (pg_name (i := 3) scDua.nd rfl (.inl rfl)) (pgs_cons (pg_name (i := 4) scDua.nd rfl (.inl rfl)) pgs_nil))))
      (pss_cons (ps_asg (pv 2) (pg_tup (by rfl) (pgs_cons (pg_name (i := 5) scDua.nd rfl (.inl rfl)) (pgs_cons (pg_name (i := 6) scDua.nd rfl (.inl rfl)) pgs_nil))))
      (pss_cons (ps_set (i := 7) scDua.nd rfl (Or.inl rfl) (pe_call GM hr rfl mM kM bM .nil (passes_call (takes_of rfl rfl rfl rfl) (fun _ _ _ _ h => h)) (pa_cons (pv 0) (pa_cons (pv 3) (pa_cons (pv 5) pa_nil)))))
      (pss_cons (ps_if (pt_cmpR op_eq (pv 0) pe_str (nomark _)) (pss_one (ps_set (i := 8) scDua.nd rfl (Or.inl rfl) (pe_op op_add (pv 4) (pv 6))))
        (pss_one (ps_if (pt_cmpR op_eq (pv 0) pe_str (nomark _)) (pss_one (ps_set (i := 8) scDua.nd rfl (Or.inl rfl) (pe_op op_sub (pv 4) (pv 6))))
          (pss_one (ps_if (pt_cmpR op_eq (pv 0) pe_str (nomark _)) (pss_one (ps_set (i := 8) scDua.nd rfl (Or.inl rfl) (pe_op op_add (pe_op op_mul (pv 3) (pv 6)) (pe_op op_mul (pv 4) (pv 5)))))
            (pss_one (ps_set (i := 8) scDua.nd rfl (Or.inl rfl) (pe_op op_mul (pe_op op_sub (pv 4) (pe_op op_mul (pv 7) (pv 6))) (pe_call GI hr2 rfl mI kI bI .nil (passes_call (takes_of rfl rfl rfl rfl) (fun _ _ _ _ h => h)) (pa_cons (pv 5) pa_nil))))))))))
      (pss_one (ps_ret (pe_tup (pa_cons (pv 7) (pa_cons (pe_call GR hr1 rfl mR kR bR .nil pass0 (pa_cons (pv 8) pa_nil)) pa_nil)))))))), ?_⟩
    refine ⟨_, rfl, p1, _, rfl, t1, rfl, _, _, rfl, _, _, rfl, rfl, ?_⟩
    refine ⟨_, rfl, p2, _, rfl, t2, rfl, _, _, rfl, _, _, rfl, rfl, ?_⟩
    refine ⟨_, rfl, _, rfl, _, rfl, o, a, c, rfl, na.small, qe, fun fc => ?_⟩
    have q' := q fc
    have two : 2 ≤ sizeLine := by decide
    cases o with
    | add =>
      refine ⟨_, rfl, rfl, _, rfl, iteT' (by decide +kernel) ?_⟩
      exact ⟨_, rfl, _, rfl, _, _, rfl, rfl, _, rfl, _, rfl, _, rfl, two, q'⟩
    | sub =>
      refine ⟨_, rfl, rfl, _, rfl, iteF' (by decide +kernel) ?_⟩
      refine ⟨_, rfl, rfl, _, rfl, iteT' (by decide +kernel) ?_⟩
      exact ⟨_, rfl, _, rfl, _, _, rfl, rfl, _, rfl, _, rfl, _, rfl, two, q'⟩
    | mul =>
      refine ⟨_, rfl, rfl, _, rfl, iteF' (by decide +kernel) ?_⟩
      refine ⟨_, rfl, rfl, _, rfl, iteF' (by decide +kernel) ?_⟩
      refine ⟨_, rfl, rfl, _, rfl, iteT' (by decide +kernel) ?_⟩
      exact ⟨_, rfl, _, rfl, _, _, rfl, rfl, .inl na.small, _, rfl, _, rfl, _, _, rfl, rfl, .inl nb.small, _, _, rfl, rfl, _, rfl, _, rfl, _, rfl, two, q'⟩
    | div =>
      refine ⟨_, rfl, rfl, _, rfl, iteF' (by decide +kernel) ?_⟩
      refine ⟨_, rfl, rfl, _, rfl, iteF' (by decide +kernel) ?_⟩
      refine ⟨_, rfl, rfl, _, rfl, iteF' (by decide +kernel) ?_⟩
      have ni : Nm (inv c) := inv_in fc
      exact ⟨_, rfl, _, rfl, _, rfl, _, _, rfl, rfl, .inl (cmb_nm .div a c).small, _, _, rfl, rfl, _, rfl, c, rfl, fun z => absurd z fc, fun _ => ⟨_, _, rfl, rfl, .inr ni.small, _, rfl, _, rfl, _, rfl, two, q'⟩⟩

/-! ### zip of a list and a tuple: the library has the two kinds alone; here the two sides are any drawn iterators -/
namespace Mz
open PySem PySem.Spec PyProof.Rows L2
open PySem.Sem (wp)
/-- what stands apart for the zip at z, its pair of iterators TI, its kept pair TO -/
structure Far (z TI TO i1 i2 : Addr) (f1 f2 : List Addr) : Prop where
  a1 : TI ≠ z
  a2 : TO ≠ z
  a3 : i1 ≠ z
  a4 : i2 ≠ z
  a5 : TI ≠ TO
  a6 : TI ≠ i1
  a7 : TI ≠ i2
  a8 : TO ≠ i1
  a9 : TO ≠ i2
  b1 : i1 ≠ i2
  b2 : z ∉ f1 ∧ TO ∉ f1 ∧ i2 ∉ f1
  b3 : z ∉ f2 ∧ TO ∉ f2 ∧ i1 ∉ f2
theorem notmem {x y : Addr} {l : List Addr} (h : x ∉ l) (hy : y ∈ l) : y ≠ x := fun e => h (e ▸ hy)
section
variable {prog : Program} {w : World} {A : Around} {E : Value → Shared → Prop} {s : Shared} {z TI TO i1 i2 : Addr} {f1 f2 : List Addr} {n1 n2 : Nat} {P1 P2 : Nat → Value → Prop} {S1 S2 : Nat → Heap → Prop}
theorem keepD {it : Addr} {fp : List Addr} {n : Nat} {Pd : Nat → Value → Prop} {Sd : Nat → Heap → Prop} (D : Draws prog w A it fp n Pd Sd) {c : Addr} (hc : c ∉ fp) {h h' : Heap} (b : Heap.ExtBut c h h') {k : Nat} (x : Sd k h) : Sd k h' :=
  D.frame k h h' x fun d hd o e => b d o (notmem hc hd) e
/-- both sides have one more -/
theorem step_pair (G : Far z TI TO i1 i2 f1 f2) (D1 : Draws prog w A i1 f1 n1 P1 S1) (D2 : Draws prog w A i2 f2 n2 P2 S2) {k1 k2 : Nat} {a b : Value} {Q : Value → Shared → Prop}
    (hz : IsZip s.heap z TI TO .none) (hTI : IsPair s.heap TI (.ref i1) (.ref i2)) (hTO : IsPair s.heap TO a b) (x1 : S1 k1 s.heap) (x2 : S2 k2 s.heap) (l1 : k1 < n1) (l2 : k2 < n2)
    (hQ : ∀ x y h' tk, P1 k1 x → P2 k2 y → IsZip h' z TI TO (rawInt s.heap.objs.size) → IsPair h' TO x y → S1 (k1 + 1) h' → S2 (k2 + 1) h' → IsPair h' s.heap.objs.size x y →
      (∀ c o, c ≠ z → c ≠ TO → c ≠ i1 → c ≠ i2 → s.heap.get? c = some o → h'.get? c = some o) → Q (.ref s.heap.objs.size) { s with heap := h', toks := tk }) :
    wpAny (model prog w) A (Builtin.«zip.__next__» ⟨[.ref z], []⟩) (fun fin s' => ∃ v, fin = .done (.ret v) ∧ Q v s') E s := by
  show wpAny _ _ (field (.ref z) 2 >>= _) _ _ _; refine wpAny_bind (wpAny_field hz rfl (x := .bool false) rfl ?_)
  show wpAny _ _ (field (.ref z) 3 >>= _) _ _ _; refine wpAny_bind (wpAny_field hz rfl (x := .ref TI) rfl (wpAny_bind (wpAny_seqItems hTI rfl ?_)))
  show wpAny _ _ (Builtin.SmallTypes.ownedTupleIsFree (.ref z) >>= _) _ _ _; refine wpAny_bind ?_
  unfold Builtin.SmallTypes.ownedTupleIsFree; refine wpAny_bind (wpAny_field hz rfl (x := .none) rfl (wpAny_pure ?_)); simp only [if_true]
  refine wpAny_bind (wpAny_rule (wpAny_bind (wpAny_field hz rfl (x := .ref TO) rfl (wpAny_bind (wpAny_setField_rec hz (by simp) fun g1 u1 c1 => ?_)))))
  replace u1 : IsZip g1 z TI TO .ellipsis := u1
  refine wpAny_bind ?_; simp only [List.zipIdx_cons, List.zipIdx_nil, List.forIn_cons, List.forIn_nil]
  refine wpAny_bind (wpAny_bind (wpAny_onRaise ?_)); show wpAny _ _ (Builtin.SmallTypes.nextOf (.ref i1) >>= _) _ _ _
  refine wpAny_bind (D1.item k1 _ _ _ l1 (keepD D1 G.b2.1 c1.extBut x1) fun x g2 t2 px y1 c2 => wpAny_pure ?_)
  have v2 : IsPair g2 TO a b := c2.extBut _ _ G.a8 (c1.extBut _ _ G.a2 hTO)
  refine wpAny_bind (wpAny_seqItems v2 rfl (wpAny_bind (wpAny_updateSeq_pair v2 fun g3 v3 c3 => ?_)))
  replace v3 : IsPair g3 TO x b := v3
  refine wpAny_bind (wpAny_letGo (wpAny_pure (wpAny_bind (wpAny_bind (wpAny_onRaise ?_))))); show wpAny _ _ (Builtin.SmallTypes.nextOf (.ref i2) >>= _) _ _ _
  refine wpAny_bind (D2.item k2 _ _ _ l2 (keepD D2 G.b3.2.1 c3.extBut (keepD D2 G.b3.2.2 c2.extBut (keepD D2 G.b3.1 c1.extBut x2))) fun y g4 t4 py y2 c4 => wpAny_pure ?_)
  have v4 : IsPair g4 TO x b := c4.extBut _ _ G.a9 v3
  refine wpAny_bind (wpAny_seqItems v4 rfl (wpAny_bind (wpAny_updateSeq_pair v4 fun g5 v5 c5 => ?_)))
  replace v5 : IsPair g5 TO x y := v5
  refine wpAny_bind (wpAny_letGo (wpAny_pure (wpAny_pure (wpAny_bind (wpAny_seqItems v5 rfl (wpAny_bind (wpAny_newTuple ?_)))))))
  have sz : g5.objs.size = s.heap.objs.size := (c5.1.trans (c4.1.trans (c3.1.trans (c2.1.trans c1.1))))
  have u5 : IsZip g5 z TI TO .ellipsis := c5.extBut _ _ G.a2.symm (c4.extBut _ _ G.a4.symm (c3.extBut _ _ G.a2.symm (c2.extBut _ _ G.a3.symm u1)))
  have all5 : ∀ c o, c ≠ z → c ≠ TO → c ≠ i1 → c ≠ i2 → s.heap.get? c = some o → g5.get? c = some o := fun c o d1 d2 d3 d4 e => c5.extBut _ _ d2 (c4.extBut _ _ d4 (c3.extBut _ _ d2 (c2.extBut _ _ d3 (c1.extBut _ _ d1 e))))
  have w1 : S1 (k1 + 1) g5 := keepD D1 G.b2.2.1 c5.extBut (keepD D1 G.b2.2.2 c4.extBut (keepD D1 G.b2.2.1 c3.extBut y1))
  have w2 : S2 (k2 + 1) g5 := keepD D2 G.b3.2.1 c5.extBut y2
  have zl : z < g5.objs.size := Heap.lt_size u5
  show wpAny _ _ (Builtin.SmallTypes.ownedTupleHandOut (.ref z) (.ref g5.objs.size) >>= _) _ _ _; refine wpAny_bind ?_
  unfold Builtin.SmallTypes.ownedTupleHandOut
  have u6 : IsZip (g5.push { cls := .type "tuple", data := .seq #[x, y] }) z TI TO .ellipsis := Heap.get?_push_of_some _ u5
  refine wpAny_bind (wpAny_setField_rec u6 (by simp) fun g7 u7 c7 => ?_)
  replace u7 : IsZip g7 z TI TO (rawInt g5.objs.size) := u7
  refine wpAny_setField_rec u7 (by simp) fun g8 u8 c8 => ?_
  replace u8 : IsZip g8 z TI TO (rawInt g5.objs.size) := u8
  have up : ∀ c o, c ≠ z → g5.get? c = some o → g8.get? c = some o := fun c o d e => c8.extBut _ _ d (c7.extBut _ _ d (Heap.get?_push_of_some _ e))
  have pr : IsPair g8 g5.objs.size x y := c8.extBut _ _ (Nat.ne_of_gt zl) (c7.extBut _ _ (Nat.ne_of_gt zl) (Heap.get?_push_size _ rfl))
  rw [sz] at u8 pr
  refine wpAny_pure ⟨_, rfl, ?_⟩
  show Q (.ref g5.objs.size) _
  rw [sz]
  exact hQ x y g8 t4 px py u8 (up _ _ G.a2 v5) (D1.frame _ _ _ w1 fun d hd o e => up d o (notmem G.b2.1 hd) e) (D2.frame _ _ _ w2 fun d hd o e => up d o (notmem G.b3.1 hd) e) pr fun c o d1 d2 d3 d4 e => up c o d1 (all5 c o d1 d2 d3 d4 e)
/-- one side has no more -/
theorem step_end (G : Far z TI TO i1 i2 f1 f2) (D1 : Draws prog w A i1 f1 n1 P1 S1) (D2 : Draws prog w A i2 f2 n2 P2 S2) {k1 k2 : Nat} {a b : Value} {Q : Fin → Shared → Prop}
    (hz : IsZip s.heap z TI TO .none) (hTI : IsPair s.heap TI (.ref i1) (.ref i2)) (hTO : IsPair s.heap TO a b) (x1 : S1 k1 s.heap) (x2 : S2 k2 s.heap) (hend : k1 = n1 ∨ (k1 < n1 ∧ k2 = n2))
    (hE : ∀ h' e tk, (∀ c o, c ≠ z → c ≠ TO → c ≠ i1 → c ≠ i2 → s.heap.get? c = some o → h'.get? c = some o) → (∃ o, h'.get? e = some o ∧ o.cls = .type "StopIteration") → E (.ref e) { s with heap := h', toks := tk }) :
    wpAny (model prog w) A (Builtin.«zip.__next__» ⟨[.ref z], []⟩) Q E s := by
  show wpAny _ _ (field (.ref z) 2 >>= _) _ _ _; refine wpAny_bind (wpAny_field hz rfl (x := .bool false) rfl ?_)
  show wpAny _ _ (field (.ref z) 3 >>= _) _ _ _; refine wpAny_bind (wpAny_field hz rfl (x := .ref TI) rfl (wpAny_bind (wpAny_seqItems hTI rfl ?_)))
  show wpAny _ _ (Builtin.SmallTypes.ownedTupleIsFree (.ref z) >>= _) _ _ _; refine wpAny_bind ?_
  unfold Builtin.SmallTypes.ownedTupleIsFree; refine wpAny_bind (wpAny_field hz rfl (x := .none) rfl (wpAny_pure ?_)); simp only [if_true]
  refine wpAny_bind (wpAny_rule (wpAny_bind (wpAny_field hz rfl (x := .ref TO) rfl (wpAny_bind (wpAny_setField_rec hz (by simp) fun g1 u1 c1 => ?_)))))
  replace u1 : IsZip g1 z TI TO .ellipsis := u1
  refine wpAny_bind ?_; simp only [List.zipIdx_cons, List.zipIdx_nil, List.forIn_cons, List.forIn_nil]
  refine wpAny_bind (wpAny_bind (wpAny_onRaise ?_)); show wpAny _ _ (Builtin.SmallTypes.nextOf (.ref i1) >>= _) _ _ _
  rcases hend with q | ⟨l1, q⟩
  · subst q
    refine wpAny_bind (D1.done _ _ _ (keepD D1 G.b2.1 c1.extBut x1) fun g2 e c2 he => ?_)
    obtain ⟨oe, ge, ce⟩ := he
    have u2 : IsZip g2 z TI TO .ellipsis := c2 _ _ G.a3.symm u1
    have ez : e ≠ z := fun q => by subst q; rw [u2] at ge; cases ge; simp at ce
    exact wpAny_setField_rec u2 (by simp) fun g3 _ c3 => hE g3 e s.toks (fun c o d1 _ d3 _ x => c3.extBut _ _ d1 (c2 _ _ d3 (c1.extBut _ _ d1 x))) ⟨oe, c3.extBut _ _ ez ge, ce⟩
  · subst q
    refine wpAny_bind (D1.item k1 _ _ _ l1 (keepD D1 G.b2.1 c1.extBut x1) fun x g2 t2 px y1 c2 => wpAny_pure ?_)
    have v2 : IsPair g2 TO a b := c2.extBut _ _ G.a8 (c1.extBut _ _ G.a2 hTO)
    refine wpAny_bind (wpAny_seqItems v2 rfl (wpAny_bind (wpAny_updateSeq_pair v2 fun g3 v3 c3 => ?_)))
    refine wpAny_bind (wpAny_letGo (wpAny_pure (wpAny_bind (wpAny_bind (wpAny_onRaise ?_))))); show wpAny _ _ (Builtin.SmallTypes.nextOf (.ref i2) >>= _) _ _ _
    refine wpAny_bind (D2.done _ _ _ (keepD D2 G.b3.2.1 c3.extBut (keepD D2 G.b3.2.2 c2.extBut (keepD D2 G.b3.1 c1.extBut x2))) fun g4 e c4 he => ?_)
    obtain ⟨oe, ge, ce⟩ := he
    have u4 : IsZip g4 z TI TO .ellipsis := c4 _ _ G.a4.symm (c3.extBut _ _ G.a2.symm (c2.extBut _ _ G.a3.symm u1))
    have ez : e ≠ z := fun q => by subst q; rw [u4] at ge; cases ge; simp at ce
    exact wpAny_setField_rec u4 (by simp) fun g5 _ c5 => hE g5 e t2 (fun c o d1 d2 d3 d4 x => c5.extBut _ _ d1 (c4 _ _ d4 (c3.extBut _ _ d2 (c2.extBut _ _ d3 (c1.extBut _ _ d1 x))))) ⟨oe, c5.extBut _ _ ez ge, ce⟩
theorem next_pair (G : Far z TI TO i1 i2 f1 f2) (D1 : Draws prog w A.in1 i1 f1 n1 P1 S1) (D2 : Draws prog w A.in1 i2 f2 n2 P2 S2) {k1 k2 : Nat} {a b : Value} {Q : Option Value → Shared → Prop}
    (hz : IsZip s.heap z TI TO .none) (hTI : IsPair s.heap TI (.ref i1) (.ref i2)) (hTO : IsPair s.heap TO a b) (x1 : S1 k1 s.heap) (x2 : S2 k2 s.heap) (l1 : k1 < n1) (l2 : k2 < n2)
    (hQ : ∀ x y h' tk, P1 k1 x → P2 k2 y → IsZip h' z TI TO (rawInt s.heap.objs.size) → IsPair h' TO x y → S1 (k1 + 1) h' → S2 (k2 + 1) h' → IsPair h' s.heap.objs.size x y →
      (∀ c o, c ≠ z → c ≠ TO → c ≠ i1 → c ≠ i2 → s.heap.get? c = some o → h'.get? c = some o) → Q (some (.ref s.heap.objs.size)) { s with heap := h', toks := tk }) :
    wpAny (model prog w) A (pyNext (.ref z)) Q E s := by
  have hT : s.TypeIs (.ref z) "zip" := ⟨_, hz, rfl⟩
  unfold pyNext
  exact wpAny_bind (wpAny_attempt (wpAny_callSpecial?_slot (name := Str.ofString "__next__") hT F.slot_zip_next (wpAny_call_entry F.slot_zip_next hT F.entry_zip_next
    (step_pair G D1 D2 hz hTI hTO x1 x2 l1 l2 fun x y h' tk p1 p2 p3 p4 p5 p6 p7 p8 => wpAny_pure (hQ x y h' tk p1 p2 p3 p4 p5 p6 p7 p8)) (F.args_zip_next_1 _))))
theorem next_end (G : Far z TI TO i1 i2 f1 f2) (D1 : Draws prog w A.in1 i1 f1 n1 P1 S1) (D2 : Draws prog w A.in1 i2 f2 n2 P2 S2) {k1 k2 : Nat} {a b : Value} {Q : Option Value → Shared → Prop}
    (hz : IsZip s.heap z TI TO .none) (hTI : IsPair s.heap TI (.ref i1) (.ref i2)) (hTO : IsPair s.heap TO a b) (x1 : S1 k1 s.heap) (x2 : S2 k2 s.heap) (hend : k1 = n1 ∨ (k1 < n1 ∧ k2 = n2))
    (hQ : ∀ h' tk, (∀ c o, c ≠ z → c ≠ TO → c ≠ i1 → c ≠ i2 → s.heap.get? c = some o → h'.get? c = some o) → Q none { s with heap := h', toks := tk }) : wpAny (model prog w) A (pyNext (.ref z)) Q E s := by
  have hT : s.TypeIs (.ref z) "zip" := ⟨_, hz, rfl⟩
  unfold pyNext
  refine wpAny_bind (wpAny_attempt (wpAny_callSpecial?_slot (name := Str.ofString "__next__") hT F.slot_zip_next (wpAny_call_entry F.slot_zip_next hT F.entry_zip_next (step_end G D1 D2 hz hTI hTO x1 x2 hend fun h' e tk hk he => ?_) (F.args_zip_next_1 _))))
  obtain ⟨o, ho, hc⟩ := he
  exact wpAny_bind (wpAny_isInstance (T := "StopIteration") (b := true) ⟨o, ho, hc⟩ isSubtype_stop (wpAny_pure (hQ _ _ hk)))
end
section
variable {prog : Program} {w : World} {A : Around}
/-- a tuple's iterator draws -/
theorem draws_tuple (hh : A.handled = none) (it l : Addr) (hne : l ≠ it) (items : Array Value) :
    Draws prog w A it [it, l] items.size (fun i v => items[i]? = some v) (fun i h => h.IsTupleIter it l i ∧ h.IsTuple l items) where
  live := fun _ _ x => let ⟨o, ho, _⟩ := x.1; ⟨o, ho⟩
  frame := fun _ _ _ x k => ⟨x.1.at fun o e => k it (List.mem_cons_self ..) o e, x.2.at fun o e => k l (List.mem_cons_of_mem _ (List.mem_cons_self ..)) o e⟩
  item := fun i s Q E hi x k => RZ.nextOf_tuple_item x.1 x.2 (x := items[i]) (by simp [hi]) fun h' y c => k _ h' s.toks (by simp [hi]) ⟨y, x.2.extBut c.extBut hne⟩ c
  done := fun s Q E x k => RZ.nextOf_tuple_end hh x.1 x.2 (by simp) k
end
theorem far_of {z TI TO i1 i2 a b : Addr} (D : ZipApart z TI TO i1 i2 a b) : Far z TI TO i1 i2 [i1, a] [i2, b] :=
  ⟨D.TIz, D.TOz, D.i1z, D.i2z, D.TITO, D.TIi1, D.TIi2, D.TOi1, D.TOi2, D.i12,
    ⟨by simp [D.i1z.symm, D.l1z.symm], by simp [D.TOi1, D.l1TO.symm], by simp [D.i12.symm, D.l1i2.symm]⟩,
    ⟨by simp [D.i2z.symm, D.l2z.symm], by simp [D.TOi2, D.l2TO.symm], by simp [D.i12, D.l2i1.symm]⟩⟩
/-! #### the new zip object -/
abbrev K1 (h : Heap) (a : Addr) : Heap := h.push { cls := .type "list_iterator", data := .fields #[.ref a, .int 0 0] }
abbrev K2 (h : Heap) (a b : Addr) : Heap := (K1 h a).push { cls := .type "tuple_iterator", data := .fields #[.ref b, .int 0 0] }
abbrev K3 (h : Heap) (a b : Addr) : Heap := (K2 h a b).push { cls := .type "tuple", data := .seq #[.ref h.objs.size, .ref (K1 h a).objs.size] }
abbrev K4 (h : Heap) (a b : Addr) : Heap := (K3 h a b).push { cls := .type "tuple", data := .seq #[.none, .none] }
abbrev K5 (h : Heap) (a b : Addr) : Heap := (K4 h a b).push { cls := .type "zip", data := .fields #[.none, .bool false, .bool false, .ref (K2 h a b).objs.size, .ref (K3 h a b).objs.size] }
theorem meets_new (a b : Addr) (xs ys : Array Value) :
    Meets (Builtin.«zip.__new__» ⟨[.type "zip", .ref a, .ref b], []⟩) (fun _ R s => s.heap.IsList a xs ∧ s.heap.IsTuple b ys ∧ R (.ok (.ret (.ref (K4 s.heap a b).objs.size))) { s with heap := K5 s.heap a b }) :=
  .of_wp fun prog w A R s h => by
    obtain ⟨hp, g, d, tk, os⟩ := s; obtain ⟨la, tb, h⟩ := h
    have hsub := sub_zip
    have e1 : Heap.IsList (Shared.heap ⟨hp, g, d, tk, os⟩) a xs := la
    have e2 : Heap.IsTuple (Shared.heap ⟨hp.push { cls := .type "list_iterator", data := .fields #[.ref a, .int 0 0] }, g, d, tk, os⟩) b ys := Heap.IsTuple.push tb _
    wp_walk using wpAny_pyIter_list e1, wpAny_pyIter_tuple e2
    exact ⟨_, rfl, h⟩
theorem call_new {prog : Program} {w : World} {A : Around} {E : Value → Shared → Prop} {s : Shared} {a b : Addr} {xs ys : Array Value} {Q : Value → Shared → Prop} (la : s.heap.IsList a xs) (tb : s.heap.IsTuple b ys)
    (h : ∀ h', IsZip h' (s.heap.objs.size + 4) (s.heap.objs.size + 2) (s.heap.objs.size + 3) .none → IsPair h' (s.heap.objs.size + 2) (.ref s.heap.objs.size) (.ref (s.heap.objs.size + 1)) →
      IsPair h' (s.heap.objs.size + 3) .none .none → h'.IsListIter s.heap.objs.size a 0 → h'.IsTupleIter (s.heap.objs.size + 1) b 0 →
      (∀ c o, s.heap.get? c = some o → h'.get? c = some o) → Q (.ref (s.heap.objs.size + 4)) { s with heap := h' }) :
    wpAny (model prog w) A (call (.type "zip") [.ref a, .ref b]) Q E s := by
  refine callType_new F.called_zip (by decide) (F.typeCall_zip_2 _ _) (F.newCall_zip_2 _ _) (fun obj => F.args_object_init_3 obj _ _) F.entry_zip_new (meets_new a b xs ys) ⟨la, tb, ?_⟩
  have m1 : (K1 s.heap a).objs.size = s.heap.objs.size + 1 := Heap.size_push ..
  have m2 : (K2 s.heap a b).objs.size = s.heap.objs.size + 2 := by rw [Heap.size_push, m1]
  have m3 : (K3 s.heap a b).objs.size = s.heap.objs.size + 3 := by rw [Heap.size_push, m2]
  have m4 : (K4 s.heap a b).objs.size = s.heap.objs.size + 4 := by rw [Heap.size_push, m3]
  have one : ∀ {g : Heap} {o : Obj} {c : Addr} {u : Obj}, g.get? c = some u → (g.push o).get? c = some u := fun e => Heap.get?_push_of_some _ e
  have q5 : (K5 s.heap a b).get? (K4 s.heap a b).objs.size = some _ := Heap.get?_push_size _ rfl
  have q4 : (K5 s.heap a b).get? (K3 s.heap a b).objs.size = some _ := one (Heap.get?_push_size _ rfl)
  have q3 : (K5 s.heap a b).get? (K2 s.heap a b).objs.size = some _ := one (one (Heap.get?_push_size _ rfl))
  have q2 : (K5 s.heap a b).get? (K1 s.heap a).objs.size = some _ := one (one (one (Heap.get?_push_size _ rfl)))
  have q1 : (K5 s.heap a b).get? s.heap.objs.size = some _ := one (one (one (one (Heap.get?_push_size _ rfl))))
  show _ ∧ _
  rw [m2, m3, m4] at q5
  rw [m1, m2] at q3
  rw [m3] at q4
  rw [m1] at q2
  rw [m4]
  exact ⟨⟨_, q5, rfl⟩, h _ q5 q3 q4 ⟨_, q1, rfl, rfl⟩ ⟨_, q2, rfl, rfl⟩ fun c o x => one (one (one (one (one x))))⟩
/-! #### the walk -/
/-- the list at a and the tuple at b as they stand at each turn, the items in new pairs -/
def Itm (K : PySem.W.Frag) (a b : Addr) : It where
  go i H := ∃ (xs ys : List V) (x y : V), SqL K H a xs ∧ SqT K H b ys ∧ xs[i]? = some x ∧ ys[i]? = some y
  yld i H v H' := ∃ T x y, v = .ref T ∧ H T = none ∧ H' = upd H T (.tup [x, y]) ∧ (∀ xs, SqL K H a xs → xs[i]? = some x) ∧ ∀ ys, SqT K H b ys → ys[i]? = some y
  stop i H := ∃ xs ys : List V, SqL K H a xs ∧ SqT K H b ys ∧ (i = xs.length ∨ (i < xs.length ∧ i = ys.length))
theorem five {c z TI TO i1 i2 : Addr} (h : c ∈ [z, TI, TO, i1, i2]) : c = z ∨ c = TI ∨ c = TO ∨ c = i1 ∨ c = i2 := by simpa using h
theorem out5 {c z TI TO i1 i2 : Addr} (h : c ∉ [z, TI, TO, i1, i2]) : c ≠ z ∧ c ≠ TO ∧ c ≠ i1 ∧ c ≠ i2 :=
  ⟨fun e => h (by simp [e]), fun e => h (by simp [e]), fun e => h (by simp [e]), fun e => h (by simp [e])⟩
theorem turn_m {P : Program} {w : World} {K : PySem.W.Frag} {elts : List Expr} {kk : Nat} {tpos : Pos} {a b z TI TO i1 i2 : Addr} (D : ZipApart z TI TO i1 i2 a b) :
    Turn P w K (.Tuple elts kk tpos) (Itm K a b) [z, TI, TO, i1, i2] z (fun i h => IsZip h z TI TO .none ∧ IsPair h TI (.ref i1) (.ref i2) ∧ (∃ x y, IsPair h TO x y) ∧ h.IsListIter i1 a i ∧ h.IsTupleIter i2 b i) where
  mem := List.mem_cons_self ..
  obj := fun i h x c hc => by
    obtain ⟨u, uI, ⟨_, _, uO⟩, ⟨o1, e1, _, d1⟩, ⟨o2, e2, _, d2⟩⟩ := x
    rcases five hc with q | q | q | q | q <;> subst q
    · exact ⟨_, u, fun v q => nomatch q⟩
    · exact ⟨_, uI, fun v q => nomatch q⟩
    · exact ⟨_, uO, fun v q => nomatch q⟩
    · exact ⟨o1, e1, fun v q => by rw [d1] at q; cases q⟩
    · exact ⟨o2, e2, fun v q => by rw [d2] at q; cases q⟩
  keep := fun i h h' x k => by
    obtain ⟨u, uI, ⟨v1, v2, uO⟩, y1, y2⟩ := x
    exact ⟨k _ (by simp) _ u, k _ (by simp) _ uI, ⟨v1, v2, k _ (by simp) _ uO⟩, y1.at fun o e => k _ (by simp) o e, y2.at fun o e => k _ (by simp) o e⟩
  item := by
    intro X e1 e2 e3 hc i pins s σ H E I free x hg
    subst e1 e2 e3
    obtain ⟨u, uI, ⟨v1, v2, uO⟩, y1, y2⟩ := x
    obtain ⟨xs, ys, x, y, sx, sy, gx, gy⟩ := hg
    obtain ⟨us, rv, p1, _⟩ := I.list sx
    obtain ⟨ws, rw', p2, _⟩ := I.tuple sy
    obtain ⟨m, hm, rm⟩ := rv.get gx
    obtain ⟨n, hn, rn⟩ := rw'.get gy
    have zl : z < s.heap.objs.size := Heap.lt_size u
    have lx : i < us.toArray.size := by
      rcases Nat.lt_or_ge i us.length with q | q
      · simpa using q
      · rw [List.getElem?_eq_none q] at hm; cases hm
    have ly : i < ws.toArray.size := by
      rcases Nat.lt_or_ge i ws.length with q | q
      · simpa using q
      · rw [List.getElem?_eq_none q] at hn; cases hn
    refine next_pair (far_of D) (Draws.list (show X.A.in1.handled = none from I.ok.hd hc) i1 a D.l1i1 us.toArray) (draws_tuple (show X.A.in1.handled = none from I.ok.hd hc) i2 b D.l2i2 ws.toArray)
      u uI uO ⟨y1, p1.isList⟩ ⟨y2, p2⟩ lx ly fun m' n' h' tk q1 q2 u' uO' z1 z2 pr keepAll => ?_
    have em : m' = m := by
      have q : us[i]? = some m' := by simpa using q1
      exact Option.some.inj (q.symm.trans hm)
    have en : n' = n := by
      have q : ws[i]? = some n' := by simpa using q2
      exact Option.some.inj (q.symm.trans hn)
    subst em en
    refine ⟨_, rfl, wpAny_letOwnedTupleGo_zip (s := { s with heap := h', toks := tk }) u' fun h2 u2 sb => ?_⟩
    have pr2 : h2.get? s.heap.objs.size = some { cls := .type "tuple", data := .seq #[m', n'] } := (sb.2 _ (Nat.ne_of_gt zl)).trans pr
    have ob : ObjOk X.prog X.w (upd H s.heap.objs.size (.tup [x, y])) h2 s.heap.objs.size (.tup [x, y]) := ⟨(by show 2 ≤ sizeLine; decide), [m', n'], .cons rm (.cons rn .nil), ⟨_, pr2, rfl, _, rfl⟩⟩
    have J : Inv X pins σ (upd H s.heap.objs.size (.tup [x, y])) { s with heap := h2, toks := tk } :=
      I.turnedNew (t' := tk) (ch := [z, TI, TO, i1, i2]) (fun c o hb q => (sb.2 c (out5 hb).1).trans (keepAll c o (out5 hb).1 (out5 hb).2.1 (out5 hb).2.2.1 (out5 hb).2.2.2 q)) free (Nat.le_refl _) ob
    refine ⟨.ref s.heap.objs.size, _, J, rfl, ⟨_, x, y, rfl, I.hok.fresh (Nat.le_refl _), rfl, fun l hl => by rw [I.list_inj hl sx]; exact gx, fun l hl => by rw [I.tuple_inj hl sy]; exact gy⟩, ⟨u2, ?_, ⟨m', n', ?_⟩, ?_, ?_⟩, fun c hm => ?_⟩
    · exact (sb.2 _ D.TIz).trans (keepAll _ _ D.TIz D.TITO D.TIi1 D.TIi2 uI)
    · exact (sb.2 _ D.TOz).trans uO'
    · exact z1.1.at fun o q => (sb.2 _ D.i1z).trans q
    · exact z2.1.at fun o q => (sb.2 _ D.i2z).trans q
    · have lt : c < s.heap.objs.size := by
        obtain ⟨_, g1, _⟩ := y1
        obtain ⟨_, g2, _⟩ := y2
        rcases five hm with q | q | q | q | q <;> subst q
        · exact zl
        · exact Heap.lt_size uI
        · exact Heap.lt_size uO
        · exact Heap.lt_size g1
        · exact Heap.lt_size g2
      rw [upd_ne (Nat.ne_of_lt lt)]
      exact (free c hm).1
  done := by
    intro X e1 e2 e3 hc i pins s σ H E I free x hg
    subst e1 e2 e3
    obtain ⟨u, uI, ⟨v1, v2, uO⟩, y1, y2⟩ := x
    obtain ⟨xs, ys, sx, sy, en⟩ := hg
    obtain ⟨us, rv, p1, _⟩ := I.list sx
    obtain ⟨ws, rw', p2, _⟩ := I.tuple sy
    have l1 := rv.length
    have l2 := rw'.length
    refine next_end (far_of D) (Draws.list (show X.A.in1.handled = none from I.ok.hd hc) i1 a D.l1i1 us.toArray) (draws_tuple (show X.A.in1.handled = none from I.ok.hd hc) i2 b D.l2i2 ws.toArray)
      u uI uO ⟨y1, p1.isList⟩ ⟨y2, p2⟩ (by simp; omega) fun h' tk keepAll => ⟨rfl, I.turnedL (t' := tk) (ch := [z, TI, TO, i1, i2]) (fun c o hb q => keepAll c o (out5 hb).1 (out5 hb).2.1 (out5 hb).2.2.1 (out5 hb).2.2.2 q) free⟩
  self := fun A i s Q E x h => wpAny_pyIter_zip x.1 h
/-- zip of two lists, of two tuples, of a list and a tuple -/
def iZip3 (K : PySem.W.Frag) (ta : TA) : TI := fun σ H R => ta σ H fun vs H1 => ∃ a b xs ys, vs = [V.ref a, V.ref b] ∧
  ((SqL K H1 a xs ∧ SqL K H1 b ys ∧ R (Itz K a b) H1) ∨ (SqT K H1 a xs ∧ SqT K H1 b ys ∧ R (RZ.ItzT K a b) H1) ∨ (SqL K H1 a xs ∧ SqT K H1 b ys ∧ R (Itm K a b) H1))
theorem pi_zip3 {X : Cx} {e e2 : Expr} {ta : TA} {p pos tpos : Pos} {elts : List Expr} {kk : Nat} (hg : Gl X "zip") (hm : X.mg "zip" = none) (ha : PA X [e, e2] ta)
    (hs : starEach [e, e2] X.env = (false, eval e X.env) :: starEach [e2] X.env := by rfl) (hpl : (backTo pos (starEach [e2] X.env)).any (·.1) = false := by rfl) :
    PI X (.Tuple elts kk tpos) (.Call (.Name "zip" p) [e, e2] [] pos) (iZip3 X.K ta) := by
  refine ⟨fun pins s σ H R I h => Call_ (ld_blt I hg hm PyProof.Rows.boot_zip (PyProof.Rows.callWith_type1 (thn (ha.run pos pins s σ H _ I h) fun us s1 ⟨vs, H1, J, r, q⟩ => ?_) hs hpl))⟩
  obtain ⟨a, b, xs, ys, ev, q⟩ := q
  subst ev
  obtain ⟨v1, v2, rfl, r1, r2⟩ := vals2 r
  cases r1
  cases r2
  have young : ∀ c, c ∈ [s1.heap.objs.size + 4, s1.heap.objs.size + 2, s1.heap.objs.size + 3, s1.heap.objs.size, s1.heap.objs.size + 1] → FpOk X pins H1 c := fun c hc => by
    have le : s1.heap.objs.size ≤ c := by rcases five hc with q | q | q | q | q <;> (rw [q]; first | exact Nat.le_add_right _ _ | exact Nat.le_refl _)
    exact J.fpOk le (J.hok.fresh le)
  rcases q with ⟨sx, sy, q⟩ | ⟨sx, sy, q⟩ | ⟨sx, sy, q⟩
  · obtain ⟨us, _, p1, _⟩ := J.list sx
    obtain ⟨ws, _, p2, _⟩ := J.list sy
    refine call_zip_2 p1.isList p2.isList fun h' u uI uO y1 y2 _ keepAll => wpAny_pyIter_zip u ?_
    exact ⟨_, _, _, _, H1, rfl, J.kept (t' := s1.toks) keepAll, turn_zip (PySem.W.ktu_apart s1.heap.objs.size a b p1.lt p2.lt), ⟨u, uI, ⟨_, _, uO⟩, y1, y2⟩, young, q⟩
  · obtain ⟨us, _, p1, _⟩ := J.tuple sx
    obtain ⟨ws, _, p2, _⟩ := J.tuple sy
    obtain ⟨o1, g1, _⟩ := id p1
    obtain ⟨o2, g2, _⟩ := id p2
    refine RZ.call_zipT (show s1.heap.IsTuple a us.toArray from p1) (show s1.heap.IsTuple b ws.toArray from p2) fun h' u uI uO y1 y2 _ keepAll => wpAny_pyIter_zip u ?_
    exact ⟨_, _, _, _, H1, rfl, J.kept (t' := s1.toks) keepAll, RZ.turn_zipT (PySem.W.ktu_apart s1.heap.objs.size a b (Heap.lt_size g1) (Heap.lt_size g2)), ⟨u, uI, ⟨_, _, uO⟩, y1, y2⟩, young, q⟩
  · obtain ⟨us, _, p1, _⟩ := J.list sx
    obtain ⟨ws, _, p2, _⟩ := J.tuple sy
    obtain ⟨o2, g2, _⟩ := id p2
    refine call_new p1.isList (show s1.heap.IsTuple b ws.toArray from p2) fun h' u uI uO y1 y2 keepAll => wpAny_pyIter_zip u ?_
    exact ⟨_, _, _, _, H1, rfl, J.kept (t' := s1.toks) keepAll, turn_m (PySem.W.ktu_apart s1.heap.objs.size a b p1.lt (Heap.lt_size g2)), ⟨u, uI, ⟨_, _, uO⟩, y1, y2⟩, young, q⟩
section
variable {K : PySem.W.Frag} {a b : Addr} {xs ys : List V}
theorem walk_L (hl : xs.length = ys.length) : Walk (Itz K a b) xs.length (fun H => SqL K H a xs ∧ SqL K H b ys) (YPair (fun i => xs[i]?) (fun i => ys[i]?)) := walk_zip (by omega)
theorem walk_T (hl : xs.length = ys.length) : Walk (RZ.ItzT K a b) xs.length (fun H => SqT K H a xs ∧ SqT K H b ys) (YPair (fun i => xs[i]?) (fun i => ys[i]?)) where
  goes i H hi q := ⟨xs, ys, xs[i], ys[i]'(by omega), q.1, q.2, by simp [hi], by simp [show i < ys.length by omega]⟩
  stops H q := ⟨xs, ys, q.1, q.2, .inl (Nat.le_refl _)⟩
  yields i H x H' hi q y := by
    obtain ⟨T, u, v, h1, h2, h3, h4, h5⟩ := y
    exact ⟨T, u, v, h1, h2, h3, h4 _ q.1, h5 _ q.2⟩
theorem walk_M (hl : xs.length = ys.length) : Walk (Itm K a b) xs.length (fun H => SqL K H a xs ∧ SqT K H b ys) (YPair (fun i => xs[i]?) (fun i => ys[i]?)) where
  goes i H hi q := ⟨xs, ys, xs[i], ys[i]'(by omega), q.1, q.2, by simp [hi], by simp [show i < ys.length by omega]⟩
  stops H q := ⟨xs, ys, q.1, q.2, .inl rfl⟩
  yields i H x H' hi q y := by
    obtain ⟨T, u, v, h1, h2, h3, h4, h5⟩ := y
    exact ⟨T, u, v, h1, h2, h3, h4 _ q.1, h5 _ q.2⟩
end
end Mz

abbrev sSha : Stmt := top 9
abbrev sDot : Stmt := top 10
abbrev sBas : Stmt := top 11
/-! ### 5. Shares -/
noncomputable def shL : Op → Int → Int → Int → Int → Int
  | .add, _, _, _, g => g
  | .sub, _, _, _, g => g
  | .mul, _, c, _, g => g * c
  | .div, _, c, _, g => cmb .div g c
noncomputable def shR : Op → Int → Int → Int → Int → Int
  | .add, _, _, _, g => g
  | .sub, _, _, _, g => -g
  | .mul, a, _, _, g => g * a
  | .div, _, c, y, g => -(cmb .div g c) * y
/-- the slope of the result times the bar is what the two shares give -/
theorem sh_fit (o : Op) (a b c d g : Int) : (dsl o a b c d * g - b * (shL o a c (cmb o a c) g % 2147483647) - d * (shR o a c (cmb o a c) g % 2147483647)) % 2147483647 = 0 := by
  unfold dsl
  obtain ⟨q1, h1⟩ := rest (raw o a b c d)
  obtain ⟨q2, h2⟩ := rest (shL o a c (cmb o a c) g)
  obtain ⟨q3, h3⟩ := rest (shR o a c (cmb o a c) g)
  rw [h1, h2, h3]
  apply gone
  cases o with
  | add => exact ⟨q1 * g - b * q2 - d * q3, by simp only [raw, shL, shR]; grind⟩
  | sub => exact ⟨q1 * g - b * q2 - d * q3, by simp only [raw, shL, shR]; grind⟩
  | mul => exact ⟨q1 * g - b * q2 - d * q3, by simp only [raw, shL, shR]; grind⟩
  | div =>
    obtain ⟨q4, h4⟩ := rest (g * inv c)
    refine ⟨q1 * g - b * q2 - d * q3 - b * q4 + d * q4 * cmb .div a c, ?_⟩
    simp only [raw, shL, shR]
    have e : cmb .div g c = g * inv c + 2147483647 * q4 := h4
    rw [e]
    generalize cmb .div a c = v
    generalize inv c = i
    grind
def spSha (C : Addr) : Sp := fun vs H Q E => ∃ (o : Op) (a c y g : Int), vs = [.str o.str, .int a, .int c, .int y, .int g] ∧ Nm a ∧ Nm c ∧ Nm y ∧ Nm g ∧
  (¬ o.fine c → E (.ref C) none H) ∧ (o.fine c → ∀ p, H p = none → Q (.ref p) (upd H p (.tup [.int (shL o a c y g % 2147483647), .int (shR o a c y g % 2147483647)])))
theorem scSha : FnScope ["op", "first", "second", "result", "bar", "left", "right"] ["op", "first", "second", "result", "bar"] (defScope sSha) := ⟨rfl, rfl, rfl, by decide +kernel, rfl, by decide +kernel, by decide +kernel⟩
theorem ok_sha {f fR fM : Addr} {fd fdR fdM : FuncData} (F : Fun K "shares" "shares" sSha f fd) (GR : FnOk P w K mg base CX0 1 fR fdR ["n"] spRed) (bR : Binds K fdR ["n"] []) (kR : PySem.W.keepIn K (.ref fR) = true) (mR : mg "reduce_number" = some (.ref fR))
    (GM : FnOk P w K mg base (L2.CX P w) 3 fM fdM ["op", "first", "second"] (spCmb C)) (bM : Binds K fdM ["op", "first", "second"] []) (kM : PySem.W.keepIn K (.ref fM) = true) (mM : mg "combine" = some (.ref fM)) :
    FnOk P w K mg base (L2.CX P w) 4 f fd ["op", "first", "second", "result", "bar"] (spSha C) := by
  refine F.okX scSha (fun vs H Q E h => ?_) (fun cdv A outer s H vs Q E hr h => ?_)
  · obtain ⟨o, a, c, y, g, rfl, _⟩ := h
    rfl
  · obtain ⟨o, a, c, y, g, rfl, na, nc, ny, ng, qe, q⟩ := h
    have hr1 : Room 1 _ := hr.mono (by decide)
    have nd := scSha.nd
    have two : 2 ≤ sizeLine := by decide
    refine ⟨_, pss_cons (ps_if (pt_cmpR op_eq (pv 0) pe_str (nomark _)) (pss_one (ps_par (i := 5) (j := 6) rfl nd rfl rfl (by decide) rfl rfl (pa_cons (pv 4) (pa_cons (pv 4) pa_nil)) (by rfl)))
        (pss_one (ps_if (pt_cmpR op_eq (pv 0) pe_str (nomark _)) (pss_one (ps_par (i := 5) (j := 6) rfl nd rfl rfl (by decide) rfl rfl (pa_cons (pv 4) (pa_cons (pe_un un_neg (pv 4)) pa_nil)) (by rfl)))
          (pss_one (ps_if (pt_cmpR op_eq (pv 0) pe_str (nomark _)) (pss_one (ps_par (i := 5) (j := 6) rfl nd rfl rfl (by decide) rfl rfl (pa_cons (pe_op op_mul (pv 4) (pv 2)) (pa_cons (pe_op op_mul (pv 4) (pv 1)) pa_nil)) (by rfl)))
            (pss_cons (ps_set (i := 5) nd rfl (.inl rfl) (pe_call GM hr rfl mM kM bM .nil (passes_call (takes_of rfl rfl rfl rfl) (fun _ _ _ _ h => h)) (pa_cons pe_str (pa_cons (pv 4) (pa_cons (pv 2) pa_nil)))))
              (pss_one (ps_set (i := 6) nd rfl (.inl rfl) (pe_op op_mul (pe_un un_neg (pv 5)) (pv 3))))))))))
      (pss_one (ps_ret (pe_tup (pa_cons (pe_call GR hr1 rfl mR kR bR .nil pass0 (pa_cons (pv 5) pa_nil)) (pa_cons (pe_call GR hr1 rfl mR kR bR .nil pass0 (pa_cons (pv 6) pa_nil)) pa_nil))))), ?_⟩
    cases o with
    | add =>
      refine ⟨_, rfl, rfl, _, rfl, iteT' (by decide +kernel) ?_⟩
      exact ⟨_, rfl, _, rfl, _, _, rfl, _, rfl, _, rfl, _, rfl, _, rfl, two, q trivial⟩
    | sub =>
      refine ⟨_, rfl, rfl, _, rfl, iteF' (by decide +kernel) ?_⟩
      refine ⟨_, rfl, rfl, _, rfl, iteT' (by decide +kernel) ?_⟩
      exact ⟨_, rfl, _, rfl, _, rfl, _, _, rfl, _, rfl, _, rfl, _, rfl, _, rfl, two, q trivial⟩
    | mul =>
      refine ⟨_, rfl, rfl, _, rfl, iteF' (by decide +kernel) ?_⟩
      refine ⟨_, rfl, rfl, _, rfl, iteF' (by decide +kernel) ?_⟩
      refine ⟨_, rfl, rfl, _, rfl, iteT' (by decide +kernel) ?_⟩
      exact ⟨_, rfl, _, rfl, _, _, rfl, rfl, .inl ng.small, _, rfl, _, rfl, _, _, rfl, rfl, .inl ng.small, _, _, rfl, _, rfl, _, rfl, _, rfl, _, rfl, two, q trivial⟩
    | div =>
      refine ⟨_, rfl, rfl, _, rfl, iteF' (by decide +kernel) ?_⟩
      refine ⟨_, rfl, rfl, _, rfl, iteF' (by decide +kernel) ?_⟩
      refine ⟨_, rfl, rfl, _, rfl, iteF' (by decide +kernel) ?_⟩
      refine ⟨_, rfl, _, rfl, Op.div, g, c, rfl, ng.small, qe, fun fc => ?_⟩
      exact ⟨_, rfl, _, rfl, _, rfl, _, _, rfl, rfl, .inr ny.small, _, rfl, _, rfl, _, rfl, _, rfl, two, q fc⟩

/-! ### 6. Rows -/
def prods (ns ms : List Int) : List Int := List.zipWith (· * ·) ns ms
theorem prods_len {ns ms : List Int} (h : ns.length = ms.length) : (prods ns ms).length = ns.length := by
  unfold prods
  rw [List.length_zipWith, h, Nat.min_self]
theorem more {l : List Int} {i : Nat} {z : Int} (h : l[i]? = some z) : l.take (i + 1) = l.take i ++ [z] := by
  rw [List.take_add_one, h]
  rfl
theorem same_upd {H H' : Hp} {D : Addr} {o : HO} (s : Same H H') (h : H D = none) : Same H (upd H' D o) := fun b u q => by rw [upd_ne (ne_of_none q h)]; exact s b u q
theorem seqT_of {K : PySem.W.Frag} {H H' : Hp} {a : Addr} {xs : List V} (e : Same H H') (h : SqT K H a xs) : SqT K H' a xs := by
  rcases h with (h | ⟨o, h⟩) | h
  · exact .inl (.inl (e _ _ h))
  · exact .inl (.inr ⟨o, e _ _ h⟩)
  · exact .inr h
/-- what is asked of the two rows: two lists, two tuples, or a list and a tuple -/
def Rows2 (K : PySem.W.Frag) (H : Hp) (a b : Addr) (xs ys : List V) : Prop := (SqL K H a xs ∧ SqL K H b ys) ∨ (SqT K H a xs ∧ SqT K H b ys) ∨ (SqL K H a xs ∧ SqT K H b ys)
def spDot (K : PySem.W.Frag) : Sp := fun vs H Q _ => ∃ (a b : Addr) (ns ms : List Int), vs = [.ref a, .ref b] ∧ Rows2 K H a b (ns.map V.int) (ms.map V.int) ∧ ns.length = ms.length ∧ ns.length ≤ 1000 ∧ (∀ n ∈ ns, Nm n) ∧
  ∀ H', Same H H' → Q (.int ((prods ns ms).sum % 2147483647)) H'
theorem scDot : FnScope ["first", "second", "a", "b"] ["first", "second"] (defScope sDot) := ⟨rfl, rfl, rfl, by decide +kernel, rfl, by decide +kernel, by decide +kernel⟩
theorem ok_dot {f fR : Addr} {fd fdR : FuncData} (F : Fun K "dot" "dot" sDot f fd) (mz : mg "zip" = none) (ms' : mg "sum" = none)
    (GR : FnOk P w K mg base CX0 1 fR fdR ["n"] spRed) (bR : Binds K fdR ["n"] []) (kR : PySem.W.keepIn K (.ref fR) = true) (mR : mg "reduce_number" = some (.ref fR)) :
    FnOk P w K mg base CX0 2 f fd ["first", "second"] (spDot K) := by
  refine F.ok scDot (fun vs H Q E h => ?_) (fun cdv A outer s H vs Q E hr h => ?_)
  · obtain ⟨a, b, ns, ms, rfl, _⟩ := h
    rfl
  · obtain ⟨a, b, ns, ms, rfl, hR, hm, hl, hn, q⟩ := h
    have nd := scDot.nd
    refine ⟨_, pss_one (ps_ret (pe_call GR hr rfl mR kR bR .nil pass0 (pa_cons (pe_callB (cr_sum rfl) rfl ms' (by decide +kernel) (pa_cons
      (pe_lc (own := [("a", 2), ("b", 3)]) (g := gTup K 2 (gCons (gName 2) (gCons (gName 3) gNil))) (tt := tYes) rfl nd (Mz.pi_zip3 rfl mz (pa_cons (pv 0) (pa_cons (pv 1) pa_nil))) (blkOk_by (N := ["first", "second", "a", "b"]) (sc := defScope sDot) (by decide +kernel))
        (fun _ _ _ _ _ => pg_tup (by rfl) (pgs_cons (pg_name (i := 2) nd rfl (.inl rfl)) (pgs_cons (pg_name (i := 3) nd rfl (.inl rfl)) pgs_nil))) (fun _ _ _ _ _ => pts_nil) (fun _ _ _ _ _ => pe_op op_mul (pv 2) (pv 3))) pa_nil)) pa_nil))), ?_⟩
    have hlen : (ns.map V.int).length = (ms.map V.int).length := by rw [List.length_map, List.length_map, hm]
    have items : ∀ (i : Nat) (u v : V), i < ns.length → (ns.map V.int)[i]? = some u → (ms.map V.int)[i]? = some v → ∃ m n : Int, ns[i]? = some m ∧ ms[i]? = some n ∧ u = .int m ∧ v = .int n ∧ (prods ns ms)[i]? = some (m * n) ∧ (-(2 ^ 64) < m ∧ m < 2 ^ 64) := by
      intro i u v hi hu hv
      rw [List.getElem?_map] at hu hv
      have h1 : ns[i]? = some ns[i] := List.getElem?_eq_getElem hi
      have h2 : ms[i]? = some (ms[i]'(by omega)) := List.getElem?_eq_getElem (by omega)
      rw [h1] at hu
      rw [h2] at hv
      refine ⟨_, _, h1, h2, (Option.some.inj hu).symm, (Option.some.inj hv).symm, ?_, (hn _ (List.getElem_mem hi)).small⟩
      unfold prods
      rw [List.getElem?_zipWith, h1, h2]
    refine ⟨_, rfl, _, rfl, a, b, ns.map V.int, ms.map V.int, rfl, ?_⟩
    rcases hR with ⟨h1, h2⟩ | ⟨h1, h2⟩ | ⟨h1, h2⟩
    · refine .inl ⟨h1, h2, fun D hD => ?_⟩
      refine lc_it (Mz.walk_L (K := K) hlen) (fun i H' => Same H H' ∧ H' D = some (.lst (((prods ns ms).take i).map V.int))) ⟨same_new hD _, upd_same⟩ (fun i H' _ z => ⟨z.1.seq h1, z.1.seq h2⟩) ?_ ?_
      · rintro i x H1 H2 hi ⟨s1, e1⟩ ⟨T, u, v, rfl, hT, rfl, hu, hv⟩
        obtain ⟨m, n, em, en, rfl, rfl, ep, sm⟩ := items i u v (by simpa using hi) hu hv
        have ne : T ≠ D := fun q => by rw [q, e1] at hT; cases hT
        refine ⟨T, _, rfl, SqT.of upd_same, rfl, _, _, rfl, _, _, rfl, rfl, rfl, ?_⟩
        refine ⟨_, rfl, _, rfl, _, _, rfl, rfl, .inl sm, _, (by rw [upd_ne (Ne.symm ne)]; exact e1), ?_, ?_, ?_⟩
        · rw [List.length_map, List.length_take]; exact Nat.lt_of_le_of_lt (Nat.min_le_left _ _) (Nat.lt_of_lt_of_le (by simpa using hi) (Nat.le_trans hl (by decide)))
        · exact same_upd (s1.trans (same_new hT _)) hD
        · rw [upd_same, more ep, List.map_append]
          all_goals rfl
      · rintro H1 ⟨s1, e1⟩
        rw [List.length_map, List.take_of_length_le (by rw [prods_len hm]; exact Nat.le_refl _)] at e1
        exact ⟨D, _, rfl, SqL.of e1, _, rfl, q _ s1⟩
    · refine .inr (.inl ⟨h1, h2, fun D hD => ?_⟩)
      refine lc_it (Mz.walk_T (K := K) hlen) (fun i H' => Same H H' ∧ H' D = some (.lst (((prods ns ms).take i).map V.int))) ⟨same_new hD _, upd_same⟩ (fun i H' _ z => ⟨seqT_of z.1 h1, seqT_of z.1 h2⟩) ?_ ?_
      · rintro i x H1 H2 hi ⟨s1, e1⟩ ⟨T, u, v, rfl, hT, rfl, hu, hv⟩
        obtain ⟨m, n, em, en, rfl, rfl, ep, sm⟩ := items i u v (by simpa using hi) hu hv
        have ne : T ≠ D := fun q => by rw [q, e1] at hT; cases hT
        refine ⟨T, _, rfl, SqT.of upd_same, rfl, _, _, rfl, _, _, rfl, rfl, rfl, ?_⟩
        refine ⟨_, rfl, _, rfl, _, _, rfl, rfl, .inl sm, _, (by rw [upd_ne (Ne.symm ne)]; exact e1), ?_, ?_, ?_⟩
        · rw [List.length_map, List.length_take]; exact Nat.lt_of_le_of_lt (Nat.min_le_left _ _) (Nat.lt_of_lt_of_le (by simpa using hi) (Nat.le_trans hl (by decide)))
        · exact same_upd (s1.trans (same_new hT _)) hD
        · rw [upd_same, more ep, List.map_append]
          all_goals rfl
      · rintro H1 ⟨s1, e1⟩
        rw [List.length_map, List.take_of_length_le (by rw [prods_len hm]; exact Nat.le_refl _)] at e1
        exact ⟨D, _, rfl, SqL.of e1, _, rfl, q _ s1⟩
    · refine .inr (.inr ⟨h1, h2, fun D hD => ?_⟩)
      refine lc_it (Mz.walk_M (K := K) hlen) (fun i H' => Same H H' ∧ H' D = some (.lst (((prods ns ms).take i).map V.int))) ⟨same_new hD _, upd_same⟩ (fun i H' _ z => ⟨z.1.seq h1, seqT_of z.1 h2⟩) ?_ ?_
      · rintro i x H1 H2 hi ⟨s1, e1⟩ ⟨T, u, v, rfl, hT, rfl, hu, hv⟩
        obtain ⟨m, n, em, en, rfl, rfl, ep, sm⟩ := items i u v (by simpa using hi) hu hv
        have ne : T ≠ D := fun q => by rw [q, e1] at hT; cases hT
        refine ⟨T, _, rfl, SqT.of upd_same, rfl, _, _, rfl, _, _, rfl, rfl, rfl, ?_⟩
        refine ⟨_, rfl, _, rfl, _, _, rfl, rfl, .inl sm, _, (by rw [upd_ne (Ne.symm ne)]; exact e1), ?_, ?_, ?_⟩
        · rw [List.length_map, List.length_take]; exact Nat.lt_of_le_of_lt (Nat.min_le_left _ _) (Nat.lt_of_lt_of_le (by simpa using hi) (Nat.le_trans hl (by decide)))
        · exact same_upd (s1.trans (same_new hT _)) hD
        · rw [upd_same, more ep, List.map_append]
          all_goals rfl
      · rintro H1 ⟨s1, e1⟩
        rw [List.length_map, List.take_of_length_le (by rw [prods_len hm]; exact Nat.le_refl _)] at e1
        exact ⟨D, _, rfl, SqL.of e1, _, rfl, q _ s1⟩

def bas (n : Nat) (j : Int) : List Int := (List.range n).map fun (i : Nat) => if (i : Int) = j then 1 else 0
theorem bas_at {n i : Nat} {j : Int} (h : i < n) : (bas n j)[i]? = some (if (i : Int) = j then 1 else 0) := by
  unfold bas
  rw [List.getElem?_map, List.getElem?_range h]
  rfl
theorem bas_len (n : Nat) (j : Int) : (bas n j).length = n := by
  unfold bas
  rw [List.length_map, List.length_range]
def spBas : Sp := fun vs H Q _ => ∃ (n : Nat) (j : Int), vs = [.int (n : Int), .int j] ∧ n ≤ 1000 ∧ ∀ H' p, Same H H' → H' p = some (.tup ((bas n j).map V.int)) → Q (.ref p) H'
theorem scBas : FnScope ["size", "place", "at"] ["size", "place"] (defScope sBas) := ⟨rfl, rfl, rfl, by decide +kernel, rfl, by decide +kernel, by decide +kernel⟩
theorem ok_bas {f : Addr} {fd : FuncData} (F : Fun K "basis" "basis" sBas f fd) (mR : mg "range" = none) (mT : mg "tuple" = none) : FnOk P w K mg base CX0 1 f fd ["size", "place"] spBas := by
  refine F.ok scBas (fun vs H Q E h => ?_) (fun cdv A outer s H vs Q E hr h => ?_)
  · obtain ⟨n, j, rfl, _⟩ := h
    rfl
  · obtain ⟨n, j, rfl, hn, q⟩ := h
    have nd := scBas.nd
    refine ⟨_, pss_one (ps_ret (pe_callTy call_tuple_of rfl mT PyProof.Rows.boot_tuple (pa_cons
      (pe_lc (own := [("at", 2)]) (g := gName 2) (tt := tYes) rfl nd (pi_range1 rfl mR (pa_cons (pv 0) pa_nil)) (blkOk_by (N := ["size", "place", "at"]) (sc := defScope sBas) (by decide +kernel))
        (fun _ _ _ _ _ => pg_name (i := 2) nd rfl (.inl rfl)) (fun _ _ _ _ _ => pts_nil) (fun _ _ _ _ _ => pe_ifExp (pt_cmpR op_eq (pv 2) (pv 1) (nomark _)) pe_int pe_int)) pa_nil))), ?_⟩
    refine ⟨_, rfl, (n : Int), rfl, by omega, by omega, fun D hD => ?_⟩
    refine lc_range (lo := 0) (n := n) (fun i H' => Same H H' ∧ H' D = some (.lst (((bas n j).take i).map V.int))) ⟨same_new hD _, upd_same⟩ ?_ ?_
    · rintro i H' hi ⟨s1, e1⟩
      have step : ((bas n j).take (i + 1)).map V.int = ((bas n j).take i).map V.int ++ [V.int (if (i : Int) = j then 1 else 0)] := by
        rw [more (bas_at hi), List.map_append]
        rfl
      have small : (((bas n j).take i).map V.int).length < sizeLine := by
        rw [List.length_map, List.length_take]
        exact Nat.lt_of_le_of_lt (Nat.min_le_left _ _) (Nat.lt_of_lt_of_le hi (Nat.le_trans hn (by decide)))
      refine ⟨rfl, _, rfl, _, rfl, rfl, _, rfl, ?_⟩
      by_cases c : (i : Int) = j
      · refine iteT' (show decide (V.int (0 + (i : Int)) = V.int j) = true from decide_eq_true (by rw [Int.zero_add, c])) ?_
        rw [if_pos c] at step
        exact ⟨_, e1, small, same_upd s1 hD, by rw [upd_same, step]⟩
      · refine iteF' (show decide (V.int (0 + (i : Int)) = V.int j) = false from decide_eq_false (fun z => c (by have := V.int.inj z; omega))) ?_
        rw [if_neg c] at step
        exact ⟨_, e1, small, same_upd s1 hD, by rw [upd_same, step]⟩
    · rintro H1 ⟨s1, e1⟩
      rw [List.take_of_length_le (by rw [bas_len]; exact Nat.le_refl _)] at e1
      exact ⟨D, _, rfl, .inl ⟨SqL.of e1, fun l hl => q _ l (s1.trans (same_new hl _)) upd_same⟩⟩

/-! ### 7. The law's own defs -/
abbrev sNum : Stmt := top 14
abbrev sNms : Stmt := top 15
abbrev sTra : Stmt := top 16
abbrev sLaw : Stmt := top 17
def spNum : Sp := fun vs H Q _ => ∃ c : Int, vs = [.int c] ∧ ∀ n, Nm n → Q (.int n) H
theorem scNum : FnScope ["cell"] ["cell"] (defScope sNum) := ⟨rfl, rfl, rfl, by decide +kernel, rfl, by decide +kernel, by decide +kernel⟩
theorem ok_num {f : Addr} {fd : FuncData} (F : Fun K "_law_number" "_law_number" sNum f fd) : FnOk P w K mg base CX0 1 f fd ["cell"] spNum := by
  refine F.ok scNum (fun vs H Q E h => ?_) (fun cdv A outer s H vs Q E hr h => ?_)
  · obtain ⟨c, rfl, _⟩ := h
    rfl
  · obtain ⟨c, rfl, q⟩ := h
    refine ⟨_, pss_cons (ps_if (pt_cmpR op_eq (pe_op op_mod (pv 0) pe_int) pe_int (nomark _)) (pss_one (ps_ret (pe_op op_mod (pe_op op_fdiv (pv 0) pe_int) pe_int))) pss_nil)
      (pss_one (ps_ret (pe_op op_mod (pe_op op_fdiv (pv 0) pe_int) pe_int))), ?_⟩
    refine ⟨_, rfl, _, _, rfl, rfl, (by show (0 : Int) < 2; decide), rfl, _, rfl, ?_⟩
    refine ite2 (fun _ => ?_) (fun _ => ?_)
    · refine ⟨_, rfl, _, _, rfl, rfl, ⟨by decide, by decide⟩, _, _, rfl, rfl, (by show (0 : Int) < 12; decide), q _ ?_⟩
      have h0 := Int.emod_nonneg (c / 2) (show (12 : Int) ≠ 0 by decide)
      have h1 := Int.emod_lt_of_pos (c / 2) (show (0 : Int) < 12 by decide)
      exact ⟨h0, Int.lt_of_lt_of_le h1 (by decide)⟩
    · exact ⟨_, rfl, _, _, rfl, rfl, ⟨by decide, by decide⟩, _, _, rfl, rfl, (by show (0 : Int) < 2147483647; decide), q _ (nm_mod _)⟩
theorem isi_at {X : Cx} {K' : PySem.W.Frag} (h : X.K = K') : CallR X (.builtin "isinstance") (rIsi K') := by
  subst h
  exact call_isi
/-- a list or a tuple, walked -/
def iRow (K : PySem.W.Frag) (tl : TE) : TI := fun σ H R => tl σ H fun x H1 => ∃ a xs, x = .ref a ∧ ((SqL K H1 a xs ∧ R (Itl K a) H1) ∨ (SqT K H1 a xs ∧ R (Itt K a) H1))
theorem pi_row {X : Cx} {tg l : Expr} {tl : TE} (hl : PE X l tl) : PI X tg l (iRow X.K tl) := by
  refine ⟨fun pins s σ H R I h => thn (hl.run pins s σ H _ I h) fun v s1 ⟨x, H1, J, r, q⟩ => ?_⟩
  obtain ⟨a, xs, e, q⟩ := q
  subst e
  cases r
  have young : ∀ b ∈ [s1.heap.objs.size], FpOk X pins H1 b := fun b hb => by
    rw [List.mem_singleton.mp hb]
    exact J.fpOk (Nat.le_refl _) (J.hok.fresh (Nat.le_refl _))
  rcases q with ⟨sx, q⟩ | ⟨sx, q⟩
  · obtain ⟨us, _, p, _⟩ := J.list sx
    exact wpAny_pyIter_list p.isList ⟨_, _, _, _, H1, rfl, J.kept (t' := s1.toks) fun b o e => Heap.get?_push_of_some _ e, turn_list a _, ⟨_, Heap.get?_push_size _ rfl, rfl, rfl⟩, young, q⟩
  · obtain ⟨us, _, p, _⟩ := J.tuple sx
    exact wpAny_pyIter_tuple (show s1.heap.IsTuple a us.toArray from p) ⟨_, _, _, _, H1, rfl, J.kept (t' := s1.toks) fun b o e => Heap.get?_push_of_some _ e, turn_tuple a _, ⟨_, Heap.get?_push_size _ rfl, rfl, rfl⟩, young, q⟩
def spNms (K : PySem.W.Frag) : Sp := fun vs H Q _ => ∃ (p : Addr) (ns : List Int), vs = [.ref p] ∧ (SqL K H p (ns.map V.int) ∨ SqT K H p (ns.map V.int)) ∧ (∀ n ∈ ns, Nm n) ∧ ∀ H', Same H H' → Q (.bl true) H'
theorem scNms : FnScope ["actual", "number"] ["actual"] (defScope sNms) := ⟨rfl, rfl, rfl, by decide +kernel, rfl, by decide +kernel, by decide +kernel⟩
theorem ok_nms {f : Addr} {fd : FuncData} (F : Fun K "_law_numbers" "_law_numbers" sNms f fd) (mi : mg "isinstance" = none) (mInt : mg "int" = none) (mB : mg "bool" = none) : FnOk P w K mg base CX0 1 f fd ["actual"] (spNms K) := by
  refine F.ok scNms (fun vs H Q E h => ?_) (fun cdv A outer s H vs Q E hr h => ?_)
  · obtain ⟨p, ns, rfl, _⟩ := h
    rfl
  · obtain ⟨p, ns, rfl, hp, hn, q⟩ := h
    have nd := scNms.nd
    refine ⟨_, pss_one (ps_ret (pe_notT (pe_lc (own := [("number", 1)]) (g := gName 1) rfl nd (pi_row (pv 0)) (blkOk_by (N := ["actual", "number"]) (sc := defScope sNms) (by decide +kernel))
        (fun _ _ _ _ _ => pg_name (i := 1) nd rfl (Or.inl rfl))
        (fun _ _ _ _ _ => pts_one (PW.pt (pw_or (pt_not (pt_val (pe_callB (isi_at (K' := K) rfl) rfl mi PyProof.Rows.boot_isinstance (pa_cons (pv 1) (pa_cons (pe_bltn (v := .ty "int") rfl mInt PyProof.Rows.boot_int rfl) pa_nil)))))
          (pw_or (pt_val (pe_callB (isi_at (K' := K) rfl) rfl mi PyProof.Rows.boot_isinstance (pa_cons (pv 1) (pa_cons (pe_bltn (v := .ty "bool") rfl mB PyProof.Rows.boot_bool rfl) pa_nil))))
            (pw_or1 (pt_not (pt_chain op_le op_lt pe_int (pv 1) pe_int)))))))
        (fun _ _ _ _ _ => pv 1)))), ?_⟩
    have item : ∀ (i : Nat) (x : V), (ns.map V.int)[i]? = some x → ∃ n, x = .int n ∧ 0 ≤ n ∧ n < 2147483647 := by
      intro i x hi
      rw [List.getElem?_map] at hi
      cases e : ns[i]? with
      | none => rw [e] at hi; cases hi
      | some n =>
        rw [e] at hi
        exact ⟨n, (Option.some.inj hi).symm, hn n (List.mem_of_getElem? e)⟩
    refine ⟨_, rfl, p, ns.map V.int, rfl, ?_⟩
    rcases hp with hp | hp
    · refine .inl ⟨hp, fun D hD => ?_⟩
      have SD := same_new hD (.lst [])
      refine lc_list (K := K) (a := p) (xs := ns.map V.int) (fun _ H' => H' = upd H D (.lst [])) rfl (fun i H' _ e => by rw [e]; exact SD.seq hp) ?_ ?_
      · rintro i x H' hi rfl
        obtain ⟨n, rfl, h0, h1⟩ := item i x hi
        refine ⟨rfl, ?_⟩
        refine ⟨_, rfl, .int n, .ty "int", .type "int", .type "int", true, rfl, .ty _, .base (.int n), kit_ty (by decide +kernel), true, rfl, iteF ?_⟩
        refine ⟨_, rfl, .int n, .ty "bool", .type "int", .type "bool", false, rfl, .ty _, .base (.int n), kit_ty (by decide +kernel), false, rfl, iteF ?_⟩
        refine ⟨_, rfl, _, _, rfl, rfl, true, congrArg V.bl (decide_eq_true h0), iteT ?_⟩
        refine ⟨_, _, rfl, rfl, true, congrArg V.bl (decide_eq_true h1), iteF ?_⟩
        rfl
      · rintro H' rfl
        exact ⟨false, .inl ⟨_, SqL.of upd_same, rfl⟩, q _ SD⟩
    · refine .inr ⟨hp, fun D hD => ?_⟩
      have SD := same_new hD (.lst [])
      refine lc_tup (K := K) (a := p) (xs := ns.map V.int) (fun _ H' => H' = upd H D (.lst [])) rfl (fun i H' _ e => by rw [e]; exact seqT_of SD hp) ?_ ?_
      · rintro i x H' hi rfl
        obtain ⟨n, rfl, h0, h1⟩ := item i x hi
        refine ⟨rfl, ?_⟩
        refine ⟨_, rfl, .int n, .ty "int", .type "int", .type "int", true, rfl, .ty _, .base (.int n), kit_ty (by decide +kernel), true, rfl, iteF ?_⟩
        refine ⟨_, rfl, .int n, .ty "bool", .type "int", .type "bool", false, rfl, .ty _, .base (.int n), kit_ty (by decide +kernel), false, rfl, iteF ?_⟩
        refine ⟨_, rfl, _, _, rfl, rfl, true, congrArg V.bl (decide_eq_true h0), iteT ?_⟩
        refine ⟨_, _, rfl, rfl, true, congrArg V.bl (decide_eq_true h1), iteF ?_⟩
        rfl
      · rintro H' rfl
        exact ⟨false, .inl ⟨_, SqL.of upd_same, rfl⟩, q _ SD⟩
def spTra (K : PySem.W.Frag) : Sp := fun vs H Q _ => ∃ (o : Op) (a c b d g : Int), vs = [.str o.str, .int a, .int c, .int b, .int d, .int g] ∧ Nm a ∧ Nm c ∧ Nm b ∧ Nm d ∧ Nm g ∧ o.fine c ∧ ∀ H', Same H H' → Q (.bl true) H'
abbrev nTra : List Str := ["op", "a", "c", "b", "d", "bar", "result", "actual", "slopes", "slope"]
theorem scTra : FnScope nTra ["op", "a", "c", "b", "d", "bar"] (defScope sTra) := ⟨rfl, rfl, rfl, by decide +kernel, rfl, by decide +kernel, by decide +kernel⟩
theorem ok_tra {f fD fN fM fS : Addr} {fd fdD fdN fdM fdS : FuncData} (F : Fun K "_law_transposed" "_law_transposed" sTra f fd) (mi : mg "isinstance" = none) (mInt : mg "int" = none) (mT : mg "tuple" = none) (ml : mg "len" = none)
    (GD : FnOk P w K mg base (L2.CX P w) 4 fD fdD ["op", "first", "second"] (spDua K C)) (bD : Binds K fdD ["op", "first", "second"] []) (kD : PySem.W.keepIn K (.ref fD) = true) (mD : mg "combine_duals" = some (.ref fD))
    (GN : FnOk P w K mg base CX0 1 fN fdN ["actual"] (spNms K)) (bN : Binds K fdN ["actual"] []) (kN : PySem.W.keepIn K (.ref fN) = true) (mN : mg "_law_numbers" = some (.ref fN))
    (GM : FnOk P w K mg base (L2.CX P w) 3 fM fdM ["op", "first", "second"] (spCmb C)) (bM : Binds K fdM ["op", "first", "second"] []) (kM : PySem.W.keepIn K (.ref fM) = true) (mM : mg "combine" = some (.ref fM))
    (GS : FnOk P w K mg base (L2.CX P w) 4 fS fdS ["op", "first", "second", "result", "bar"] (spSha C)) (bS : Binds K fdS ["op", "first", "second", "result", "bar"] []) (kS : PySem.W.keepIn K (.ref fS) = true) (mS : mg "shares" = some (.ref fS)) :
    FnOk P w K mg base CX0 5 f fd ["op", "a", "c", "b", "d", "bar"] (spTra K) := by
  refine F.ok scTra (fun vs H Q E h => ?_) (fun cdv A outer s H vs Q E hr h => ?_)
  · obtain ⟨o, a, c, b, d, g, rfl, _⟩ := h
    rfl
  · obtain ⟨o, a, c, b, d, g, rfl, na, nc, nb, ndd, ng, fc, q⟩ := h
    have hr1 : Room 1 _ := hr.mono (by decide)
    have hr3 : Room 3 _ := hr.mono (by decide)
    have nd := scTra.nd
    have two : 2 ≤ sizeLine := by decide
    have three : 3 ≤ sizeLine := by decide
    refine ⟨_, pss_cons (ps_set (i := 6) nd rfl (.inl rfl) (pe_call GM hr3 rfl mM kM bM .nil passL (pa_cons (pv 0) (pa_cons (pv 1) (pa_cons (pv 2) pa_nil)))))
      (pss_cons (ps_set (i := 7) nd rfl (.inl rfl) (pe_call GS hr rfl mS kS bS .nil passL (pa_cons (pv 0) (pa_cons (pv 1) (pa_cons (pv 2) (pa_cons (pv 6) (pa_cons (pv 5) pa_nil)))))))
      (pss_cons (ps_if (PW.pt (pw_or (pt_not (pt_val (pe_callB call_isi rfl mi PyProof.Rows.boot_isinstance (pa_cons (pv 7) (pa_cons (pe_bltn (v := .ty "tuple") rfl mT PyProof.Rows.boot_tuple rfl) pa_nil)))))
          (pw_or (pt_cmpR op_ne (pe_callB call_len rfl ml PySem.boot_len (pa_cons (pv 7) pa_nil)) pe_int (nomark _)) (pw_or1 (pt_not (pt_val (pe_call GN hr1 rfl mN kN bN .nil pass0 (pa_cons (pv 7) pa_nil))))))))
          (pss_one (ps_ret pe_bl)) pss_nil)
      (pss_cons (ps_for PassesOwn.never rfl (pi_tup (pe_tup (pa_cons (pe_tup (pa_cons (pv 3) (pa_cons (pv 4) pa_nil))) (pa_cons (pe_tup (pa_cons pe_int (pa_cons pe_int pa_nil))) (pa_cons (pe_tup (pa_cons pe_int (pa_cons pe_int pa_nil))) pa_nil))))) (pg_name (i := 8) nd rfl (.inl rfl))
        (pss_cons (ps_set (i := 9) nd rfl (.inl rfl) (pe_ix ix_tup (pe_call GD hr rfl mD kD bD .nil passL (pa_cons (pv 0) (pa_cons (pe_tup (pa_cons (pv 1) (pa_cons (pe_ix ix_tup (pv 8) pe_int (fun _ _ => rfl)) pa_nil))) (pa_cons (pe_tup (pa_cons (pv 2) (pa_cons (pe_ix ix_tup (pv 8) pe_int (fun _ _ => rfl)) pa_nil))) pa_nil)))) pe_int (fun _ _ => rfl)))
        (pss_one (ps_if (pt_cmpR op_ne (pe_op op_mod (pe_callTy call_int1 rfl mInt PyProof.Rows.boot_int (pa_cons (pe_op op_sub (pe_op op_sub (pe_op op_mul (pv 9) (pv 5)) (pe_op op_mul (pe_ix ix_tup (pv 8) pe_int (fun _ _ => rfl)) (pe_ix ix_tup (pv 7) pe_int (fun _ _ => rfl))))
            (pe_op op_mul (pe_ix ix_tup (pv 8) pe_int (fun _ _ => rfl)) (pe_ix ix_tup (pv 7) pe_int (fun _ _ => rfl)))) pa_nil)) pe_int) pe_int (nomark _)) (pss_one (ps_ret pe_bl)) pss_nil))))
      (pss_one (ps_ret pe_bl))))), ?_⟩
    refine ⟨_, rfl, _, rfl, _, rfl, o, a, c, rfl, na.small, fun z => absurd fc z, fun _ => ?_⟩
    refine ⟨_, rfl, _, rfl, _, rfl, _, rfl, _, rfl, o, a, c, cmb o a c, g, rfl, na, nc, cmb_nm _ _ _, ng, fun z => absurd fc z, fun _ p hp => ?_⟩
    have fit := fun y z => sh_fit o a y c z g
    have nu := nm_mod (shL o a c (cmb o a c) g)
    have nv := nm_mod (shR o a c (cmb o a c) g)
    generalize shL o a c (cmb o a c) g % 2147483647 = u at *
    generalize shR o a c (cmb o a c) g % 2147483647 = v at *
    have S1 := same_new hp (.tup [V.int u, V.int v])
    have ep := upd_same (H := H) (a := p) (o := .tup [V.int u, V.int v])
    generalize upd H p (.tup [V.int u, V.int v]) = H1 at S1 ep
    refine ⟨_, rfl, .ref p, .ty "tuple", .type "tuple", .type "tuple", true, rfl, .ty _, .base (.tup ep), kit_ty (by decide +kernel), true, rfl, iteF ?_⟩
    refine ⟨_, rfl, _, _, rfl, .inr ⟨_, SqT.of ep, rfl⟩, rfl, _, rfl, iteNS rfl ?_⟩
    refine ⟨_, rfl, p, [u, v], rfl, .inr (SqT.of ep), ?_, fun H2 S2 => ⟨true, rfl, iteF ?_⟩⟩
    · intro n hn
      rcases List.mem_cons.mp hn with h | h
      · rw [h]; exact nu
      · rw [List.mem_singleton.mp h]; exact nv
    have ep2 := S2 _ _ ep
    refine ⟨_, rfl, _, rfl, two, fun t1 h1 => ⟨two, fun t2 h2 => ⟨two, fun t3 h3 => ⟨three, fun U hU => ?_⟩⟩⟩⟩
    have k1 := same_new h1 (.tup [V.int b, V.int d])
    have k2 := same_new h2 (.tup [V.int 1, V.int 0])
    have k3 := same_new h3 (.tup [V.int 0, V.int 1])
    have k4 := same_new hU (.tup [V.ref t1, V.ref t2, V.ref t3])
    have g1 := k4 _ _ (k3 _ _ (k2 _ _ upd_same))
    have g2 := k4 _ _ (k3 _ _ upd_same)
    have g3 := k4 _ _ upd_same
    have ep3 := k4 _ _ (k3 _ _ (k2 _ _ (k1 _ _ ep2)))
    have sL := (S1.trans S2).trans (k1.trans (k2.trans (k3.trans k4)))
    have gU := upd_same (H := upd (upd (upd H2 t1 (.tup [V.int b, V.int d])) t2 (.tup [V.int 1, V.int 0])) t3 (.tup [V.int 0, V.int 1])) (a := U) (o := .tup [V.ref t1, V.ref t2, V.ref t3])
    generalize upd (upd (upd (upd H2 t1 (.tup [V.int b, V.int d])) t2 (.tup [V.int 1, V.int 0])) t3 (.tup [V.int 0, V.int 1])) U (.tup [V.ref t1, V.ref t2, V.ref t3]) = HL at g1 g2 g3 gU sL ep3
    have items : ∀ (i : Nat) (x : V), [V.ref t1, V.ref t2, V.ref t3][i]? = some x → ∃ (t : Addr) (y z : Int), x = .ref t ∧ HL t = some (.tup [V.int y, V.int z]) ∧ Nm y ∧ Nm z := by
      intro i x hx
      match i, hx with
      | 0, hx => exact ⟨t1, b, d, (Option.some.inj hx).symm, g1, nb, ndd⟩
      | 1, hx => exact ⟨t2, 1, 0, (Option.some.inj hx).symm, g2, ⟨by decide, by decide⟩, ⟨by decide, by decide⟩⟩
      | 2, hx => exact ⟨t3, 0, 1, (Option.some.inj hx).symm, g3, ⟨by decide, by decide⟩, ⟨by decide, by decide⟩⟩
      | n + 3, hx => simp at hx
    refine ⟨U, rfl, ⟨_, SqT.of gU⟩, for_tup (K := K) (a := U) (xs := [V.ref t1, V.ref t2, V.ref t3]) (fun i σ H' => Same HL H' ∧ ∃ v8 v9 : Option V, σ = [some (.str o.str), some (.int a), some (.int c), some (.int b), some (.int d), some (.int g), some (.int (cmb o a c)), some (.ref p), v8, v9])
      ⟨Same.refl _, _, _, rfl⟩ (fun i σ H' _ z => SqT.of (z.1 _ _ gU)) ?_ (fun σ H' z => q _ (sL.trans z.1))⟩
    rintro j x σ H5 hj ⟨s5, v8, v9, rfl⟩
    obtain ⟨t, y, z, rfl, et, ny, nz⟩ := items j x hj
    refine ⟨_, rfl, _, rfl, _, rfl, t, _, _, _, rfl, rfl, SqT.of (s5 _ _ et), rfl, two, fun w1 x1 => ?_⟩
    have r1 := s5.trans (same_new x1 (.tup [V.int a, V.int y]))
    refine ⟨_, rfl, _, rfl, t, _, _, _, rfl, rfl, SqT.of (r1 _ _ et), rfl, two, fun w2 x2 => ?_⟩
    refine ⟨o, w1, w2, a, y, c, z, rfl, SqT.of (same_new x2 _ _ _ upd_same), SqT.of upd_same, na, ny, nc, nz, fun z => absurd fc z, fun _ p1 y1 => ?_⟩
    refine ⟨p1, _, _, _, rfl, rfl, SqT.of upd_same, rfl, ?_⟩
    have r2 := r1.trans ((same_new x2 (.tup [V.int c, V.int z])).trans (same_new y1 (.tup [V.int (cmb o a c), V.int (dsl o a y c z)])))
    generalize upd (upd (upd _ w1 (.tup [V.int a, V.int y])) w2 (.tup [V.int c, V.int z])) p1 (.tup [V.int (cmb o a c), V.int (dsl o a y c z)]) = HH at r2 ⊢
    have et2 := SqT.of (K := K) (r2 _ _ et)
    have ep4 := SqT.of (K := K) (r2 _ _ ep3)
    refine ⟨_, rfl, _, rfl, _, _, rfl, rfl, .inl (dsl_nm o a y c z).small, _, rfl, t, _, _, _, rfl, rfl, et2, rfl, _, rfl, p, _, _, _, rfl, rfl, ep4, rfl, _, _, rfl, rfl, .inl ny.small, _, _, rfl, rfl, ?_⟩
    refine ⟨_, rfl, t, _, _, _, rfl, rfl, et2, rfl, _, rfl, p, _, _, _, rfl, rfl, ep4, rfl, _, _, rfl, rfl, .inl nz.small, _, _, rfl, rfl, ?_⟩
    refine .inl ⟨_, rfl, _, _, rfl, rfl, (by show (0 : Int) < 2147483647; decide), rfl, _, rfl, iteNS (congrArg V.int (fit y z)) ?_⟩
    exact ⟨r2, _, _, rfl⟩

theorem prods_at {ns ms : List Int} {i : Nat} (h1 : i < ns.length) (h2 : i < ms.length) : (prods ns ms)[i]? = some (cl ns (0 + (i : Int)) * cl ms (0 + (i : Int))) := by
  have a : ∀ {l : List Int}, i < l.length → l[i]? = some (cl l (0 + (i : Int))) := by
    intro l h
    have e : (0 + (i : Int)).toNat = i := by omega
    unfold cl
    rw [if_pos (by omega), e, List.getElem?_eq_getElem h, List.getD_eq_getElem?_getD, List.getElem?_eq_getElem h]
    rfl
  unfold prods
  rw [List.getElem?_zipWith, a h1, a h2]
theorem sum_more {l : List Int} {i : Nat} {z : Int} (h : l[i]? = some z) : (l.take (i + 1)).sum = (l.take i).sum + z := by
  rw [more h, List.sum_append]
  simp
theorem prods_comm (ns ms : List Int) : prods ms ns = prods ns ms := by
  unfold prods
  exact List.zipWith_comm_of_comm (fun x y => Int.mul_comm x y)
theorem zero_pick : ∀ (ns : List Int) (k : Nat) (t : Int), t < (k : Int) → (List.zipWith (· * ·) ns ((List.range' k ns.length).map fun (i : Nat) => if (i : Int) = t then (1 : Int) else 0)).sum = 0
  | [], _, _, _ => rfl
  | x :: xs, k, t, h => by
    have ih := zero_pick xs (k + 1) t (by omega)
    show (List.zipWith (· * ·) (x :: xs) ((List.range' k (xs.length + 1)).map fun (i : Nat) => if (i : Int) = t then (1 : Int) else 0)).sum = 0
    rw [List.range'_succ, List.map_cons, List.zipWith_cons_cons, List.sum_cons, ih, if_neg (by omega)]
    omega
theorem pick : ∀ (ns : List Int) (k : Nat) (j : Nat), j < ns.length → (List.zipWith (· * ·) ns ((List.range' k ns.length).map fun (i : Nat) => if (i : Int) = ((k + j : Nat) : Int) then (1 : Int) else 0)).sum = ns.getD j 0
  | [], _, _, h => by simp at h
  | x :: xs, k, j, h => by
    show (List.zipWith (· * ·) (x :: xs) ((List.range' k (xs.length + 1)).map fun (i : Nat) => if (i : Int) = ((k + j : Nat) : Int) then (1 : Int) else 0)).sum = (x :: xs).getD j 0
    rw [List.range'_succ, List.map_cons, List.zipWith_cons_cons, List.sum_cons]
    cases j with
    | zero =>
      have z := zero_pick xs (k + 1) ((k + 0 : Nat) : Int) (by omega)
      rw [z, if_pos (show (k : Int) = ((k + 0 : Nat) : Int) from rfl)]
      simp
    | succ j =>
      have ih := pick xs (k + 1) j (by simpa using h)
      have e : k + 1 + j = k + (j + 1) := by omega
      rw [e] at ih
      rw [ih, if_neg (by omega)]
      simp
theorem dot_bas {ns : List Int} {i : Nat} (h : i < ns.length) : (prods ns (bas ns.length (0 + (i : Int)))).sum = cl ns (0 + (i : Int)) := by
  have p := pick ns 0 i h
  have e : ((0 + i : Nat) : Int) = 0 + (i : Int) := by omega
  rw [e, ← List.range_eq_range'] at p
  have t : (0 + (i : Int)).toNat = i := by omega
  unfold cl
  rw [if_pos (by omega), t]
  exact p
theorem cl_mem {ns : List Int} {i : Nat} (h : i < ns.length) (hn : ∀ n ∈ ns, Nm n) : Nm (cl ns (0 + (i : Int))) := by
  have t : (0 + (i : Int)).toNat = i := by omega
  unfold cl
  rw [if_pos (by omega), t, List.getD_eq_getElem?_getD, List.getElem?_eq_getElem h]
  exact hn _ (List.getElem_mem h)
theorem shaped_ints (ns : List Int) : SeqAt.shaped (.list (ns.map PyData.int)) = true := by
  have c : ∀ l : List Int, PyData.canLayAll0 (l.map PyData.int) = true := by
    intro l
    induction l with
    | nil => rfl
    | cons x xs ih => simp [PyData.canLayAll0, PyData.canLay0, ih]
  have d : ∀ l : List Int, PyData.depthAll (l.map PyData.int) ≤ 1 := by
    intro l
    induction l with
    | nil => simp [PyData.depthAll]
    | cons x xs ih => simp [PyData.depthAll, PyData.depth]; omega
  unfold SeqAt.shaped
  have d' := d ns
  simp [PyData.canLay0, c ns, PyData.depth]
  omega
theorem dp_ints {K : PySem.W.Frag} {H : Hp} : ∀ ns : List Int, DpAll K H (ns.map V.int) (ns.map PyData.int)
  | [] => .nil
  | x :: xs => .cons (.int x) (dp_ints xs)
theorem eqv_ints (ns : List Int) : PyData.eqv (.list (ns.map PyData.int)) (.list (ns.map PyData.int)) = true := SeqAt.eqv_refl _ (SeqAt.canLay_of_shaped (shaped_ints ns))
theorem ints_more {ns : List Int} {n : Int} (h : ∀ m ∈ ns, Nm m) (hn : Nm n) : ∀ m ∈ ns ++ [n], Nm m := by
  intro m hm
  rcases List.mem_append.mp hm with q | q
  · exact h m q
  · rw [List.mem_singleton.mp q]; exact hn
theorem op_of : ∀ (i : Nat) (x : V), [V.str "add", V.str "sub", V.str "mul", V.str "div"][i]? = some x → ∃ o : Op, x = .str o.str
  | 0, _, h => ⟨.add, (Option.some.inj h).symm⟩
  | 1, _, h => ⟨.sub, (Option.some.inj h).symm⟩
  | 2, _, h => ⟨.mul, (Option.some.inj h).symm⟩
  | 3, _, h => ⟨.div, (Option.some.inj h).symm⟩
  | n + 4, _, h => by simp at h
theorem fives {ns : List Int} (h : ns.length = 5) (hn : ∀ n ∈ ns, Nm n) : ∃ a c b d g : Int, ns = [a, c, b, d, g] ∧ Nm a ∧ Nm c ∧ Nm b ∧ Nm d ∧ Nm g := by
  match ns, h with
  | [a, c, b, d, g], _ => exact ⟨a, c, b, d, g, rfl, hn a (by simp), hn c (by simp), hn b (by simp), hn d (by simp), hn g (by simp)⟩

def spLaw (K : PySem.W.Frag) : Sp := fun vs H Q _ => ∃ (a : Addr) (ns : List Int), vs = [.ref a] ∧ SqL K H a (ns.map V.int) ∧ ns.length ≤ 63 ∧ ∀ H', Q (.bl true) H'
abbrev nLaw : List Str := ["script", "at", "a", "c", "b", "d", "bar", "op", "size", "first", "second", "due", "actual", "row", "k"]
theorem scLaw : FnScope nLaw ["script"] (defScope sLaw) := ⟨rfl, rfl, rfl, by decide +kernel, rfl, by decide +kernel, by decide +kernel⟩
theorem ok_law {f' fC fN fT fD fB fM : Addr} {fd fdC fdN fdT fdD fdB fdM : FuncData} (F : Fun K "law" "law" sLaw f' fd) (mRg : mg "range" = none) (mi : mg "isinstance" = none) (mInt : mg "int" = none) (mTu : mg "tuple" = none) (mLi : mg "list" = none)
    (GC : FnOk P w K mg base CX0 1 fC fdC ["script", "at"] (spCellF K)) (bC : Binds K fdC ["script", "at"] []) (kC : PySem.W.keepIn K (.ref fC) = true) (mC : mg "_law_cell" = some (.ref fC))
    (GN : FnOk P w K mg base CX0 1 fN fdN ["cell"] spNum) (bN : Binds K fdN ["cell"] []) (kN : PySem.W.keepIn K (.ref fN) = true) (mN : mg "_law_number" = some (.ref fN))
    (GT : FnOk P w K mg base CX0 5 fT fdT ["op", "a", "c", "b", "d", "bar"] (spTra K)) (bT : Binds K fdT ["op", "a", "c", "b", "d", "bar"] []) (kT : PySem.W.keepIn K (.ref fT) = true) (mT : mg "_law_transposed" = some (.ref fT))
    (GD : FnOk P w K mg base CX0 2 fD fdD ["first", "second"] (spDot K)) (bD : Binds K fdD ["first", "second"] []) (kD : PySem.W.keepIn K (.ref fD) = true) (mD : mg "dot" = some (.ref fD))
    (GB : FnOk P w K mg base CX0 1 fB fdB ["size", "place"] spBas) (bB : Binds K fdB ["size", "place"] []) (kB : PySem.W.keepIn K (.ref fB) = true) (mB : mg "basis" = some (.ref fB))
    (GM : FnOk P w K mg base CX0 1 fM fdM ["actual"] (spNms K)) (bM : Binds K fdM ["actual"] []) (kM : PySem.W.keepIn K (.ref fM) = true) (mM : mg "_law_numbers" = some (.ref fM)) :
    FnOk P w K mg base CX0 6 f' fd ["script"] (spLaw K) := by
  refine F.ok scLaw (fun vs H Q E h => ?_) (fun cdv A outer s H vs Q E hr h => ?_)
  · obtain ⟨a, ns, rfl, _⟩ := h
    rfl
  · obtain ⟨l, ns, rfl, hS, _, q⟩ := h
    have hr1 : Room 1 _ := hr.mono (by decide)
    have hr2 : Room 2 _ := hr.mono (by decide)
    have hu := hr.units
    have four : 4 ≤ sizeLine := by decide
    have one : 1 ≤ sizeLine := by decide
    have nd := scLaw.nd
    refine ⟨_, pss_cons (ps_asg (pe_lc (own := [("at", 1)]) (g := gName 1) (tt := tYes) rfl nd (pi_range1 rfl mRg (pa_cons pe_int pa_nil)) (blkOk_by (N := nLaw) (sc := defScope sLaw) (by decide +kernel)) (fun _ _ _ _ _ => pg_name (i := 1) nd rfl (Or.inl rfl)) (fun _ _ _ _ _ => pts_nil)
          (fun _ _ _ _ _ => pe_call GN hr1 rfl mN kN bN .nil pass0 (pa_cons (pe_call GC hr1 rfl mC kC bC .nil pass0 (pa_cons (pv 0) (pa_cons (pv 1) pa_nil))) pa_nil)))
        (pg_lst (by rfl) (pgs_cons (pg_name (i := 2) nd rfl (.inl rfl)) (pgs_cons (pg_name (i := 3) nd rfl (.inl rfl)) (pgs_cons (pg_name (i := 4) nd rfl (.inr rfl)) (pgs_cons (pg_name (i := 5) nd rfl (.inl rfl)) (pgs_cons (pg_name (i := 6) nd rfl (.inl rfl)) pgs_nil)))))))
      (pss_cons (ps_for PassesOwn.never rfl (pi_tup (pe_tup (pa_cons pe_str (pa_cons pe_str (pa_cons pe_str (pa_cons pe_str pa_nil)))))) (pg_name (i := 7) nd rfl (.inl rfl))
        (pss_one (ps_if (PW.pt (pw_or (pt_cmpR op_ne (pv 7) pe_str (nomark _)) (pw_or1 (pt_cmpR op_gt (pv 3) pe_int (nomark _)))))
          (pss_one (ps_if (pt_not (pt_val (pe_call GT hr rfl mT kT bT .nil pass0 (pa_cons (pv 7) (pa_cons (pv 2) (pa_cons (pv 3) (pa_cons (pv 4) (pa_cons (pv 5) (pa_cons (pv 6) pa_nil))))))))) (pss_one (ps_ret pe_bl)) pss_nil)) pss_nil)))
      (pss_cons (ps_set (i := 8) nd rfl (.inl rfl) (pe_op op_mod (pe_call GC hr1 rfl mC kC bC .nil pass0 (pa_cons (pv 0) (pa_cons pe_int pa_nil))) pe_int))
      (pss_cons (ps_setLc (i := 9) (own := [("at", 1)]) (g := gName 1) (tt := tYes) rfl nd rfl rfl (sw_true rfl rfl rfl (by decide +kernel)) (pi_range1 rfl mRg (pa_cons (pv 8) pa_nil)) (blkOk_by (N := nLaw) (sc := defScope sLaw) (by decide +kernel)) (fun _ _ _ _ _ => pg_name (i := 1) nd rfl (Or.inl rfl)) (fun _ _ _ _ _ => pts_nil)
          (fun _ _ _ _ _ => pe_call GN hr1 rfl mN kN bN .nil pass0 (pa_cons (pe_call GC hr1 rfl mC kC bC .nil pass0 (pa_cons (pv 0) (pa_cons (pe_op op_add pe_int (pv 1)) pa_nil))) pa_nil)))
      (pss_cons (ps_setLc (i := 10) (own := [("at", 1)]) (g := gName 1) (tt := tYes) rfl nd rfl rfl (sw_true rfl rfl rfl (by decide +kernel)) (pi_range1 rfl mRg (pa_cons (pv 8) pa_nil)) (blkOk_by (N := nLaw) (sc := defScope sLaw) (by decide +kernel)) (fun _ _ _ _ _ => pg_name (i := 1) nd rfl (Or.inl rfl)) (fun _ _ _ _ _ => pts_nil)
          (fun _ _ _ _ _ => pe_call GN hr1 rfl mN kN bN .nil pass0 (pa_cons (pe_op op_add (pe_op op_add (pe_op op_fdiv (pe_call GC hr1 rfl mC kC bC .nil pass0 (pa_cons (pv 0) (pa_cons (pe_op op_add pe_int (pv 1)) pa_nil))) pe_int) (pe_op op_mul pe_int (pv 1))) (pv 4)) pa_nil)))
      (pss_cons (ps_set (i := 11) nd rfl (.inl rfl) pe_int)
      (pss_cons (ps_for PassesOwn.never rfl (pi_range1 rfl mRg (pa_cons (pv 8) pa_nil)) (pg_name (i := 1) nd rfl (.inr rfl))
        (pss_one (ps_set (i := 11) nd rfl (.inl rfl) (pe_op op_add (pv 11) (pe_op op_mul (pe_ix ix_list (pv 9) (pv 1) (fun _ _ => rfl)) (pe_ix ix_list (pv 10) (pv 1) (fun _ _ => rfl)))))))
      (pss_cons (ps_set (i := 12) nd rfl (.inl rfl) (pe_call GD hr2 rfl mD kD bD .nil pass0 (pa_cons (pv 9) (pa_cons (pv 10) pa_nil))))
      (pss_cons (ps_if (PW.pt (pw_or (pt_not (pt_val (pe_call GM hr1 rfl mM kM bM .nil pass0 (pa_cons (pe_lst (pa_cons (pv 12) pa_nil)) pa_nil)))) (pw_or (pt_cmpR op_ne (pv 12) (pe_op op_mod (pe_callTy call_int1 rfl mInt PyProof.Rows.boot_int (pa_cons (pv 11) pa_nil)) pe_int) (nomark _))
          (pw_or1 (pt_cmpR op_ne (pe_call GD hr2 rfl mD kD bD .nil pass0 (pa_cons (pe_callTy call_tuple_of rfl mTu PyProof.Rows.boot_tuple (pa_cons (pv 10) pa_nil)) (pa_cons (pe_callTy call_tuple_of rfl mTu PyProof.Rows.boot_tuple (pa_cons (pv 9) pa_nil)) pa_nil))) (pv 12) (nomark _))))))
          (pss_one (ps_ret pe_bl)) pss_nil)
      (pss_cons (ps_for PassesOwn.never rfl (pi_range1 rfl mRg (pa_cons (pv 8) pa_nil)) (pg_name (i := 1) nd rfl (.inr rfl))
        (pss_cons (ps_set (i := 13) nd rfl (.inl rfl) (pe_call GB hr1 rfl mB kB bB .nil pass0 (pa_cons (pv 8) (pa_cons (pv 1) pa_nil))))
        (pss_one (ps_if (PW.pt (pw_or (pt_not (pt_val (pe_callB call_isi rfl mi PyProof.Rows.boot_isinstance (pa_cons (pv 13) (pa_cons (pe_bltn (v := .ty "tuple") rfl mTu PyProof.Rows.boot_tuple rfl) pa_nil)))))
            (pw_or (pt_cmpR (op_neD hu) (pe_callTy call_list_of rfl mLi PyProof.Rows.boot_list (pa_cons (pv 13) pa_nil))
                (pe_lc (own := [("k", 14)]) (g := gName 14) (tt := tYes) rfl nd (pi_range1 rfl mRg (pa_cons (pv 8) pa_nil)) (blkOk_by (N := nLaw) (sc := defScope sLaw) (by decide +kernel)) (fun _ _ _ _ _ => pg_name (i := 14) nd rfl (Or.inl rfl)) (fun _ _ _ _ _ => pts_nil)
                  (fun _ _ _ _ _ => pe_callTy call_int1 rfl mInt PyProof.Rows.boot_int (pa_cons (pe_cmpR op_eq (pv 14) (pv 1) (nomark _)) pa_nil))) (nomark _))
              (pw_or1 (pt_cmpR op_ne (pe_call GD hr2 rfl mD kD bD .nil pass0 (pa_cons (pv 9) (pa_cons (pv 13) pa_nil))) (pe_ix ix_list (pv 9) (pv 1) (fun _ _ => rfl)) (nomark _))))))
          (pss_one (ps_ret pe_bl)) pss_nil))))
      (pss_one (ps_ret (pe_cmpR op_eq (pe_call GD hr2 rfl mD kD bD .nil pass0 (pa_cons (pe_lst pa_nil) (pa_cons (pe_tup pa_nil) pa_nil))) pe_int (nomark _))))))))))))), ?_⟩
    -- the five numbers
    refine ⟨5, rfl, by decide, by decide, fun D hD => ?_⟩
    refine lc_range (lo := 0) (n := 5) (fun i H' => Same H H' ∧ ∃ xs : List Int, H' D = some (.lst (xs.map V.int)) ∧ xs.length = i ∧ ∀ n ∈ xs, Nm n) ⟨same_new hD _, [], upd_same, rfl, by simp⟩ ?_ ?_
    · rintro i H' hi ⟨s1, xs, e1, l1, a1⟩
      refine ⟨rfl, _, rfl, _, rfl, l, ns, _, rfl, s1.seq hS, (by omega), cl ns (0 + (i : Int)), rfl, fun n hn => ?_⟩
      exact ⟨xs.map V.int, e1, (by rw [List.length_map, l1]; exact Nat.lt_of_lt_of_le hi (by decide)), same_upd s1 hD, xs ++ [n], (by rw [upd_same, List.map_append]; rfl), (by rw [List.length_append, l1]; rfl), ints_more a1 hn⟩
    rintro H1 ⟨s1, xs, e1, l1, a1⟩
    obtain ⟨a, c, b, d, g, rfl, na, nc, nb, ndd, ng⟩ := fives l1 a1
    refine ⟨D, _, rfl, SqL.of e1, rfl, _, _, rfl, _, _, rfl, _, _, rfl, _, _, rfl, _, _, rfl, rfl, ?_⟩
    -- the four operations
    refine ⟨four, fun T hT => ?_⟩
    have eT := upd_same (H := H1) (a := T) (o := .tup [V.str "add", V.str "sub", V.str "mul", V.str "div"])
    have s2 := s1.trans (same_new hT (.tup [V.str "add", V.str "sub", V.str "mul", V.str "div"]))
    generalize upd H1 T (.tup [V.str "add", V.str "sub", V.str "mul", V.str "div"]) = H2 at eT s2
    refine ⟨T, rfl, ⟨_, SqT.of eT⟩, for_tup (K := K) (a := T) (xs := [V.str "add", V.str "sub", V.str "mul", V.str "div"])
      (fun i σ H' => Same H2 H' ∧ ∃ u : Option V, σ = [some (.ref l), none, some (.int a), some (.int c), some (.int b), some (.int d), some (.int g), u, none, none, none, none, none, none, none])
      ⟨Same.refl _, none, rfl⟩ (fun i σ H' _ z => SqT.of (z.1 _ _ eT)) ?_ ?_⟩
    · rintro i x σ H4 hi ⟨s4, u, rfl⟩
      obtain ⟨o, rfl⟩ := op_of i x hi
      refine ⟨_, rfl, rfl, _, rfl, ?_⟩
      by_cases hd : o.str = ("div" : Str)
      · refine iteNS (congrArg V.str hd) ⟨_, rfl, _, _, rfl, rfl, _, rfl, ?_⟩
        by_cases c0 : 0 < c
        · refine iteT' (decide_eq_true c0) ?_
          have fc : o.fine c := by
            cases o with
            | div => show c % 2147483647 ≠ 0; rw [nc.self]; omega
            | _ => trivial
          exact ⟨_, rfl, _, rfl, _, rfl, _, rfl, _, rfl, _, rfl, o, a, c, b, d, g, rfl, na, nc, nb, ndd, ng, fc, fun H5 s5 => ⟨true, rfl, iteF ⟨s4.trans s5, _, rfl⟩⟩⟩
        · refine iteF' (decide_eq_false c0) ?_
          exact ⟨s4, _, rfl⟩
      · refine iteT' (by rw [decide_eq_false (fun y => hd (V.str.inj y))]; rfl) (iteT ?_)
        have fc : o.fine c := by
          cases o with
          | div => exact absurd rfl hd
          | _ => trivial
        exact ⟨_, rfl, _, rfl, _, rfl, _, rfl, _, rfl, _, rfl, o, a, c, b, d, g, rfl, na, nc, nb, ndd, ng, fc, fun H5 s5 => ⟨true, rfl, iteF ⟨s4.trans s5, _, rfl⟩⟩⟩
    rintro σ H5 ⟨s5, u, rfl⟩
    have s6 := s2.trans s5
    clear s5 s2 s1 eT e1 a1 l1
    -- the rows
    refine ⟨_, rfl, l, ns, 5, rfl, s6.seq hS, by decide, _, _, rfl, rfl, (by show (0 : Int) < 41; decide), ?_⟩
    obtain ⟨n, hn, hl⟩ : ∃ n : Nat, cl ns 5 % 41 = (n : Int) ∧ n ≤ 40 := by
      have h0 := Int.emod_nonneg (cl ns 5) (show (41 : Int) ≠ 0 by decide)
      have h1 := Int.emod_lt_of_pos (cl ns 5) (show (0 : Int) < 41 by decide)
      exact ⟨(cl ns 5 % 41).toNat, by omega, by omega⟩
    dsimp only
    rw [hn]
    have hnl : ∀ i : Nat, i < n → i < sizeLine := fun i h => Nat.lt_of_lt_of_le h (Nat.le_trans hl (by decide))
    refine ⟨_, rfl, (n : Int), rfl, by omega, by omega, fun D1 hD1 => ?_⟩
    refine lc_range (lo := 0) (n := n) (fun i H' => Same H5 H' ∧ ∃ xs : List Int, H' D1 = some (.lst (xs.map V.int)) ∧ xs.length = i ∧ ∀ m ∈ xs, Nm m) ⟨same_new hD1 _, [], upd_same, rfl, by simp⟩ ?_ ?_
    · rintro i H' hi ⟨s1, xs, e1, l1, a1⟩
      refine ⟨rfl, _, rfl, _, rfl, _, _, rfl, rfl, l, ns, _, rfl, s1.seq (s6.seq hS), (by omega), _, rfl, fun m hm => ?_⟩
      exact ⟨xs.map V.int, e1, (by rw [List.length_map, l1]; exact hnl i hi), same_upd s1 hD1, xs ++ [m], (by rw [upd_same, List.map_append]; rfl), (by rw [List.length_append, l1]; rfl), ints_more a1 hm⟩
    rintro H6 ⟨s7, xs, e1, l1, a1⟩
    have s8 := s6.trans s7
    clear s6 s7
    refine ⟨_, rfl, (n : Int), rfl, by omega, by omega, fun D2 hD2 => ?_⟩
    refine lc_range (lo := 0) (n := n) (fun i H' => Same H6 H' ∧ ∃ ys : List Int, H' D2 = some (.lst (ys.map V.int)) ∧ ys.length = i ∧ ∀ m ∈ ys, Nm m) ⟨same_new hD2 _, [], upd_same, rfl, by simp⟩ ?_ ?_
    · rintro i H' hi ⟨s1, ys, e2, l2, a2⟩
      refine ⟨rfl, _, rfl, _, rfl, _, _, rfl, rfl, l, ns, _, rfl, s1.seq (s8.seq hS), (by omega), _, _, rfl, rfl, ⟨by decide, by decide⟩, _, rfl, _, _, rfl, rfl, .inl ⟨by decide, by decide⟩, _, _, rfl, rfl, _, rfl, _, _, rfl, rfl, _, rfl, fun m hm => ?_⟩
      exact ⟨ys.map V.int, e2, (by rw [List.length_map, l2]; exact hnl i hi), same_upd s1 hD2, ys ++ [m], (by rw [upd_same, List.map_append]; rfl), (by rw [List.length_append, l2]; rfl), ints_more a2 hm⟩
    rintro H7 ⟨s9, ys, e2, l2, a2⟩
    have s10 := s8.trans s9
    have e1 := s9 _ _ e1
    clear s8 s9 hD1 hD2 hD hT
    -- the sum of the products
    refine ⟨_, rfl, (n : Int), rfl, by omega, by omega, for_range (lo := 0) (n := n) (fun i σ H' => H' = H7 ∧ ∃ w : Option V, σ = [some (.ref l), w, some (.int a), some (.int c), some (.int b), some (.int d), some (.int g), u, some (.int (n : Int)), some (.ref D1), some (.ref D2), some (.int ((prods xs ys).take i).sum), none, none, none])
      ⟨rfl, none, rfl⟩ ?_ ?_⟩
    · rintro i σ H' hi ⟨rfl, w, rfl⟩
      have h1 : i < xs.length := by omega
      have h2 : i < ys.length := by omega
      refine ⟨_, rfl, _, rfl, _, rfl, D1, _, _, _, rfl, rfl, SqL.of e1, cl_at (by omega) (by omega), _, rfl, _, rfl, D2, _, _, _, rfl, rfl, SqL.of e2, cl_at (by omega) (by omega), _, _, rfl, rfl, .inl (cl_mem h1 a1).small, _, _, rfl, rfl, ?_⟩
      refine ⟨rfl, some (.int (0 + (i : Int))), ?_⟩
      rw [sum_more (prods_at h1 h2)]
      rfl
    rintro σ H' ⟨rfl, w, rfl⟩
    have hlen : xs.length = ys.length := l1.trans l2.symm
    have tk : (prods xs ys).take n = prods xs ys := List.take_of_length_le (by rw [prods_len hlen, l1]; exact Nat.le_refl _)
    rw [tk]
    refine ⟨_, rfl, _, rfl, D1, D2, xs, ys, rfl, .inl ⟨SqL.of e1, SqL.of e2⟩, hlen, by omega, a1, fun H8 s11 => ?_⟩
    -- the test behind it
    have np := nm_mod (prods xs ys).sum
    refine ⟨_, rfl, one, fun L hL => ?_⟩
    have s12 := s11.trans (same_new hL (.lst [V.int ((prods xs ys).sum % 2147483647)]))
    refine ⟨L, [(prods xs ys).sum % 2147483647], rfl, .inl (SqL.of upd_same), ?_, fun H9 s13 => ⟨true, rfl, iteF ?_⟩⟩
    · intro m hm
      rw [List.mem_singleton.mp hm]
      exact np
    have s14 := s12.trans s13
    refine ⟨_, rfl, _, rfl, .inl ⟨_, rfl, _, _, rfl, rfl, (by show (0 : Int) < 2147483647; decide), rfl, _, rfl, iteNS rfl ?_⟩⟩
    refine ⟨_, rfl, D2, _, rfl, .inl ⟨SqL.of (s14 _ _ e2), fun q1 hq1 => ?_⟩⟩
    have s15 := s14.trans (same_new hq1 (.tup (ys.map V.int)))
    refine ⟨_, rfl, D1, _, rfl, .inl ⟨SqL.of (s15 _ _ e1), fun q2 hq2 => ?_⟩⟩
    have s16 := s15.trans (same_new hq2 (.tup (xs.map V.int)))
    refine ⟨q1, q2, ys, xs, rfl, .inr (.inl ⟨SqT.of (same_new hq2 _ _ _ upd_same), SqT.of upd_same⟩), hlen.symm, by omega, a2, fun H10 s17 => ?_⟩
    have s18 := s16.trans s17
    refine ⟨_, rfl, rfl, _, rfl, iteNS (by rw [prods_comm]) ?_⟩
    have e1 := s18 _ _ e1
    have e2 := s18 _ _ e2
    have s19 := s10.trans s18
    clear s18 s17 s16 s15 s14 s13 s12 s11 s10 hq1 hq2 hL
    -- the rows of the basis
    refine ⟨_, rfl, (n : Int), rfl, by omega, by omega, for_range (lo := 0) (n := n) (fun i σ H' => Same H10 H' ∧ ∃ w r : Option V, σ = [some (.ref l), w, some (.int a), some (.int c), some (.int b), some (.int d), some (.int g), u, some (.int (n : Int)), some (.ref D1), some (.ref D2), some (.int (prods xs ys).sum), some (.int ((prods xs ys).sum % 2147483647)), r, none])
      ⟨Same.refl _, _, none, rfl⟩ ?_ ?_⟩
    · rintro i σ H' hi ⟨s20, w', r, rfl⟩
      have h1 : i < xs.length := by omega
      refine ⟨_, rfl, _, rfl, n, 0 + (i : Int), rfl, by omega, fun HB p sB eB => ?_⟩
      have s21 := s20.trans sB
      refine ⟨_, rfl, .ref p, .ty "tuple", .type "tuple", .type "tuple", true, rfl, .ty _, .base (.tup eB), kit_ty (by decide +kernel), true, rfl, iteF ?_⟩
      refine ⟨_, rfl, p, _, rfl, .inr (SqT.of eB), fun M hM => ?_⟩
      have s22 := same_new hM (.lst ((bas n (0 + (i : Int))).map V.int))
      have eM := upd_same (H := HB) (a := M) (o := .lst ((bas n (0 + (i : Int))).map V.int))
      generalize upd HB M (.lst ((bas n (0 + (i : Int))).map V.int)) = HM at s22 eM
      refine ⟨_, rfl, (n : Int), rfl, by omega, by omega, fun M2 hM2 => ?_⟩
      refine lc_range (lo := 0) (n := n) (fun j H' => Same HM H' ∧ H' M2 = some (.lst (((bas n (0 + (i : Int))).take j).map V.int))) ⟨same_new hM2 _, upd_same⟩ ?_ ?_
      · rintro j H2' hj ⟨z1, z2⟩
        have step : ((bas n (0 + (i : Int))).take (j + 1)).map V.int = ((bas n (0 + (i : Int))).take j).map V.int ++ [V.int (if (j : Int) = 0 + (i : Int) then 1 else 0)] := by
          rw [more (bas_at hj), List.map_append]
          rfl
        have small : (((bas n (0 + (i : Int))).take j).map V.int).length < sizeLine := by
          rw [List.length_map, List.length_take]
          exact Nat.lt_of_le_of_lt (Nat.min_le_left _ _) (hnl j hj)
        refine ⟨rfl, _, rfl, _, rfl, rfl, .inr ⟨_, rfl, ?_⟩⟩
        have ev : (V.int (if decide (V.int (0 + (j : Int)) = V.int (0 + (i : Int))) = true then 1 else 0)) = V.int (if (j : Int) = 0 + (i : Int) then 1 else 0) := by
          by_cases q : (j : Int) = 0 + (i : Int)
          · rw [if_pos q, if_pos (decide_eq_true (congrArg V.int (by omega)))]
          · rw [if_neg q, if_neg (by rw [decide_eq_false (fun y => q (by have := V.int.inj y; omega))]; decide)]
        refine ⟨_, z2, small, same_upd z1 hM2, ?_⟩
        rw [upd_same, step]
        exact congrArg (fun v => some (HO.lst (((bas n (0 + (i : Int))).take j).map V.int ++ [v]))) ev
      rintro H11 ⟨z1, z2⟩
      rw [List.take_of_length_le (by rw [bas_len]; exact Nat.le_refl _)] at z2
      have s23 := s21.trans (s22.trans z1)
      refine ⟨.list ((bas n (0 + (i : Int))).map PyData.int), .list ((bas n (0 + (i : Int))).map PyData.int), .lst (SqL.of (z1 _ _ eM)) (dp_ints _), .lst (SqL.of z2) (dp_ints _), shaped_ints _, shaped_ints _, _, rfl, ?_⟩
      refine iteF' (by rw [eqv_ints]; rfl) ?_
      refine ⟨_, rfl, _, rfl, D1, p, xs, bas n (0 + (i : Int)), rfl, .inr (.inr ⟨SqL.of (s23 _ _ e1), SqT.of (z1 _ _ (s22 _ _ eB))⟩), (by rw [bas_len, l1]), by omega, a1, fun H12 s24 => ?_⟩
      have s25 := s23.trans s24
      refine ⟨_, rfl, _, rfl, D1, _, _, _, rfl, rfl, SqL.of (s25 _ _ e1), cl_at (by omega) (by omega), rfl, _, rfl, iteNS ?_ ?_⟩
      · have db := dot_bas h1
        rw [l1] at db
        rw [db, (cl_mem h1 a1).self]
      · exact ⟨s25, _, _, rfl⟩
    · rintro σ H' ⟨s20, w', r, rfl⟩
      refine ⟨Nat.zero_le _, fun p1 hp1 => ⟨Nat.zero_le _, fun p2 hp2 => ?_⟩⟩
      exact ⟨p1, p2, [], [], rfl, .inr (.inr ⟨SqL.of (same_new hp2 _ _ _ upd_same), SqT.of upd_same⟩), rfl, by decide, by simp, fun H' _ => ⟨rfl, q H'⟩⟩

end

theorem all_mk {l : PySem.W.OpenLaw} {w : World} {K : PySem.W.Frag} {h : Heap} {mg : Str → Option Value} {fa f1 f2 f3 f4 f5 f6 f7 f8 f9 f10 f11 f12 : Addr} (X : K.In h) (G : h.Ns mainGlobals mg) (hfa : mg "law" = some (.ref fa))
    {od1 an1 od2 an2 od3 an3 od4 an4 od5 an5 od6 an6 od7 an7 od8 an8 od9 an9 od10 an10 od11 an11 od12 an12 : Option Addr} {sl1 sl2 sl3 sl4 sl5 sl6 sl7 sl8 sl9 sl10 sl11 sl12 : Array (Option Value)} {oc1 kV1 dc1 pm1 cd1 ct1 oc2 kV2 dc2 pm2 cd2 ct2 oc3 kV3 dc3 pm3 cd3 ct3 oc4 kV4 dc4 pm4 cd4 ct4 oc5 kV5 dc5 pm5 cd5 ct5 oc6 kV6 dc6 pm6 cd6 ct6 oc7 kV7 dc7 pm7 cd7 ct7 oc8 kV8 dc8 pm8 cd8 ct8 oc9 kV9 dc9 pm9 cd9 ct9 oc10 kV10 dc10 pm10 cd10 ct10 oc11 kV11 dc11 pm11 cd11 ct11 oc12 kV12 dc12 pm12 cd12 ct12 : Value}
    (a1 : PySem.W.nsIn K mainGlobals "reduce_number" = some (some (.ref f1))) (l1 : K.lookup f1 = some ⟨oc1, od1, .func (PySem.W.fnOf "reduce_number" "reduce_number" (defArgs sRed) (defBody sRed) (defScope sRed) .none kV1 dc1 pm1 an1 cd1 ct1), sl1⟩) (c1 : PySem.W.codeIn K cd1 "reduce_number" = true) (k1 : PySem.W.keepIn K (.ref f1) = true)
    (a2 : PySem.W.nsIn K mainGlobals "inverse" = some (some (.ref f2))) (l2 : K.lookup f2 = some ⟨oc2, od2, .func (PySem.W.fnOf "inverse" "inverse" (defArgs sInv) (defBody sInv) (defScope sInv) .none kV2 dc2 pm2 an2 cd2 ct2), sl2⟩) (c2 : PySem.W.codeIn K cd2 "inverse" = true) (k2 : PySem.W.keepIn K (.ref f2) = true)
    (a3 : PySem.W.nsIn K mainGlobals "combine" = some (some (.ref f3))) (l3 : K.lookup f3 = some ⟨oc3, od3, .func (PySem.W.fnOf "combine" "combine" (defArgs sCmb) (defBody sCmb) (defScope sCmb) .none kV3 dc3 pm3 an3 cd3 ct3), sl3⟩) (c3 : PySem.W.codeIn K cd3 "combine" = true) (k3 : PySem.W.keepIn K (.ref f3) = true)
    (a4 : PySem.W.nsIn K mainGlobals "combine_duals" = some (some (.ref f4))) (l4 : K.lookup f4 = some ⟨oc4, od4, .func (PySem.W.fnOf "combine_duals" "combine_duals" (defArgs sDua) (defBody sDua) (defScope sDua) .none kV4 dc4 pm4 an4 cd4 ct4), sl4⟩) (c4 : PySem.W.codeIn K cd4 "combine_duals" = true) (k4 : PySem.W.keepIn K (.ref f4) = true)
    (a5 : PySem.W.nsIn K mainGlobals "shares" = some (some (.ref f5))) (l5 : K.lookup f5 = some ⟨oc5, od5, .func (PySem.W.fnOf "shares" "shares" (defArgs sSha) (defBody sSha) (defScope sSha) .none kV5 dc5 pm5 an5 cd5 ct5), sl5⟩) (c5 : PySem.W.codeIn K cd5 "shares" = true) (k5 : PySem.W.keepIn K (.ref f5) = true)
    (a6 : PySem.W.nsIn K mainGlobals "dot" = some (some (.ref f6))) (l6 : K.lookup f6 = some ⟨oc6, od6, .func (PySem.W.fnOf "dot" "dot" (defArgs sDot) (defBody sDot) (defScope sDot) .none kV6 dc6 pm6 an6 cd6 ct6), sl6⟩) (c6 : PySem.W.codeIn K cd6 "dot" = true) (k6 : PySem.W.keepIn K (.ref f6) = true)
    (a7 : PySem.W.nsIn K mainGlobals "basis" = some (some (.ref f7))) (l7 : K.lookup f7 = some ⟨oc7, od7, .func (PySem.W.fnOf "basis" "basis" (defArgs sBas) (defBody sBas) (defScope sBas) .none kV7 dc7 pm7 an7 cd7 ct7), sl7⟩) (c7 : PySem.W.codeIn K cd7 "basis" = true) (k7 : PySem.W.keepIn K (.ref f7) = true)
    (a8 : PySem.W.nsIn K mainGlobals "_law_cell" = some (some (.ref f8))) (l8 : K.lookup f8 = some ⟨oc8, od8, .func (PySem.W.fnOf "_law_cell" "_law_cell" (defArgs sCell) (defBody sCell) (defScope sCell) .none kV8 dc8 pm8 an8 cd8 ct8), sl8⟩) (c8 : PySem.W.codeIn K cd8 "_law_cell" = true) (k8 : PySem.W.keepIn K (.ref f8) = true)
    (a9 : PySem.W.nsIn K mainGlobals "_law_number" = some (some (.ref f9))) (l9 : K.lookup f9 = some ⟨oc9, od9, .func (PySem.W.fnOf "_law_number" "_law_number" (defArgs sNum) (defBody sNum) (defScope sNum) .none kV9 dc9 pm9 an9 cd9 ct9), sl9⟩) (c9 : PySem.W.codeIn K cd9 "_law_number" = true) (k9 : PySem.W.keepIn K (.ref f9) = true)
    (a10 : PySem.W.nsIn K mainGlobals "_law_numbers" = some (some (.ref f10))) (l10 : K.lookup f10 = some ⟨oc10, od10, .func (PySem.W.fnOf "_law_numbers" "_law_numbers" (defArgs sNms) (defBody sNms) (defScope sNms) .none kV10 dc10 pm10 an10 cd10 ct10), sl10⟩) (c10 : PySem.W.codeIn K cd10 "_law_numbers" = true) (k10 : PySem.W.keepIn K (.ref f10) = true)
    (a11 : PySem.W.nsIn K mainGlobals "_law_transposed" = some (some (.ref f11))) (l11 : K.lookup f11 = some ⟨oc11, od11, .func (PySem.W.fnOf "_law_transposed" "_law_transposed" (defArgs sTra) (defBody sTra) (defScope sTra) .none kV11 dc11 pm11 an11 cd11 ct11), sl11⟩) (c11 : PySem.W.codeIn K cd11 "_law_transposed" = true) (k11 : PySem.W.keepIn K (.ref f11) = true)
    (a12 : PySem.W.nsIn K mainGlobals "law" = some (some (.ref f12))) (l12 : K.lookup f12 = some ⟨oc12, od12, .func (PySem.W.fnOf "law" "law" (defArgs sLaw) (defBody sLaw) (defScope sLaw) .none kV12 dc12 pm12 an12 cd12 ct12), sl12⟩) (c12 : PySem.W.codeIn K cd12 "law" = true) (k12 : PySem.W.keepIn K (.ref f12) = true)
    {C : Addr} (aC : PySem.W.nsIn K mainGlobals "FieldError" = some (some (.ref C)))
    (xC : PySem.W.excIn K C [.type "ValueError", .type "Exception", .type "BaseException", .type "object"] "ValueError.__new__" = true)
    (kC : PySem.W.keepIn K (.ref C) = true)
    (sC : PySem.W.subIn K (.ref C) (.type "BaseException") = some true)
    (tC : PySem.W.typeIn K (.ref C) = some (.type "type"))
    {tp : Tok} (aP : PySem.W.nsIn K mainGlobals "PRIME" = some (some (.int 2147483647 tp)))
    (zi : PySem.W.nsIn K mainGlobals "isinstance" = some none)
    (zI : PySem.W.nsIn K mainGlobals "int" = some none)
    (zB : PySem.W.nsIn K mainGlobals "bool" = some none)
    (zT : PySem.W.nsIn K mainGlobals "tuple" = some none)
    (zL : PySem.W.nsIn K mainGlobals "len" = some none)
    (zR : PySem.W.nsIn K mainGlobals "range" = some none)
    (zz : PySem.W.nsIn K mainGlobals "zip" = some none)
    (zs : PySem.W.nsIn K mainGlobals "sum" = some none)
    (zl : PySem.W.nsIn K mainGlobals "list" = some none) :
    ∃ fd : FuncData, (∀ (s : Shared) (v : Value), BindsTo s fd ⟨[v], []⟩ [("script", v)]) ∧ ∀ base : Heap, K.In base → base.Ns mainGlobals mg → FnOk l.prog w K mg base CX0 6 fa fd ["script"] (spLaw K) := by
  have e := hfa.symm.trans (PySem.W.mg_of X G a12)
  cases e
  have F1 := fun_mk (st := sRed) l1 c1 k1
  have b1 := F1.binds (ps := ["n"]) fun _ _ _ _ _ _ us hl => match us, hl with | [_], _ => rfl
  have m1 := PySem.W.mg_of X G a1
  have F2 := fun_mk (st := sInv) l2 c2 k2
  have b2 := F2.binds (ps := ["number"]) fun _ _ _ _ _ _ us hl => match us, hl with | [_], _ => rfl
  have m2 := PySem.W.mg_of X G a2
  have F3 := fun_mk (st := sCmb) l3 c3 k3
  have b3 := F3.binds (ps := ["op", "first", "second"]) fun _ _ _ _ _ _ us hl => match us, hl with | [_, _, _], _ => rfl
  have m3 := PySem.W.mg_of X G a3
  have F4 := fun_mk (st := sDua) l4 c4 k4
  have b4 := F4.binds (ps := ["op", "first", "second"]) fun _ _ _ _ _ _ us hl => match us, hl with | [_, _, _], _ => rfl
  have m4 := PySem.W.mg_of X G a4
  have F5 := fun_mk (st := sSha) l5 c5 k5
  have b5 := F5.binds (ps := ["op", "first", "second", "result", "bar"]) fun _ _ _ _ _ _ us hl => match us, hl with | [_, _, _, _, _], _ => rfl
  have m5 := PySem.W.mg_of X G a5
  have F6 := fun_mk (st := sDot) l6 c6 k6
  have b6 := F6.binds (ps := ["first", "second"]) fun _ _ _ _ _ _ us hl => match us, hl with | [_, _], _ => rfl
  have m6 := PySem.W.mg_of X G a6
  have F7 := fun_mk (st := sBas) l7 c7 k7
  have b7 := F7.binds (ps := ["size", "place"]) fun _ _ _ _ _ _ us hl => match us, hl with | [_, _], _ => rfl
  have m7 := PySem.W.mg_of X G a7
  have F8 := fun_mk (st := sCell) l8 c8 k8
  have b8 := F8.binds (ps := ["script", "at"]) fun _ _ _ _ _ _ us hl => match us, hl with | [_, _], _ => rfl
  have m8 := PySem.W.mg_of X G a8
  have F9 := fun_mk (st := sNum) l9 c9 k9
  have b9 := F9.binds (ps := ["cell"]) fun _ _ _ _ _ _ us hl => match us, hl with | [_], _ => rfl
  have m9 := PySem.W.mg_of X G a9
  have F10 := fun_mk (st := sNms) l10 c10 k10
  have b10 := F10.binds (ps := ["actual"]) fun _ _ _ _ _ _ us hl => match us, hl with | [_], _ => rfl
  have m10 := PySem.W.mg_of X G a10
  have F11 := fun_mk (st := sTra) l11 c11 k11
  have b11 := F11.binds (ps := ["op", "a", "c", "b", "d", "bar"]) fun _ _ _ _ _ _ us hl => match us, hl with | [_, _, _, _, _, _], _ => rfl
  have m11 := PySem.W.mg_of X G a11
  have F12 := fun_mk (st := sLaw) l12 c12 k12
  refine ⟨PySem.W.fnOf "law" "law" (defArgs sLaw) (defBody sLaw) (defScope sLaw) .none kV12 dc12 pm12 an12 cd12 ct12, fun s v => .of_eq rfl, fun base _ _ => ?_⟩
  have T : Txt K mg C := ⟨PySem.W.mg_of X G aC, xC, kC, sC, tC, ⟨_, PySem.W.mg_of X G aP⟩⟩
  have mzi := PySem.W.mg_none_of X G zi
  have mzI := PySem.W.mg_none_of X G zI
  have mzB := PySem.W.mg_none_of X G zB
  have mzT := PySem.W.mg_none_of X G zT
  have mzL := PySem.W.mg_none_of X G zL
  have mzR := PySem.W.mg_none_of X G zR
  have mzz := PySem.W.mg_none_of X G zz
  have mzs := PySem.W.mg_none_of X G zs
  have mzl := PySem.W.mg_none_of X G zl
  have G1 : FnOk l.prog w K mg base CX0 1 f1 _ ["n"] spRed := ok_red F1 T
  have G2 : FnOk l.prog w K mg base (L2.CX l.prog w) 2 f2 _ ["number"] (spInv C) := ok_inv F2 T G1 b1 k1 m1
  have G3 : FnOk l.prog w K mg base (L2.CX l.prog w) 3 f3 _ ["op", "first", "second"] (spCmb C) := ok_cmb F3 G1 b1 k1 m1 G2 b2 k2 m2
  have G4 : FnOk l.prog w K mg base (L2.CX l.prog w) 4 f4 _ ["op", "first", "second"] (spDua K C) := ok_dua F4 G1 b1 k1 m1 G2 b2 k2 m2 G3 b3 k3 m3
  have G5 : FnOk l.prog w K mg base (L2.CX l.prog w) 4 f5 _ ["op", "first", "second", "result", "bar"] (spSha C) := ok_sha F5 G1 b1 k1 m1 G3 b3 k3 m3
  have G6 : FnOk l.prog w K mg base CX0 2 f6 _ ["first", "second"] (spDot K) := ok_dot F6 mzz mzs G1 b1 k1 m1
  have G7 : FnOk l.prog w K mg base CX0 1 f7 _ ["size", "place"] spBas := ok_bas F7 mzR mzT
  have G8 : FnOk l.prog w K mg base CX0 1 f8 _ ["script", "at"] (spCellF K) := ok_cell F8 mzL
  have G9 : FnOk l.prog w K mg base CX0 1 f9 _ ["cell"] spNum := ok_num F9
  have G10 : FnOk l.prog w K mg base CX0 1 f10 _ ["actual"] (spNms K) := ok_nms F10 mzi mzI mzB
  have G11 : FnOk l.prog w K mg base CX0 5 f11 _ ["op", "a", "c", "b", "d", "bar"] (spTra K) := ok_tra F11 mzi mzI mzT mzL G4 b4 k4 m4 G10 b10 k10 m10 G3 b3 k3 m3 G5 b5 k5 m5
  exact ok_law F12 mzR mzi mzI mzT mzl G8 b8 k8 m8 G9 b9 k9 m9 G11 b11 k11 m11 G6 b6 k6 m6 G7 b7 k7 m7 G10 b10 k10 m10
theorem walk {l : PySem.W.OpenLaw} {q : Program} {loose : List Str} {XP : (Str → Option Value) → Heap → Prop} {YP : World → Heap → Prop} {d : DefRec} {K : Params → PySem.W.Frag} (hn : l.most = some 63) (hdf : d.params.defaults = [])
    (hY : ∀ (w : World) (h : Heap), YP w h → (K w.params).In h)
    (F : ∀ (w : World) (mg : Str → Option Value) (fa : Addr) (h : Heap), (K w.params).In h → h.Ns mainGlobals mg → mg d.name = some (.ref fa) →
      ∃ fd : FuncData, (∀ (s : Shared) (u : Value), BindsTo s fd ⟨[u], []⟩ [("script", u)]) ∧ ∀ base : Heap, (K w.params).In base → base.Ns mainGlobals mg → FnOk l.prog w (K w.params) mg base CX0 6 fa fd ["script"] (spLaw (K w.params))) :
    PySem.W.WalkO q loose XP YP l.row.toRowW d [] (fun f vs => PySem.call f vs) :=
  L2.walk_of (n := 63) (k := 6) (x := "script") (CX := fun _ => CX0) (sp := fun w => spLaw (K w.params)) hn (by decide) hdf ⟨rfl, by decide, by decide⟩ hY F (fun _ _ a ns hl _ hS => ⟨a, ns, rfl, hS, hl, fun _ => rfl⟩) fun _ _ _ _ _ z => z
end Fld
open PySem PySem.W PyProof.Rows
set_option maxRecDepth 100000 in
set_option maxHeartbeats 0 in
theorem PySem.Challenge.cw_countermarch_k03_shares_and_rows_holds : PySem.Challenge.rw_countermarch_k03_shares_and_rows.Holds := by
  w_on; o_law; k_head; (case hw => w_witness2)
  k_fill
  refine Fld.walk (l := PySem.Challenge.rw_countermarch_k03_shares_and_rows) rfl rfl (fun w h Y => PySem.W.kIn_of Y) ?F
  case F =>
    intro w mg fa h KX G hmg
    refine' Fld.all_mk KX G hmg ?a1 ?l1 ?c1 ?k1 ?a2 ?l2 ?c2 ?k2 ?a3 ?l3 ?c3 ?k3 ?a4 ?l4 ?c4 ?k4 ?a5 ?l5 ?c5 ?k5 ?a6 ?l6 ?c6 ?k6 ?a7 ?l7 ?c7 ?k7 ?a8 ?l8 ?c8 ?k8 ?a9 ?l9 ?c9 ?k9 ?a10 ?l10 ?c10 ?k10 ?a11 ?l11 ?c11 ?k11 ?a12 ?l12 ?c12 ?k12 ?aC ?xC ?kC ?sC ?tC ?aP ?zi ?zI ?zB ?zT ?zL ?zR ?zz ?zs ?zl
    (case a1 => k_is)
    (case l1 => k_is)
    (case c1 => k_is)
    (case k1 => k_is)
    (case a2 => k_is)
    (case l2 => k_is)
    (case c2 => k_is)
    (case k2 => k_is)
    (case a3 => k_is)
    (case l3 => k_is)
    (case c3 => k_is)
    (case k3 => k_is)
    (case a4 => k_is)
    (case l4 => k_is)
    (case c4 => k_is)
    (case k4 => k_is)
    (case a5 => k_is)
    (case l5 => k_is)
    (case c5 => k_is)
    (case k5 => k_is)
    (case a6 => k_is)
    (case l6 => k_is)
    (case c6 => k_is)
    (case k6 => k_is)
    (case a7 => k_is)
    (case l7 => k_is)
    (case c7 => k_is)
    (case k7 => k_is)
    (case a8 => k_is)
    (case l8 => k_is)
    (case c8 => k_is)
    (case k8 => k_is)
    (case a9 => k_is)
    (case l9 => k_is)
    (case c9 => k_is)
    (case k9 => k_is)
    (case a10 => k_is)
    (case l10 => k_is)
    (case c10 => k_is)
    (case k10 => k_is)
    (case a11 => k_is)
    (case l11 => k_is)
    (case c11 => k_is)
    (case k11 => k_is)
    (case a12 => k_is)
    (case l12 => k_is)
    (case c12 => k_is)
    (case k12 => k_is)
    (case aC => k_is)
    (case xC => k_exc)
    (case kC => k_is)
    (case sC => k_is)
    (case tC => k_is)
    (case aP => k_is)
    (case zi => k_is)
    (case zI => k_is)
    (case zB => k_is)
    (case zT => k_is)
    (case zL => k_is)
    (case zR => k_is)
    (case zz => k_is)
    (case zs => k_is)
    (case zl => k_is)
#print axioms PySem.Challenge.cw_countermarch_k03_shares_and_rows_holds

