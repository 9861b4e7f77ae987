import PyProof.Rows.All
import Wide.All
import OpenK.AllK
import Wide.FinOn
import HandS.Base
import HandS.Call
import HandS.List
import HandS.Comp
import HandS.Ends
import HandS.Words
import HandS.WordsList
import HandS.Wide
import HandS.TupAny
import HandS.IsInst
import HandS.Evl
import HandS.Text
import KE.RegKIsAll
import HandS.Walk
import PySem.Challenge.RW_countermarch_k25_contributions
set_option Elab.async false
set_option linter.all false
set_option maxRecDepth 100000
set_option maxHeartbeats 4000000
/-! ## The drawn trees: data, what carries it, the draws -/
namespace Tr
open PySem L2
def top (i : Nat) : Stmt := PySem.Challenge.pw_countermarch_k25_contributions.main.body.getD i (.Pass ⟨0, 0, 0, 0⟩)
/-! ### tuples of tuples, None, truth values, whole numbers and texts, at any depth -/
mutual
def Tv (K : PySem.W.Frag) (H : Hp) : PyData → V → Prop
  | .none, v => v = .non
  | .bool b, v => v = .bl b
  | .int i, v => v = .int i
  | .str s, v => v = .str s
  | .tuple ds, v => ∃ a xs, v = .ref a ∧ SqT K H a xs ∧ TvL K H ds xs
  | .list _, _ => False
  | .dict _, _ => False
def TvL (K : PySem.W.Frag) (H : Hp) : List PyData → List V → Prop
  | [], vs => vs = []
  | d :: ds, vs => ∃ x xs, vs = x :: xs ∧ Tv K H d x ∧ TvL K H ds xs
end
/-- no tuple is lost -/
def Carry (K : PySem.W.Frag) (H H' : Hp) : Prop := ∀ a xs, SqT K H a xs → SqT K H' a xs
section
variable {K : PySem.W.Frag} {H H' H2 : Hp}
theorem Carry.trans (c : Carry K H H') (e : Carry K H' H2) : Carry K H H2 := fun a xs h => e a xs (c a xs h)
mutual
theorem Tv.carry (c : Carry K H H') : ∀ (d : PyData) (v : V), Tv K H d v → Tv K H' d v
  | .none, _, h => h
  | .bool _, _, h => h
  | .int _, _, h => h
  | .str _, _, h => h
  | .tuple ds, _, h => by
    obtain ⟨a, xs, e, s, l⟩ := h
    exact ⟨a, xs, e, c a xs s, TvL.carry c ds xs l⟩
  | .list _, _, h => False.elim h
  | .dict _, _, h => False.elim h
theorem TvL.carry (c : Carry K H H') : ∀ (ds : List PyData) (vs : List V), TvL K H ds vs → TvL K H' ds vs
  | [], _, h => h
  | d :: ds, _, h => by
    obtain ⟨x, xs, e, t, l⟩ := h
    exact ⟨x, xs, e, Tv.carry c d x t, TvL.carry c ds xs l⟩
end
/-- all but the object at p stands as it stood -/
def Stays (p : Addr) (H H' : Hp) : Prop := ∀ b o, b ≠ p → H b = some o → H' b = some o
theorem Stays.refl (p : Addr) (H : Hp) : Stays p H H := fun _ _ _ h => h
theorem Stays.trans {p : Addr} (s : Stays p H H') (t : Stays p H' H2) : Stays p H H2 := fun b o n h => t b o n (s b o n h)
theorem same_stays {p : Addr} (s : Same H H') : Stays p H H' := fun b o _ h => s b o h
theorem stays_upd {p : Addr} {o : HO} : Stays p H (upd H p o) := fun b u n h => by rw [upd_ne n]; exact h
theorem stays_new {p q : Addr} {o : HO} (h : H q = none) : Stays p H (upd H q o) := fun b u _ e => by rw [upd_ne (ne_of_none e h)]; exact e
/-- the counter of the draws -/
def AtL (H : Hp) (p : Addr) : Prop := ∃ j : Int, 0 ≤ j ∧ H p = some (.lst [.int j])
theorem AtL.new {p q : Addr} {o : HO} (h : AtL H p) (n : H q = none) : AtL (upd H q o) p := by
  obtain ⟨j, h0, e⟩ := h
  exact ⟨j, h0, by rw [upd_ne (ne_of_none e n)]; exact e⟩
theorem Stays.carry {p : Addr} (s : Stays p H H') (h : AtL H p) : Carry K H H' := by
  obtain ⟨j, _, e⟩ := h
  intro a xs q
  rcases q with (q | ⟨o, q⟩) | q
  · exact .inl (.inl (s a _ (fun z => by rw [z, e] at q; cases q) q))
  · exact .inl (.inr ⟨o, s a _ (fun z => by rw [z, e] at q; cases q) q⟩)
  · exact .inr q
theorem Stays.list {p a : Addr} {xs : List V} (s : Stays p H H') (n : a ≠ p) (h : SqL K H a xs) : SqL K H' a xs := by
  rcases h with (q | ⟨o, q⟩) | q
  · exact .inl (.inl (s a _ n q))
  · exact .inl (.inr ⟨o, s a _ n q⟩)
  · exact .inr q
theorem same_carry (s : Same H H') : Carry K H H' := by
  intro a xs q
  rcases q with (q | ⟨o, q⟩) | q
  · exact .inl (.inl (s a _ q))
  · exact .inl (.inr ⟨o, s a _ q⟩)
  · exact .inr q
theorem carry_new {q : Addr} {o : HO} (h : H q = none) : Carry K H (upd H q o) := same_carry fun b u e => by rw [upd_ne (ne_of_none e h)]; exact e
end
theorem iteT' {c : Bool} {A B : Prop} (h : c = true) (a : A) : if c = true then A else B := by
  rw [if_pos h]
  exact a
theorem iteF' {c : Bool} {A B : Prop} (h : c = false) (b : B) : if c = true then A else B := by
  rw [h, if_neg Bool.false_ne_true]
  exact b
/-- the built-in names that no text of the program's stands before -/
structure Bi (mg : Str → Option Value) : Prop where
  len : mg "len" = none
  int : mg "int" = none
  range : mg "range" = none
  tuple : mg "tuple" = none
  list : mg "list" = none
  str : mg "str" = none
  isinstance : mg "isinstance" = none
  bool : mg "bool" = none
  abs : mg "abs" = none
  max : mg "max" = none
/-- a def of the text as its callers want it -/
structure Cal (P : Program) (w : World) (K : PySem.W.Frag) (mg : Str → Option Value) (base : Heap) (CX : CXT) (k : Nat) (x : Str) (ps : List Str) (sp : Sp) where
  f : Addr
  fd : FuncData
  ok : FnOk P w K mg base CX k f fd ps sp
  b : Binds K fd ps []
  kp : PySem.W.keepIn K (.ref f) = true
  m : mg x = some (.ref f)

end Tr

namespace Tr
open PySem L2
theorem ixT {X : Cx} {K' : PySem.W.Frag} (h : X.K = K') : IxR X (rIxT K') := by
  subst h
  exact ix_tup
theorem notInK {X : Cx} {K' : PySem.W.Frag} (h : X.K = K') : OpR X (compareOp .NotIn) (rIn K' true) := by
  subst h
  exact op_notIn_seq
theorem inK {X : Cx} {K' : PySem.W.Frag} (h : X.K = K') : OpR X (compareOp .In) (rIn K' false) := by
  subst h
  exact op_in_seq
end Tr

/-! ## Pure code over nested tuples: what an expression, a statement is worth, whatever the heap -/
namespace Pu
open PySem L2 Tr PyProof.Rows
theorem same_refl (H : Hp) : Same H H := fun _ _ h => h
/-- the slots hold these data -/
abbrev Rho := List (Option PyData)
def En (K : PySem.W.Frag) (H : Hp) (σ : L2.St) (ρ : List (Option PyData)) : Prop := σ.length = ρ.length ∧ ∀ (i : Nat) (d : PyData), ρ[i]? = some (some d) → ∃ v, σ[i]? = some (some v) ∧ Tv K H d v

def DE (K : PySem.W.Frag) (te : TE) (ρ : Rho) (d : PyData) : Prop := ∀ σ H (Q : VK), En K H σ ρ → (∀ v H2, Same H H2 → Tv K H2 d v → Q v H2) → te σ H Q
def DA (K : PySem.W.Frag) (ta : TA) (ρ : Rho) (ds : List PyData) : Prop := ∀ σ H (Q : List V → Hp → Prop), En K H σ ρ → (∀ vs H2, Same H H2 → TvL K H2 ds vs → Q vs H2) → ta σ H Q
def DT (K : PySem.W.Frag) (tt : TT) (ρ : Rho) (b : Bool) : Prop := ∀ σ H (Q : Bool → Hp → Prop), En K H σ ρ → (∀ H2, Same H H2 → Q b H2) → tt σ H Q
def DO (K : PySem.W.Frag) (to : TO) (ρ : Rho) (o : Option Int) : Prop := ∀ σ H (Q : Option Int → Hp → Prop), En K H σ ρ → (∀ H2, Same H H2 → Q o H2) → to σ H Q
/-- a block that returns; one that goes on -/
def DR (K : PySem.W.Frag) (ts : TS) (ρ : Rho) (d : PyData) : Prop := ∀ (D : Ends) σ H, En K H σ ρ → (∀ v H2, Same H H2 → Tv K H2 d v → D.rt v H2) → ts D σ H
def DN (K : PySem.W.Frag) (ts : TS) (ρ ρ' : Rho) : Prop := ∀ (D : Ends) σ H, En K H σ ρ → (∀ σ' H2, Same H H2 → En K H2 σ' ρ' → D.nx σ' H2) → ts D σ H
/-- what a call of a def with this promise is worth -/
def PV (K : PySem.W.Frag) (sp : Sp) (ds : List PyData) (d : PyData) : Prop := ∀ vs H (Q : VK) (E : XK), TvL K H ds vs → (∀ v H2, Same H H2 → Tv K H2 d v → Q v H2) → sp vs H Q E
theorem le_ble {a b : Nat} (h : Nat.ble a b = true) : a ≤ b := Nat.le_of_ble_eq_true h
section
variable {K : PySem.W.Frag} {H H' : Hp} {σ : L2.St} {ρ ρ' ρ2 : Rho} {te ta tb : TE} {tl tr : TA} {t u : TT} {x y d e : PyData} {ds es : List PyData} {b c : Bool} {ts tu tz : TS}
theorem En.next (h : En K H σ ρ) (s : Same H H') : En K H' σ ρ := ⟨h.1, fun i d q => by
  obtain ⟨v, h1, h2⟩ := h.2 i d q
  exact ⟨v, h1, h2.carry (same_carry s)⟩⟩
theorem En.put {i : Nat} {v : V} (h : En K H σ ρ) (hv : Tv K H d v) : En K H (σ.set i (some v)) (ρ.set i (some d)) := ⟨by rw [List.length_set, List.length_set]; exact h.1, fun j e q => by
  rw [List.getElem?_set] at q
  rw [List.getElem?_set]
  by_cases c : i = j
  · rw [if_pos c] at q ⊢
    by_cases c2 : i < ρ.length
    · rw [if_pos c2] at q
      cases q
      rw [if_pos (by rw [h.1]; exact c2)]
      exact ⟨v, rfl, hv⟩
    · rw [if_neg c2] at q
      cases q
  · rw [if_neg c] at q ⊢
    exact h.2 j e q⟩
theorem same_put {p : Addr} {o : HO} (h : H p = none) : Same H (upd H p o) := fun b u e => by rw [upd_ne (ne_of_none e h)]; exact e
theorem tvl_len : ∀ {ds : List PyData} {xs : List V}, TvL K H ds xs → xs.length = ds.length
  | [], _, h => by subst h; rfl
  | d :: ds, _, h => by
    obtain ⟨x, xs, rfl, _, l⟩ := h
    rw [List.length_cons, List.length_cons, tvl_len l]
theorem tvl_get : ∀ {ds : List PyData} {xs : List V} {j : Nat} {d : PyData}, TvL K H ds xs → ds[j]? = some d → ∃ x, xs[j]? = some x ∧ Tv K H d x
  | [], _, _, _, _, e => by simp at e
  | d :: ds, _, 0, _, h, e => by
    obtain ⟨x, xs, rfl, t, l⟩ := h
    simp at e
    subst e
    exact ⟨x, rfl, t⟩
  | d :: ds, _, j + 1, e', h, e => by
    obtain ⟨x, xs, rfl, t, l⟩ := h
    obtain ⟨y, h1, h2⟩ := tvl_get (j := j) l (by simpa using e)
    exact ⟨y, by simpa using h1, h2⟩
theorem tvl_drop : ∀ {ds : List PyData} {xs : List V} (n : Nat), TvL K H ds xs → TvL K H (ds.drop n) (xs.drop n)
  | _, _, 0, h => h
  | [], _, n + 1, h => by subst h; rfl
  | d :: ds, _, n + 1, h => by
    obtain ⟨x, xs, rfl, _, l⟩ := h
    exact tvl_drop n l
theorem tvl_take : ∀ {ds : List PyData} {xs : List V} (n : Nat), TvL K H ds xs → TvL K H (ds.take n) (xs.take n)
  | _, _, 0, h => rfl
  | [], _, n + 1, h => by subst h; rfl
  | d :: ds, _, n + 1, h => by
    obtain ⟨x, xs, rfl, t, l⟩ := h
    exact ⟨x, _, rfl, t, tvl_take n l⟩
theorem tvl_app : ∀ {ds es : List PyData} {xs ys : List V}, TvL K H ds xs → TvL K H es ys → TvL K H (ds ++ es) (xs ++ ys)
  | [], _, _, _, h, g => by subst h; exact g
  | d :: ds, _, _, _, h, g => by
    obtain ⟨x, xs, rfl, t, l⟩ := h
    exact ⟨x, _, rfl, t, tvl_app l g⟩
theorem tvl_atI {xs : List V} {i : Int} (l : TvL K H ds xs) (h : atI ds i = some d) : ∃ x, atI xs i = some x ∧ Tv K H d x := by
  unfold atI at h ⊢
  rw [tvl_len l]
  cases e : ixN ds.length i with
  | none => rw [e] at h; cases h
  | some j => rw [e] at h; exact tvl_get l h
/-! ### expressions -/
theorem de_var {i : Nat} (h : ρ[i]? = some (some d)) : DE K (tVar i) ρ d := fun σ H Q en q => by
  obtain ⟨v, h1, h2⟩ := en.2 i d h
  exact ⟨v, h1, q v H (same_refl H) h2⟩
theorem de_int {i : Int} : DE K (tC (.int i)) ρ (.int i) := fun σ H Q en q => q _ H (same_refl H) rfl
theorem de_str {z : Str} : DE K (tC (.str z)) ρ (.str z) := fun σ H Q en q => q _ H (same_refl H) rfl
theorem de_bl : DE K (tC (.bl b)) ρ (.bool b) := fun σ H Q en q => q _ H (same_refl H) rfl
theorem de_non : DE K (tC .non) ρ .none := fun σ H Q en q => q _ H (same_refl H) rfl
theorem da_nil : DA K tNil ρ [] := fun σ H Q en q => q _ H (same_refl H) rfl
theorem da_cons (h : DE K ta ρ d) (hr : DA K tr ρ ds) : DA K (tCons ta tr) ρ (d :: ds) := fun σ H Q en q =>
  h σ H _ en fun v H1 s1 tv => hr σ H1 _ (en.next s1) fun vs H2 s2 tl => q _ H2 (s1.trans s2) ⟨v, vs, rfl, tv.carry (same_carry s2), tl⟩
theorem da_one (h : DE K ta ρ d) : DA K (tCons ta tNil) ρ [d] := da_cons h da_nil
theorem de_tup (h : DA K tl ρ ds) (hl : ds.length ≤ 1000 := by decide) : DE K (tTup tl) ρ (.tuple ds) := fun σ H Q en q =>
  h σ H _ en fun vs H1 s1 tv => ⟨by rw [tvl_len tv]; exact Nat.le_of_lt (small1000 hl), fun p hp => q _ _ (s1.trans (same_put hp)) ⟨p, vs, rfl, SqT.of upd_same, TvL.carry (carry_new hp) _ _ tv⟩⟩
theorem de_ix {i : Int} (ha : DE K ta ρ (.tuple ds)) (hb : DE K tb ρ (.int i)) (h : atI ds i = some d := by rfl) : DE K (tOp (rIxT K) ta tb) ρ d := fun σ H Q en q =>
  ha σ H _ en fun v H1 s1 tv => hb σ H1 _ (en.next s1) fun w H2 s2 tw => by
    obtain ⟨a, xs, rfl, sq, l⟩ := tv.carry (same_carry s2)
    obtain ⟨x, hx, tx⟩ := tvl_atI l h
    have e : w = .int i := tw
    subst e
    exact ⟨a, xs, i, x, rfl, rfl, sq, hx, q x H2 (s1.trans s2) tx⟩
theorem de_cat {fs : List PyData} (ha : DE K ta ρ (.tuple ds)) (hb : DE K tb ρ (.tuple es)) (he : ds ++ es = fs := by rfl) (hl : ds.length + es.length ≤ 1000 := by decide) : DE K (tOp (rCatA K) ta tb) ρ (.tuple fs) := by
  subst he
  exact fun σ H Q en q => ha σ H _ en fun v H1 s1 tv => hb σ H1 _ (en.next s1) fun w H2 s2 tw => by
    obtain ⟨a, xs, rfl, sq, l⟩ := tv.carry (same_carry s2)
    obtain ⟨a2, ys, rfl, sq2, l2⟩ := tw
    refine ⟨a, a2, xs, ys, rfl, rfl, sq, sq2, by rw [tvl_len l, tvl_len l2]; exact Nat.le_of_lt (small1000 hl), fun z => ?_, fun z1 z2 => ?_, fun z1 z2 p hp => ?_⟩
    · refine q _ H2 (s1.trans s2) ⟨a2, ys, rfl, sq2, ?_⟩
      subst z
      have e : ds = [] := by
        have := tvl_len l
        cases ds with
        | nil => rfl
        | cons d r => simp at this
      rw [e]
      exact l2
    · refine q _ H2 (s1.trans s2) ⟨a, xs, rfl, sq, ?_⟩
      subst z2
      have e : es = [] := by
        have := tvl_len l2
        cases es with
        | nil => rfl
        | cons d r => simp at this
      rw [e, List.append_nil]
      exact l
    · exact q _ _ ((s1.trans s2).trans (same_put hp)) ⟨p, _, rfl, SqT.of upd_same, TvL.carry (carry_new hp) _ _ (tvl_app l l2)⟩
theorem do_none : DO K tNoPart ρ none := fun σ H Q en q => q H (same_refl H)
theorem do_some {i : Int} (h : DE K te ρ (.int i)) : DO K (tPart te) ρ (some i) := fun σ H Q en q => h σ H _ en fun v H1 s1 tv => ⟨i, tv, q H1 s1⟩
/-- t[lo:hi] of data -/
def cutD (ds : List PyData) (lo hi : Option Int) : List PyData := (ds.drop (HT.sIx ds.length 0 lo)).take (HT.sIx ds.length ds.length hi - HT.sIx ds.length 0 lo)
theorem de_sl {t1 t2 : TO} {lo hi : Option Int} (h : DE K te ρ (.tuple ds)) (h1 : DO K t1 ρ lo) (h2 : DO K t2 ρ hi) (he : cutD ds lo hi = es := by rfl) : DE K (tSl (rSlA K) te t1 t2) ρ (.tuple es) := fun σ H Q en q =>
  h σ H _ en fun v H1 s1 tv => h1 σ H1 _ (en.next s1) fun H2 s2 => h2 σ H2 _ (en.next (s1.trans s2)) fun H3 s3 => by
    obtain ⟨a, xs, rfl, sq, l⟩ := tv.carry (same_carry (s2.trans s3))
    have e := tvl_len l
    refine ⟨a, xs, rfl, sq, fun z => ?_, fun z p hp => ?_⟩
    · refine q _ H3 ((s1.trans s2).trans s3) ⟨a, xs, rfl, sq, ?_⟩
      rw [← he]
      unfold cutD
      rw [← e, z.1, z.2, List.drop_zero, Nat.sub_zero, e, List.take_length]
      exact l
    · refine q _ _ (((s1.trans s2).trans s3).trans (same_put hp)) ⟨p, _, rfl, SqT.of upd_same, TvL.carry (carry_new hp) _ _ ?_⟩
      rw [← he]
      unfold cutD cutV
      rw [← e]
      exact tvl_take _ (tvl_drop _ l)
/-! ### equality of texts, whole numbers; is None; in a tuple of texts -/
theorem de_eqS {p q : Str} (ha : DE K ta ρ (.str p)) (hb : DE K tb ρ (.str q)) (h : decide (p = q) = b := by first | rfl | decide) : DE K (tOp rEq ta tb) ρ (.bool b) := fun σ H Q en k =>
  ha σ H _ en fun v H1 s1 tv => hb σ H1 _ (en.next s1) fun w H2 s2 tw => by
    have e1 : v = .str p := tv
    have e2 : w = .str q := tw
    subst e1 e2
    refine ⟨rfl, k _ H2 (s1.trans s2) ?_⟩
    show V.bl (decide (V.str p = V.str q)) = .bl b
    rw [← h]
    congr 1
    simp
theorem de_neS {p q : Str} (ha : DE K ta ρ (.str p)) (hb : DE K tb ρ (.str q)) (h : (!decide (p = q)) = b := by first | rfl | decide) : DE K (tOp rNe ta tb) ρ (.bool b) := fun σ H Q en k =>
  ha σ H _ en fun v H1 s1 tv => hb σ H1 _ (en.next s1) fun w H2 s2 tw => by
    have e1 : v = .str p := tv
    have e2 : w = .str q := tw
    subst e1 e2
    refine ⟨rfl, k _ H2 (s1.trans s2) ?_⟩
    show V.bl (!decide (V.str p = V.str q)) = .bl b
    rw [← h]
    congr 2
    simp
theorem dec_V {i j : Int} : decide (V.int i = V.int j) = decide (i = j) := by simp
theorem de_eqI {i j : Int} (ha : DE K ta ρ (.int i)) (hb : DE K tb ρ (.int j)) : DE K (tOp rEq ta tb) ρ (.bool (decide (i = j))) := fun σ H Q en k =>
  ha σ H _ en fun v H1 s1 tv => hb σ H1 _ (en.next s1) fun w H2 s2 tw => by
    have e1 : v = .int i := tv
    have e2 : w = .int j := tw
    subst e1 e2
    exact ⟨rfl, k _ H2 (s1.trans s2) (by rw [dec_V]; rfl)⟩
def isNo : PyData → Bool
  | .none => true
  | _ => false
theorem isNo_tv {v : V} (h : Tv K H d v) : decide (v = .non) = isNo d := by
  cases d with
  | none => cases h; rfl
  | bool b => cases h; rfl
  | int i => cases h; rfl
  | str s => cases h; rfl
  | tuple ds => obtain ⟨a, xs, rfl, _⟩ := h; rfl
  | list ds => exact False.elim h
  | dict ds => exact False.elim h
theorem de_isN {r : R2} (hr : ∀ x H Q, Q (V.bl (decide (x = .non))) H → r x .non H Q) (ha : DE K ta ρ d) (h : isNo d = b := by rfl) : DE K (tOp r ta (tC .non)) ρ (.bool b) := fun σ H Q en k =>
  ha σ H _ en fun v H1 s1 tv => hr _ _ _ (k _ H1 s1 (by rw [isNo_tv tv, h]; rfl))
theorem de_notN {r : R2} (hr : ∀ x H Q, Q (V.bl (!decide (x = .non))) H → r x .non H Q) (ha : DE K ta ρ d) (h : (!isNo d) = b := by rfl) : DE K (tOp r ta (tC .non)) ρ (.bool b) := fun σ H Q en k =>
  ha σ H _ en fun v H1 s1 tv => hr _ _ _ (k _ H1 s1 (by rw [isNo_tv tv, h]; rfl))
def strsOf : List PyData → Option (List Str)
  | [] => some []
  | .str z :: r => (strsOf r).map (z :: ·)
  | _ :: _ => none
theorem strs_tv : ∀ {ds : List PyData} {zs : List Str} {xs : List V}, strsOf ds = some zs → TvL K H ds xs → xs = zs.map V.str
  | [], zs, xs, h, l => by
    simp only [strsOf] at h
    cases h
    exact l
  | d :: r, zs, xs, h, l => by
    obtain ⟨x, ys, rfl, tx, l2⟩ := l
    cases d with
    | str z =>
      simp only [strsOf] at h
      cases e : strsOf r with
      | none => rw [e] at h; cases h
      | some ws =>
        rw [e] at h
        cases h
        rw [List.map_cons, ← strs_tv e l2]
        rw [show x = V.str z from tx]
    | none => simp [strsOf] at h
    | bool b => simp [strsOf] at h
    | int i => simp [strsOf] at h
    | tuple ds => simp [strsOf] at h
    | list ds => simp [strsOf] at h
    | dict ds => simp [strsOf] at h
theorem all_flat (zs : List Str) : (zs.map V.str).all flatV = true := by
  induction zs with
  | nil => rfl
  | cons z r ih => rw [List.map_cons, List.all_cons, ih]; rfl
theorem in_strs (z : Str) (zs : List Str) : inV (.str z) (zs.map V.str) = decide (z ∈ zs) := by
  unfold inV
  rw [List.any_map]
  induction zs with
  | nil => rfl
  | cons y r ih =>
    rw [List.any_cons, ih]
    show (eqV (V.str y) (V.str z) || decide (z ∈ r)) = decide (z ∈ y :: r)
    have e : eqV (V.str y) (V.str z) = decide (z = y) := by
      show decide (y = z) = decide (z = y)
      by_cases c : y = z
      · rw [decide_eq_true c, decide_eq_true c.symm]
      · rw [decide_eq_false c, decide_eq_false (fun q => c q.symm)]
    rw [e, ← Bool.decide_or]
    congr 1
    rw [List.mem_cons]
theorem de_in {z : Str} {zs : List Str} (ha : DE K ta ρ (.str z)) (hb : DE K tb ρ (.tuple ds)) (hs : strsOf ds = some zs := by rfl) (h : decide (z ∈ zs) = b := by first | rfl | decide) : DE K (tOp (rIn K false) ta tb) ρ (.bool b) := fun σ H Q en k =>
  ha σ H _ en fun v H1 s1 tv => hb σ H1 _ (en.next s1) fun w H2 s2 tw => by
    have e1 : v = .str z := tv
    subst e1
    obtain ⟨a, xs, rfl, sq, l⟩ := tw
    have e2 := strs_tv hs l
    subst e2
    refine ⟨a, _, rfl, .inr sq, rfl, all_flat zs, ?_⟩
    rw [in_strs, h]
    exact k _ H2 (s1.trans s2) rfl
/-! ### truth -/
theorem dt_test (h : DE K te ρ (.bool b)) : DT K (tTest te) ρ b := fun σ H Q en q => h σ H _ en fun v H1 s1 tv => ⟨b, tv, q H1 s1⟩
theorem dt_B (h : DE K te ρ (.bool b)) : DT K (tB te) ρ b := fun σ H Q en q => h σ H _ en fun v H1 s1 tv => ⟨b, tv, q H1 s1⟩
theorem dt_not (h : DT K t ρ b) : DT K (tNot t) ρ (!b) := fun σ H Q en q => h σ H _ en fun H1 s1 => q H1 s1
theorem dt_notT (h : DT K t ρ false) : DT K (tNot t) ρ true := dt_not h
theorem dt_notF (h : DT K t ρ true) : DT K (tNot t) ρ false := dt_not h
theorem dt_andT (h : DT K t ρ true) (g : DT K u ρ b) : DT K (tAnd t u) ρ b := fun σ H Q en q => h σ H _ en fun H1 s1 => by
  show u σ H1 Q
  exact g σ H1 _ (en.next s1) fun H2 s2 => q H2 (s1.trans s2)
theorem dt_andF (h : DT K t ρ false) : DT K (tAnd t u) ρ false := fun σ H Q en q => h σ H _ en fun H1 s1 => by
  show Q false H1
  exact q H1 s1
theorem dt_orT (h : DT K t ρ true) : DT K (tOr t u) ρ true := fun σ H Q en q => h σ H _ en fun H1 s1 => by
  show Q true H1
  exact q H1 s1
theorem dt_orF (h : DT K t ρ false) (g : DT K u ρ b) : DT K (tOr t u) ρ b := fun σ H Q en q => h σ H _ en fun H1 s1 => by
  show u σ H1 Q
  exact g σ H1 _ (en.next s1) fun H2 s2 => q H2 (s1.trans s2)
theorem de_not (h : DE K ta ρ (.bool b)) : DE K (tNotV ta) ρ (.bool (!b)) := fun σ H Q en q => h σ H _ en fun v H1 s1 tv => ⟨b, tv, q _ H1 s1 rfl⟩
theorem de_andT (h : DE K ta ρ (.bool true)) (g : DE K tb ρ d) : DE K (tAndV ta tb) ρ d := fun σ H Q en q => h σ H _ en fun v H1 s1 tv => ⟨true, tv, by
  show tb σ H1 Q
  exact g σ H1 _ (en.next s1) fun v2 H2 s2 t2 => q v2 H2 (s1.trans s2) t2⟩
theorem de_andF (h : DE K ta ρ (.bool false)) : DE K (tAndV ta tb) ρ (.bool false) := fun σ H Q en q => h σ H _ en fun v H1 s1 tv => ⟨false, tv, by
  show Q (.bl false) H1
  exact q _ H1 s1 rfl⟩
theorem de_orT (h : DE K ta ρ (.bool true)) : DE K (tOrV ta tb) ρ (.bool true) := fun σ H Q en q => h σ H _ en fun v H1 s1 tv => ⟨true, tv, by
  show Q (.bl true) H1
  exact q _ H1 s1 rfl⟩
theorem de_orF (h : DE K ta ρ (.bool false)) (g : DE K tb ρ d) : DE K (tOrV ta tb) ρ d := fun σ H Q en q => h σ H _ en fun v H1 s1 tv => ⟨false, tv, by
  show tb σ H1 Q
  exact g σ H1 _ (en.next s1) fun v2 H2 s2 t2 => q v2 H2 (s1.trans s2) t2⟩
theorem de_ifT (h : DT K t ρ true) (g : DE K ta ρ d) : DE K (tIf t ta tb) ρ d := fun σ H Q en q => h σ H _ en fun H1 s1 => by
  show ta σ H1 Q
  exact g σ H1 _ (en.next s1) fun v2 H2 s2 t2 => q v2 H2 (s1.trans s2) t2
theorem de_ifF (h : DT K t ρ false) (g : DE K tb ρ d) : DE K (tIf t ta tb) ρ d := fun σ H Q en q => h σ H _ en fun H1 s1 => by
  show tb σ H1 Q
  exact g σ H1 _ (en.next s1) fun v2 H2 s2 t2 => q v2 H2 (s1.trans s2) t2
/-! ### calls -/
theorem de_call {sp : Sp} {E : XK} (h : DA K tl ρ ds) (g : PV K sp ds d) : DE K (tCall sp [] E tl) ρ d := fun σ H Q en q => h σ H _ en fun vs H1 s1 tv => by
  show sp (vs ++ []) H1 Q E
  rw [List.append_nil]
  exact g vs H1 Q E tv fun v H2 s2 t2 => q v H2 (s1.trans s2) t2
/-! ### statements -/
theorem dr_ret (h : DE K te ρ d) : DR K (tRet te) ρ d := fun D σ H en q => h σ H _ en q
theorem dr_seq (h : DN K ts ρ ρ') (g : DR K tu ρ' d) : DR K (tSeq ts tu) ρ d := fun D σ H en q => h { D with nx := tu D } σ H en fun σ' H1 s1 en1 => g D σ' H1 en1 fun v H2 s2 t2 => q v H2 (s1.trans s2) t2
theorem dr_stop (h : DR K ts ρ d) : DR K (tSeq ts tu) ρ d := fun D σ H en q => h { D with nx := tu D } σ H en q
theorem dn_seq (h : DN K ts ρ ρ') (g : DN K tu ρ' ρ2) : DN K (tSeq ts tu) ρ ρ2 := fun D σ H en q => h { D with nx := tu D } σ H en fun σ' H1 s1 en1 => g D σ' H1 en1 fun σ2 H2 s2 t2 => q σ2 H2 (s1.trans s2) t2
theorem dn_next : DN K tNext ρ ρ := fun D σ H en q => q σ H (same_refl H) en
theorem dr_ifT (h : DT K t ρ true) (g : DR K ts ρ d) : DR K (tIfS t ts tu) ρ d := fun D σ H en q => h σ H _ en fun H1 s1 => by
  show ts D σ H1
  exact g D σ H1 (en.next s1) fun v H2 s2 t2 => q v H2 (s1.trans s2) t2
theorem dr_ifF (h : DT K t ρ false) (g : DR K tu ρ d) : DR K (tIfS t ts tu) ρ d := fun D σ H en q => h σ H _ en fun H1 s1 => by
  show tu D σ H1
  exact g D σ H1 (en.next s1) fun v H2 s2 t2 => q v H2 (s1.trans s2) t2
theorem dn_ifT (h : DT K t ρ true) (g : DN K ts ρ ρ') : DN K (tIfS t ts tu) ρ ρ' := fun D σ H en q => h σ H _ en fun H1 s1 => by
  show ts D σ H1
  exact g D σ H1 (en.next s1) fun v H2 s2 t2 => q v H2 (s1.trans s2) t2
theorem dn_ifF (h : DT K t ρ false) (g : DN K tu ρ ρ') : DN K (tIfS t ts tu) ρ ρ' := fun D σ H en q => h σ H _ en fun H1 s1 => by
  show tu D σ H1
  exact g D σ H1 (en.next s1) fun v H2 s2 t2 => q v H2 (s1.trans s2) t2
theorem dn_set {i : Nat} (h : DE K te ρ d) : DN K (tAsg te (gName i)) ρ (ρ.set i (some d)) := fun D σ H en q => h σ H _ en fun v H1 s1 tv => q _ H1 s1 ((en.next s1).put tv)
theorem dn_un2 {i j : Nat} (h : DE K te ρ (.tuple [x, y])) : DN K (tAsg te (gTup K 2 (gCons (gName i) (gCons (gName j) gNil)))) ρ ((ρ.set i (some x)).set j (some y)) := fun D σ H en q => h σ H _ en fun v H1 s1 tv => by
  obtain ⟨a, xs, rfl, sq, v1, r1, rfl, t1, v2, r2, rfl, t2, rfl⟩ := tv
  exact ⟨a, _, rfl, sq, rfl, v1, _, rfl, v2, _, rfl, rfl, q _ H1 s1 (((en.next s1).put t1).put t2)⟩
theorem dn_un3 {i j l : Nat} (h : DE K te ρ (.tuple [x, y, d])) : DN K (tAsg te (gTup K 3 (gCons (gName i) (gCons (gName j) (gCons (gName l) gNil))))) ρ (((ρ.set i (some x)).set j (some y)).set l (some d)) := fun D σ H en q => h σ H _ en fun v H1 s1 tv => by
  obtain ⟨a, xs, rfl, sq, v1, r1, rfl, t1, v2, r2, rfl, t2, v3, r3, rfl, t3, rfl⟩ := tv
  exact ⟨a, _, rfl, sq, rfl, v1, _, rfl, v2, _, rfl, v3, _, rfl, rfl, q _ H1 s1 ((((en.next s1).put t1).put t2).put t3)⟩
theorem dr_set {i : Nat} (h : DE K te ρ d) (g : DR K tu (ρ.set i (some d)) e) : DR K (tSeq (tAsg te (gName i)) tu) ρ e := dr_seq (dn_set h) g
theorem dr_un2 {i j : Nat} (h : DE K te ρ (.tuple [x, y])) (g : DR K tu ((ρ.set i (some x)).set j (some y)) e) : DR K (tSeq (tAsg te (gTup K 2 (gCons (gName i) (gCons (gName j) gNil)))) tu) ρ e := dr_seq (dn_un2 h) g
theorem dr_un3 {i j l : Nat} (h : DE K te ρ (.tuple [x, y, d])) (g : DR K tu (((ρ.set i (some x)).set j (some y)).set l (some d)) e) : DR K (tSeq (tAsg te (gTup K 3 (gCons (gName i) (gCons (gName j) (gCons (gName l) gNil))))) tu) ρ e := dr_seq (dn_un3 h) g
theorem dr_whenF (h : DT K t ρ false) (g : DR K tu ρ d) : DR K (tSeq (tIfS t ts tNext) tu) ρ d := dr_seq (dn_ifF h dn_next) g
theorem dr_whenT (h : DT K t ρ true) (g : DR K ts ρ d) : DR K (tSeq (tIfS t ts tz) tu) ρ d := dr_stop (dr_ifT h g)
end
/-- the promise of a def that hands back data: f of the arguments, where dom holds -/
def spP (K : PySem.W.Frag) (n : Nat) (dom : List PyData → PyData → Prop) : Sp := fun vs H Q _ => ∃ (ds : List PyData) (d : PyData), ds.length = n ∧ TvL K H ds vs ∧ dom ds d ∧ ∀ v H2, Same H H2 → Tv K H2 d v → Q v H2
theorem pv_P {K : PySem.W.Frag} {n : Nat} {dom : List PyData → PyData → Prop} {ds : List PyData} {d : PyData} (h : dom ds d) (hn : ds.length = n := by rfl) : PV K (spP K n dom) ds d := fun vs H Q E tv q => ⟨ds, d, hn, tv, h, q⟩
theorem en_start {K : PySem.W.Frag} {H : Hp} : ∀ {ds : List PyData} {vs : List V} {N : List Str}, TvL K H ds vs → ds.length ≤ N.length → En K H (start N vs) (ds.map some ++ List.replicate (N.length - ds.length) none) := by
  intro ds vs N l hl
  have e := tvl_len l
  refine ⟨?_, fun i d q => ?_⟩
  · show (vs.map some ++ List.replicate (N.length - vs.length) none).length = _
    simp [e]
  · show ∃ v, (vs.map some ++ List.replicate (N.length - vs.length) none)[i]? = some (some v) ∧ Tv K H d v
    rw [List.getElem?_append] at q
    rw [List.getElem?_append, List.length_map]
    rw [List.length_map] at q
    by_cases c : i < ds.length
    · rw [if_pos c, List.getElem?_map] at q
      rw [if_pos (by rw [e]; exact c), List.getElem?_map]
      cases e2 : ds[i]? with
      | none => rw [e2] at q; cases q
      | some d' =>
        rw [e2] at q
        cases q
        obtain ⟨x, h1, h2⟩ := tvl_get l e2
        exact ⟨x, by rw [h1]; rfl, h2⟩
    · rw [if_neg c] at q
      rw [List.getElem?_replicate] at q
      split at q <;> cases q
section
variable {P : Program} {w : World} {K : PySem.W.Frag} {mg : Str → Option Value} {base : Heap}
/-- a def whose body is worth what dom says -/
theorem ok_P {x qual : Str} {st : Stmt} {f : Addr} {fd : FuncData} {N ps : List Str} {k : Nat} {dom : List PyData → PyData → Prop} (F : Fun K x qual st f fd) (S : FnScope N ps (defScope st))
    (hN : ps.length ≤ N.length) 
    (body : ∀ (cdv : Value) (A : Around) (outer : List Env) (s : Shared) (H : Hp) (E : XK), Room k (A.deeper (envOfC qual (defScope st) s.heap.objs.size f cdv)) →
      ∃ t, PSs (cxOf CX0 P w K mg base N qual (defScope st) f cdv A outer s H E).nox (defBody st) t ∧ ∀ ds d, ds.length = ps.length → dom ds d → DR K t (ds.map some ++ List.replicate (N.length - ds.length) none) d) :
    FnOk P w K mg base CX0 (k + 1) f fd ps (spP K ps.length dom) := by
  refine F.ok S (fun vs H Q E h => ?_) (fun cdv A outer s H vs Q E hr h => ?_)
  · obtain ⟨ds, d, hl, tl, _⟩ := h
    rw [tvl_len tl, hl]
  · obtain ⟨ds, d, hl, tl, hd, q⟩ := h
    obtain ⟨t, ht, hb⟩ := body cdv A outer s H E hr
    exact ⟨t, ht, hb ds d hl hd _ _ H (en_start tl (by rw [hl]; exact hN)) q⟩
end
end Pu

/-! ### pure data: isinstance, deep equality -/
namespace Pu
open PySem L2 Tr PyProof.Rows
def tyD : PyData → String
  | .none => "NoneType" | .bool _ => "bool" | .int _ => "int" | .str _ => "str" | .tuple _ => "tuple" | .list _ => "list" | .dict _ => "dict"
section
variable {K : PySem.W.Frag} {H H' : Hp} {σ : L2.St} {ρ : Rho} {te ta tb : TE} {tl : TA} {d e : PyData} {ds : List PyData} {b : Bool}
theorem tyx_tup {a : Addr} {xs : List V} (h : SqT K H a xs) : TyX K H (.ref a) (.type "tuple") := by
  rcases h with (h | ⟨o, h⟩) | ⟨o, its, n, h, c, _⟩
  · exact .base (.tup h)
  · exact .fTuple h
  · exact .kTuple h c
theorem tyx_tv {v : V} (h : Tv K H d v) : TyX K H v (.type (tyD d)) := by
  cases d with
  | none => cases h; exact .base .non
  | bool b => cases h; exact .base (.bl b)
  | int i => cases h; exact .base (.int i)
  | str s => cases h; exact .base (.str s)
  | tuple ds => obtain ⟨a, xs, rfl, s, _⟩ := h; exact tyx_tup s
  | list ds => exact False.elim h
  | dict ds => exact False.elim h
theorem de_isi {n : String} (ha : DE K ta ρ d) (h : kitB (tyD d) n = some b := by decide +kernel) : DE K (tCB (rIsi K) (tCons ta (tCons (tC (.ty n)) tNil))) ρ (.bool b) := fun σ H Q en k =>
  ha σ H _ en fun v H1 s1 tv => ⟨v, .ty n, .type (tyD d), .type n, b, rfl, .ty n, tyx_tv tv, kit_ty h, k _ H1 s1 rfl⟩
mutual
theorem dp_tv : ∀ (d : PyData) (v : V), Tv K H d v → Dp K H v d
  | .none, v, h => by cases h; exact .non
  | .bool b, v, h => by cases h; exact .bl b
  | .int i, v, h => by cases h; exact .int i
  | .str s, v, h => by cases h; exact .str s
  | .tuple ds, v, h => by
    obtain ⟨a, xs, rfl, s, l⟩ := h
    exact .tup s (dps_tv ds xs l)
  | .list ds, v, h => False.elim h
  | .dict ds, v, h => False.elim h
theorem dps_tv : ∀ (ds : List PyData) (vs : List V), TvL K H ds vs → DpAll K H vs ds
  | [], vs, h => by cases h; exact .nil
  | d :: ds, vs, h => by
    obtain ⟨x, xs, rfl, t, l⟩ := h
    exact .cons (dp_tv d x t) (dps_tv ds xs l)
end
/-- shaped data: no dict, texts are texts, of this depth at most -/
def Sh (n : Nat) (d : PyData) : Prop := d.canLay0 = true ∧ d.depth ≤ n
def ShL (n : Nat) (ds : List PyData) : Prop := PyData.canLayAll0 ds = true ∧ PyData.depthAll ds ≤ n
theorem Sh.mono {n m : Nat} (h : Sh n d) (l : n ≤ m) : Sh m d := ⟨h.1, Nat.le_trans h.2 l⟩
theorem sh_nil {n : Nat} : ShL n [] := ⟨rfl, Nat.zero_le _⟩
theorem sh_cons {n : Nat} (h : Sh n d) (g : ShL n ds) : ShL n (d :: ds) := ⟨by show (d.canLay0 && PyData.canLayAll0 ds) = true; rw [h.1, g.1]; rfl, Nat.max_le.mpr ⟨h.2, g.2⟩⟩
theorem sh_tup {n : Nat} (h : ShL n ds) : Sh (n + 1) (.tuple ds) := ⟨h.1, Nat.succ_le_succ h.2⟩
theorem sh_int {n : Nat} {i : Int} : Sh n (.int i) := ⟨rfl, Nat.zero_le _⟩
theorem sh_non {n : Nat} : Sh n .none := ⟨rfl, Nat.zero_le _⟩
theorem sh_bl {n : Nat} : Sh n (.bool b) := ⟨rfl, Nat.zero_le _⟩
theorem sh_str {n : Nat} {s : Str} (h : PyData.strOk s = true) : Sh n (.str s) := ⟨h, Nat.zero_le _⟩
theorem Sh.shaped {n : Nat} (h : Sh n d) (l : n ≤ 64) : SeqAt.shaped d = true := by
  unfold SeqAt.shaped
  rw [h.1, decide_eq_true (Nat.le_trans h.2 l)]
  rfl
/-- two reads of one shaped value are equal -/
theorem same_data {x y : V} {n : Nat} {Q : VK} (hx : Tv K H d x) (hy : Tv K H d y) (h : Sh n d) (l : n ≤ 64) (q : Q (.bl true) H) : rEqD K x y H Q :=
  ⟨d, d, dp_tv d x hx, dp_tv d y hy, h.shaped l, h.shaped l, by rw [SeqAt.eqv_refl d h.1]; exact q⟩
theorem same_dataN {x y : V} {n : Nat} {Q : VK} (hx : Tv K H d x) (hy : Tv K H d y) (h : Sh n d) (l : n ≤ 64) (q : Q (.bl false) H) : rNeD K x y H Q :=
  ⟨d, d, dp_tv d x hx, dp_tv d y hy, h.shaped l, h.shaped l, by rw [SeqAt.eqv_refl d h.1]; exact q⟩
end
end Pu

namespace Tr
open PySem L2

/-! ### the trees -/
inductive IxOp where
  | plus | minus | times
def IxOp.str : IxOp → Str
  | .plus => "plus" | .minus => "minus" | .times => "times"
inductive Ix where
  | int (n : Int)
  | beat
  | var (s : Str)
  | rem (a : Ix) (n : Int)
  | op (o : IxOp) (a b : Ix)
def Ix.enc : Ix → PyData
  | .int n => .tuple [.str "integer", .int n]
  | .beat => .tuple [.str "beat"]
  | .var s => .tuple [.str "index", .str s]
  | .rem a n => .tuple [.str "rem", a.enc, .int n]
  | .op o a b => .tuple [.str o.str, a.enc, b.enc]
/-- what the law draws as an index, to a depth, over names of integers -/
inductive GIx (is : List Str) : Nat → Ix → Prop where
  | int {d : Nat} {n : Int} (h0 : 0 ≤ n) (h1 : n < 4) : GIx is d (.int n)
  | beat {d : Nat} : GIx is d .beat
  | var {d : Nat} {s : Str} (h : s ∈ is) : GIx is d (.var s)
  | rem {d : Nat} {a : Ix} {n : Int} (ha : GIx is d a) (h0 : 1 ≤ n) (h1 : n < 6) : GIx is (d + 1) (.rem a n)
  | op {d : Nat} {o : IxOp} {a b : Ix} (ha : GIx is d a) (hb : GIx is d b) : GIx is (d + 1) (.op o a b)
/-! ### the promises of the draws -/
/-- the two lists of the draws: the numbers at d, the counter at p -/
structure Dr (K : PySem.W.Frag) (H : Hp) (d p : Addr) : Prop where
  ne : d ≠ p
  num : ∃ ns : List Int, SqL K H d (ns.map V.int)
  ctr : AtL H p
theorem Dr.next {K : PySem.W.Frag} {H H' : Hp} {d p : Addr} (h : Dr K H d p) (s : Stays p H H') (c : AtL H' p) : Dr K H' d p := by
  obtain ⟨ns, q⟩ := h.num
  exact ⟨h.ne, ⟨ns, s.list h.ne q⟩, c⟩
theorem Dr.new {K : PySem.W.Frag} {H : Hp} {d p q : Addr} {o : HO} (h : Dr K H d p) (n : H q = none) : Dr K (upd H q o) d p := h.next (stays_new n) (h.ctr.new n)
def spTake (K : PySem.W.Frag) : Sp := fun vs H Q _ => ∃ (d p : Addr) (m : Int), vs = [.ref d, .ref p, .int m] ∧ Dr K H d p ∧ 0 < m ∧
  ∀ v H', 0 ≤ v → v < m → Stays p H H' → AtL H' p → Q (.int v) H'
/-- a drawn number -/
def GNum (n : Int) : Prop := 0 ≤ n ∧ n < 2147483647
def spNumb (K : PySem.W.Frag) : Sp := fun vs H Q _ => ∃ (d p : Addr), vs = [.ref d, .ref p] ∧ Dr K H d p ∧ ∀ n H', GNum n → Stays p H H' → AtL H' p → Q (.int n) H'
def spIx (K : PySem.W.Frag) (k : Nat) : Sp := fun vs H Q _ => ∃ (i d p : Addr) (is : List Str) (n : Nat), vs = [.ref i, .ref d, .ref p, .int (n : Int)] ∧ Dr K H d p ∧ i ≠ p ∧ SqL K H i (is.map V.str) ∧ is.length ≤ 1000 ∧ n < k ∧
  ∀ x v H', GIx is n x → Tv K H' x.enc v → Stays p H H' → AtL H' p → Q v H'
abbrev sTake : Stmt := top 6
abbrev sNumb : Stmt := top 7
abbrev sIx : Stmt := top 8
section
variable {P : Program} {w : World} {K : PySem.W.Frag} {mg : Str → Option Value} {base : Heap}
theorem scTake : FnScope ["draws", "at", "many", "number"] ["draws", "at", "many"] (defScope sTake) := ⟨rfl, rfl, rfl, by decide +kernel, rfl, by decide +kernel, by decide +kernel⟩
theorem at_in {α : Type} {xs : List α} {j : Int} (h0 : 0 ≤ j) (h : j < (xs.length : Int)) : ∃ x, atI xs j = some x ∧ xs[j.toNat]? = some x := by
  have e : j = ((j.toNat : Nat) : Int) := by omega
  have hk : j.toNat < xs.length := by omega
  have q : atI xs ((j.toNat : Nat) : Int) = some xs[j.toNat] := atI_nat (List.getElem?_eq_getElem hk)
  rw [← e] at q
  exact ⟨_, q, List.getElem?_eq_getElem hk⟩
theorem ok_take {f : Addr} {fd : FuncData} (F : Fun K "_law_take" "_law_take" sTake f fd) (T : Bi mg) : FnOk P w K mg base CX0 1 f fd ["draws", "at", "many"] (spTake K) := by
  refine F.ok scTake (fun vs H Q E h => ?_) (fun cdv A outer s H vs Q E hr h => ?_)
  · obtain ⟨d, p, m, rfl, _⟩ := h
    rfl
  · obtain ⟨d, p, m, rfl, D, m0, q⟩ := h
    obtain ⟨ns, hS⟩ := D.num
    obtain ⟨j, j0, hp⟩ := D.ctr
    have nd := scTake.nd
    refine ⟨_, pss_cons (ps_if (pt_cmpR op_ge (pe_ix ix_list (pv 1) pe_int (fun _ _ => rfl)) (pe_callB call_len_seq rfl T.len PySem.boot_len (pa_cons (pv 0) pa_nil)) (nomark _)) (pss_one (ps_ret pe_int)) pss_nil)
      (pss_cons (ps_set (i := 3) nd rfl (.inl rfl) (pe_ix ix_list (pv 0) (pe_ix ix_list (pv 1) pe_int (fun _ _ => rfl)) (fun _ _ => rfl)))
      (pss_cons (ps_asg (pe_op op_add (pe_ix ix_list (pv 1) pe_int (fun _ _ => rfl)) pe_int) (pg_sub (pv 1) pe_int set_list))
      (pss_one (ps_ret (pe_op op_mod (pe_callTy call_int1 rfl T.int PyProof.Rows.boot_int (pa_cons (pv 3) pa_nil)) (pv 2)))))), ?_⟩
    refine ⟨_, rfl, p, _, _, _, rfl, rfl, SqL.of hp, rfl, _, rfl, d, _, rfl, .inl hS, _, _, rfl, rfl, _, rfl, ?_⟩
    rw [List.length_map]
    by_cases c : j ≥ (ns.length : Int)
    · refine iteT' (decide_eq_true c) ?_
      exact q 0 H (Int.le_refl _) m0 (Stays.refl _ _) ⟨j, j0, hp⟩
    · refine iteF' (decide_eq_false c) ?_
      obtain ⟨x, hx, hx2⟩ := at_in (xs := ns.map V.int) j0 (by rw [List.length_map]; omega)
      rw [List.getElem?_map] at hx2
      obtain ⟨n, rfl⟩ : ∃ n, x = V.int n := by
        cases e : ns[j.toNat]? with
        | none => rw [e] at hx2; cases hx2
        | some n => rw [e] at hx2; exact ⟨n, (Option.some.inj hx2).symm⟩
      refine ⟨_, rfl, _, rfl, p, _, _, _, rfl, rfl, SqL.of hp, rfl, d, _, _, _, rfl, rfl, hS, hx, ?_⟩
      refine ⟨_, rfl, p, _, _, _, rfl, rfl, SqL.of hp, rfl, _, _, rfl, rfl, _, rfl, p, _, _, _, rfl, rfl, hp, rfl, ?_⟩
      refine ⟨_, rfl, .inl ⟨_, rfl, _, rfl, _, _, rfl, rfl, m0, ?_⟩⟩
      exact q _ _ (Int.emod_nonneg _ (by omega)) (Int.emod_lt_of_pos _ m0) stays_upd ⟨j + 1, by omega, upd_same⟩

theorem scNumb : FnScope ["draws", "at"] ["draws", "at"] (defScope sNumb) := ⟨rfl, rfl, rfl, by decide +kernel, rfl, by decide +kernel, by decide +kernel⟩
theorem ok_numb {f : Addr} {fd : FuncData} (F : Fun K "_law_number" "_law_number" sNumb f fd) (c_take : Cal P w K mg base CX0 1 "_law_take" ["draws", "at", "many"] (spTake K)) : FnOk P w K mg base CX0 2 f fd ["draws", "at"] (spNumb K) := by
  refine F.ok scNumb (fun vs H Q E h => ?_) (fun cdv A outer s H vs Q E hr h => ?_)
  · obtain ⟨d, p, rfl, _⟩ := h
    rfl
  · obtain ⟨d, p, rfl, D, q⟩ := h
    have five : 5 ≤ sizeLine := by decide
    refine ⟨_, pss_cons (ps_if (pt_cmpR op_eq (pe_call c_take.ok (hr.mono (by first | decide | omega)) rfl c_take.m c_take.kp c_take.b .nil pass0 (pa_cons (pv 0) (pa_cons (pv 1) (pa_cons pe_int pa_nil)))) pe_int (nomark _)) (pss_one (ps_ret (pe_ix ix_list (pe_lst (pa_cons pe_int (pa_cons pe_int (pa_cons pe_int (pa_cons pe_int (pa_cons pe_int pa_nil)))))) (pe_call c_take.ok (hr.mono (by first | decide | omega)) rfl c_take.m c_take.kp c_take.b .nil pass0 (pa_cons (pv 0) (pa_cons (pv 1) (pa_cons pe_int pa_nil)))) (fun _ _ => rfl)))) pss_nil)
      (pss_one (ps_ret (pe_call c_take.ok (hr.mono (by first | decide | omega)) rfl c_take.m c_take.kp c_take.b .nil pass0 (pa_cons (pv 0) (pa_cons (pv 1) (pa_cons pe_int pa_nil)))))), ?_⟩
    refine ⟨_, rfl, _, rfl, d, p, 4, rfl, D, by decide, fun v H1 v0 v1 s1 c1 => ?_⟩
    have D1 := D.next s1 c1
    refine ⟨rfl, _, rfl, ite2 (fun _ => ?_) (fun _ => ?_)⟩
    · refine ⟨five, fun l hl => ?_⟩
      have D2 := D1.new (o := .lst [V.int 2147483646, V.int 1073741824, V.int 65536, V.int 46341, V.int 0]) hl
      refine ⟨_, rfl, _, rfl, d, p, 5, rfl, D2, by decide, fun u H2 u0 u1 s2 c2 => ?_⟩
      have nl : l ≠ p := fun z => by obtain ⟨j, _, e⟩ := c1; rw [z, e] at hl; cases hl
      have e2 := s2 l _ nl upd_same
      have st := (s1.trans (stays_new (p := p) (o := .lst [V.int 2147483646, V.int 1073741824, V.int 65536, V.int 46341, V.int 0]) hl)).trans s2
      have cs : u = 0 ∨ u = 1 ∨ u = 2 ∨ u = 3 ∨ u = 4 := by omega
      rcases cs with z | z | z | z | z <;> subst z
      all_goals exact ⟨l, _, _, _, rfl, rfl, SqL.of e2, rfl, q _ _ ⟨by decide, by decide⟩ st c2⟩
    · exact ⟨_, rfl, _, rfl, d, p, 9, rfl, D1, by decide, fun u H2 u0 u1 s2 c2 => q _ _ ⟨u0, Int.lt_trans u1 (by decide)⟩ (s1.trans s2) c2⟩
/-! ### indexes -/
theorem scIx : FnScope ["integers", "draws", "at", "depth", "choice", "left"] ["integers", "draws", "at", "depth"] (defScope sIx) := ⟨rfl, rfl, rfl, by decide +kernel, rfl, by decide +kernel, by decide +kernel⟩
theorem fn_none {f : Addr} {fd : FuncData} {ps : List Str} {sp : Sp} {k : Nat} (no : ∀ vs H Q E, ¬ sp vs H Q E) : FnOk P w K mg base CX0 k f fd ps sp :=
  ⟨fun vs H Q E h => absurd h (no vs H Q E), fun A outer s H args us vs Q E _ _ _ _ h => absurd h (no vs H Q E)⟩
theorem tv1 {H : Hp} {a : Addr} {x : V} {d : PyData} (h : H a = some (.tup [x])) (hx : Tv K H d x) : Tv K H (.tuple [d]) (.ref a) := ⟨a, _, rfl, SqT.of h, x, _, rfl, hx, rfl⟩
theorem tv2 {H : Hp} {a : Addr} {x y : V} {d e : PyData} (h : H a = some (.tup [x, y])) (hx : Tv K H d x) (hy : Tv K H e y) : Tv K H (.tuple [d, e]) (.ref a) := ⟨a, _, rfl, SqT.of h, x, _, rfl, hx, y, _, rfl, hy, rfl⟩
theorem tv3 {H : Hp} {a : Addr} {x y z : V} {d e g : PyData} (h : H a = some (.tup [x, y, z])) (hx : Tv K H d x) (hy : Tv K H e y) (hz : Tv K H g z) : Tv K H (.tuple [d, e, g]) (.ref a) := ⟨a, _, rfl, SqT.of h, x, _, rfl, hx, y, _, rfl, hy, z, _, rfl, hz, rfl⟩
theorem tv4 {H : Hp} {a : Addr} {x y z u : V} {d e g i : PyData} (h : H a = some (.tup [x, y, z, u])) (hx : Tv K H d x) (hy : Tv K H e y) (hz : Tv K H g z) (hu : Tv K H i u) : Tv K H (.tuple [d, e, g, i]) (.ref a) :=
  ⟨a, _, rfl, SqT.of h, x, _, rfl, hx, y, _, rfl, hy, z, _, rfl, hz, u, _, rfl, hu, rfl⟩
theorem ok_ix1 {f : Addr} {fd : FuncData} {k : Nat} (F : Fun K "_law_index" "_law_index" sIx f fd) (T : Bi mg) (c_take : Cal P w K mg base CX0 1 "_law_take" ["draws", "at", "many"] (spTake K))
    (c_ix : Cal P w K mg base CX0 (k + 1) "_law_index" ["integers", "draws", "at", "depth"] (spIx K k)) : FnOk P w K mg base CX0 (k + 1 + 1) f fd ["integers", "draws", "at", "depth"] (spIx K (k + 1)) := by
  refine F.ok scIx (fun vs H Q E h => ?_) (fun cdv A outer s H vs Q E hr h => ?_)
  · obtain ⟨i, d, p, is, n, rfl, _⟩ := h
    rfl
  · obtain ⟨i, d, p, is, n, rfl, D, ne, hI, hl, hn, q⟩ := h
    have nd := scIx.nd
    have one : 1 ≤ sizeLine := by decide
    have two : 2 ≤ sizeLine := by decide
    have three : 3 ≤ sizeLine := by decide
    refine ⟨_, pss_cons (ps_set (i := 4) nd rfl (.inl rfl) (pe_call c_take.ok (hr.mono (by first | decide | omega)) rfl c_take.m c_take.kp c_take.b .nil pass0 (pa_cons (pv 1) (pa_cons (pv 2) (pa_cons pe_int pa_nil)))))
      (pss_cons (ps_if (PW.pt (pw_or (pt_cmpR op_lt (pv 4) pe_int (nomark _)) (pw_or1 (pt_cmpR op_eq (pv 3) pe_int (nomark _))))) (pss_one (ps_ret (pe_tup (pa_cons pe_str (pa_cons (pe_call c_take.ok (hr.mono (by first | decide | omega)) rfl c_take.m c_take.kp c_take.b .nil pass0 (pa_cons (pv 1) (pa_cons (pv 2) (pa_cons pe_int pa_nil)))) pa_nil))))) pss_nil)
      (pss_cons (ps_if (pt_cmpR op_eq (pv 4) pe_int (nomark _)) (pss_one (ps_ret (pe_tup (pa_cons pe_str pa_nil)))) pss_nil)
      (pss_cons (ps_if (pt_cmpR op_lt (pv 4) pe_int (nomark _)) (pss_cons (ps_if (pt_truth (pv 0) (by intro _; rfl)) (pss_one (ps_ret (pe_tup (pa_cons pe_str (pa_cons (pe_ix ix_list (pv 0) (pe_call c_take.ok (hr.mono (by first | decide | omega)) rfl c_take.m c_take.kp c_take.b .nil pass0 (pa_cons (pv 1) (pa_cons (pv 2) (pa_cons (pe_callB call_len_seq rfl T.len PySem.boot_len (pa_cons (pv 0) pa_nil)) pa_nil)))) (fun _ _ => rfl)) pa_nil))))) pss_nil)
      (pss_one (ps_ret (pe_tup (pa_cons pe_str pa_nil))))) pss_nil)
      (pss_cons (ps_set (i := 5) nd rfl (.inl rfl) (pe_call c_ix.ok (hr.mono (by first | decide | omega)) rfl c_ix.m c_ix.kp c_ix.b .nil pass0 (pa_cons (pv 0) (pa_cons (pv 1) (pa_cons (pv 2) (pa_cons (pe_op op_sub (pv 3) pe_int) pa_nil))))))
      (pss_cons (ps_if (pt_cmpR op_eq (pv 4) pe_int (nomark _)) (pss_one (ps_ret (pe_tup (pa_cons pe_str (pa_cons (pv 5) (pa_cons (pe_op op_add pe_int (pe_call c_take.ok (hr.mono (by first | decide | omega)) rfl c_take.m c_take.kp c_take.b .nil pass0 (pa_cons (pv 1) (pa_cons (pv 2) (pa_cons pe_int pa_nil))))) pa_nil)))))) pss_nil)
      (pss_one (ps_ret (pe_tup (pa_cons (pe_ix ix_list (pe_lst (pa_cons pe_str (pa_cons pe_str (pa_cons pe_str pa_nil)))) (pe_call c_take.ok (hr.mono (by first | decide | omega)) rfl c_take.m c_take.kp c_take.b .nil pass0 (pa_cons (pv 1) (pa_cons (pv 2) (pa_cons pe_int pa_nil)))) (fun _ _ => rfl)) (pa_cons (pv 5) (pa_cons (pe_call c_ix.ok (hr.mono (by first | decide | omega)) rfl c_ix.m c_ix.kp c_ix.b .nil pass0 (pa_cons (pv 0) (pa_cons (pv 1) (pa_cons (pv 2) (pa_cons (pe_op op_sub (pv 3) pe_int) pa_nil))))) pa_nil))))))))))), ?_⟩
    refine ⟨_, rfl, _, rfl, d, p, 7, rfl, D, by decide, fun v H1 v0 v1 s1 c1 => ?_⟩
    have D1 := D.next s1 c1
    have hI1 := s1.list ne hI
    -- the two short ends
    have leafInt : ∀ R : V → Hp → Prop, (∀ x v H', GIx is n x → Tv K H' x.enc v → Stays p H H' → AtL H' p → R v H') → ∀ u H2, 0 ≤ u → u < 4 → Stays p H1 H2 → AtL H2 p → ∀ a, H2 a = none → R (.ref a) (upd H2 a (.tup [V.str "integer", V.int u])) :=
      fun R hR u H2 u0 u1 s2 c2 a ha => hR (.int u) _ _ (.int u0 u1) (tv2 upd_same rfl rfl) ((s1.trans s2).trans (stays_new ha)) (c2.new ha)
    have leafBeat : ∀ a, H1 a = none → Q (.ref a) (upd H1 a (.tup [V.str "beat"])) := fun a ha => q .beat _ _ .beat (tv1 upd_same rfl) (s1.trans (stays_new ha)) (c1.new ha)
    refine ⟨_, rfl, _, _, rfl, rfl, _, rfl, ?_⟩
    by_cases k1 : v < 2
    · refine iteT' (decide_eq_true k1) (iteT ?_)
      exact ⟨_, rfl, _, rfl, d, p, 4, rfl, D1, by decide, fun u H2 u0 u1 s2 c2 => ⟨two, fun a ha => leafInt Q q u H2 u0 u1 s2 c2 a ha⟩⟩
    refine iteF' (decide_eq_false k1) ?_
    refine ⟨_, rfl, rfl, _, rfl, ?_⟩
    by_cases k2 : (n : Int) = 0
    · refine iteT' (decide_eq_true (congrArg V.int k2)) ?_
      exact ⟨_, rfl, _, rfl, d, p, 4, rfl, D1, by decide, fun u H2 u0 u1 s2 c2 => ⟨two, fun a ha => leafInt Q q u H2 u0 u1 s2 c2 a ha⟩⟩
    refine iteF' (decide_eq_false (fun y => k2 (V.int.inj y))) ?_
    refine ⟨_, rfl, rfl, _, rfl, ite2 (fun _ => ⟨one, leafBeat⟩) (fun k3 => ?_)⟩
    refine ⟨_, rfl, _, _, rfl, rfl, _, rfl, ?_⟩
    by_cases k4 : v < 5
    · refine iteT' (decide_eq_true k4) ?_
      refine ⟨_, rfl, !(is.map V.str).isEmpty, .inl ⟨_, hI1, rfl⟩, ?_⟩
      cases is with
      | nil => exact ⟨one, leafBeat⟩
      | cons s0 ss =>
        refine iteT ?_
        refine ⟨_, rfl, _, rfl, _, rfl, _, rfl, i, _, rfl, .inl hI1, d, p, _, rfl, D1, (by rw [List.length_map, List.length_cons]; omega), fun u H2 u0 u1 s2 c2 => ?_⟩
        obtain ⟨x, hx, hx2⟩ := at_in u0 u1
        obtain ⟨s, hs, rfl⟩ : ∃ s, s ∈ s0 :: ss ∧ x = V.str s := by
          rw [List.getElem?_map] at hx2
          cases e : (s0 :: ss)[u.toNat]? with
          | none => rw [e] at hx2; cases hx2
          | some s => rw [e] at hx2; exact ⟨s, List.mem_of_getElem? e, (Option.some.inj hx2).symm⟩
        exact ⟨i, _, _, _, rfl, rfl, s2.list ne hI1, hx, two, fun a ha => q (.var s) _ _ (.var hs) (tv2 upd_same rfl rfl) ((s1.trans s2).trans (stays_new ha)) (c2.new ha)⟩
    refine iteF' (decide_eq_false k4) ?_
    -- the longer ones: the first part
    have n0 : n ≠ 0 := fun z => k2 (by rw [z]; rfl)
    obtain ⟨m, rfl⟩ : ∃ m, n = m + 1 := ⟨n - 1, by omega⟩
    have em : ((m + 1 : Nat) : Int) - 1 = (m : Int) := by omega
    have again : ∀ (R : V → Hp → Prop) (H2 : Hp), Stays p H1 H2 → AtL H2 p → (∀ x v H', GIx is m x → Tv K H' x.enc v → Stays p H2 H' → AtL H' p → R v H') → spIx K k ([V.ref i, V.ref d, V.ref p, V.int (((m + 1 : Nat) : Int) - 1)] ++ []) H2 R E0 :=
      fun R H2 s2 c2 h => ⟨i, d, p, is, m, (by rw [em]; rfl), D1.next s2 c2, ne, s2.list ne hI1, hl, by omega, h⟩
    refine ⟨_, rfl, _, rfl, _, rfl, _, rfl, _, _, rfl, rfl, again _ H1 (Stays.refl _ _) c1 fun x1 v1 H2 g1 t1 s2 c2 => ?_⟩
    have D2 := D1.next s2 c2
    refine ⟨_, rfl, rfl, _, rfl, ite2 (fun k5 => ?_) (fun k5 => ?_)⟩
    · refine ⟨_, rfl, _, rfl, _, rfl, d, p, 5, rfl, D2, by decide, fun u H3 u0 u1 s3 c3 => ⟨_, _, rfl, rfl, three, fun a ha => ?_⟩⟩
      refine q (.rem x1 (1 + u)) _ _ (.rem g1 (by omega) (by omega)) (tv3 upd_same rfl (Tv.carry (carry_new ha) _ _ (Tv.carry (s3.carry c2) _ _ t1)) rfl) (((s1.trans s2).trans s3).trans (stays_new ha)) (c3.new ha)
    · refine ⟨three, fun l hl' => ?_⟩
      have s3 := stays_new (p := p) (o := .lst [V.str "plus", V.str "minus", V.str "times"]) hl'
      have c3 := c2.new (o := .lst [V.str "plus", V.str "minus", V.str "times"]) hl'
      have nl : l ≠ p := fun z => by obtain ⟨j, _, e⟩ := c2; rw [z, e] at hl'; cases hl'
      refine ⟨_, rfl, _, rfl, d, p, 3, rfl, D2.next s3 c3, by decide, fun u H4 u0 u1 s4 c4 => ?_⟩
      have el := s4 l _ nl upd_same
      have t2 := Tv.carry (s4.carry c3) _ _ (Tv.carry (s3.carry c2) _ _ t1)
      have s5 := (s2.trans s3).trans s4
      obtain ⟨o, ho⟩ : ∃ o : IxOp, atI [V.str "plus", V.str "minus", V.str "times"] u = some (.str o.str) := by
        have cs : u = 0 ∨ u = 1 ∨ u = 2 := by omega
        rcases cs with z | z | z <;> subst z
        · exact ⟨.plus, rfl⟩
        · exact ⟨.minus, rfl⟩
        · exact ⟨.times, rfl⟩
      refine ⟨l, _, _, _, rfl, rfl, SqL.of el, ho, ?_⟩
      refine ⟨_, rfl, _, rfl, _, rfl, _, rfl, _, rfl, _, _, rfl, rfl, again _ H4 s5 c4 fun x2 v2 H5 g2 t3 s6 c6 => ⟨three, fun a ha => ?_⟩⟩
      exact q (.op o x1 x2) _ _ (.op g1 g2) (tv3 upd_same rfl (Tv.carry (carry_new ha) _ _ (Tv.carry (s6.carry c4) _ _ t2)) (Tv.carry (carry_new ha) _ _ t3)) (((s1.trans s5).trans s6).trans (stays_new ha)) (c6.new ha)
theorem ok_ix {f : Addr} {fd : FuncData} (F : Fun K "_law_index" "_law_index" sIx f fd) (T : Bi mg) (c_take : Cal P w K mg base CX0 1 "_law_take" ["draws", "at", "many"] (spTake K)) (b : Binds K fd ["integers", "draws", "at", "depth"] []) (m : mg "_law_index" = some (.ref f)) :
    ∀ k : Nat, FnOk P w K mg base CX0 (k + 1) f fd ["integers", "draws", "at", "depth"] (spIx K k)
  | 0 => fn_none fun vs H Q E h => by
    obtain ⟨_, _, _, _, n, _, _, _, _, _, z, _⟩ := h
    exact absurd z (Nat.not_lt_zero _)
  | k + 1 => ok_ix1 F T c_take ⟨f, fd, ok_ix F T c_take b m k, b, F.kp, m⟩

theorem cut_hi {xs : List V} {u : Int} (h0 : 0 ≤ u) : cutV xs none (some u) = xs.take u.toNat := by
  obtain ⟨k, rfl⟩ : ∃ k : Nat, u = (k : Int) := ⟨u.toNat, by omega⟩
  unfold cutV
  rw [HT.sIx_nat, HT.sIx_none, Nat.sub_zero, List.drop_zero]
  have e : ((k : Nat) : Int).toNat = k := by omega
  rw [e]
  rcases Nat.le_total k xs.length with h | h
  · rw [Nat.min_eq_left h]
  · rw [Nat.min_eq_right h, List.take_of_length_le h, List.take_of_length_le (Nat.le_refl _)]
theorem same_alloc {H : Hp} {q : Addr} {o : HO} (h : H q = none) : Same H (upd H q o) := fun b u e => by rw [upd_ne (ne_of_none e h)]; exact e
theorem same_put {H H' : Hp} {q : Addr} {o : HO} (s : Same H H') (h : H q = none) : Same H (upd H' q o) := fun b u e => by rw [upd_ne (ne_of_none e h)]; exact s b u e

/-! ### the draws of a script -/
def spDraws (K : PySem.W.Frag) : Sp := fun vs H Q _ => ∃ (a : Addr) (ns : List Int), vs = [.ref a] ∧ SqL K H a (ns.map V.int) ∧
  ∀ (d : Addr) (ds : List Int) H', H d = none → Same H H' → H' d = some (.lst (ds.map V.int)) → Q (.ref d) H'
abbrev sDraws : Stmt := top 5
abbrev nDraws : List Str := ["script", "draws", "cell", "rest", "k", "mixed"]
theorem scDraws : FnScope nDraws ["script"] (defScope sDraws) := ⟨rfl, rfl, rfl, by decide +kernel, rfl, by decide +kernel, by decide +kernel⟩
theorem ok_draws {f : Addr} {fd : FuncData} (F : Fun K "_law_draws" "_law_draws" sDraws f fd) (T : Bi mg) : FnOk P w K mg base CX0 1 f fd ["script"] (spDraws K) := by
  refine F.ok scDraws (fun vs H Q E h => ?_) (fun cdv A outer s H vs Q E hr h => ?_)
  · obtain ⟨a, ns, rfl, _⟩ := h
    rfl
  · obtain ⟨a, ns, rfl, hS, q⟩ := h
    have nd := scDraws.nd
    refine ⟨_, pss_cons (ps_set (i := 1) nd rfl (.inl rfl) (pe_lst pa_nil))
      (pss_cons (ps_for PassesOwn.never rfl (pi_list (pe_slice sl_list (pv 0) po_none (po_some pe_int))) (pg_name (i := 2) nd rfl (.inl rfl)) (pss_cons (ps_set (i := 3) nd rfl (.inl rfl) (pe_callB call_abs rfl T.abs PyProof.Rows.boot_abs (pa_cons (pv 2) pa_nil)))
      (pss_one (ps_if (pt_cmpR op_ge (pv 3) (pe_op op_pow pe_int pe_int) (nomark _)) (pss_one (ps_for PassesOwn.never rfl (pi_range1 rfl T.range (pa_cons pe_int pa_nil)) (pg_name (i := 4) nd rfl (.inl rfl)) (pss_one (ps_if (pt_cmpR op_gt (pv 3) pe_int (nomark _)) (pss_cons (ps_expr (pe_bm PySem.F.plainAttrs_list PySem.F.slot_list_append PySem.F.type_list_append mt_append (pv 1) (pa_cons (pe_op op_mod (pe_callTy call_int1 rfl T.int PyProof.Rows.boot_int (pa_cons (pv 3) pa_nil)) pe_int) pa_nil)))
      (pss_one (ps_set (i := 3) nd rfl (.inl rfl) (pe_op op_fdiv (pv 3) pe_int)))) pss_nil)))) (pss_cons (ps_set (i := 5) nd rfl (.inl rfl) (pe_op op_mod (pe_callTy call_int1 rfl T.int PyProof.Rows.boot_int (pa_cons (pe_op op_add (pe_op op_mul (pv 3) pe_int) pe_int) pa_nil)) pe_int))
      (pss_one (ps_for PassesOwn.never rfl (pi_range1 rfl T.range (pa_cons pe_int pa_nil)) (pg_name (i := 4) nd rfl (.inl rfl)) (pss_cons (ps_set (i := 5) nd rfl (.inl rfl) (pe_op op_mod (pe_callTy call_int1 rfl T.int PyProof.Rows.boot_int (pa_cons (pe_op op_add (pe_op op_add (pe_op op_mul (pv 5) pe_int) (pe_op op_mul pe_int (pv 4))) pe_int) pa_nil)) pe_int))
      (pss_one (ps_expr (pe_bm PySem.F.plainAttrs_list PySem.F.slot_list_append PySem.F.type_list_append mt_append (pv 1) (pa_cons (pe_op op_fdiv (pv 5) pe_int) pa_nil))))))))))))
      (pss_one (ps_ret (pv 1)))), ?_⟩
    refine ⟨Nat.zero_le _, fun L hL => ?_⟩
    have sm0 : Same H (upd H L (.lst [])) := same_alloc hL
    refine ⟨_, rfl, 63, rfl, a, _, rfl, sm0.seq hS, fun S hS2 => ?_⟩
    have ec : cutV (ns.map V.int) none (some 63) = (ns.take 63).map V.int := by
      rw [cut_hi (by decide)]
      show (ns.map V.int).take 63 = _
      rw [List.map_take]
    rw [ec]
    have eL0 : (upd (upd H L (.lst [])) S (.lst ((ns.take 63).map V.int))) L = some (.lst (([] : List Int).map V.int)) := by rw [upd_ne (ne_of_none upd_same hS2)]; exact upd_same
    have nLS : L ≠ S := ne_of_none upd_same hS2
    refine ⟨S, rfl, ⟨_, SqL.of upd_same⟩, for_list (K := K) (a := S) (xs := (ns.take 63).map V.int) (fun j σ H' => Same H H' ∧ H' S = some (.lst ((ns.take 63).map V.int)) ∧ (∃ ds : List Int, H' L = some (.lst (ds.map V.int)) ∧ ds.length ≤ 60 * j) ∧
        ∃ w2 w3 w4 w5 : Option V, σ = [some (.ref a), some (.ref L), w2, w3, w4, w5])
      ⟨sm0.trans (same_alloc hS2), upd_same, ⟨[], eL0, Nat.zero_le _⟩, _, _, _, _, rfl⟩ (fun j σ H' _ h => SqL.of h.2.1) ?_ ?_⟩
    · rintro j x σ H' hj ⟨sm, eS, ⟨ds, eL, lds⟩, w2, w3, w4, w5, rfl⟩
      have jl : j < 63 := by
        have h1 := (List.getElem?_eq_some_iff.mp hj).1
        rw [List.length_map, List.length_take] at h1
        omega
      rw [List.getElem?_map] at hj
      obtain ⟨n, rfl⟩ : ∃ n, x = V.int n := by
        cases e : (ns.take 63)[j]? with
        | none => rw [e] at hj; cases hj
        | some n => rw [e] at hj; exact ⟨n, (Option.some.inj hj).symm⟩
      have app : ∀ (H2 : Hp) (es : List Int) (m : Nat) (u : Int), Same H H2 → H2 S = some (.lst ((ns.take 63).map V.int)) → H2 L = some (.lst (es.map V.int)) → es.length ≤ 60 * j + m → m < 60 →
          (es.map V.int).length < sizeLine ∧ Same H (upd H2 L (.lst (es.map V.int ++ [V.int u]))) ∧ (upd H2 L (.lst (es.map V.int ++ [V.int u]))) S = some (.lst ((ns.take 63).map V.int)) ∧
            ∃ gs : List Int, (upd H2 L (.lst (es.map V.int ++ [V.int u]))) L = some (.lst (gs.map V.int)) ∧ gs.length ≤ 60 * j + (m + 1) := by
        intro H2 es m u s2 eS2 eL2 le hm
        refine ⟨?_, same_put s2 hL, ?_, es ++ [u], ?_, ?_⟩
        · rw [List.length_map]
          exact Nat.lt_of_lt_of_le (show es.length < 4000 by omega) (by decide)
        · rw [upd_ne nLS.symm]; exact eS2
        · rw [upd_same, List.map_append]; rfl
        · rw [List.length_append]
          show es.length + 1 ≤ _
          omega
      refine ⟨_, rfl, _, rfl, _, rfl, _, _, rfl, rfl, ⟨by decide, by decide, by decide⟩, _, _, rfl, rfl, _, rfl, ite2 (fun _ => ?_) (fun _ => ?_)⟩
      · refine ⟨60, rfl, by decide, by decide, for_range (lo := 0) (n := 60) (fun i σ H' => Same H H' ∧ H' S = some (.lst ((ns.take 63).map V.int)) ∧ (∃ ds : List Int, H' L = some (.lst (ds.map V.int)) ∧ ds.length ≤ 60 * j + i) ∧
            ∃ (r : Int) (w4 : Option V), σ = [some (.ref a), some (.ref L), some (.int n), some (.int r), w4, w5])
          ⟨sm, eS, ⟨ds, eL, lds⟩, _, _, rfl⟩ ?_ ?_⟩
        · rintro i σ H2 hi ⟨sm2, eS2, ⟨es, eL2, les⟩, r, w4', rfl⟩
          obtain ⟨p1, p2, p3, p4⟩ := app H2 es i (r % 1009) sm2 eS2 eL2 les hi
          refine ⟨_, rfl, _, _, rfl, rfl, _, rfl, ite2 (fun _ => ?_) (fun _ => ?_)⟩
          · refine ⟨_, rfl, .inl ⟨rfl, _, SqL.of eL2⟩, _, rfl, .inl ⟨r, rfl, _, _, rfl, rfl, (show (0:Int) < 1009 by decide), L, _, _, rfl, rfl, eL2, p1, ?_⟩⟩
            exact ⟨_, rfl, _, _, rfl, rfl, ⟨by decide, by decide⟩, p2, p3, p4, _, _, rfl⟩
          · exact ⟨sm2, eS2, ⟨es, eL2, Nat.le_succ_of_le les⟩, _, _, rfl⟩
        · rintro σ H2 ⟨sm2, eS2, ⟨es, eL2, les⟩, r, w4', rfl⟩
          exact ⟨sm2, eS2, ⟨es, eL2, by omega⟩, _, _, _, _, rfl⟩
      · refine ⟨_, rfl, _, _, rfl, rfl, .inr ⟨by decide, by decide⟩, _, _, rfl, rfl, .inl ⟨_, rfl, _, _, rfl, rfl, (show (0:Int) < 2147483647 by decide), ?_⟩⟩
        refine ⟨12, rfl, by decide, by decide, for_range (lo := 0) (n := 12) (fun i σ H' => Same H H' ∧ H' S = some (.lst ((ns.take 63).map V.int)) ∧ (∃ ds : List Int, H' L = some (.lst (ds.map V.int)) ∧ ds.length ≤ 60 * j + i) ∧
            ∃ (m : Int) (w3 w4 : Option V), σ = [some (.ref a), some (.ref L), some (.int n), w3, w4, some (.int m)])
          ⟨sm, eS, ⟨ds, eL, lds⟩, _, _, _, rfl⟩ ?_ ?_⟩
        · rintro i σ H2 hi ⟨sm2, eS2, ⟨es, eL2, les⟩, m, w3', w4', rfl⟩
          refine ⟨_, rfl, _, _, rfl, rfl, .inr ⟨by decide, by decide⟩, _, rfl, _, _, rfl, rfl, .inl ⟨by decide, by decide⟩, _, _, rfl, rfl, _, _, rfl, rfl, .inl ⟨_, rfl, _, _, rfl, rfl, (show (0:Int) < 2147483629 by decide), ?_⟩⟩
          obtain ⟨p1, p2, p3, p4⟩ := app H2 es i ((m * 16807 + 69621 * (0 + (i : Int)) + 5) % 2147483629 / 1009) sm2 eS2 eL2 les (by omega)
          refine ⟨_, rfl, .inl ⟨rfl, _, SqL.of eL2⟩, _, rfl, _, _, rfl, rfl, ⟨by decide, by decide⟩, L, _, _, rfl, rfl, eL2, p1, ?_⟩
          exact ⟨p2, p3, p4, _, _, _, rfl⟩
        · rintro σ H2 ⟨sm2, eS2, ⟨es, eL2, les⟩, m, w3', w4', rfl⟩
          exact ⟨sm2, eS2, ⟨es, eL2, by omega⟩, _, _, _, _, rfl⟩
    · rintro σ H' ⟨sm, eS, ⟨ds, eL, lds⟩, w2, w3, w4, w5, rfl⟩
      exact ⟨_, rfl, q L ds H' hL sm eL⟩

end
end Tr

namespace C25
open PySem L2 Tr Pu
/-! ### operands, expressions, what a change of a bar is -/
inductive Lf where
  | num (n : Int)
  | pl (s : Str) (i : PyData)
def Lf.enc : Lf → PyData
  | .num n => .tuple [.str "number", .int n]
  | .pl s i => .tuple [.str "place", .str s, i]
inductive O4 where
  | add | sub | mul | div
def O4.str : O4 → Str
  | .add => "add" | .sub => "sub" | .mul => "mul" | .div => "div"
inductive E1 where
  | leaf (l : Lf)
  | op (o : O4) (a b : Lf)
def E1.enc : E1 → PyData
  | .leaf l => l.enc
  | .op o a b => .tuple [.str o.str, a.enc, b.enc]
def chb (op : Str) : Lf → PyData → List PyData
  | .num _, _ => []
  | .pl s i, c => [.tuple [.str "set", .tuple [.str "bar", .str s, i], .tuple [.str op, .tuple [.str "bar", .str s, i], c]]]
def ctr (e : E1) (v w : PyData) (q : Str) : List PyData :=
  match e with
  | .leaf l => chb "add" l v
  | .op .add a b => chb "add" a v ++ chb "add" b v
  | .op .sub a b => chb "add" a v ++ chb "sub" b v
  | .op .mul a b => chb "add" a (.tuple [.str "mul", v, b.enc]) ++ chb "add" b (.tuple [.str "mul", v, a.enc])
  | .op .div a (.num n) => chb "add" a (.tuple [.str "div", v, (Lf.num n).enc])
  | .op .div a (.pl s i) => [.tuple [.str "let", .str q, .tuple [.str "div", v, (Lf.pl s i).enc], .tuple (chb "add" a (.tuple [.str "place", .str q, .none]) ++
      chb "sub" (.pl s i) (.tuple [.str "mul", .tuple [.str "place", .str q, .none], w]))]]
def dLf (f : Lf → Bool) (ds : List PyData) (d : PyData) : Prop := ∃ l : E1, ds = [l.enc] ∧ d = .bool (match l with | .op .div _ (.pl _ _) => true | _ => false)
def dDiv (ds : List PyData) (d : PyData) : Prop := ∃ (o : O4) (a b : Lf), ds = [(E1.op o a b).enc] ∧ d = .bool (match o, b with | .div, .pl _ _ => true | _, _ => false)
def dChb (ds : List PyData) (d : PyData) : Prop := ∃ (op : Str) (a : Lf) (c : PyData), ds = [.str op, a.enc, c] ∧ d = .tuple (chb op a c)
def dCtr (ds : List PyData) (d : PyData) : Prop := ∃ (e : E1) (v w : PyData) (q : Str), ds = [e.enc, v, w, .str q] ∧ d = .tuple (ctr e v w q)
def dLeaf (ds : List PyData) (d : PyData) : Prop := ∃ (e : E1), ds = [e.enc] ∧ d = .bool (match e with | .leaf _ => true | _ => false)
/-- a step in pure code -/
local macro_rules | `(tactic| walk_at "pe") => `(tactic| first
  | exact de_int | exact de_str | exact de_bl | exact de_non | exact de_var rfl
  | ((apply de_ix); (focus walk_at "pe"); (focus walk_at "pe"); (focus rfl))
  | ((apply de_tup); (focus walk_at "pa"); (focus exact le_ble rfl))
  | ((apply de_cat); (focus walk_at "pe"); (focus walk_at "pe"); (focus rfl); (focus exact le_ble rfl))
  | ((apply de_sl); (focus walk_at "pe"); (focus walk_at "po"); (focus walk_at "po"); (focus rfl))
  | ((apply de_eqS); (focus walk_at "pe"); (focus walk_at "pe"); (focus (first | rfl | decide)))
  | ((apply de_in); (focus walk_at "pe"); (focus walk_at "pe"); (focus rfl); (focus (first | rfl | decide)))
  | ((apply de_andF); (focus walk_at "pe"))
  | ((apply de_andT); (focus walk_at "pe"); (focus walk_at "pe"))
  | ((apply de_call); (focus walk_at "pa"); (focus walk_at "pcall")))
local macro_rules | `(tactic| walk_at "pa") => `(tactic| first
  | exact da_nil
  | ((apply da_cons); (focus walk_at "pe"); (focus walk_at "pa")))
local macro_rules | `(tactic| walk_at "po") => `(tactic| first
  | exact do_none
  | ((apply do_some); (focus walk_at "pe")))
local macro_rules | `(tactic| walk_at "pt") => `(tactic| first
  | ((apply dt_test); (focus walk_at "pe"))
  | ((apply dt_B); (focus walk_at "pe"))
  | ((apply dt_notT); (focus walk_at "pt"))
  | ((apply dt_notF); (focus walk_at "pt")))
local macro_rules | `(tactic| walk_at "ps") => `(tactic| first
  | ((apply dr_ret); (focus walk_at "pe"))
  | ((apply dr_whenF); (focus walk_at "pt"); (focus walk_at "ps"))
  | ((apply dr_whenT); (focus walk_at "pt"); (focus walk_at "ps"))
  | ((apply dr_set); (focus walk_at "pe"); (focus walk_at "ps"))
  | ((apply dr_un3); (focus walk_at "pe"); (focus walk_at "ps")))
section
variable {P : Program} {w : World} {K : PySem.W.Frag} {mg : Str → Option Value} {base : Heap}
abbrev sDiv : Stmt := top 1
abbrev sCtr : Stmt := top 2
abbrev sChb : Stmt := top 3
abbrev sLeaf : Stmt := top 9
abbrev sPlus : Stmt := top 10
abbrev sShr : Stmt := top 11
theorem scDiv : FnScope ["expression"] ["expression"] (defScope sDiv) := ⟨rfl, rfl, rfl, by decide +kernel, rfl, by decide +kernel, by decide +kernel⟩
theorem ok_div {f : Addr} {fd : FuncData} (F : Fun K "divides_by_place" "divides_by_place" sDiv f fd) : FnOk P w K mg base CX0 1 f fd ["expression"] (spP K 1 dDiv) := by
  refine ok_P F scDiv (by decide) (fun cdv A outer s H E hr => ⟨_, pss_one (ps_ret (pe_and (pe_cmpR op_eq (pe_ix ix_tup (pv 0) pe_int (fun _ _ => rfl)) pe_str (nomark _)) (pe_one (pe_cmpR op_eq (pe_ix ix_tup (pe_ix ix_tup (pv 0) pe_int (fun _ _ => rfl)) pe_int (fun _ _ => rfl)) pe_str (nomark _))))), ?_⟩)
  rintro ds d - ⟨o, a, b, rfl, rfl⟩
  cases o <;> cases b <;> walk_at "ps"
theorem scChb : FnScope ["op", "operand", "change", "bar"] ["op", "operand", "change"] (defScope sChb) := ⟨rfl, rfl, rfl, by decide +kernel, rfl, by decide +kernel, by decide +kernel⟩
theorem ok_chb {f : Addr} {fd : FuncData} (F : Fun K "change_bar" "change_bar" sChb f fd) : FnOk P w K mg base CX0 1 f fd ["op", "operand", "change"] (spP K 3 dChb) := by
  have nd := scChb.nd
  refine ok_P F scChb (by decide) (fun cdv A outer s H E hr => ⟨_, pss_cons (ps_if (pt_cmpR op_eq (pe_ix ix_tup (pv 1) pe_int (fun _ _ => rfl)) pe_str (nomark _)) (pss_one (ps_ret (pe_tup pa_nil))) pss_nil)
      (pss_cons (ps_set (i := 3) nd rfl (.inl rfl) (pe_op op_catA (pe_tup (pa_cons pe_str pa_nil)) (pe_slice sl_tupA (pv 1) (po_some pe_int) po_none)))
      (pss_one (ps_ret (pe_tup (pa_cons (pe_tup (pa_cons pe_str (pa_cons (pv 3) (pa_cons (pe_tup (pa_cons (pv 0) (pa_cons (pv 3) (pa_cons (pv 2) pa_nil)))) pa_nil)))) pa_nil))))), ?_⟩)
  rintro ds d - ⟨op, a, c, rfl, rfl⟩
  cases a <;> walk_at "ps"
theorem pv_chb {op : Str} {a : Lf} {c : PyData} : PV K (spP K 3 dChb) [.str op, a.enc, c] (.tuple (chb op a c)) := pv_P ⟨op, a, c, rfl, rfl⟩
theorem pv_div {o : O4} {a b : Lf} : PV K (spP K 1 dDiv) [(E1.op o a b).enc] (.bool (match o, b with | .div, .pl _ _ => true | _, _ => false)) := pv_P ⟨o, a, b, rfl, rfl⟩
local macro_rules | `(tactic| walk_at "pcall") => `(tactic| first | exact pv_chb | exact pv_div)
theorem scCtr : FnScope ["expression", "v", "w", "q", "op", "_", "left", "right", "quotient", "body"] ["expression", "v", "w", "q"] (defScope sCtr) := ⟨rfl, rfl, rfl, by decide +kernel, rfl, by decide +kernel, by decide +kernel⟩
theorem ok_ctr {f : Addr} {fd : FuncData} (F : Fun K "contributions" "contributions" sCtr f fd) (c_chb : Cal P w K mg base CX0 1 "change_bar" ["op", "operand", "change"] (spP K 3 dChb)) (c_div : Cal P w K mg base CX0 1 "divides_by_place" ["expression"] (spP K 1 dDiv)) :
    FnOk P w K mg base CX0 2 f fd ["expression", "v", "w", "q"] (spP K 4 dCtr) := by
  have nd := scCtr.nd
  refine ok_P F scCtr (by decide) (fun cdv A outer s H E hr => ⟨_, pss_cons (ps_set (i := 4) nd rfl (.inl rfl) (pe_ix ix_tup (pv 0) pe_int (fun _ _ => rfl)))
      (pss_cons (ps_if (pt_cmpR op_eq (pv 4) pe_str (nomark _)) (pss_one (ps_ret (pe_tup pa_nil))) pss_nil)
      (pss_cons (ps_if (pt_cmpR op_eq (pv 4) pe_str (nomark _)) (pss_one (ps_ret (pe_call c_chb.ok (hr.mono (by first | decide | omega)) rfl c_chb.m c_chb.kp c_chb.b .nil pass0 (pa_cons pe_str (pa_cons (pv 0) (pa_cons (pv 1) pa_nil)))))) pss_nil)
      (pss_cons (ps_asg (pv 0) (pg_tup (by rfl) (pgs_cons (pg_name (i := 5) nd rfl (.inl rfl)) (pgs_cons (pg_name (i := 6) nd rfl (.inl rfl)) (pgs_cons (pg_name (i := 7) nd rfl (.inl rfl)) pgs_nil)))))
      (pss_cons (ps_if (pt_cmpR op_eq (pv 4) pe_str (nomark _)) (pss_one (ps_ret (pe_op op_catA (pe_call c_chb.ok (hr.mono (by first | decide | omega)) rfl c_chb.m c_chb.kp c_chb.b .nil pass0 (pa_cons pe_str (pa_cons (pv 6) (pa_cons (pv 1) pa_nil)))) (pe_call c_chb.ok (hr.mono (by first | decide | omega)) rfl c_chb.m c_chb.kp c_chb.b .nil pass0 (pa_cons pe_str (pa_cons (pv 7) (pa_cons (pv 1) pa_nil))))))) pss_nil)
      (pss_cons (ps_if (pt_cmpR op_eq (pv 4) pe_str (nomark _)) (pss_one (ps_ret (pe_op op_catA (pe_call c_chb.ok (hr.mono (by first | decide | omega)) rfl c_chb.m c_chb.kp c_chb.b .nil pass0 (pa_cons pe_str (pa_cons (pv 6) (pa_cons (pv 1) pa_nil)))) (pe_call c_chb.ok (hr.mono (by first | decide | omega)) rfl c_chb.m c_chb.kp c_chb.b .nil pass0 (pa_cons pe_str (pa_cons (pv 7) (pa_cons (pv 1) pa_nil))))))) pss_nil)
      (pss_cons (ps_if (pt_cmpR op_eq (pv 4) pe_str (nomark _)) (pss_one (ps_ret (pe_op op_catA (pe_call c_chb.ok (hr.mono (by first | decide | omega)) rfl c_chb.m c_chb.kp c_chb.b .nil pass0 (pa_cons pe_str (pa_cons (pv 6) (pa_cons (pe_tup (pa_cons pe_str (pa_cons (pv 1) (pa_cons (pv 7) pa_nil)))) pa_nil)))) (pe_call c_chb.ok (hr.mono (by first | decide | omega)) rfl c_chb.m c_chb.kp c_chb.b .nil pass0 (pa_cons pe_str (pa_cons (pv 7) (pa_cons (pe_tup (pa_cons pe_str (pa_cons (pv 1) (pa_cons (pv 6) pa_nil)))) pa_nil))))))) pss_nil)
      (pss_cons (ps_if (pt_not (pt_val (pe_call c_div.ok (hr.mono (by first | decide | omega)) rfl c_div.m c_div.kp c_div.b .nil pass0 (pa_cons (pv 0) pa_nil)))) (pss_one (ps_ret (pe_call c_chb.ok (hr.mono (by first | decide | omega)) rfl c_chb.m c_chb.kp c_chb.b .nil pass0 (pa_cons pe_str (pa_cons (pv 6) (pa_cons (pe_tup (pa_cons pe_str (pa_cons (pv 1) (pa_cons (pv 7) pa_nil)))) pa_nil)))))) pss_nil)
      (pss_cons (ps_set (i := 8) nd rfl (.inl rfl) (pe_tup (pa_cons pe_str (pa_cons (pv 3) (pa_cons pe_non pa_nil)))))
      (pss_cons (ps_set (i := 9) nd rfl (.inl rfl) (pe_op op_catA (pe_call c_chb.ok (hr.mono (by first | decide | omega)) rfl c_chb.m c_chb.kp c_chb.b .nil pass0 (pa_cons pe_str (pa_cons (pv 6) (pa_cons (pv 8) pa_nil)))) (pe_call c_chb.ok (hr.mono (by first | decide | omega)) rfl c_chb.m c_chb.kp c_chb.b .nil pass0 (pa_cons pe_str (pa_cons (pv 7) (pa_cons (pe_tup (pa_cons pe_str (pa_cons (pv 8) (pa_cons (pv 2) pa_nil)))) pa_nil))))))
      (pss_one (ps_ret (pe_tup (pa_cons (pe_tup (pa_cons pe_str (pa_cons (pv 3) (pa_cons (pe_tup (pa_cons pe_str (pa_cons (pv 1) (pa_cons (pv 7) pa_nil)))) (pa_cons (pv 9) pa_nil))))) pa_nil))))))))))))), ?_⟩)
  rintro ds d - ⟨e, v, w, q, rfl, rfl⟩
  cases e with
  | leaf l =>
    show DR K _ (List.map some [l.enc, v, w, .str q] ++ List.replicate (10 - 4) none) (.tuple (chb "add" l v))
    cases l <;> walk_at "ps"
  | op o a b => cases o <;> cases a <;> cases b <;> walk_at "ps"
theorem pv_ctr {e : E1} {v w : PyData} {q : Str} : PV K (spP K 4 dCtr) [e.enc, v, w, .str q] (.tuple (ctr e v w q)) := pv_P ⟨e, v, w, q, rfl, rfl⟩
theorem pv_leaf {e : E1} : PV K (spP K 1 dLeaf) [e.enc] (.bool (match e with | .leaf _ => true | _ => false)) := pv_P ⟨e, rfl, rfl⟩
theorem scLeaf : FnScope ["expression"] ["expression"] (defScope sLeaf) := ⟨rfl, rfl, rfl, by decide +kernel, rfl, by decide +kernel, by decide +kernel⟩
theorem ok_leaf {f : Addr} {fd : FuncData} (F : Fun K "_law_leaf" "_law_leaf" sLeaf f fd) : FnOk P w K mg base CX0 1 f fd ["expression"] (spP K 1 dLeaf) := by
  refine ok_P F scLeaf (by decide) (fun cdv A outer s H E hr => ⟨_, pss_one (ps_ret (pe_cmpR (inK (K' := K) rfl) (pe_ix ix_tup (pv 0) pe_int (fun _ _ => rfl)) (pe_tup (pa_cons pe_str (pa_cons pe_str pa_nil))) (by rfl))), ?_⟩)
  rintro ds d - ⟨e, rfl, rfl⟩
  cases e with
  | leaf l => cases l <;> walk_at "ps"
  | op o a b => cases o <;> walk_at "ps"
theorem scPlus : FnScope ["op", "operand", "share", "bar"] ["op", "operand", "share"] (defScope sPlus) := ⟨rfl, rfl, rfl, by decide +kernel, rfl, by decide +kernel, by decide +kernel⟩
theorem ok_plus {f : Addr} {fd : FuncData} (F : Fun K "_law_plus" "_law_plus" sPlus f fd) : FnOk P w K mg base CX0 1 f fd ["op", "operand", "share"] (spP K 3 dChb) := by
  have nd := scPlus.nd
  refine ok_P F scPlus (by decide) (fun cdv A outer s H E hr => ⟨_, pss_cons (ps_if (pt_cmpR op_eq (pe_ix ix_tup (pv 1) pe_int (fun _ _ => rfl)) pe_str (nomark _)) (pss_one (ps_ret (pe_tup pa_nil))) pss_nil)
      (pss_cons (ps_set (i := 3) nd rfl (.inl rfl) (pe_tup (pa_cons pe_str (pa_cons (pe_ix ix_tup (pv 1) pe_int (fun _ _ => rfl)) (pa_cons (pe_ix ix_tup (pv 1) pe_int (fun _ _ => rfl)) pa_nil)))))
      (pss_one (ps_ret (pe_tup (pa_cons (pe_tup (pa_cons pe_str (pa_cons (pv 3) (pa_cons (pe_tup (pa_cons (pv 0) (pa_cons (pv 3) (pa_cons (pv 2) pa_nil)))) pa_nil)))) pa_nil))))), ?_⟩)
  rintro ds d - ⟨op, a, c, rfl, rfl⟩
  cases a <;> walk_at "ps"
local macro_rules | `(tactic| walk_at "pcall") => `(tactic| first | exact pv_chb | exact pv_leaf)
theorem scShr : FnScope ["expression", "v", "w", "q", "op", "a", "b", "share"] ["expression", "v", "w", "q"] (defScope sShr) := ⟨rfl, rfl, rfl, by decide +kernel, rfl, by decide +kernel, by decide +kernel⟩
theorem ok_shr {f : Addr} {fd : FuncData} (F : Fun K "_law_shares" "_law_shares" sShr f fd) (c_plus : Cal P w K mg base CX0 1 "_law_plus" ["op", "operand", "share"] (spP K 3 dChb)) (c_leaf : Cal P w K mg base CX0 1 "_law_leaf" ["expression"] (spP K 1 dLeaf)) :
    FnOk P w K mg base CX0 2 f fd ["expression", "v", "w", "q"] (spP K 4 dCtr) := by
  have nd := scShr.nd
  refine ok_P F scShr (by decide) (fun cdv A outer s H E hr => ⟨_, pss_cons (ps_if (pt_val (pe_call c_leaf.ok (hr.mono (by first | decide | omega)) rfl c_leaf.m c_leaf.kp c_leaf.b .nil pass0 (pa_cons (pv 0) pa_nil))) (pss_one (ps_ret (pe_call c_plus.ok (hr.mono (by first | decide | omega)) rfl c_plus.m c_plus.kp c_plus.b .nil pass0 (pa_cons pe_str (pa_cons (pv 0) (pa_cons (pv 1) pa_nil)))))) pss_nil)
      (pss_cons (ps_asg (pv 0) (pg_tup (by rfl) (pgs_cons (pg_name (i := 4) nd rfl (.inl rfl)) (pgs_cons (pg_name (i := 5) nd rfl (.inl rfl)) (pgs_cons (pg_name (i := 6) nd rfl (.inl rfl)) pgs_nil)))))
      (pss_cons (ps_if (pt_cmpR (inK (K' := K) rfl) (pv 4) (pe_tup (pa_cons pe_str (pa_cons pe_str pa_nil))) (by rfl)) (pss_one (ps_ret (pe_op op_catA (pe_call c_plus.ok (hr.mono (by first | decide | omega)) rfl c_plus.m c_plus.kp c_plus.b .nil pass0 (pa_cons pe_str (pa_cons (pv 5) (pa_cons (pv 1) pa_nil)))) (pe_call c_plus.ok (hr.mono (by first | decide | omega)) rfl c_plus.m c_plus.kp c_plus.b .nil pass0 (pa_cons (pv 4) (pa_cons (pv 6) (pa_cons (pv 1) pa_nil))))))) pss_nil)
      (pss_cons (ps_if (pt_cmpR op_eq (pv 4) pe_str (nomark _)) (pss_one (ps_ret (pe_op op_catA (pe_call c_plus.ok (hr.mono (by first | decide | omega)) rfl c_plus.m c_plus.kp c_plus.b .nil pass0 (pa_cons pe_str (pa_cons (pv 5) (pa_cons (pe_tup (pa_cons pe_str (pa_cons (pv 1) (pa_cons (pv 6) pa_nil)))) pa_nil)))) (pe_call c_plus.ok (hr.mono (by first | decide | omega)) rfl c_plus.m c_plus.kp c_plus.b .nil pass0 (pa_cons pe_str (pa_cons (pv 6) (pa_cons (pe_tup (pa_cons pe_str (pa_cons (pv 1) (pa_cons (pv 5) pa_nil)))) pa_nil))))))) pss_nil)
      (pss_cons (ps_if (pt_cmpR op_eq (pe_ix ix_tup (pv 6) pe_int (fun _ _ => rfl)) pe_str (nomark _)) (pss_one (ps_ret (pe_call c_plus.ok (hr.mono (by first | decide | omega)) rfl c_plus.m c_plus.kp c_plus.b .nil pass0 (pa_cons pe_str (pa_cons (pv 5) (pa_cons (pe_tup (pa_cons pe_str (pa_cons (pv 1) (pa_cons (pv 6) pa_nil)))) pa_nil)))))) pss_nil)
      (pss_cons (ps_set (i := 7) nd rfl (.inl rfl) (pe_tup (pa_cons pe_str (pa_cons (pv 3) (pa_cons pe_non pa_nil)))))
      (pss_one (ps_ret (pe_tup (pa_cons (pe_tup (pa_cons pe_str (pa_cons (pv 3) (pa_cons (pe_tup (pa_cons pe_str (pa_cons (pv 1) (pa_cons (pv 6) pa_nil)))) (pa_cons (pe_op op_catA (pe_call c_plus.ok (hr.mono (by first | decide | omega)) rfl c_plus.m c_plus.kp c_plus.b .nil pass0 (pa_cons pe_str (pa_cons (pv 5) (pa_cons (pv 7) pa_nil)))) (pe_call c_plus.ok (hr.mono (by first | decide | omega)) rfl c_plus.m c_plus.kp c_plus.b .nil pass0 (pa_cons pe_str (pa_cons (pv 6) (pa_cons (pe_tup (pa_cons pe_str (pa_cons (pv 7) (pa_cons (pv 2) pa_nil)))) pa_nil))))) pa_nil))))) pa_nil))))))))), ?_⟩)
  rintro ds d - ⟨e, v, w, q, rfl, rfl⟩
  cases e with
  | leaf l =>
    show DR K _ (List.map some [(E1.leaf l).enc, v, w, .str q] ++ List.replicate (8 - 4) none) (.tuple (chb "add" l v))
    apply dr_whenT
    · walk_at "pt"
    · refine dr_ret (de_call (da_cons de_str (da_cons (de_var (d := l.enc) rfl) (da_cons (de_var rfl) da_nil))) pv_chb)
  | op o a b => cases o <;> cases a <;> cases b <;> walk_at "ps"
end
end C25

namespace C25
open PySem L2 Tr Pu
theorem ok_strs : ∀ (is : List Str), is = (["i"] : List Str) → ∀ s ∈ is, PyData.strOk s = true := by
  rintro is rfl s h
  rw [List.mem_singleton] at h
  subst h
  decide +kernel
theorem sh_ix {is : List Str} (ok : ∀ s ∈ is, PyData.strOk s = true) {n : Nat} {x : Ix} (h : GIx is n x) : Sh (n + 1) x.enc := by
  induction h with
  | int h0 h1 => exact sh_tup (sh_cons (sh_str (by decide +kernel)) (sh_cons sh_int sh_nil))
  | beat => exact sh_tup (sh_cons (sh_str (by decide +kernel)) sh_nil)
  | var h => exact sh_tup (sh_cons (sh_str (by decide +kernel)) (sh_cons (sh_str (ok _ h)) sh_nil))
  | rem ha h0 h1 ih => exact sh_tup (sh_cons (sh_str (by decide +kernel)) (sh_cons ih (sh_cons sh_int sh_nil)))
  | @op d o a b ha hb iha ihb => exact sh_tup (sh_cons (sh_str (by cases o <;> decide +kernel)) (sh_cons iha (sh_cons ihb sh_nil)))
def spOpd (K : PySem.W.Frag) : Sp := fun vs H Q _ => ∃ (d p : Addr), vs = [.ref d, .ref p] ∧ Dr K H d p ∧ ∀ (l : Lf) v H', Sh 6 l.enc → Tv K H' l.enc v → Stays p H H' → AtL H' p → Q v H'
theorem pick4 {u : Int} (h0 : 0 ≤ u) (h1 : u < 4) : ∃ z, atI [V.str "x", V.str "y", V.str "a", V.str "bar"] u = some (.str z) ∧ PyData.strOk z = true := by
  have cs : u = 0 ∨ u = 1 ∨ u = 2 ∨ u = 3 := by omega
  rcases cs with z | z | z | z <;> subst z <;> exact ⟨_, rfl, by decide +kernel⟩
section
variable {P : Program} {w : World} {K : PySem.W.Frag} {mg : Str → Option Value} {base : Heap}
abbrev sOpd : Stmt := top 12
theorem scOpd : FnScope ["draws", "at", "choice", "name"] ["draws", "at"] (defScope sOpd) := ⟨rfl, rfl, rfl, by decide +kernel, rfl, by decide +kernel, by decide +kernel⟩
theorem ok_opd {f : Addr} {fd : FuncData} (F : Fun K "_law_operand" "_law_operand" sOpd f fd) (c_take : Cal P w K mg base CX0 1 "_law_take" ["draws", "at", "many"] (spTake K)) (c_numb : Cal P w K mg base CX0 2 "_law_number" ["draws", "at"] (spNumb K))
    (c_ix : Cal P w K mg base CX0 4 "_law_index" ["integers", "draws", "at", "depth"] (spIx K 3)) : FnOk P w K mg base CX0 5 f fd ["draws", "at"] (spOpd K) := by
  refine F.ok scOpd (fun vs H Q E h => ?_) (fun cdv A outer s H vs Q E hr h => ?_)
  · obtain ⟨d, p, rfl, _⟩ := h
    rfl
  · obtain ⟨d, p, rfl, D, q⟩ := h
    have nd := scOpd.nd
    have one : 1 ≤ sizeLine := by decide
    have two : 2 ≤ sizeLine := by decide
    have three : 3 ≤ sizeLine := by decide
    have four : 4 ≤ sizeLine := by decide
    refine ⟨_, pss_cons (ps_set (i := 2) nd rfl (.inl rfl) (pe_call c_take.ok (hr.mono (by first | decide | omega)) rfl c_take.m c_take.kp c_take.b .nil pass0 (pa_cons (pv 0) (pa_cons (pv 1) (pa_cons pe_int pa_nil)))))
      (pss_cons (ps_if (pt_cmpR op_eq (pv 2) pe_int (nomark _)) (pss_one (ps_ret (pe_tup (pa_cons pe_str (pa_cons (pe_call c_numb.ok (hr.mono (by first | decide | omega)) rfl c_numb.m c_numb.kp c_numb.b .nil pass0 (pa_cons (pv 0) (pa_cons (pv 1) pa_nil))) pa_nil))))) pss_nil)
      (pss_cons (ps_set (i := 3) nd rfl (.inl rfl) (pe_ix ix_list (pe_lst (pa_cons pe_str (pa_cons pe_str (pa_cons pe_str (pa_cons pe_str pa_nil))))) (pe_call c_take.ok (hr.mono (by first | decide | omega)) rfl c_take.m c_take.kp c_take.b .nil pass0 (pa_cons (pv 0) (pa_cons (pv 1) (pa_cons pe_int pa_nil)))) (fun _ _ => rfl)))
      (pss_cons (ps_if (pt_cmpR op_eq (pv 2) pe_int (nomark _)) (pss_one (ps_ret (pe_tup (pa_cons pe_str (pa_cons (pv 3) (pa_cons (pe_call c_ix.ok (hr.mono (by first | decide | omega)) rfl c_ix.m c_ix.kp c_ix.b .nil pass0 (pa_cons (pe_lst (pa_cons pe_str pa_nil)) (pa_cons (pv 0) (pa_cons (pv 1) (pa_cons pe_int pa_nil))))) pa_nil)))))) pss_nil)
      (pss_one (ps_ret (pe_tup (pa_cons pe_str (pa_cons (pv 3) (pa_cons pe_non pa_nil))))))))), ?_⟩
    refine ⟨_, rfl, _, rfl, d, p, 4, rfl, D, by decide, fun v H1 v0 v1 s1 c1 => ?_⟩
    have D1 := D.next s1 c1
    refine ⟨_, rfl, rfl, _, rfl, ite2 (fun _ => ?_) (fun _ => ?_)⟩
    · refine ⟨_, rfl, _, rfl, d, p, rfl, D1, fun n H2 gn s2 c2 => ⟨two, fun t ht => ?_⟩⟩
      exact q (.num n) _ _ ((sh_tup (sh_cons (sh_str (by decide +kernel)) (sh_cons sh_int sh_nil)) : Sh 1 _).mono (by decide)) (tv2 upd_same rfl rfl) ((s1.trans s2).trans (stays_new ht)) (c2.new ht)
    · refine ⟨four, fun l hl => ?_⟩
      have D2 := D1.new (o := .lst [V.str "x", V.str "y", V.str "a", V.str "bar"]) hl
      refine ⟨_, rfl, _, rfl, d, p, 4, rfl, D2, by decide, fun u H2 u0 u1 s2 c2 => ?_⟩
      obtain ⟨z, hz, oz⟩ := pick4 u0 u1
      have nl : l ≠ p := fun z => by obtain ⟨j, _, e⟩ := c1; rw [z, e] at hl; cases hl
      have e2 := s2 l _ nl upd_same
      have st := (s1.trans (stays_new (p := p) (o := .lst [V.str "x", V.str "y", V.str "a", V.str "bar"]) hl)).trans s2
      have D3 := D2.next s2 c2
      refine ⟨l, _, _, _, rfl, rfl, SqL.of e2, hz, ?_⟩
      refine ⟨_, rfl, rfl, _, rfl, ite2 (fun _ => ?_) (fun _ => ?_)⟩
      · refine ⟨_, rfl, one, fun i hi => ?_⟩
        have D4 := D3.new (o := .lst [V.str "i"]) hi
        have ni : i ≠ p := fun z => by obtain ⟨j, _, e⟩ := c2; rw [z, e] at hi; cases hi
        refine ⟨_, rfl, _, rfl, i, d, p, ["i"], 2, rfl, D4, ni, SqL.of upd_same, by decide, by decide, fun x v' H5 gx tv s5 c5 => ⟨three, fun t ht => ?_⟩⟩
        exact q (.pl z x.enc) _ _ ((sh_tup (sh_cons (sh_str (by decide +kernel)) (sh_cons (sh_str oz) (sh_cons (sh_ix (ok_strs _ rfl) gx) sh_nil))) : Sh 4 _).mono (by decide))
          (tv3 upd_same rfl rfl (tv.carry (carry_new ht))) (((st.trans (stays_new hi)).trans s5).trans (stays_new ht)) (c5.new ht)
      · refine ⟨_, rfl, three, fun t ht => ?_⟩
        exact q (.pl z .none) _ _ ((sh_tup (sh_cons (sh_str (by decide +kernel)) (sh_cons (sh_str oz) (sh_cons sh_non sh_nil))) : Sh 1 _).mono (by decide))
          (tv3 upd_same rfl rfl rfl) (st.trans (stays_new ht)) (c2.new ht)
end
end C25

namespace C25
open PySem L2 Tr Pu
def spLaw (K : PySem.W.Frag) : Sp := fun vs H Q _ => ∃ (a : Addr) (ns : List Int), vs = [.ref a] ∧ SqL K H a (ns.map V.int) ∧ ns.length ≤ 63 ∧ ∀ H', Q (.bl true) H'
theorem pickO {u : Int} (h0 : 0 ≤ u) (h1 : u < 6) : ∃ o : O4, atI [V.str "add", V.str "sub", V.str "mul", V.str "div", V.str "mul", V.str "div"] u = some (.str o.str) := by
  have cs : u = 0 ∨ u = 1 ∨ u = 2 ∨ u = 3 ∨ u = 4 ∨ u = 5 := by omega
  rcases cs with z | z | z | z | z | z <;> subst z
  · exact ⟨.add, rfl⟩
  · exact ⟨.sub, rfl⟩
  · exact ⟨.mul, rfl⟩
  · exact ⟨.div, rfl⟩
  · exact ⟨.mul, rfl⟩
  · exact ⟨.div, rfl⟩
theorem pick2 {u : Int} (h0 : 0 ≤ u) (h1 : u < 2) : ∃ z, atI [V.str "place", V.str "bar"] u = some (.str z) ∧ PyData.strOk z = true := by
  have cs : u = 0 ∨ u = 1 := by omega
  rcases cs with z | z <;> subst z <;> exact ⟨_, rfl, by decide +kernel⟩
theorem pick3 {u : Int} (h0 : 0 ≤ u) (h1 : u < 3) : ∃ z, atI [V.str "x", V.str "t3", V.str "t8"] u = some (.str z) ∧ PyData.strOk z = true := by
  have cs : u = 0 ∨ u = 1 ∨ u = 2 := by omega
  rcases cs with z | z | z <;> subst z <;> exact ⟨_, rfl, by decide +kernel⟩
theorem log_lt {j : Int} (h0 : 0 ≤ j) (h : j < 1000) : j.natAbs.log2 < 1920 := Nat.lt_of_le_of_lt (Nat.log2_le_self _) (by omega)
theorem tok_ok : ∀ n : Nat, n < 40 → PyData.strOk (("t" : Str) ++ ((toString (n : Int) : String) : Str)) = true ∧ (("t" : Str) ++ ((toString (n : Int) : String) : Str)).length ≤ 10 := by decide +kernel
theorem tok_ok' {i : Int} (h0 : 0 ≤ i) (h1 : i < 40) : PyData.strOk (("t" : Str) ++ ((toString i : String) : Str)) = true ∧ ("t" : Str).length + ((toString i : String) : Str).length ≤ sizeLine := by
  obtain ⟨n, rfl⟩ : ∃ n : Nat, i = n := ⟨i.toNat, by omega⟩
  refine ⟨(tok_ok n (by omega)).1, ?_⟩
  have e : ∀ n : Nat, n < 40 → ("t" : Str).length + ((toString (n : Int) : String) : Str).length ≤ 10 := by decide +kernel
  exact Nat.le_trans (e n (by omega)) (by decide)
theorem sh_e1 {e : E1} (h : ∀ l, e = .leaf l → Sh 6 l.enc) (g : ∀ o a b, e = .op o a b → Sh 6 a.enc ∧ Sh 6 b.enc) : Sh 7 e.enc := by
  cases e with
  | leaf l => exact (h l rfl).mono (by decide)
  | op o a b => exact sh_tup (sh_cons (sh_str (by cases o <;> decide +kernel)) (sh_cons (g _ _ _ rfl).1 (sh_cons (g _ _ _ rfl).2 sh_nil)))
theorem sh_chb {op : Str} {a : Lf} {c : PyData} (ho : PyData.strOk op = true) (ha : Sh 6 a.enc) (hc : Sh 8 c) : ShL 11 (chb op a c) := by
  cases a with
  | num n => exact sh_nil
  | pl s i =>
    have h1 : PyData.strOk s = true ∧ i.canLay0 = true := by
      have := ha.1
      simp only [Lf.enc, PyData.canLay0, PyData.canLayAll0, Bool.and_true, Bool.and_eq_true] at this
      exact this.2
    have h2 : i.depth ≤ 6 := by
      have := ha.2
      simp only [Lf.enc, PyData.depth, PyData.depthAll] at this
      omega
    have hb : Sh 7 (.tuple [.str "bar", .str s, i]) := sh_tup (sh_cons (sh_str (by decide +kernel)) (sh_cons (sh_str h1.1) (sh_cons ⟨h1.2, h2⟩ sh_nil)))
    exact sh_cons (sh_tup (sh_cons (sh_str (by decide +kernel)) (sh_cons (hb.mono (by decide)) (sh_cons (sh_tup (sh_cons (sh_str ho) (sh_cons (hb.mono (by decide)) (sh_cons (hc.mono (by decide)) sh_nil)))) sh_nil)))) sh_nil
theorem shl_app {n : Nat} : ∀ {xs ys : List PyData}, ShL n xs → ShL n ys → ShL n (xs ++ ys)
  | [], ys, _, h => h
  | x :: xs, ys, h, g => by
    have h1 : x.canLay0 = true ∧ PyData.canLayAll0 xs = true := by simpa [PyData.canLayAll0] using h.1
    have h2 := Nat.max_le.mp h.2
    exact sh_cons ⟨h1.1, h2.1⟩ (shl_app ⟨h1.2, h2.2⟩ g)
theorem shl_mono {n m : Nat} {xs : List PyData} (h : ShL n xs) (l : n ≤ m) : ShL m xs := ⟨h.1, Nat.le_trans h.2 l⟩
/-- an expression of shaped operands -/
inductive Fine : E1 → Prop where
  | leaf {l : Lf} (h : Sh 6 l.enc) : Fine (.leaf l)
  | op {o : O4} {a b : Lf} (ha : Sh 6 a.enc) (hb : Sh 6 b.enc) : Fine (.op o a b)
theorem sh_op3 {z : Str} {v b : PyData} (hz : PyData.strOk z = true) (hv : Sh 3 v) (hb : Sh 6 b) : Sh 8 (.tuple [.str z, v, b]) := (sh_tup (sh_cons (sh_str hz) (sh_cons (hv.mono (by decide)) (sh_cons hb sh_nil))) : Sh 7 _).mono (by decide)
theorem sh_ctr {e : E1} {v w : PyData} {q : Str} (h : Fine e) (hv : Sh 3 v) (hw : Sh 3 w) (hq : PyData.strOk q = true) : Sh 20 (.tuple (ctr e v w q)) := by
  have oa : PyData.strOk "add" = true := by decide +kernel
  have os : PyData.strOk "sub" = true := by decide +kernel
  have om : PyData.strOk "mul" = true := by decide +kernel
  have od : PyData.strOk "div" = true := by decide +kernel
  refine (sh_tup (n := 16) ?_).mono (by decide)
  cases h with
  | leaf h => exact shl_mono (sh_chb oa h (hv.mono (by decide))) (by decide)
  | @op o a b ha hb =>
    cases o with
    | add => exact shl_mono (shl_app (sh_chb oa ha (hv.mono (by decide))) (sh_chb oa hb (hv.mono (by decide)))) (by decide)
    | sub => exact shl_mono (shl_app (sh_chb oa ha (hv.mono (by decide))) (sh_chb os hb (hv.mono (by decide)))) (by decide)
    | mul => exact shl_mono (shl_app (sh_chb oa ha (sh_op3 om hv hb)) (sh_chb oa hb (sh_op3 om hv ha))) (by decide)
    | div =>
      cases b with
      | num n => exact shl_mono (sh_chb oa ha (sh_op3 od hv hb)) (by decide)
      | pl s i =>
        have hp : Sh 3 (.tuple [.str "place", .str q, .none]) := (sh_tup (sh_cons (sh_str (by decide +kernel)) (sh_cons (sh_str hq) (sh_cons sh_non sh_nil))) : Sh 1 _).mono (by decide)
        refine sh_cons ((sh_tup (sh_cons (sh_str (by decide +kernel)) (sh_cons (sh_str hq) (sh_cons ((sh_op3 od hv hb).mono (by decide)) (sh_cons (sh_tup (n := 11) ?_) sh_nil)))) : Sh 13 _).mono (by decide)) sh_nil
        exact shl_app (sh_chb oa ha (hp.mono (by decide))) (sh_chb os hb (sh_op3 om hp (hw.mono (by decide))))
abbrev sLaw : Stmt := top 13
abbrev nLaw : List Str := ["script", "draws", "at", "k", "first", "second", "op", "expression", "v", "w", "q", "actual"]
section
variable {P : Program} {w : World} {K : PySem.W.Frag} {mg : Str → Option Value} {base : Heap}
theorem scLaw : FnScope nLaw ["script"] (defScope sLaw) := ⟨rfl, rfl, rfl, by decide +kernel, rfl, by decide +kernel, by decide +kernel⟩
theorem ok_law {f : Addr} {fd : FuncData} (F : Fun K "law" "law" sLaw f fd) (T : Bi mg) (c_draws : Cal P w K mg base CX0 1 "_law_draws" ["script"] (spDraws K)) (c_take : Cal P w K mg base CX0 1 "_law_take" ["draws", "at", "many"] (spTake K)) (c_opd : Cal P w K mg base CX0 5 "_law_operand" ["draws", "at"] (spOpd K))
    (c_ctr : Cal P w K mg base CX0 2 "contributions" ["expression", "v", "w", "q"] (spP K 4 dCtr)) (c_shr : Cal P w K mg base CX0 2 "_law_shares" ["expression", "v", "w", "q"] (spP K 4 dCtr)) :
    FnOk P w K mg base CX0 6 f fd ["script"] (spLaw K) := by
  refine F.ok scLaw (fun vs H Q E h => ?_) (fun cdv A outer s H vs Q E hr h => ?_)
  · obtain ⟨a, ns, rfl, _⟩ := h
    rfl
  · obtain ⟨a, ns, rfl, hS, hl, q⟩ := h
    have nd := scLaw.nd
    have one : 1 ≤ sizeLine := by decide
    have three : 3 ≤ sizeLine := by decide
    have six : 6 ≤ sizeLine := by decide
    refine ⟨_, pss_cons (ps_set (i := 1) nd rfl (.inl rfl) (pe_call c_draws.ok (hr.mono (by first | decide | omega)) rfl c_draws.m c_draws.kp c_draws.b .nil pass0 (pa_cons (pv 0) pa_nil)))
      (pss_cons (ps_set (i := 2) nd rfl (.inl rfl) (pe_lst (pa_cons pe_int pa_nil)))
      (pss_cons (ps_for PassesOwn.never rfl (pi_range1 rfl T.range (pa_cons pe_int pa_nil)) (pg_name (i := 3) nd rfl (.inl rfl)) (pss_cons (ps_set (i := 4) nd rfl (.inl rfl) (pe_call c_opd.ok (hr.mono (by first | decide | omega)) rfl c_opd.m c_opd.kp c_opd.b .nil pass0 (pa_cons (pv 1) (pa_cons (pv 2) pa_nil))))
      (pss_cons (ps_set (i := 5) nd rfl (.inl rfl) (pv 4))
      (Evl.pss_cut (ps_if (pt_cmpR op_gt (pe_call c_take.ok (hr.mono (by first | decide | omega)) rfl c_take.m c_take.kp c_take.b .nil pass0 (pa_cons (pv 1) (pa_cons (pv 2) (pa_cons pe_int pa_nil)))) pe_int (nomark _)) (pss_one (ps_set (i := 5) nd rfl (.inl rfl) (pe_call c_opd.ok (hr.mono (by first | decide | omega)) rfl c_opd.m c_opd.kp c_opd.b .nil pass0 (pa_cons (pv 1) (pa_cons (pv 2) pa_nil))))) pss_nil)
      (Evl.pss_cut (ps_set (i := 6) nd rfl (.inl rfl) (pe_ix ix_list (pe_lst (pa_cons pe_str (pa_cons pe_str (pa_cons pe_str (pa_cons pe_str (pa_cons pe_str (pa_cons pe_str pa_nil))))))) (pe_call c_take.ok (hr.mono (by first | decide | omega)) rfl c_take.m c_take.kp c_take.b .nil pass0 (pa_cons (pv 1) (pa_cons (pv 2) (pa_cons pe_int pa_nil)))) (fun _ _ => rfl)))
      (Evl.pss_cut (ps_set (i := 7) nd rfl (.inl rfl) (pe_ifExp (pt_cmpR op_eq (pe_call c_take.ok (hr.mono (by first | decide | omega)) rfl c_take.m c_take.kp c_take.b .nil pass0 (pa_cons (pv 1) (pa_cons (pv 2) (pa_cons pe_int pa_nil)))) pe_int (nomark _)) (pv 4) (pe_tup (pa_cons (pv 6) (pa_cons (pv 4) (pa_cons (pv 5) pa_nil))))))
      (pss_cons (ps_set (i := 8) nd rfl (.inl rfl) (pe_tup (pa_cons (pe_ix ix_list (pe_lst (pa_cons pe_str (pa_cons pe_str pa_nil))) (pe_call c_take.ok (hr.mono (by first | decide | omega)) rfl c_take.m c_take.kp c_take.b .nil pass0 (pa_cons (pv 1) (pa_cons (pv 2) (pa_cons pe_int pa_nil)))) (fun _ _ => rfl)) (pa_cons (pe_op op_add_str pe_str (pe_callTy call_str_int rfl T.str PyProof.Rows.boot_str (pa_cons (pe_call c_take.ok (hr.mono (by first | decide | omega)) rfl c_take.m c_take.kp c_take.b .nil pass0 (pa_cons (pv 1) (pa_cons (pv 2) (pa_cons pe_int pa_nil)))) pa_nil))) (pa_cons pe_non pa_nil)))))
      (pss_cons (ps_set (i := 9) nd rfl (.inl rfl) (pe_tup (pa_cons pe_str (pa_cons (pe_ix ix_list (pe_lst (pa_cons pe_str (pa_cons pe_str (pa_cons pe_str pa_nil)))) (pe_call c_take.ok (hr.mono (by first | decide | omega)) rfl c_take.m c_take.kp c_take.b .nil pass0 (pa_cons (pv 1) (pa_cons (pv 2) (pa_cons pe_int pa_nil)))) (fun _ _ => rfl)) (pa_cons pe_non pa_nil)))))
      (pss_cons (ps_set (i := 10) nd rfl (.inl rfl) (pe_op op_add_str pe_str (pe_callTy call_str_int rfl T.str PyProof.Rows.boot_str (pa_cons (pe_op op_add pe_int (pe_call c_take.ok (hr.mono (by first | decide | omega)) rfl c_take.m c_take.kp c_take.b .nil pass0 (pa_cons (pv 1) (pa_cons (pv 2) (pa_cons pe_int pa_nil))))) pa_nil))))
      (pss_cons (ps_set (i := 11) nd rfl (.inl rfl) (pe_call c_ctr.ok (hr.mono (by first | decide | omega)) rfl c_ctr.m c_ctr.kp c_ctr.b .nil pass0 (pa_cons (pv 7) (pa_cons (pv 8) (pa_cons (pv 9) (pa_cons (pv 10) pa_nil))))))
      (pss_one (ps_if (PW.pt (pw_or (pt_not (pt_val (pe_callB call_isi rfl T.isinstance PyProof.Rows.boot_isinstance (pa_cons (pv 11) (pa_cons (pe_bltn (v := .ty "tuple") rfl T.tuple PyProof.Rows.boot_tuple rfl) pa_nil))))) (pw_or1 (pt_cmpR (op_neD hr.units) (pv 11) (pe_call c_shr.ok (hr.mono (by first | decide | omega)) rfl c_shr.m c_shr.kp c_shr.b .nil pass0 (pa_cons (pv 7) (pa_cons (pv 8) (pa_cons (pv 9) (pa_cons (pv 10) pa_nil))))) (nomark _))))) (pss_one (ps_ret pe_bl)) pss_nil))))))))))))
      (pss_one (ps_ret pe_bl)))), ?_⟩
    refine ⟨_, rfl, a, ns, rfl, hS, fun d ds H1 hd sm e1 => ⟨one, fun p hp => ?_⟩⟩
    have D0 : Dr K (upd H1 p (.lst [V.int 0])) d p := ⟨ne_of_none e1 hp, ⟨ds, SqL.of (by rw [upd_ne (ne_of_none e1 hp)]; exact e1)⟩, 0, Int.le_refl _, upd_same⟩
    refine ⟨4, rfl, by decide, by decide, for_range (lo := 0) (n := 4) (fun i σ H' => Dr K H' d p ∧ ∃ w3 w4 w5 w6 w7 w8 w9 w10 w11 : Option V, σ = [some (.ref a), some (.ref d), some (.ref p), w3, w4, w5, w6, w7, w8, w9, w10, w11])
      ⟨D0, _, _, _, _, _, _, _, _, _, rfl⟩ ?_ ?_⟩
    · rintro i σ H2 hi ⟨D2, w3, w4, w5, w6, w7, w8, w9, w10, w11, rfl⟩
      have c2 := D2.ctr
      refine ⟨_, rfl, _, rfl, d, p, rfl, D2, fun l1 v1 H3 sh1 t1 s3 c3 => ⟨_, rfl, ?_⟩⟩
      have D3 := D2.next s3 c3
      -- the second operand
      refine ⟨fun σ' H' => Dr K H' d p ∧ ∃ (l2 : Lf) (v2 : V), Sh 6 l2.enc ∧ Tv K H' l1.enc v1 ∧ Tv K H' l2.enc v2 ∧ σ' = [some (.ref a), some (.ref d), some (.ref p), some (.int (0 + (i : Int))), some v1, some v2, w6, w7, w8, w9, w10, w11], ?_, ?_⟩
      · refine ⟨_, rfl, _, rfl, d, p, 4, rfl, D3, by decide, fun u H4 u0 u1 s4 c4 => ?_⟩
        have D4 := D3.next s4 c4
        have t1' := t1.carry (s4.carry c3)
        refine ⟨_, _, rfl, rfl, _, rfl, ite2 (fun _ => ?_) (fun _ => ?_)⟩
        · refine ⟨_, rfl, _, rfl, d, p, rfl, D4, fun l2 v2 H5 sh2 t2 s5 c5 => ?_⟩
          exact ⟨D4.next s5 c5, l2, v2, sh2, t1'.carry (s5.carry c4), t2, rfl⟩
        · exact ⟨D4, l1, v1, sh1, t1', t1', rfl⟩
      rintro σ' H4 ⟨D4, l2, v2, sh2, t1', t2, rfl⟩
      -- the operation's name
      refine ⟨fun σ' H' => Dr K H' d p ∧ Tv K H' l1.enc v1 ∧ Tv K H' l2.enc v2 ∧ ∃ o : O4, σ' = [some (.ref a), some (.ref d), some (.ref p), some (.int (0 + (i : Int))), some v1, some v2, some (.str o.str), w7, w8, w9, w10, w11], ?_, ?_⟩
      · refine ⟨six, fun l hl => ?_⟩
        have D5 := D4.new (o := .lst [V.str "add", V.str "sub", V.str "mul", V.str "div", V.str "mul", V.str "div"]) hl
        refine ⟨_, rfl, _, rfl, d, p, 6, rfl, D5, by decide, fun u H5 u0 u1 s5 c5 => ?_⟩
        obtain ⟨o, ho⟩ := pickO u0 u1
        have nl : l ≠ p := fun z => by obtain ⟨j, _, e⟩ := D4.ctr; rw [z, e] at hl; cases hl
        refine ⟨l, _, _, _, rfl, rfl, SqL.of (s5 l _ nl upd_same), ho, ?_⟩
        exact ⟨D5.next s5 c5, (t1'.carry (carry_new hl)).carry (s5.carry D5.ctr), (t2.carry (carry_new hl)).carry (s5.carry D5.ctr), o, rfl⟩
      rintro σ' H5 ⟨D5, t1, t2, o, rfl⟩
      -- the expression
      refine ⟨fun σ' H' => Dr K H' d p ∧ ∃ (e : E1) (x : V), Fine e ∧ Tv K H' e.enc x ∧ σ' = [some (.ref a), some (.ref d), some (.ref p), some (.int (0 + (i : Int))), some v1, some v2, some (.str o.str), some x, w8, w9, w10, w11], ?_, ?_⟩
      · refine ⟨_, rfl, _, rfl, d, p, 6, rfl, D5, by decide, fun u H6 u0 u1 s6 c6 => ?_⟩
        have D6 := D5.next s6 c6
        have k6 : Carry K H5 H6 := s6.carry D5.ctr
        refine ⟨rfl, _, rfl, ite2 (fun _ => ?_) (fun _ => ?_)⟩
        · exact ⟨_, rfl, D6, .leaf l1, v1, .leaf sh1, t1.carry k6, rfl⟩
        · refine ⟨_, rfl, _, rfl, _, rfl, three, fun t ht => ?_⟩
          exact ⟨D6.new ht, .op o l1 l2, .ref t, .op sh1 sh2, tv3 upd_same rfl ((t1.carry k6).carry (carry_new ht)) ((t2.carry k6).carry (carry_new ht)), rfl⟩
      rintro σ' H6 ⟨D6, e, x, fe, tx, rfl⟩
      -- v
      refine ⟨(by decide : 2 ≤ sizeLine), fun l hl => ?_⟩
      have D7 := D6.new (o := .lst [V.str "place", V.str "bar"]) hl
      refine ⟨_, rfl, _, rfl, d, p, 2, rfl, D7, by decide, fun u H7 u0 u1 s7 c7 => ?_⟩
      obtain ⟨z, hz, oz⟩ := pick2 u0 u1
      have nl : l ≠ p := fun z => by obtain ⟨j, _, e⟩ := D6.ctr; rw [z, e] at hl; cases hl
      have D8 := D7.next s7 c7
      have tx8 := (tx.carry (carry_new hl)).carry (s7.carry D7.ctr)
      refine ⟨l, _, _, _, rfl, rfl, SqL.of (s7 l _ nl upd_same), hz, ?_⟩
      refine ⟨_, rfl, _, rfl, d, p, 9, rfl, D8, by decide, fun j H8 j0 j1 s8 c8 => ?_⟩
      have D9 := D8.next s8 c8
      have tx9 := tx8.carry (s8.carry D8.ctr)
      have oj := tok_ok' j0 (by omega : j < 40)
      refine ⟨j, rfl, log_lt j0 (by omega), _, _, rfl, rfl, oj.2, three, fun v hv => ?_⟩
      have D10 := D9.new (o := .tup [V.str z, V.str (("t" : Str) ++ ((toString j : String) : Str)), .non]) hv
      have sv : Sh 3 (.tuple [.str z, .str (("t" : Str) ++ ((toString j : String) : Str)), .none]) := (sh_tup (sh_cons (sh_str oz) (sh_cons (sh_str oj.1) (sh_cons sh_non sh_nil))) : Sh 1 _).mono (by decide)
      have tv : Tv K _ (.tuple [.str z, .str (("t" : Str) ++ ((toString j : String) : Str)), .none]) (.ref v) := tv3 (upd_same (H := H8) (a := v) (o := .tup [V.str z, V.str (("t" : Str) ++ ((toString j : String) : Str)), .non])) rfl rfl rfl
      have tx10 := tx9.carry (carry_new (o := .tup [V.str z, V.str (("t" : Str) ++ ((toString j : String) : Str)), .non]) hv)
      -- w
      refine ⟨three, fun m hm => ?_⟩
      have D11 := D10.new (o := .lst [V.str "x", V.str "t3", V.str "t8"]) hm
      refine ⟨_, rfl, _, rfl, d, p, 3, rfl, D11, by decide, fun y H9 y0 y1 s9 c9 => ?_⟩
      obtain ⟨wz, hw, ow⟩ := pick3 y0 y1
      have nm : m ≠ p := fun z => by obtain ⟨j, _, e⟩ := D10.ctr; rw [z, e] at hm; cases hm
      have D12 := D11.next s9 c9
      have k12 : Carry K _ H9 := (carry_new hm).trans (s9.carry D11.ctr)
      refine ⟨m, _, _, _, rfl, rfl, SqL.of (s9 m _ nm upd_same), hw, three, fun ww hww => ?_⟩
      have D13 := D12.new (o := .tup [V.str "place", V.str wz, .non]) hww
      have sw : Sh 3 (.tuple [.str "place", .str wz, .none]) := (sh_tup (sh_cons (sh_str (by decide +kernel)) (sh_cons (sh_str ow) (sh_cons sh_non sh_nil))) : Sh 1 _).mono (by decide)
      have tw : Tv K _ (.tuple [.str "place", .str wz, .none]) (.ref ww) := tv3 (upd_same (H := H9) (a := ww) (o := .tup [V.str "place", V.str wz, .non])) rfl rfl rfl
      have k13 : Carry K _ _ := k12.trans (carry_new (o := .tup [V.str "place", V.str wz, .non]) hww)
      -- q
      refine ⟨_, rfl, _, rfl, d, p, 9, rfl, D13, by decide, fun g H10 g0 g1 s10 c10 => ?_⟩
      have D14 := D13.next s10 c10
      have k14 := s10.carry (K := K) D13.ctr
      have og := tok_ok' (i := 20 + g) (by omega) (by omega)
      refine ⟨_, _, rfl, rfl, 20 + g, rfl, log_lt (by omega) (by omega), _, _, rfl, rfl, og.2, ?_⟩
      have tX := (tx10.carry k13).carry k14
      have tV := (tv.carry k13).carry k14
      have tW := tw.carry k14
      -- the contributions
      refine ⟨_, rfl, _, rfl, _, rfl, _, rfl, [e.enc, _, _, .str _], .tuple (ctr e _ _ _), rfl, ⟨_, _, rfl, tX, _, _, rfl, tV, _, _, rfl, tW, _, _, rfl, rfl, rfl⟩, ⟨e, _, _, _, rfl, rfl⟩, fun r H11 s11 tr => ?_⟩
      have D15 := D14.next (same_stays s11) (by obtain ⟨j, j0, e⟩ := D14.ctr; exact ⟨j, j0, s11 _ _ e⟩)
      refine ⟨_, rfl, r, .ty "tuple", .type "tuple", .type "tuple", true, rfl, .ty _, tyx_tv tr, kit_ty (by decide +kernel), true, rfl, iteF ?_⟩
      have c11 : Carry K _ H11 := same_carry s11
      refine ⟨_, rfl, _, rfl, _, rfl, _, rfl, _, rfl, [e.enc, _, _, .str _], .tuple (ctr e _ _ _), rfl, ⟨_, _, rfl, tX.carry c11, _, _, rfl, tV.carry c11, _, _, rfl, tW.carry c11, _, _, rfl, rfl, rfl⟩, ⟨e, _, _, _, rfl, rfl⟩, fun r2 H12 s12 tr2 => ?_⟩
      refine same_dataN (tr.carry (same_carry s12)) tr2 (sh_ctr fe sv sw og.1) (by decide) ⟨false, rfl, iteF ?_⟩
      exact ⟨D15.next (same_stays s12) (by obtain ⟨j, j0, e⟩ := D15.ctr; exact ⟨j, j0, s12 _ _ e⟩), _, _, _, _, _, _, _, _, _, rfl⟩
    · rintro σ H2 ⟨D2, w3, w4, w5, w6, w7, w8, w9, w10, w11, rfl⟩
      exact q H2
end
end C25

namespace C25
open PySem L2 Tr Pu
section
theorem all_mk {l : PySem.W.OpenLaw} {w : World} {K : PySem.W.Frag} {h : Heap} {mg : Str → Option Value} {fa f1 f2 f3 f4 f5 f6 f7 f8 f9 f10 f11 f12 : Addr} (X : K.In h) (G : h.Ns mainGlobals mg) (hfa : mg "law" = some (.ref fa))
    {od1 an1 od2 an2 od3 an3 od4 an4 od5 an5 od6 an6 od7 an7 od8 an8 od9 an9 od10 an10 od11 an11 od12 an12 : Option Addr} {sl1 sl2 sl3 sl4 sl5 sl6 sl7 sl8 sl9 sl10 sl11 sl12 : Array (Option Value)} {oc1 kV1 dc1 pm1 cd1 ct1 oc2 kV2 dc2 pm2 cd2 ct2 oc3 kV3 dc3 pm3 cd3 ct3 oc4 kV4 dc4 pm4 cd4 ct4 oc5 kV5 dc5 pm5 cd5 ct5 oc6 kV6 dc6 pm6 cd6 ct6 oc7 kV7 dc7 pm7 cd7 ct7 oc8 kV8 dc8 pm8 cd8 ct8 oc9 kV9 dc9 pm9 cd9 ct9 oc10 kV10 dc10 pm10 cd10 ct10 oc11 kV11 dc11 pm11 cd11 ct11 oc12 kV12 dc12 pm12 cd12 ct12 : Value}
    (a1 : PySem.W.nsIn K mainGlobals "divides_by_place" = some (some (.ref f1))) (l1 : K.lookup f1 = some ⟨oc1, od1, .func (PySem.W.fnOf "divides_by_place" "divides_by_place" (defArgs sDiv) (defBody sDiv) (defScope sDiv) .none kV1 dc1 pm1 an1 cd1 ct1), sl1⟩) (c1 : PySem.W.codeIn K cd1 "divides_by_place" = true) (k1 : PySem.W.keepIn K (.ref f1) = true)
    (a2 : PySem.W.nsIn K mainGlobals "contributions" = some (some (.ref f2))) (l2 : K.lookup f2 = some ⟨oc2, od2, .func (PySem.W.fnOf "contributions" "contributions" (defArgs sCtr) (defBody sCtr) (defScope sCtr) .none kV2 dc2 pm2 an2 cd2 ct2), sl2⟩) (c2 : PySem.W.codeIn K cd2 "contributions" = true) (k2 : PySem.W.keepIn K (.ref f2) = true)
    (a3 : PySem.W.nsIn K mainGlobals "change_bar" = some (some (.ref f3))) (l3 : K.lookup f3 = some ⟨oc3, od3, .func (PySem.W.fnOf "change_bar" "change_bar" (defArgs sChb) (defBody sChb) (defScope sChb) .none kV3 dc3 pm3 an3 cd3 ct3), sl3⟩) (c3 : PySem.W.codeIn K cd3 "change_bar" = true) (k3 : PySem.W.keepIn K (.ref f3) = true)
    (a4 : PySem.W.nsIn K mainGlobals "_law_draws" = some (some (.ref f4))) (l4 : K.lookup f4 = some ⟨oc4, od4, .func (PySem.W.fnOf "_law_draws" "_law_draws" (defArgs sDraws) (defBody sDraws) (defScope sDraws) .none kV4 dc4 pm4 an4 cd4 ct4), sl4⟩) (c4 : PySem.W.codeIn K cd4 "_law_draws" = true) (k4 : PySem.W.keepIn K (.ref f4) = true)
    (a5 : PySem.W.nsIn K mainGlobals "_law_take" = some (some (.ref f5))) (l5 : K.lookup f5 = some ⟨oc5, od5, .func (PySem.W.fnOf "_law_take" "_law_take" (defArgs sTake) (defBody sTake) (defScope sTake) .none kV5 dc5 pm5 an5 cd5 ct5), sl5⟩) (c5 : PySem.W.codeIn K cd5 "_law_take" = true) (k5 : PySem.W.keepIn K (.ref f5) = true)
    (a6 : PySem.W.nsIn K mainGlobals "_law_number" = some (some (.ref f6))) (l6 : K.lookup f6 = some ⟨oc6, od6, .func (PySem.W.fnOf "_law_number" "_law_number" (defArgs sNumb) (defBody sNumb) (defScope sNumb) .none kV6 dc6 pm6 an6 cd6 ct6), sl6⟩) (c6 : PySem.W.codeIn K cd6 "_law_number" = true) (k6 : PySem.W.keepIn K (.ref f6) = true)
    (a7 : PySem.W.nsIn K mainGlobals "_law_index" = some (some (.ref f7))) (l7 : K.lookup f7 = some ⟨oc7, od7, .func (PySem.W.fnOf "_law_index" "_law_index" (defArgs sIx) (defBody sIx) (defScope sIx) .none kV7 dc7 pm7 an7 cd7 ct7), sl7⟩) (c7 : PySem.W.codeIn K cd7 "_law_index" = true) (k7 : PySem.W.keepIn K (.ref f7) = true)
    (a8 : PySem.W.nsIn K mainGlobals "_law_leaf" = some (some (.ref f8))) (l8 : K.lookup f8 = some ⟨oc8, od8, .func (PySem.W.fnOf "_law_leaf" "_law_leaf" (defArgs sLeaf) (defBody sLeaf) (defScope sLeaf) .none kV8 dc8 pm8 an8 cd8 ct8), sl8⟩) (c8 : PySem.W.codeIn K cd8 "_law_leaf" = true) (k8 : PySem.W.keepIn K (.ref f8) = true)
    (a9 : PySem.W.nsIn K mainGlobals "_law_plus" = some (some (.ref f9))) (l9 : K.lookup f9 = some ⟨oc9, od9, .func (PySem.W.fnOf "_law_plus" "_law_plus" (defArgs sPlus) (defBody sPlus) (defScope sPlus) .none kV9 dc9 pm9 an9 cd9 ct9), sl9⟩) (c9 : PySem.W.codeIn K cd9 "_law_plus" = true) (k9 : PySem.W.keepIn K (.ref f9) = true)
    (a10 : PySem.W.nsIn K mainGlobals "_law_shares" = some (some (.ref f10))) (l10 : K.lookup f10 = some ⟨oc10, od10, .func (PySem.W.fnOf "_law_shares" "_law_shares" (defArgs sShr) (defBody sShr) (defScope sShr) .none kV10 dc10 pm10 an10 cd10 ct10), sl10⟩) (c10 : PySem.W.codeIn K cd10 "_law_shares" = true) (k10 : PySem.W.keepIn K (.ref f10) = true)
    (a11 : PySem.W.nsIn K mainGlobals "_law_operand" = some (some (.ref f11))) (l11 : K.lookup f11 = some ⟨oc11, od11, .func (PySem.W.fnOf "_law_operand" "_law_operand" (defArgs sOpd) (defBody sOpd) (defScope sOpd) .none kV11 dc11 pm11 an11 cd11 ct11), sl11⟩) (c11 : PySem.W.codeIn K cd11 "_law_operand" = true) (k11 : PySem.W.keepIn K (.ref f11) = true)
    (a12 : PySem.W.nsIn K mainGlobals "law" = some (some (.ref f12))) (l12 : K.lookup f12 = some ⟨oc12, od12, .func (PySem.W.fnOf "law" "law" (defArgs sLaw) (defBody sLaw) (defScope sLaw) .none kV12 dc12 pm12 an12 cd12 ct12), sl12⟩) (c12 : PySem.W.codeIn K cd12 "law" = true) (k12 : PySem.W.keepIn K (.ref f12) = true)
    (z_len : PySem.W.nsIn K mainGlobals "len" = some none)
    (z_int : PySem.W.nsIn K mainGlobals "int" = some none)
    (z_range : PySem.W.nsIn K mainGlobals "range" = some none)
    (z_tuple : PySem.W.nsIn K mainGlobals "tuple" = some none)
    (z_list : PySem.W.nsIn K mainGlobals "list" = some none)
    (z_str : PySem.W.nsIn K mainGlobals "str" = some none)
    (z_isinstance : PySem.W.nsIn K mainGlobals "isinstance" = some none)
    (z_bool : PySem.W.nsIn K mainGlobals "bool" = some none)
    (z_abs : PySem.W.nsIn K mainGlobals "abs" = some none)
    (z_max : PySem.W.nsIn K mainGlobals "max" = some none) :
    ∃ fd : FuncData, (∀ (s : Shared) (v : Value), BindsTo s fd ⟨[v], []⟩ [("script", v)]) ∧ ∀ base : Heap, K.In base → base.Ns mainGlobals mg → FnOk l.prog w K mg base CX0 6 fa fd ["script"] (spLaw K) := by
  have e := hfa.symm.trans (PySem.W.mg_of X G a12)
  cases e
  have F1 := fun_mk (st := sDiv) l1 c1 k1
  have b1 := F1.binds (ps := ["expression"]) fun _ _ _ _ _ _ us hl => match us, hl with | [_], _ => rfl
  have m1 := PySem.W.mg_of X G a1
  have F2 := fun_mk (st := sCtr) l2 c2 k2
  have b2 := F2.binds (ps := ["expression", "v", "w", "q"]) fun _ _ _ _ _ _ us hl => match us, hl with | [_, _, _, _], _ => rfl
  have m2 := PySem.W.mg_of X G a2
  have F3 := fun_mk (st := sChb) l3 c3 k3
  have b3 := F3.binds (ps := ["op", "operand", "change"]) fun _ _ _ _ _ _ us hl => match us, hl with | [_, _, _], _ => rfl
  have m3 := PySem.W.mg_of X G a3
  have F4 := fun_mk (st := sDraws) l4 c4 k4
  have b4 := F4.binds (ps := ["script"]) fun _ _ _ _ _ _ us hl => match us, hl with | [_], _ => rfl
  have m4 := PySem.W.mg_of X G a4
  have F5 := fun_mk (st := sTake) l5 c5 k5
  have b5 := F5.binds (ps := ["draws", "at", "many"]) fun _ _ _ _ _ _ us hl => match us, hl with | [_, _, _], _ => rfl
  have m5 := PySem.W.mg_of X G a5
  have F6 := fun_mk (st := sNumb) l6 c6 k6
  have b6 := F6.binds (ps := ["draws", "at"]) fun _ _ _ _ _ _ us hl => match us, hl with | [_, _], _ => rfl
  have m6 := PySem.W.mg_of X G a6
  have F7 := fun_mk (st := sIx) l7 c7 k7
  have b7 := F7.binds (ps := ["integers", "draws", "at", "depth"]) fun _ _ _ _ _ _ us hl => match us, hl with | [_, _, _, _], _ => rfl
  have m7 := PySem.W.mg_of X G a7
  have F8 := fun_mk (st := sLeaf) l8 c8 k8
  have b8 := F8.binds (ps := ["expression"]) fun _ _ _ _ _ _ us hl => match us, hl with | [_], _ => rfl
  have m8 := PySem.W.mg_of X G a8
  have F9 := fun_mk (st := sPlus) l9 c9 k9
  have b9 := F9.binds (ps := ["op", "operand", "share"]) fun _ _ _ _ _ _ us hl => match us, hl with | [_, _, _], _ => rfl
  have m9 := PySem.W.mg_of X G a9
  have F10 := fun_mk (st := sShr) l10 c10 k10
  have b10 := F10.binds (ps := ["expression", "v", "w", "q"]) fun _ _ _ _ _ _ us hl => match us, hl with | [_, _, _, _], _ => rfl
  have m10 := PySem.W.mg_of X G a10
  have F11 := fun_mk (st := sOpd) l11 c11 k11
  have b11 := F11.binds (ps := ["draws", "at"]) fun _ _ _ _ _ _ us hl => match us, hl with | [_, _], _ => rfl
  have m11 := PySem.W.mg_of X G a11
  have F12 := fun_mk (st := sLaw) l12 c12 k12
  refine ⟨PySem.W.fnOf "law" "law" (defArgs sLaw) (defBody sLaw) (defScope sLaw) .none kV12 dc12 pm12 an12 cd12 ct12, fun s v => .of_eq rfl, fun base _ _ => ?_⟩
  have T : Bi mg := ⟨PySem.W.mg_none_of X G z_len, PySem.W.mg_none_of X G z_int, PySem.W.mg_none_of X G z_range, PySem.W.mg_none_of X G z_tuple, PySem.W.mg_none_of X G z_list, PySem.W.mg_none_of X G z_str, PySem.W.mg_none_of X G z_isinstance, PySem.W.mg_none_of X G z_bool, PySem.W.mg_none_of X G z_abs, PySem.W.mg_none_of X G z_max⟩
  have cTk : Cal l.prog w K mg base CX0 1 "_law_take" ["draws", "at", "many"] (spTake K) := ⟨f5, _, ok_take F5 T, b5, k5, m5⟩
  have cNb : Cal l.prog w K mg base CX0 2 "_law_number" ["draws", "at"] (spNumb K) := ⟨f6, _, ok_numb F6 cTk, b6, k6, m6⟩
  have cIx : Cal l.prog w K mg base CX0 4 "_law_index" ["integers", "draws", "at", "depth"] (spIx K 3) := ⟨f7, _, ok_ix F7 T cTk b7 m7 3, b7, k7, m7⟩
  have cDw : Cal l.prog w K mg base CX0 1 "_law_draws" ["script"] (spDraws K) := ⟨f4, _, ok_draws F4 T, b4, k4, m4⟩
  have cDv : Cal l.prog w K mg base CX0 1 "divides_by_place" ["expression"] (spP K 1 dDiv) := ⟨f1, _, ok_div F1, b1, k1, m1⟩
  have cCh : Cal l.prog w K mg base CX0 1 "change_bar" ["op", "operand", "change"] (spP K 3 dChb) := ⟨f3, _, ok_chb F3, b3, k3, m3⟩
  have cCt : Cal l.prog w K mg base CX0 2 "contributions" ["expression", "v", "w", "q"] (spP K 4 dCtr) := ⟨f2, _, ok_ctr F2 cCh cDv, b2, k2, m2⟩
  have cLf : Cal l.prog w K mg base CX0 1 "_law_leaf" ["expression"] (spP K 1 dLeaf) := ⟨f8, _, ok_leaf F8, b8, k8, m8⟩
  have cPl : Cal l.prog w K mg base CX0 1 "_law_plus" ["op", "operand", "share"] (spP K 3 dChb) := ⟨f9, _, ok_plus F9, b9, k9, m9⟩
  have cSh : Cal l.prog w K mg base CX0 2 "_law_shares" ["expression", "v", "w", "q"] (spP K 4 dCtr) := ⟨f10, _, ok_shr F10 cPl cLf, b10, k10, m10⟩
  have cOp : Cal l.prog w K mg base CX0 5 "_law_operand" ["draws", "at"] (spOpd K) := ⟨f11, _, ok_opd F11 cTk cNb cIx, b11, k11, m11⟩
  exact ok_law F12 T cDw cTk cOp cCt cSh
end
theorem walk {l : PySem.W.OpenLaw} {q : Program} {loose : List Str} {XP : (Str → Option Value) → Heap → Prop} {YP : World → Heap → Prop} {d : DefRec} {K : Params → PySem.W.Frag} (hn : l.most = some 63) (hdf : d.params.defaults = [])
    (hY : ∀ (w : World) (h : Heap), YP w h → (K w.params).In h)
    (F : ∀ (w : World) (mg : Str → Option Value) (fa : Addr) (h : Heap), (K w.params).In h → h.Ns mainGlobals mg → mg d.name = some (.ref fa) →
      ∃ fd : FuncData, (∀ (s : Shared) (u : Value), BindsTo s fd ⟨[u], []⟩ [("script", u)]) ∧ ∀ base : Heap, (K w.params).In base → base.Ns mainGlobals mg → FnOk l.prog w (K w.params) mg base CX0 6 fa fd ["script"] (spLaw (K w.params))) :
    PySem.W.WalkO q loose XP YP l.row.toRowW d [] (fun f vs => PySem.call f vs) :=
  L2.walk_of (n := 63) (k := 6) (x := "script") (CX := fun _ => CX0) (sp := fun w => spLaw (K w.params)) hn (by decide) hdf ⟨rfl, by decide, by decide⟩ hY F (fun _ _ a ns hl _ hS => ⟨a, ns, rfl, hS, hl, fun _ => rfl⟩) fun _ _ _ _ _ z => z
end C25
open PySem PySem.W PyProof.Rows
set_option maxRecDepth 100000 in
set_option maxHeartbeats 0 in
theorem PySem.Challenge.cw_countermarch_k25_contributions_holds : PySem.Challenge.rw_countermarch_k25_contributions.Holds := by
  w_on; o_law; k_head; (case hw => w_witness2)
  k_fill
  refine C25.walk (l := PySem.Challenge.rw_countermarch_k25_contributions) rfl rfl (fun w h Y => PySem.W.kIn_of Y) ?F
  case F =>
    intro w mg fa h KX G hmg
    refine' C25.all_mk KX G hmg ?a1 ?l1 ?c1 ?k1 ?a2 ?l2 ?c2 ?k2 ?a3 ?l3 ?c3 ?k3 ?a4 ?l4 ?c4 ?k4 ?a5 ?l5 ?c5 ?k5 ?a6 ?l6 ?c6 ?k6 ?a7 ?l7 ?c7 ?k7 ?a8 ?l8 ?c8 ?k8 ?a9 ?l9 ?c9 ?k9 ?a10 ?l10 ?c10 ?k10 ?a11 ?l11 ?c11 ?k11 ?a12 ?l12 ?c12 ?k12 ?z_len ?z_int ?z_range ?z_tuple ?z_list ?z_str ?z_isinstance ?z_bool ?z_abs ?z_max
    (case a1 => k_is)
    (case l1 => k_is)
    (case c1 => k_is)
    (case k1 => k_is)
    (case a2 => k_is)
    (case l2 => k_is)
    (case c2 => k_is)
    (case k2 => k_is)
    (case a3 => k_is)
    (case l3 => k_is)
    (case c3 => k_is)
    (case k3 => k_is)
    (case a4 => k_is)
    (case l4 => k_is)
    (case c4 => k_is)
    (case k4 => k_is)
    (case a5 => k_is)
    (case l5 => k_is)
    (case c5 => k_is)
    (case k5 => k_is)
    (case a6 => k_is)
    (case l6 => k_is)
    (case c6 => k_is)
    (case k6 => k_is)
    (case a7 => k_is)
    (case l7 => k_is)
    (case c7 => k_is)
    (case k7 => k_is)
    (case a8 => k_is)
    (case l8 => k_is)
    (case c8 => k_is)
    (case k8 => k_is)
    (case a9 => k_is)
    (case l9 => k_is)
    (case c9 => k_is)
    (case k9 => k_is)
    (case a10 => k_is)
    (case l10 => k_is)
    (case c10 => k_is)
    (case k10 => k_is)
    (case a11 => k_is)
    (case l11 => k_is)
    (case c11 => k_is)
    (case k11 => k_is)
    (case a12 => k_is)
    (case l12 => k_is)
    (case c12 => k_is)
    (case k12 => k_is)
    (case z_len => k_is)
    (case z_int => k_is)
    (case z_range => k_is)
    (case z_tuple => k_is)
    (case z_list => k_is)
    (case z_str => k_is)
    (case z_isinstance => k_is)
    (case z_bool => k_is)
    (case z_abs => k_is)
    (case z_max => k_is)
#print axioms PySem.Challenge.cw_countermarch_k25_contributions_holds

