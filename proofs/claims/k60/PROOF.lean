import PyProof.Rows.All
import Wide.All
import OpenK.AllK
import Wide.FinOn
import HandS.Base
import HandS.Call
import HandS.List
import HandS.Comp
import HandS.Ends
import HandS.Exc
import HandS.TryOnly
import HandS.ExcOwn
import HandS.Words
import HandS.WordsList
import HandS.WordsExc
import HandS.Flow
import HandS.Wide
import HandS.Style
import HandS.IsInst
import HandS.ExcIs
import KE.RegKIsAll
import HandS.Walk
import HandS.ExcInit
import HandS.ExcField
import HandS.FStr
import HandS.FStrTup
import KE.KExcSuper
import KE.KExcIs
import HandS.Text
import HandS.TupAny
import HandS.Evl
import HandS.Dict
import HandS.DictSub
import HandS.WordsDict
import KE.DatumOrd
import KE.GoesEnum
import HandS.Zip0
import HandS.Zip
import PySem.Challenge.RW_countermarch_k60_whole_no_schedule_is_ch
set_option Elab.async false
set_option linter.all false
set_option maxRecDepth 100000
set_option maxHeartbeats 4000000
/-! ## The drawn trees: data, what carries it, the draws -/
namespace Tr
open PySem L2
def top (i : Nat) : Stmt := PySem.Challenge.pw_countermarch_k60_whole_no_schedule_is_ch.main.body.getD i (.Pass ⟨0, 0, 0, 0⟩)
/-! ### tuples of tuples, None, truth values, whole numbers and texts, at any depth -/
mutual
def Tv (K : PySem.W.Frag) (H : Hp) : PyData → V → Prop
  | .none, v => v = .non
  | .bool b, v => v = .bl b
  | .int i, v => v = .int i
  | .str s, v => v = .str s
  | .tuple ds, v => ∃ a xs, v = .ref a ∧ SqT K H a xs ∧ TvL K H ds xs
  | .list _, _ => False
  | .dict _, _ => False
def TvL (K : PySem.W.Frag) (H : Hp) : List PyData → List V → Prop
  | [], vs => vs = []
  | d :: ds, vs => ∃ x xs, vs = x :: xs ∧ Tv K H d x ∧ TvL K H ds xs
end
/-- no tuple is lost -/
def Carry (K : PySem.W.Frag) (H H' : Hp) : Prop := ∀ a xs, SqT K H a xs → SqT K H' a xs
section
variable {K : PySem.W.Frag} {H H' H2 : Hp}
theorem Carry.trans (c : Carry K H H') (e : Carry K H' H2) : Carry K H H2 := fun a xs h => e a xs (c a xs h)
mutual
theorem Tv.carry (c : Carry K H H') : ∀ (d : PyData) (v : V), Tv K H d v → Tv K H' d v
  | .none, _, h => h
  | .bool _, _, h => h
  | .int _, _, h => h
  | .str _, _, h => h
  | .tuple ds, _, h => by
    obtain ⟨a, xs, e, s, l⟩ := h
    exact ⟨a, xs, e, c a xs s, TvL.carry c ds xs l⟩
  | .list _, _, h => False.elim h
  | .dict _, _, h => False.elim h
theorem TvL.carry (c : Carry K H H') : ∀ (ds : List PyData) (vs : List V), TvL K H ds vs → TvL K H' ds vs
  | [], _, h => h
  | d :: ds, _, h => by
    obtain ⟨x, xs, e, t, l⟩ := h
    exact ⟨x, xs, e, Tv.carry c d x t, TvL.carry c ds xs l⟩
end
/-- all but the object at p stands as it stood -/
def Stays (p : Addr) (H H' : Hp) : Prop := ∀ b o, b ≠ p → H b = some o → H' b = some o
theorem Stays.refl (p : Addr) (H : Hp) : Stays p H H := fun _ _ _ h => h
theorem Stays.trans {p : Addr} (s : Stays p H H') (t : Stays p H' H2) : Stays p H H2 := fun b o n h => t b o n (s b o n h)
theorem same_stays {p : Addr} (s : Same H H') : Stays p H H' := fun b o _ h => s b o h
theorem stays_upd {p : Addr} {o : HO} : Stays p H (upd H p o) := fun b u n h => by rw [upd_ne n]; exact h
theorem stays_new {p q : Addr} {o : HO} (h : H q = none) : Stays p H (upd H q o) := fun b u _ e => by rw [upd_ne (ne_of_none e h)]; exact e
/-- the counter of the draws -/
def AtL (H : Hp) (p : Addr) : Prop := ∃ j : Int, 0 ≤ j ∧ H p = some (.lst [.int j])
theorem AtL.new {p q : Addr} {o : HO} (h : AtL H p) (n : H q = none) : AtL (upd H q o) p := by
  obtain ⟨j, h0, e⟩ := h
  exact ⟨j, h0, by rw [upd_ne (ne_of_none e n)]; exact e⟩
theorem Stays.carry {p : Addr} (s : Stays p H H') (h : AtL H p) : Carry K H H' := by
  obtain ⟨j, _, e⟩ := h
  intro a xs q
  rcases q with (q | ⟨o, q⟩) | q
  · exact .inl (.inl (s a _ (fun z => by rw [z, e] at q; cases q) q))
  · exact .inl (.inr ⟨o, s a _ (fun z => by rw [z, e] at q; cases q) q⟩)
  · exact .inr q
theorem Stays.list {p a : Addr} {xs : List V} (s : Stays p H H') (n : a ≠ p) (h : SqL K H a xs) : SqL K H' a xs := by
  rcases h with (q | ⟨o, q⟩) | q
  · exact .inl (.inl (s a _ n q))
  · exact .inl (.inr ⟨o, s a _ n q⟩)
  · exact .inr q
theorem same_carry (s : Same H H') : Carry K H H' := by
  intro a xs q
  rcases q with (q | ⟨o, q⟩) | q
  · exact .inl (.inl (s a _ q))
  · exact .inl (.inr ⟨o, s a _ q⟩)
  · exact .inr q
theorem carry_new {q : Addr} {o : HO} (h : H q = none) : Carry K H (upd H q o) := same_carry fun b u e => by rw [upd_ne (ne_of_none e h)]; exact e
end
theorem iteT' {c : Bool} {A B : Prop} (h : c = true) (a : A) : if c = true then A else B := by
  rw [if_pos h]
  exact a
theorem iteF' {c : Bool} {A B : Prop} (h : c = false) (b : B) : if c = true then A else B := by
  rw [h, if_neg Bool.false_ne_true]
  exact b
/-- the built-in names that no text of the program's stands before -/
structure Bi (mg : Str → Option Value) : Prop where
  len : mg "len" = none
  int : mg "int" = none
  range : mg "range" = none
  tuple : mg "tuple" = none
  list : mg "list" = none
  str : mg "str" = none
  isinstance : mg "isinstance" = none
  bool : mg "bool" = none
  abs : mg "abs" = none
  max : mg "max" = none
/-- a def of the text as its callers want it -/
structure Cal (P : Program) (w : World) (K : PySem.W.Frag) (mg : Str → Option Value) (base : Heap) (CX : CXT) (k : Nat) (x : Str) (ps : List Str) (sp : Sp) where
  f : Addr
  fd : FuncData
  ok : FnOk P w K mg base CX k f fd ps sp
  b : Binds K fd ps []
  kp : PySem.W.keepIn K (.ref f) = true
  m : mg x = some (.ref f)

end Tr

namespace Tr
open PySem L2
theorem ixT {X : Cx} {K' : PySem.W.Frag} (h : X.K = K') : IxR X (rIxT K') := by
  subst h
  exact ix_tup
theorem notInK {X : Cx} {K' : PySem.W.Frag} (h : X.K = K') : OpR X (compareOp .NotIn) (rIn K' true) := by
  subst h
  exact op_notIn_seq
theorem inK {X : Cx} {K' : PySem.W.Frag} (h : X.K = K') : OpR X (compareOp .In) (rIn K' false) := by
  subst h
  exact op_in_seq
theorem ixL {X : Cx} {K' : PySem.W.Frag} (h : X.K = K') : IxR X (rIxL K') := by
  subst h
  exact ix_list
end Tr

/-! ## Pure code over nested tuples: what an expression, a statement is worth, whatever the heap -/
namespace Pu
open PySem L2 Tr PyProof.Rows
theorem same_refl (H : Hp) : Same H H := fun _ _ h => h
/-- the slots hold these data -/
abbrev Rho := List (Option PyData)
def En (K : PySem.W.Frag) (H : Hp) (σ : L2.St) (ρ : List (Option PyData)) : Prop := σ.length = ρ.length ∧ ∀ (i : Nat) (d : PyData), ρ[i]? = some (some d) → ∃ v, σ[i]? = some (some v) ∧ Tv K H d v

def DE (K : PySem.W.Frag) (te : TE) (ρ : Rho) (d : PyData) : Prop := ∀ σ H (Q : VK), En K H σ ρ → (∀ v H2, Same H H2 → Tv K H2 d v → Q v H2) → te σ H Q
def DA (K : PySem.W.Frag) (ta : TA) (ρ : Rho) (ds : List PyData) : Prop := ∀ σ H (Q : List V → Hp → Prop), En K H σ ρ → (∀ vs H2, Same H H2 → TvL K H2 ds vs → Q vs H2) → ta σ H Q
def DT (K : PySem.W.Frag) (tt : TT) (ρ : Rho) (b : Bool) : Prop := ∀ σ H (Q : Bool → Hp → Prop), En K H σ ρ → (∀ H2, Same H H2 → Q b H2) → tt σ H Q
def DO (K : PySem.W.Frag) (to : TO) (ρ : Rho) (o : Option Int) : Prop := ∀ σ H (Q : Option Int → Hp → Prop), En K H σ ρ → (∀ H2, Same H H2 → Q o H2) → to σ H Q
/-- a block that returns; one that goes on -/
def DR (K : PySem.W.Frag) (ts : TS) (ρ : Rho) (d : PyData) : Prop := ∀ (D : Ends) σ H, En K H σ ρ → (∀ v H2, Same H H2 → Tv K H2 d v → D.rt v H2) → ts D σ H
def DN (K : PySem.W.Frag) (ts : TS) (ρ ρ' : Rho) : Prop := ∀ (D : Ends) σ H, En K H σ ρ → (∀ σ' H2, Same H H2 → En K H2 σ' ρ' → D.nx σ' H2) → ts D σ H
/-- what a call of a def with this promise is worth -/
def PV (K : PySem.W.Frag) (sp : Sp) (ds : List PyData) (d : PyData) : Prop := ∀ vs H (Q : VK) (E : XK), TvL K H ds vs → (∀ v H2, Same H H2 → Tv K H2 d v → Q v H2) → sp vs H Q E
theorem le_ble {a b : Nat} (h : Nat.ble a b = true) : a ≤ b := Nat.le_of_ble_eq_true h
section
variable {K : PySem.W.Frag} {H H' : Hp} {σ : L2.St} {ρ ρ' ρ2 : Rho} {te ta tb : TE} {tl tr : TA} {t u : TT} {x y d e : PyData} {ds es : List PyData} {b c : Bool} {ts tu tz : TS}
theorem En.next (h : En K H σ ρ) (s : Same H H') : En K H' σ ρ := ⟨h.1, fun i d q => by
  obtain ⟨v, h1, h2⟩ := h.2 i d q
  exact ⟨v, h1, h2.carry (same_carry s)⟩⟩
theorem En.put {i : Nat} {v : V} (h : En K H σ ρ) (hv : Tv K H d v) : En K H (σ.set i (some v)) (ρ.set i (some d)) := ⟨by rw [List.length_set, List.length_set]; exact h.1, fun j e q => by
  rw [List.getElem?_set] at q
  rw [List.getElem?_set]
  by_cases c : i = j
  · rw [if_pos c] at q ⊢
    by_cases c2 : i < ρ.length
    · rw [if_pos c2] at q
      cases q
      rw [if_pos (by rw [h.1]; exact c2)]
      exact ⟨v, rfl, hv⟩
    · rw [if_neg c2] at q
      cases q
  · rw [if_neg c] at q ⊢
    exact h.2 j e q⟩
theorem same_put {p : Addr} {o : HO} (h : H p = none) : Same H (upd H p o) := fun b u e => by rw [upd_ne (ne_of_none e h)]; exact e
theorem tvl_len : ∀ {ds : List PyData} {xs : List V}, TvL K H ds xs → xs.length = ds.length
  | [], _, h => by subst h; rfl
  | d :: ds, _, h => by
    obtain ⟨x, xs, rfl, _, l⟩ := h
    rw [List.length_cons, List.length_cons, tvl_len l]
theorem tvl_get : ∀ {ds : List PyData} {xs : List V} {j : Nat} {d : PyData}, TvL K H ds xs → ds[j]? = some d → ∃ x, xs[j]? = some x ∧ Tv K H d x
  | [], _, _, _, _, e => by simp at e
  | d :: ds, _, 0, _, h, e => by
    obtain ⟨x, xs, rfl, t, l⟩ := h
    simp at e
    subst e
    exact ⟨x, rfl, t⟩
  | d :: ds, _, j + 1, e', h, e => by
    obtain ⟨x, xs, rfl, t, l⟩ := h
    obtain ⟨y, h1, h2⟩ := tvl_get (j := j) l (by simpa using e)
    exact ⟨y, by simpa using h1, h2⟩
theorem tvl_drop : ∀ {ds : List PyData} {xs : List V} (n : Nat), TvL K H ds xs → TvL K H (ds.drop n) (xs.drop n)
  | _, _, 0, h => h
  | [], _, n + 1, h => by subst h; rfl
  | d :: ds, _, n + 1, h => by
    obtain ⟨x, xs, rfl, _, l⟩ := h
    exact tvl_drop n l
theorem tvl_take : ∀ {ds : List PyData} {xs : List V} (n : Nat), TvL K H ds xs → TvL K H (ds.take n) (xs.take n)
  | _, _, 0, h => rfl
  | [], _, n + 1, h => by subst h; rfl
  | d :: ds, _, n + 1, h => by
    obtain ⟨x, xs, rfl, t, l⟩ := h
    exact ⟨x, _, rfl, t, tvl_take n l⟩
theorem tvl_app : ∀ {ds es : List PyData} {xs ys : List V}, TvL K H ds xs → TvL K H es ys → TvL K H (ds ++ es) (xs ++ ys)
  | [], _, _, _, h, g => by subst h; exact g
  | d :: ds, _, _, _, h, g => by
    obtain ⟨x, xs, rfl, t, l⟩ := h
    exact ⟨x, _, rfl, t, tvl_app l g⟩
theorem tvl_atI {xs : List V} {i : Int} (l : TvL K H ds xs) (h : atI ds i = some d) : ∃ x, atI xs i = some x ∧ Tv K H d x := by
  unfold atI at h ⊢
  rw [tvl_len l]
  cases e : ixN ds.length i with
  | none => rw [e] at h; cases h
  | some j => rw [e] at h; exact tvl_get l h
/-! ### expressions -/
theorem de_var {i : Nat} (h : ρ[i]? = some (some d)) : DE K (tVar i) ρ d := fun σ H Q en q => by
  obtain ⟨v, h1, h2⟩ := en.2 i d h
  exact ⟨v, h1, q v H (same_refl H) h2⟩
theorem de_int {i : Int} : DE K (tC (.int i)) ρ (.int i) := fun σ H Q en q => q _ H (same_refl H) rfl
theorem de_str {z : Str} : DE K (tC (.str z)) ρ (.str z) := fun σ H Q en q => q _ H (same_refl H) rfl
theorem de_bl : DE K (tC (.bl b)) ρ (.bool b) := fun σ H Q en q => q _ H (same_refl H) rfl
theorem de_non : DE K (tC .non) ρ .none := fun σ H Q en q => q _ H (same_refl H) rfl
theorem da_nil : DA K tNil ρ [] := fun σ H Q en q => q _ H (same_refl H) rfl
theorem da_cons (h : DE K ta ρ d) (hr : DA K tr ρ ds) : DA K (tCons ta tr) ρ (d :: ds) := fun σ H Q en q =>
  h σ H _ en fun v H1 s1 tv => hr σ H1 _ (en.next s1) fun vs H2 s2 tl => q _ H2 (s1.trans s2) ⟨v, vs, rfl, tv.carry (same_carry s2), tl⟩
theorem da_one (h : DE K ta ρ d) : DA K (tCons ta tNil) ρ [d] := da_cons h da_nil
theorem de_tup (h : DA K tl ρ ds) (hl : ds.length ≤ 1000 := by decide) : DE K (tTup tl) ρ (.tuple ds) := fun σ H Q en q =>
  h σ H _ en fun vs H1 s1 tv => ⟨by rw [tvl_len tv]; exact Nat.le_of_lt (small1000 hl), fun p hp => q _ _ (s1.trans (same_put hp)) ⟨p, vs, rfl, SqT.of upd_same, TvL.carry (carry_new hp) _ _ tv⟩⟩
theorem de_ix {i : Int} (ha : DE K ta ρ (.tuple ds)) (hb : DE K tb ρ (.int i)) (h : atI ds i = some d := by rfl) : DE K (tOp (rIxT K) ta tb) ρ d := fun σ H Q en q =>
  ha σ H _ en fun v H1 s1 tv => hb σ H1 _ (en.next s1) fun w H2 s2 tw => by
    obtain ⟨a, xs, rfl, sq, l⟩ := tv.carry (same_carry s2)
    obtain ⟨x, hx, tx⟩ := tvl_atI l h
    have e : w = .int i := tw
    subst e
    exact ⟨a, xs, i, x, rfl, rfl, sq, hx, q x H2 (s1.trans s2) tx⟩
theorem de_cat {fs : List PyData} (ha : DE K ta ρ (.tuple ds)) (hb : DE K tb ρ (.tuple es)) (he : ds ++ es = fs := by rfl) (hl : ds.length + es.length ≤ 1000 := by decide) : DE K (tOp (rCatA K) ta tb) ρ (.tuple fs) := by
  subst he
  exact fun σ H Q en q => ha σ H _ en fun v H1 s1 tv => hb σ H1 _ (en.next s1) fun w H2 s2 tw => by
    obtain ⟨a, xs, rfl, sq, l⟩ := tv.carry (same_carry s2)
    obtain ⟨a2, ys, rfl, sq2, l2⟩ := tw
    refine ⟨a, a2, xs, ys, rfl, rfl, sq, sq2, by rw [tvl_len l, tvl_len l2]; exact Nat.le_of_lt (small1000 hl), fun z => ?_, fun z1 z2 => ?_, fun z1 z2 p hp => ?_⟩
    · refine q _ H2 (s1.trans s2) ⟨a2, ys, rfl, sq2, ?_⟩
      subst z
      have e : ds = [] := by
        have := tvl_len l
        cases ds with
        | nil => rfl
        | cons d r => simp at this
      rw [e]
      exact l2
    · refine q _ H2 (s1.trans s2) ⟨a, xs, rfl, sq, ?_⟩
      subst z2
      have e : es = [] := by
        have := tvl_len l2
        cases es with
        | nil => rfl
        | cons d r => simp at this
      rw [e, List.append_nil]
      exact l
    · exact q _ _ ((s1.trans s2).trans (same_put hp)) ⟨p, _, rfl, SqT.of upd_same, TvL.carry (carry_new hp) _ _ (tvl_app l l2)⟩
theorem do_none : DO K tNoPart ρ none := fun σ H Q en q => q H (same_refl H)
theorem do_some {i : Int} (h : DE K te ρ (.int i)) : DO K (tPart te) ρ (some i) := fun σ H Q en q => h σ H _ en fun v H1 s1 tv => ⟨i, tv, q H1 s1⟩
/-- t[lo:hi] of data -/
def cutD (ds : List PyData) (lo hi : Option Int) : List PyData := (ds.drop (HT.sIx ds.length 0 lo)).take (HT.sIx ds.length ds.length hi - HT.sIx ds.length 0 lo)
theorem de_sl {t1 t2 : TO} {lo hi : Option Int} (h : DE K te ρ (.tuple ds)) (h1 : DO K t1 ρ lo) (h2 : DO K t2 ρ hi) (he : cutD ds lo hi = es := by rfl) : DE K (tSl (rSlA K) te t1 t2) ρ (.tuple es) := fun σ H Q en q =>
  h σ H _ en fun v H1 s1 tv => h1 σ H1 _ (en.next s1) fun H2 s2 => h2 σ H2 _ (en.next (s1.trans s2)) fun H3 s3 => by
    obtain ⟨a, xs, rfl, sq, l⟩ := tv.carry (same_carry (s2.trans s3))
    have e := tvl_len l
    refine ⟨a, xs, rfl, sq, fun z => ?_, fun z p hp => ?_⟩
    · refine q _ H3 ((s1.trans s2).trans s3) ⟨a, xs, rfl, sq, ?_⟩
      rw [← he]
      unfold cutD
      rw [← e, z.1, z.2, List.drop_zero, Nat.sub_zero, e, List.take_length]
      exact l
    · refine q _ _ (((s1.trans s2).trans s3).trans (same_put hp)) ⟨p, _, rfl, SqT.of upd_same, TvL.carry (carry_new hp) _ _ ?_⟩
      rw [← he]
      unfold cutD cutV
      rw [← e]
      exact tvl_take _ (tvl_drop _ l)
/-! ### equality of texts, whole numbers; is None; in a tuple of texts -/
theorem de_eqS {p q : Str} (ha : DE K ta ρ (.str p)) (hb : DE K tb ρ (.str q)) (h : decide (p = q) = b := by first | rfl | decide) : DE K (tOp rEq ta tb) ρ (.bool b) := fun σ H Q en k =>
  ha σ H _ en fun v H1 s1 tv => hb σ H1 _ (en.next s1) fun w H2 s2 tw => by
    have e1 : v = .str p := tv
    have e2 : w = .str q := tw
    subst e1 e2
    refine ⟨rfl, k _ H2 (s1.trans s2) ?_⟩
    show V.bl (decide (V.str p = V.str q)) = .bl b
    rw [← h]
    congr 1
    simp
theorem de_neS {p q : Str} (ha : DE K ta ρ (.str p)) (hb : DE K tb ρ (.str q)) (h : (!decide (p = q)) = b := by first | rfl | decide) : DE K (tOp rNe ta tb) ρ (.bool b) := fun σ H Q en k =>
  ha σ H _ en fun v H1 s1 tv => hb σ H1 _ (en.next s1) fun w H2 s2 tw => by
    have e1 : v = .str p := tv
    have e2 : w = .str q := tw
    subst e1 e2
    refine ⟨rfl, k _ H2 (s1.trans s2) ?_⟩
    show V.bl (!decide (V.str p = V.str q)) = .bl b
    rw [← h]
    congr 2
    simp
theorem dec_V {i j : Int} : decide (V.int i = V.int j) = decide (i = j) := by simp
theorem de_eqI {i j : Int} (ha : DE K ta ρ (.int i)) (hb : DE K tb ρ (.int j)) : DE K (tOp rEq ta tb) ρ (.bool (decide (i = j))) := fun σ H Q en k =>
  ha σ H _ en fun v H1 s1 tv => hb σ H1 _ (en.next s1) fun w H2 s2 tw => by
    have e1 : v = .int i := tv
    have e2 : w = .int j := tw
    subst e1 e2
    exact ⟨rfl, k _ H2 (s1.trans s2) (by rw [dec_V]; rfl)⟩
def isNo : PyData → Bool
  | .none => true
  | _ => false
theorem isNo_tv {v : V} (h : Tv K H d v) : decide (v = .non) = isNo d := by
  cases d with
  | none => cases h; rfl
  | bool b => cases h; rfl
  | int i => cases h; rfl
  | str s => cases h; rfl
  | tuple ds => obtain ⟨a, xs, rfl, _⟩ := h; rfl
  | list ds => exact False.elim h
  | dict ds => exact False.elim h
theorem de_isN {r : R2} (hr : ∀ x H Q, Q (V.bl (decide (x = .non))) H → r x .non H Q) (ha : DE K ta ρ d) (h : isNo d = b := by rfl) : DE K (tOp r ta (tC .non)) ρ (.bool b) := fun σ H Q en k =>
  ha σ H _ en fun v H1 s1 tv => hr _ _ _ (k _ H1 s1 (by rw [isNo_tv tv, h]; rfl))
theorem de_notN {r : R2} (hr : ∀ x H Q, Q (V.bl (!decide (x = .non))) H → r x .non H Q) (ha : DE K ta ρ d) (h : (!isNo d) = b := by rfl) : DE K (tOp r ta (tC .non)) ρ (.bool b) := fun σ H Q en k =>
  ha σ H _ en fun v H1 s1 tv => hr _ _ _ (k _ H1 s1 (by rw [isNo_tv tv, h]; rfl))
def strsOf : List PyData → Option (List Str)
  | [] => some []
  | .str z :: r => (strsOf r).map (z :: ·)
  | _ :: _ => none
theorem strs_tv : ∀ {ds : List PyData} {zs : List Str} {xs : List V}, strsOf ds = some zs → TvL K H ds xs → xs = zs.map V.str
  | [], zs, xs, h, l => by
    simp only [strsOf] at h
    cases h
    exact l
  | d :: r, zs, xs, h, l => by
    obtain ⟨x, ys, rfl, tx, l2⟩ := l
    cases d with
    | str z =>
      simp only [strsOf] at h
      cases e : strsOf r with
      | none => rw [e] at h; cases h
      | some ws =>
        rw [e] at h
        cases h
        rw [List.map_cons, ← strs_tv e l2]
        rw [show x = V.str z from tx]
    | none => simp [strsOf] at h
    | bool b => simp [strsOf] at h
    | int i => simp [strsOf] at h
    | tuple ds => simp [strsOf] at h
    | list ds => simp [strsOf] at h
    | dict ds => simp [strsOf] at h
theorem all_flat (zs : List Str) : (zs.map V.str).all flatV = true := by
  induction zs with
  | nil => rfl
  | cons z r ih => rw [List.map_cons, List.all_cons, ih]; rfl
theorem in_strs (z : Str) (zs : List Str) : inV (.str z) (zs.map V.str) = decide (z ∈ zs) := by
  unfold inV
  rw [List.any_map]
  induction zs with
  | nil => rfl
  | cons y r ih =>
    rw [List.any_cons, ih]
    show (eqV (V.str y) (V.str z) || decide (z ∈ r)) = decide (z ∈ y :: r)
    have e : eqV (V.str y) (V.str z) = decide (z = y) := by
      show decide (y = z) = decide (z = y)
      by_cases c : y = z
      · rw [decide_eq_true c, decide_eq_true c.symm]
      · rw [decide_eq_false c, decide_eq_false (fun q => c q.symm)]
    rw [e, ← Bool.decide_or]
    congr 1
    rw [List.mem_cons]
theorem de_in {z : Str} {zs : List Str} (ha : DE K ta ρ (.str z)) (hb : DE K tb ρ (.tuple ds)) (hs : strsOf ds = some zs := by rfl) (h : decide (z ∈ zs) = b := by first | rfl | decide) : DE K (tOp (rIn K false) ta tb) ρ (.bool b) := fun σ H Q en k =>
  ha σ H _ en fun v H1 s1 tv => hb σ H1 _ (en.next s1) fun w H2 s2 tw => by
    have e1 : v = .str z := tv
    subst e1
    obtain ⟨a, xs, rfl, sq, l⟩ := tw
    have e2 := strs_tv hs l
    subst e2
    refine ⟨a, _, rfl, .inr sq, rfl, all_flat zs, ?_⟩
    rw [in_strs, h]
    exact k _ H2 (s1.trans s2) rfl
/-! ### truth -/
theorem dt_test (h : DE K te ρ (.bool b)) : DT K (tTest te) ρ b := fun σ H Q en q => h σ H _ en fun v H1 s1 tv => ⟨b, tv, q H1 s1⟩
theorem dt_B (h : DE K te ρ (.bool b)) : DT K (tB te) ρ b := fun σ H Q en q => h σ H _ en fun v H1 s1 tv => ⟨b, tv, q H1 s1⟩
theorem dt_not (h : DT K t ρ b) : DT K (tNot t) ρ (!b) := fun σ H Q en q => h σ H _ en fun H1 s1 => q H1 s1
theorem dt_notT (h : DT K t ρ false) : DT K (tNot t) ρ true := dt_not h
theorem dt_notF (h : DT K t ρ true) : DT K (tNot t) ρ false := dt_not h
theorem dt_andT (h : DT K t ρ true) (g : DT K u ρ b) : DT K (tAnd t u) ρ b := fun σ H Q en q => h σ H _ en fun H1 s1 => by
  show u σ H1 Q
  exact g σ H1 _ (en.next s1) fun H2 s2 => q H2 (s1.trans s2)
theorem dt_andF (h : DT K t ρ false) : DT K (tAnd t u) ρ false := fun σ H Q en q => h σ H _ en fun H1 s1 => by
  show Q false H1
  exact q H1 s1
theorem dt_orT (h : DT K t ρ true) : DT K (tOr t u) ρ true := fun σ H Q en q => h σ H _ en fun H1 s1 => by
  show Q true H1
  exact q H1 s1
theorem dt_orF (h : DT K t ρ false) (g : DT K u ρ b) : DT K (tOr t u) ρ b := fun σ H Q en q => h σ H _ en fun H1 s1 => by
  show u σ H1 Q
  exact g σ H1 _ (en.next s1) fun H2 s2 => q H2 (s1.trans s2)
theorem de_not (h : DE K ta ρ (.bool b)) : DE K (tNotV ta) ρ (.bool (!b)) := fun σ H Q en q => h σ H _ en fun v H1 s1 tv => ⟨b, tv, q _ H1 s1 rfl⟩
theorem de_andT (h : DE K ta ρ (.bool true)) (g : DE K tb ρ d) : DE K (tAndV ta tb) ρ d := fun σ H Q en q => h σ H _ en fun v H1 s1 tv => ⟨true, tv, by
  show tb σ H1 Q
  exact g σ H1 _ (en.next s1) fun v2 H2 s2 t2 => q v2 H2 (s1.trans s2) t2⟩
theorem de_andF (h : DE K ta ρ (.bool false)) : DE K (tAndV ta tb) ρ (.bool false) := fun σ H Q en q => h σ H _ en fun v H1 s1 tv => ⟨false, tv, by
  show Q (.bl false) H1
  exact q _ H1 s1 rfl⟩
theorem de_orT (h : DE K ta ρ (.bool true)) : DE K (tOrV ta tb) ρ (.bool true) := fun σ H Q en q => h σ H _ en fun v H1 s1 tv => ⟨true, tv, by
  show Q (.bl true) H1
  exact q _ H1 s1 rfl⟩
theorem de_orF (h : DE K ta ρ (.bool false)) (g : DE K tb ρ d) : DE K (tOrV ta tb) ρ d := fun σ H Q en q => h σ H _ en fun v H1 s1 tv => ⟨false, tv, by
  show tb σ H1 Q
  exact g σ H1 _ (en.next s1) fun v2 H2 s2 t2 => q v2 H2 (s1.trans s2) t2⟩
theorem de_ifT (h : DT K t ρ true) (g : DE K ta ρ d) : DE K (tIf t ta tb) ρ d := fun σ H Q en q => h σ H _ en fun H1 s1 => by
  show ta σ H1 Q
  exact g σ H1 _ (en.next s1) fun v2 H2 s2 t2 => q v2 H2 (s1.trans s2) t2
theorem de_ifF (h : DT K t ρ false) (g : DE K tb ρ d) : DE K (tIf t ta tb) ρ d := fun σ H Q en q => h σ H _ en fun H1 s1 => by
  show tb σ H1 Q
  exact g σ H1 _ (en.next s1) fun v2 H2 s2 t2 => q v2 H2 (s1.trans s2) t2
/-! ### calls -/
theorem de_call {sp : Sp} {E : XK} (h : DA K tl ρ ds) (g : PV K sp ds d) : DE K (tCall sp [] E tl) ρ d := fun σ H Q en q => h σ H _ en fun vs H1 s1 tv => by
  show sp (vs ++ []) H1 Q E
  rw [List.append_nil]
  exact g vs H1 Q E tv fun v H2 s2 t2 => q v H2 (s1.trans s2) t2
/-! ### statements -/
theorem dr_ret (h : DE K te ρ d) : DR K (tRet te) ρ d := fun D σ H en q => h σ H _ en q
theorem dr_seq (h : DN K ts ρ ρ') (g : DR K tu ρ' d) : DR K (tSeq ts tu) ρ d := fun D σ H en q => h { D with nx := tu D } σ H en fun σ' H1 s1 en1 => g D σ' H1 en1 fun v H2 s2 t2 => q v H2 (s1.trans s2) t2
theorem dr_stop (h : DR K ts ρ d) : DR K (tSeq ts tu) ρ d := fun D σ H en q => h { D with nx := tu D } σ H en q
theorem dn_seq (h : DN K ts ρ ρ') (g : DN K tu ρ' ρ2) : DN K (tSeq ts tu) ρ ρ2 := fun D σ H en q => h { D with nx := tu D } σ H en fun σ' H1 s1 en1 => g D σ' H1 en1 fun σ2 H2 s2 t2 => q σ2 H2 (s1.trans s2) t2
theorem dn_next : DN K tNext ρ ρ := fun D σ H en q => q σ H (same_refl H) en
theorem dr_ifT (h : DT K t ρ true) (g : DR K ts ρ d) : DR K (tIfS t ts tu) ρ d := fun D σ H en q => h σ H _ en fun H1 s1 => by
  show ts D σ H1
  exact g D σ H1 (en.next s1) fun v H2 s2 t2 => q v H2 (s1.trans s2) t2
theorem dr_ifF (h : DT K t ρ false) (g : DR K tu ρ d) : DR K (tIfS t ts tu) ρ d := fun D σ H en q => h σ H _ en fun H1 s1 => by
  show tu D σ H1
  exact g D σ H1 (en.next s1) fun v H2 s2 t2 => q v H2 (s1.trans s2) t2
theorem dn_ifT (h : DT K t ρ true) (g : DN K ts ρ ρ') : DN K (tIfS t ts tu) ρ ρ' := fun D σ H en q => h σ H _ en fun H1 s1 => by
  show ts D σ H1
  exact g D σ H1 (en.next s1) fun v H2 s2 t2 => q v H2 (s1.trans s2) t2
theorem dn_ifF (h : DT K t ρ false) (g : DN K tu ρ ρ') : DN K (tIfS t ts tu) ρ ρ' := fun D σ H en q => h σ H _ en fun H1 s1 => by
  show tu D σ H1
  exact g D σ H1 (en.next s1) fun v H2 s2 t2 => q v H2 (s1.trans s2) t2
theorem dn_set {i : Nat} (h : DE K te ρ d) : DN K (tAsg te (gName i)) ρ (ρ.set i (some d)) := fun D σ H en q => h σ H _ en fun v H1 s1 tv => q _ H1 s1 ((en.next s1).put tv)
theorem dn_un2 {i j : Nat} (h : DE K te ρ (.tuple [x, y])) : DN K (tAsg te (gTup K 2 (gCons (gName i) (gCons (gName j) gNil)))) ρ ((ρ.set i (some x)).set j (some y)) := fun D σ H en q => h σ H _ en fun v H1 s1 tv => by
  obtain ⟨a, xs, rfl, sq, v1, r1, rfl, t1, v2, r2, rfl, t2, rfl⟩ := tv
  exact ⟨a, _, rfl, sq, rfl, v1, _, rfl, v2, _, rfl, rfl, q _ H1 s1 (((en.next s1).put t1).put t2)⟩
theorem dn_un3 {i j l : Nat} (h : DE K te ρ (.tuple [x, y, d])) : DN K (tAsg te (gTup K 3 (gCons (gName i) (gCons (gName j) (gCons (gName l) gNil))))) ρ (((ρ.set i (some x)).set j (some y)).set l (some d)) := fun D σ H en q => h σ H _ en fun v H1 s1 tv => by
  obtain ⟨a, xs, rfl, sq, v1, r1, rfl, t1, v2, r2, rfl, t2, v3, r3, rfl, t3, rfl⟩ := tv
  exact ⟨a, _, rfl, sq, rfl, v1, _, rfl, v2, _, rfl, v3, _, rfl, rfl, q _ H1 s1 ((((en.next s1).put t1).put t2).put t3)⟩
theorem dr_set {i : Nat} (h : DE K te ρ d) (g : DR K tu (ρ.set i (some d)) e) : DR K (tSeq (tAsg te (gName i)) tu) ρ e := dr_seq (dn_set h) g
theorem dr_un2 {i j : Nat} (h : DE K te ρ (.tuple [x, y])) (g : DR K tu ((ρ.set i (some x)).set j (some y)) e) : DR K (tSeq (tAsg te (gTup K 2 (gCons (gName i) (gCons (gName j) gNil)))) tu) ρ e := dr_seq (dn_un2 h) g
theorem dr_un3 {i j l : Nat} (h : DE K te ρ (.tuple [x, y, d])) (g : DR K tu (((ρ.set i (some x)).set j (some y)).set l (some d)) e) : DR K (tSeq (tAsg te (gTup K 3 (gCons (gName i) (gCons (gName j) (gCons (gName l) gNil))))) tu) ρ e := dr_seq (dn_un3 h) g
theorem dr_whenF (h : DT K t ρ false) (g : DR K tu ρ d) : DR K (tSeq (tIfS t ts tNext) tu) ρ d := dr_seq (dn_ifF h dn_next) g
theorem dr_whenT (h : DT K t ρ true) (g : DR K ts ρ d) : DR K (tSeq (tIfS t ts tz) tu) ρ d := dr_stop (dr_ifT h g)
end
/-- the promise of a def that hands back data: f of the arguments, where dom holds -/
def spP (K : PySem.W.Frag) (n : Nat) (dom : List PyData → PyData → Prop) : Sp := fun vs H Q _ => ∃ (ds : List PyData) (d : PyData), ds.length = n ∧ TvL K H ds vs ∧ dom ds d ∧ ∀ v H2, Same H H2 → Tv K H2 d v → Q v H2
theorem pv_P {K : PySem.W.Frag} {n : Nat} {dom : List PyData → PyData → Prop} {ds : List PyData} {d : PyData} (h : dom ds d) (hn : ds.length = n := by rfl) : PV K (spP K n dom) ds d := fun vs H Q E tv q => ⟨ds, d, hn, tv, h, q⟩
theorem en_start {K : PySem.W.Frag} {H : Hp} : ∀ {ds : List PyData} {vs : List V} {N : List Str}, TvL K H ds vs → ds.length ≤ N.length → En K H (start N vs) (ds.map some ++ List.replicate (N.length - ds.length) none) := by
  intro ds vs N l hl
  have e := tvl_len l
  refine ⟨?_, fun i d q => ?_⟩
  · show (vs.map some ++ List.replicate (N.length - vs.length) none).length = _
    simp [e]
  · show ∃ v, (vs.map some ++ List.replicate (N.length - vs.length) none)[i]? = some (some v) ∧ Tv K H d v
    rw [List.getElem?_append] at q
    rw [List.getElem?_append, List.length_map]
    rw [List.length_map] at q
    by_cases c : i < ds.length
    · rw [if_pos c, List.getElem?_map] at q
      rw [if_pos (by rw [e]; exact c), List.getElem?_map]
      cases e2 : ds[i]? with
      | none => rw [e2] at q; cases q
      | some d' =>
        rw [e2] at q
        cases q
        obtain ⟨x, h1, h2⟩ := tvl_get l e2
        exact ⟨x, by rw [h1]; rfl, h2⟩
    · rw [if_neg c] at q
      rw [List.getElem?_replicate] at q
      split at q <;> cases q
section
variable {P : Program} {w : World} {K : PySem.W.Frag} {mg : Str → Option Value} {base : Heap}
/-- a def whose body is worth what dom says -/
theorem ok_P {x qual : Str} {st : Stmt} {f : Addr} {fd : FuncData} {N ps : List Str} {k : Nat} {dom : List PyData → PyData → Prop} (F : Fun K x qual st f fd) (S : FnScope N ps (defScope st))
    (hN : ps.length ≤ N.length) 
    (body : ∀ (cdv : Value) (A : Around) (outer : List Env) (s : Shared) (H : Hp) (E : XK), Room k (A.deeper (envOfC qual (defScope st) s.heap.objs.size f cdv)) →
      ∃ t, PSs (cxOf CX0 P w K mg base N qual (defScope st) f cdv A outer s H E).nox (defBody st) t ∧ ∀ ds d, ds.length = ps.length → dom ds d → DR K t (ds.map some ++ List.replicate (N.length - ds.length) none) d) :
    FnOk P w K mg base CX0 (k + 1) f fd ps (spP K ps.length dom) := by
  refine F.ok S (fun vs H Q E h => ?_) (fun cdv A outer s H vs Q E hr h => ?_)
  · obtain ⟨ds, d, hl, tl, _⟩ := h
    rw [tvl_len tl, hl]
  · obtain ⟨ds, d, hl, tl, hd, q⟩ := h
    obtain ⟨t, ht, hb⟩ := body cdv A outer s H E hr
    exact ⟨t, ht, hb ds d hl hd _ _ H (en_start tl (by rw [hl]; exact hN)) q⟩
end
end Pu

/-! ### pure data: isinstance, deep equality -/
namespace Pu
open PySem L2 Tr PyProof.Rows
def tyD : PyData → String
  | .none => "NoneType" | .bool _ => "bool" | .int _ => "int" | .str _ => "str" | .tuple _ => "tuple" | .list _ => "list" | .dict _ => "dict"
section
variable {K : PySem.W.Frag} {H H' : Hp} {σ : L2.St} {ρ : Rho} {te ta tb : TE} {tl : TA} {d e : PyData} {ds : List PyData} {b : Bool}
theorem tyx_tup {a : Addr} {xs : List V} (h : SqT K H a xs) : TyX K H (.ref a) (.type "tuple") := by
  rcases h with (h | ⟨o, h⟩) | ⟨o, its, n, h, c, _⟩
  · exact .base (.tup h)
  · exact .fTuple h
  · exact .kTuple h c
theorem tyx_tv {v : V} (h : Tv K H d v) : TyX K H v (.type (tyD d)) := by
  cases d with
  | none => cases h; exact .base .non
  | bool b => cases h; exact .base (.bl b)
  | int i => cases h; exact .base (.int i)
  | str s => cases h; exact .base (.str s)
  | tuple ds => obtain ⟨a, xs, rfl, s, _⟩ := h; exact tyx_tup s
  | list ds => exact False.elim h
  | dict ds => exact False.elim h
theorem de_isi {n : String} (ha : DE K ta ρ d) (h : kitB (tyD d) n = some b := by decide +kernel) : DE K (tCB (rIsi K) (tCons ta (tCons (tC (.ty n)) tNil))) ρ (.bool b) := fun σ H Q en k =>
  ha σ H _ en fun v H1 s1 tv => ⟨v, .ty n, .type (tyD d), .type n, b, rfl, .ty n, tyx_tv tv, kit_ty h, k _ H1 s1 rfl⟩
mutual
theorem dp_tv : ∀ (d : PyData) (v : V), Tv K H d v → Dp K H v d
  | .none, v, h => by cases h; exact .non
  | .bool b, v, h => by cases h; exact .bl b
  | .int i, v, h => by cases h; exact .int i
  | .str s, v, h => by cases h; exact .str s
  | .tuple ds, v, h => by
    obtain ⟨a, xs, rfl, s, l⟩ := h
    exact .tup s (dps_tv ds xs l)
  | .list ds, v, h => False.elim h
  | .dict ds, v, h => False.elim h
theorem dps_tv : ∀ (ds : List PyData) (vs : List V), TvL K H ds vs → DpAll K H vs ds
  | [], vs, h => by cases h; exact .nil
  | d :: ds, vs, h => by
    obtain ⟨x, xs, rfl, t, l⟩ := h
    exact .cons (dp_tv d x t) (dps_tv ds xs l)
end
/-- shaped data: no dict, texts are texts, of this depth at most -/
def Sh (n : Nat) (d : PyData) : Prop := d.canLay0 = true ∧ d.depth ≤ n
def ShL (n : Nat) (ds : List PyData) : Prop := PyData.canLayAll0 ds = true ∧ PyData.depthAll ds ≤ n
theorem Sh.mono {n m : Nat} (h : Sh n d) (l : n ≤ m) : Sh m d := ⟨h.1, Nat.le_trans h.2 l⟩
theorem sh_nil {n : Nat} : ShL n [] := ⟨rfl, Nat.zero_le _⟩
theorem sh_cons {n : Nat} (h : Sh n d) (g : ShL n ds) : ShL n (d :: ds) := ⟨by show (d.canLay0 && PyData.canLayAll0 ds) = true; rw [h.1, g.1]; rfl, Nat.max_le.mpr ⟨h.2, g.2⟩⟩
theorem sh_tup {n : Nat} (h : ShL n ds) : Sh (n + 1) (.tuple ds) := ⟨h.1, Nat.succ_le_succ h.2⟩
theorem sh_int {n : Nat} {i : Int} : Sh n (.int i) := ⟨rfl, Nat.zero_le _⟩
theorem sh_non {n : Nat} : Sh n .none := ⟨rfl, Nat.zero_le _⟩
theorem sh_bl {n : Nat} : Sh n (.bool b) := ⟨rfl, Nat.zero_le _⟩
theorem sh_str {n : Nat} {s : Str} (h : PyData.strOk s = true) : Sh n (.str s) := ⟨h, Nat.zero_le _⟩
theorem Sh.shaped {n : Nat} (h : Sh n d) (l : n ≤ 64) : SeqAt.shaped d = true := by
  unfold SeqAt.shaped
  rw [h.1, decide_eq_true (Nat.le_trans h.2 l)]
  rfl
/-- two reads of one shaped value are equal -/
theorem same_data {x y : V} {n : Nat} {Q : VK} (hx : Tv K H d x) (hy : Tv K H d y) (h : Sh n d) (l : n ≤ 64) (q : Q (.bl true) H) : rEqD K x y H Q :=
  ⟨d, d, dp_tv d x hx, dp_tv d y hy, h.shaped l, h.shaped l, by rw [SeqAt.eqv_refl d h.1]; exact q⟩
theorem same_dataN {x y : V} {n : Nat} {Q : VK} (hx : Tv K H d x) (hy : Tv K H d y) (h : Sh n d) (l : n ≤ 64) (q : Q (.bl false) H) : rNeD K x y H Q :=
  ⟨d, d, dp_tv d x hx, dp_tv d y hy, h.shaped l, h.shaped l, by rw [SeqAt.eqv_refl d h.1]; exact q⟩
end
end Pu

/-! ### pure data: whole numbers, lengths, truth -/
namespace Pu
open PySem L2 Tr PyProof.Rows
section
variable {K : PySem.W.Frag} {H H' : Hp} {σ : L2.St} {ρ : Rho} {te ta tb tc : TE} {tl : TA} {t u : TT} {d e : PyData} {ds : List PyData} {b c : Bool} {ts tu : TS}
theorem de_cmpI {p : Int → Int → Bool} {i j : Int} (ha : DE K ta ρ (.int i)) (hb : DE K tb ρ (.int j)) : DE K (tOp (rI0 fun i j => .bl (p i j)) ta tb) ρ (.bool (p i j)) := fun σ H Q en k =>
  ha σ H _ en fun v H1 s1 tv => hb σ H1 _ (en.next s1) fun w H2 s2 tw => ⟨i, j, tv, tw, k _ H2 (s1.trans s2) rfl⟩
theorem de_opI {g : Int → Int → Int} {i j : Int} (ha : DE K ta ρ (.int i)) (hb : DE K tb ρ (.int j)) : DE K (tOp (rI0 fun i j => .int (g i j)) ta tb) ρ (.int (g i j)) := fun σ H Q en k =>
  ha σ H _ en fun v H1 s1 tv => hb σ H1 _ (en.next s1) fun w H2 s2 tw => ⟨i, j, tv, tw, k _ H2 (s1.trans s2) rfl⟩
theorem de_chain {p q : Int → Int → Bool} {i j l : Int} (ha : DE K ta ρ (.int i)) (hb : DE K tb ρ (.int j)) (hc : DE K tc ρ (.int l)) :
    DE K (tChain (rI0 fun i j => .bl (p i j)) (rI0 fun i j => .bl (q i j)) ta tb tc) ρ (.bool (p i j && q j l)) := fun σ H Q en k =>
  ha σ H _ en fun v H1 s1 tv => hb σ H1 _ (en.next s1) fun w H2 s2 tw => ⟨i, j, tv, tw, p i j, rfl, by
    cases hp : p i j with
    | true =>
      show tc σ H2 _
      exact hc σ H2 _ (en.next (s1.trans s2)) fun z H3 s3 tz => ⟨j, l, tw, tz, k _ H3 ((s1.trans s2).trans s3) (by rw [hp]; rfl)⟩
    | false =>
      show Q (.bl false) H2
      exact k _ H2 (s1.trans s2) (by rw [hp]; rfl)⟩
/-- and, or: the second part where it is asked for -/
theorem de_and {x y : Bool} (h : DE K ta ρ (.bool x)) (g : x = true → DE K tb ρ (.bool y)) : DE K (tAndV ta tb) ρ (.bool (x && y)) := by
  cases x with
  | true => exact de_andT h (g rfl)
  | false => exact de_andF h
theorem de_or {x y : Bool} (h : DE K ta ρ (.bool x)) (g : x = false → DE K tb ρ (.bool y)) : DE K (tOrV ta tb) ρ (.bool (x || y)) := by
  cases x with
  | true => exact de_orT h
  | false => exact de_orF h (g rfl)
theorem dt_and {x y : Bool} (h : DT K t ρ x) (g : x = true → DT K u ρ y) : DT K (tAnd t u) ρ (x && y) := by
  cases x with
  | true => exact dt_andT h (g rfl)
  | false => exact dt_andF h
theorem dt_or {x y : Bool} (h : DT K t ρ x) (g : x = false → DT K u ρ y) : DT K (tOr t u) ρ (x || y) := by
  cases x with
  | true => exact dt_orT h
  | false => exact dt_orF h (g rfl)
theorem de_lenT {r : List V → Hp → VK → Prop} (hr : ∀ p ys H (Q : VK), SqT K H p ys → Q (.int ys.length) H → r [.ref p] H Q) (ha : DE K ta ρ (.tuple ds)) : DE K (tCB r (tCons ta tNil)) ρ (.int ds.length) := fun σ H Q en k =>
  ha σ H _ en fun v H1 s1 tv => by
    obtain ⟨a, xs, rfl, sq, l⟩ := tv
    refine hr a xs H1 Q sq ?_
    rw [tvl_len l]
    exact k _ H1 s1 rfl
/-- what a value counts for in a test -/
def truD : PyData → Bool
  | .none => false | .bool b => b | .int i => i != 0 | .str z => z.length != 0 | .tuple ds => ds.length != 0 | _ => false
theorem dt_truT (ha : DE K ta ρ (.tuple ds)) : DT K (fun σ H Q => ta σ H fun x H' => ∃ k, TruV K x H' k ∧ Q k H') ρ (!ds.isEmpty) := fun σ H Q en q =>
  ha σ H _ en fun v H1 s1 tv => by
    obtain ⟨a, xs, rfl, sq, l⟩ := tv
    refine ⟨!xs.isEmpty, .inr (.inl ⟨xs, sq, rfl⟩), ?_⟩
    have e : xs.isEmpty = ds.isEmpty := by
      have := tvl_len l
      cases xs <;> cases ds <;> first | rfl | simp at this
    rw [e]
    exact q H1 s1
theorem dr_when {x : Bool} (h : DT K t ρ x) (g1 : x = true → DR K ts ρ d) (g2 : x = false → DR K tu ρ d) : DR K (tSeq (tIfS t ts tNext) tu) ρ d := by
  cases x with
  | true => exact dr_whenT h (g1 rfl)
  | false => exact dr_whenF h (g2 rfl)
end
section
variable {X : Cx}
theorem ps_dead {st : Stmt} : PS X st (fun _ _ _ => False) := ⟨fun _ _ _ _ _ _ h => h.elim⟩
theorem pss_dead {sts : List Stmt} : PSs X sts (fun _ _ _ => False) := ⟨fun _ _ _ _ _ _ h => h.elim⟩
theorem passE0 {P : Program} {w : World} (h : X.prog = P) (h2 : X.w = w) : Passes (L2.CX P w) X (fun _ _ _ => False) := fun pins σ H s e s' I h => by
  obtain ⟨_, _, _, _, _, _, _, _, _, _, _, _, hE⟩ := h
  exact hE.elim
end
end Pu

/-! ### pure data: equality and membership of flat values -/
namespace Pu
open PySem L2 Tr PyProof.Rows
def flatD : PyData → Bool
  | .none | .bool _ | .int _ | .str _ => true
  | _ => false
def isStr (x : PyData) (q : Str) : Bool :=
  match x with
  | .str z => decide (z = q)
  | _ => false
def inStr (x : PyData) (zs : List Str) : Bool :=
  match x with
  | .str z => decide (z ∈ zs)
  | _ => false
section
variable {K : PySem.W.Frag} {H H' : Hp} {σ : L2.St} {ρ : Rho} {te ta tb tc : TE} {tl : TA} {t u : TT} {d e x : PyData} {ds : List PyData} {b c : Bool} {ts tu : TS}
theorem flat_tv {v : V} (h : Tv K H x v) (f : flatD x = true) (q : Str) : flatV v = true ∧ scal v (.str q) = true ∧ decide (v = V.str q) = isStr x q ∧ ∀ zs : List Str, inV v (zs.map V.str) = inStr x zs := by
  cases x with
  | none =>
    cases h
    refine ⟨rfl, rfl, rfl, fun zs => ?_⟩
    induction zs with
    | nil => rfl
    | cons z r ih => exact ih
  | bool b =>
    cases h
    refine ⟨rfl, rfl, rfl, fun zs => ?_⟩
    induction zs with
    | nil => rfl
    | cons z r ih => exact ih
  | int i =>
    cases h
    refine ⟨rfl, rfl, rfl, fun zs => ?_⟩
    induction zs with
    | nil => rfl
    | cons z r ih => exact ih
  | str s =>
    cases h
    refine ⟨rfl, rfl, ?_, fun zs => in_strs s zs⟩
    show decide (V.str s = V.str q) = decide (s = q)
    simp
  | tuple l => cases f
  | list l => cases f
  | dict l => cases f
theorem de_of (h : d = e) (g : DE K te ρ d) : DE K te ρ e := h ▸ g
theorem de_neI {i j : Int} (ha : DE K ta ρ (.int i)) (hb : DE K tb ρ (.int j)) : DE K (tOp rNe ta tb) ρ (.bool (!decide (i = j))) := fun σ H Q en k =>
  ha σ H _ en fun v H1 s1 tv => hb σ H1 _ (en.next s1) fun w H2 s2 tw => by
    have e1 : v = .int i := tv
    have e2 : w = .int j := tw
    subst e1 e2
    exact ⟨rfl, k _ H2 (s1.trans s2) (by rw [dec_V]; rfl)⟩
theorem de_eqX {q : Str} (ha : DE K ta ρ x) (hb : DE K tb ρ (.str q)) (f : flatD x = true) : DE K (tOp rEq ta tb) ρ (.bool (isStr x q)) := fun σ H Q en k =>
  ha σ H _ en fun v H1 s1 tv => hb σ H1 _ (en.next s1) fun w H2 s2 tw => by
    have e2 : w = .str q := tw
    subst e2
    obtain ⟨_, h2, h3, _⟩ := flat_tv (tv.carry (same_carry s2)) f q
    refine ⟨h2, k _ H2 (s1.trans s2) ?_⟩
    rw [h3]
    rfl
theorem de_inX {zs : List Str} (ha : DE K ta ρ x) (hb : DE K tb ρ (.tuple ds)) (hs : strsOf ds = some zs) (f : flatD x = true) : DE K (tOp (rIn K false) ta tb) ρ (.bool (inStr x zs)) := fun σ H Q en k =>
  ha σ H _ en fun v H1 s1 tv => hb σ H1 _ (en.next s1) fun w H2 s2 tw => by
    obtain ⟨a, xs, rfl, sq, l⟩ := tw
    have e2 := strs_tv hs l
    subst e2
    obtain ⟨h1, _, _, h4⟩ := flat_tv (tv.carry (same_carry s2)) f ""
    refine ⟨a, _, rfl, .inr sq, h1, all_flat zs, ?_⟩
    show Q (.bl (inV v (zs.map V.str))) H2
    rw [h4]
    exact k _ H2 (s1.trans s2) rfl
theorem de_ninX {zs : List Str} (ha : DE K ta ρ x) (hb : DE K tb ρ (.tuple ds)) (hs : strsOf ds = some zs) (f : flatD x = true) : DE K (tOp (rIn K true) ta tb) ρ (.bool (!inStr x zs)) := fun σ H Q en k =>
  ha σ H _ en fun v H1 s1 tv => hb σ H1 _ (en.next s1) fun w H2 s2 tw => by
    obtain ⟨a, xs, rfl, sq, l⟩ := tw
    have e2 := strs_tv hs l
    subst e2
    obtain ⟨h1, _, _, h4⟩ := flat_tv (tv.carry (same_carry s2)) f ""
    refine ⟨a, _, rfl, .inr sq, h1, all_flat zs, ?_⟩
    show Q (.bl (!inV v (zs.map V.str))) H2
    rw [h4]
    exact k _ H2 (s1.trans s2) rfl
end
end Pu

/-! ## enumerate of a tuple -/
namespace Et
open PySem PySem.Spec PyProof.Rows L2
set_option maxHeartbeats 1000000 in
theorem meets_new1 {v : Value} {o : Obj} {H : Heap → Prop} (B : Begins v o H) :
    Meets (Builtin.«enumerate.__new__» ⟨[.type "enumerate", v], []⟩) (fun _ R s => H s.heap ∧
      R (.ok (.ret (.ref (s.heap.push o).objs.size))) { s with heap := (s.heap.push o).push { cls := .type "enumerate", data := .fields #[.none, .bool false, .ref s.heap.objs.size, rawInt 0, .none, .none] } }) :=
  .of_wp fun prog w A R s h => by
    obtain ⟨hp, g, d, tk, os⟩ := s; obtain ⟨h1, h⟩ := h
    have hsub := sub_enumerate
    have q1 : ∀ {A' : Around} {E : Value → Shared → Prop} {Q : Value → Shared → Prop}, Q (.ref hp.objs.size) ⟨hp.push o, g, d, tk, os⟩ → wpAny (model prog w) A' (pyIter v) Q E ⟨hp, g, d, tk, os⟩ :=
      fun q => B.iter prog w _ _ ⟨hp, g, d, tk, os⟩ _ h1 q
    wp_walk using q1
    refine wpAny_stack_any fun st => wpAny_pure ?_
    split
    · rename_i c _ _ _ _ _
      cases (c == Value.type "enumerate")
      · wp_walk using q1
        exact ⟨_, rfl, h⟩
      · wp_walk using q1
        exact ⟨_, rfl, h⟩
    · wp_walk using q1
      exact ⟨_, rfl, h⟩
section
variable {prog : Program} {w : World} {A : Around} {E : Value → Shared → Prop} {s : Shared}
theorem call_enum1 {v : Value} {o : Obj} {H : Heap → Prop} {Q : Value → Shared → Prop} (B : Begins v o H) (h1 : H s.heap)
    (h : ∀ h', IsEnum h' (s.heap.objs.size + 1) s.heap.objs.size 0 .none → h'.get? s.heap.objs.size = some o → h'.objs.size = s.heap.objs.size + 2 →
      (∀ b o, s.heap.get? b = some o → h'.get? b = some o) → Q (.ref (s.heap.objs.size + 1)) { s with heap := h' }) :
    wpAny (model prog w) A (call (.type "enumerate") [v]) Q E s := by
  refine callType_new F.called_enumerate (by decide) (F.typeCall_enumerate_1 _) (F.newCall_enumerate_1 _) (fun obj => F.args_object_init_2 obj _) F.entry_enumerate_new
    (meets_new1 B) ⟨h1, ?_⟩
  have hz : (s.heap.push o).objs.size = s.heap.objs.size + 1 := Heap.size_push ..
  show _ ∧ _
  rw [hz]
  have he : IsEnum ((s.heap.push o).push { cls := .type "enumerate", data := .fields #[.none, .bool false, .ref s.heap.objs.size, rawInt 0, .none, .none] }) (s.heap.objs.size + 1) s.heap.objs.size 0 .none := by
    have := Heap.get?_push_size (s.heap.push o) (o := { cls := .type "enumerate", data := .fields #[.none, .bool false, .ref s.heap.objs.size, rawInt 0, .none, .none] }) rfl
    rw [hz] at this; exact this
  refine ⟨⟨_, he, rfl⟩, h _ he (Heap.get?_push_of_some _ (Heap.get?_push_size _ B.free)) (by rw [Heap.size_push, hz]) fun b o x => Heap.get?_push_of_some _ (Heap.get?_push_of_some _ x)⟩
theorem draws_tup (hh : A.handled = none) (it l : Addr) (hne : l ≠ it) (items : Array Value) :
    Draws prog w A it [it, l] items.size (fun i v => items[i]? = some v) (fun i h => h.IsTupleIter it l i ∧ h.IsTuple l items) where
  live := fun _ _ x => let ⟨o, ho, _⟩ := x.1; ⟨o, ho⟩
  frame := fun _ _ _ x k => ⟨x.1.at fun o e => k it (List.mem_cons_self ..) o e, x.2.at fun o e => k l (List.mem_cons_of_mem _ (List.mem_cons_self ..)) o e⟩
  item := fun i s Q E hi x k => RZ.nextOf_tuple_item x.1 x.2 (x := items[i]) (by simp [hi]) fun h' y c => k _ h' s.toks (by simp [hi]) ⟨y, x.2.extBut c.extBut hne⟩ c
  done := fun s Q E x k => RZ.nextOf_tuple_end hh x.1 x.2 (by simp) k
end
def Iut (K : PySem.W.Frag) (a : Addr) (xs : List V) : It :=
  ⟨fun i H => SqT K H a xs ∧ i < xs.length, fun i H v H' => ∃ T x, v = .ref T ∧ H T = none ∧ H' = upd H T (.tup [.int (i : Nat), x]) ∧ xs[i]? = some x, fun i H => SqT K H a xs ∧ xs.length ≤ i⟩
theorem tup_is {h : Heap} {a : Addr} {its : Array Value} (t : IsTup h a its) : h.IsTuple a its := let ⟨o, e, c, n, d⟩ := t; ⟨o, e, c, n, d⟩
theorem turn_enumT {P : Program} {w : World} {K : PySem.W.Frag} {elts : List Expr} {kk : Nat} {tpos : Pos} (a e it : Addr) (xs : List V) :
    Turn P w K (.Tuple elts kk tpos) (Iut K a xs) [e, it] e (fun i h => (∃ old, IsEnum h e it ((i : Nat) : Int) old) ∧ h.IsTupleIter it a i ∧ e ≠ it ∧ e ≠ a ∧ a ≠ it ∧ i ≤ xs.length) where
  mem := by simp
  obj := fun i h st b hb => by
    obtain ⟨⟨old, he⟩, ⟨o, ho, hc, hd⟩, _⟩ := st
    have e' : b = e ∨ b = it := by simpa using hb
    rcases e' with z | z
    · rw [z]; exact ⟨_, he, fun v q => nomatch q⟩
    · rw [z]; exact ⟨o, ho, fun v q => by rw [hd] at q; cases q⟩
  keep := fun i h h' st k => let ⟨⟨old, he⟩, hi, r⟩ := st; ⟨⟨old, k e (by simp) _ he⟩, hi.at fun o q => k it (by simp) o q, r⟩
  item := by
    intro X hP hw hK hc i pins s σ H E I hf st hg
    subst hP hw hK
    obtain ⟨⟨old, he⟩, hit, hne, hea, hai, _⟩ := st
    obtain ⟨hq, hlt⟩ := hg
    obtain ⟨its, rv, p, hz⟩ := I.tuple hq
    have hel : e < s.heap.objs.size := Heap.lt_size he
    have hil : it < s.heap.objs.size := by obtain ⟨_, q, _⟩ := hit; exact Heap.lt_size q
    have hn : its.toArray.size = xs.length := by simp [rv.length]
    refine wpAny_pyNext_enum_itemD (D := draws_tup (A := X.A.in1) (I.ok.hd hc) it a hai its.toArray) he ⟨hit, tup_is p⟩ (by omega) hne (by simp [hne, hea]) fun v h' tk hv ho hit' hT hsz hk => ?_
    obtain ⟨x, hx, ru⟩ : ∃ x, xs[i]? = some x ∧ RelV x v := by
      obtain ⟨u, h1, h2⟩ := rv.get (List.getElem?_eq_getElem hlt)
      have : u = v := by
        have hv' : its[i]? = some v := by simpa using hv
        rw [h1] at hv'
        exact Option.some.inj hv'
      subst this
      exact ⟨_, List.getElem?_eq_getElem hlt, h2⟩
    refine ⟨_, rfl, wpAny_letOwnedTupleGo_enum (s := { s with heap := h', toks := tk + 1 }) ho fun h'' he' sb => ?_⟩
    have hT2 : h''.get? s.heap.objs.size = some { cls := .type "tuple", data := .seq #[.int i tk, v] } := (sb.2 _ (Nat.ne_of_gt hel)).trans hT
    have new : ObjOk X.prog X.w (upd H s.heap.objs.size (.tup [.int (i : Nat), x])) h'' s.heap.objs.size (.tup [.int (i : Nat), x]) :=
      ⟨by show 2 ≤ sizeLine; decide, [.int i tk, v], .cons ⟨_, rfl⟩ (.cons ru .nil), ⟨_, hT2, rfl, _, rfl⟩⟩
    have I1 : Inv X pins σ (upd H s.heap.objs.size (.tup [.int (i : Nat), x])) { s with heap := h'', toks := tk + 1 } :=
      I.turnedNew (ch := [e, it]) (fun b ob hb q => (sb.2 b (fun z => hb (by simp [z]))).trans (hk b ob (fun z => hb (by simp [z])) (fun z => hb (by simp [z])) q)) hf (Nat.le_refl _) new
    refine ⟨.ref s.heap.objs.size, _, I1, rfl, ⟨_, x, rfl, I.hok.fresh (Nat.le_refl _), rfl, hx⟩, ⟨⟨v, ?_⟩, hit'.1.at fun o q => (sb.2 it (Ne.symm hne)).trans q, hne, hea, hai, hlt⟩, fun b hb => ?_⟩
    · have e1 : ((i + 1 : Nat) : Int) = (i : Int) + 1 := by omega
      rw [e1]; exact he'
    · have hb' : b < s.heap.objs.size := by
        have e' : b = e ∨ b = it := by simpa using hb
        rcases e' with z | z
        · rw [z]; exact hel
        · rw [z]; exact hil
      rw [upd_ne (Nat.ne_of_lt hb')]
      exact (hf b hb).1
  done := by
    intro X hP hw hK hc i pins s σ H E I hf st hg
    subst hP hw hK
    obtain ⟨⟨old, he⟩, hit, hne, hea, hai, hi⟩ := st
    obtain ⟨hq, hle⟩ := hg
    obtain ⟨its, rv, p, hz⟩ := I.tuple hq
    have hn : its.toArray.size = xs.length := by simp [rv.length]
    have ei : i = its.toArray.size := by omega
    obtain ⟨f0, f1, f2, f3, f4, f5⟩ := hf it (by simp)
    rw [ei] at hit he
    exact wpAny_pyNext_enum_endD (D := draws_tup (A := X.A.in1) (I.ok.hd hc) it a hai its.toArray) he ⟨hit, tup_is p⟩ fun h' eb => ⟨rfl, I.turned (t' := s.toks) (fun b o hb q => eb b o hb q) f0 f1 f3 f4 f5⟩
  self := fun A i s Q E st h => let ⟨⟨_, he⟩, _⟩ := st; wpAny_pyIter_enum he h
def iEnumT (K : PySem.W.Frag) (ta : TA) : TI := fun σ H R => ta σ H fun vs H1 => ∃ a xs, vs = [.ref a] ∧ SqT K H1 a xs ∧ R (Iut K a xs) H1
theorem pi_enumT {X : Cx} {e : Expr} {ta : TA} {p pos tpos : Pos} {elts : List Expr} {kk : Nat} (hg : Gl X "enumerate") (hm : X.mg "enumerate" = none) (ha : PA X [e] ta) (hs : starEach [e] X.env = [(false, eval e X.env)] := by rfl) :
    PI X (.Tuple elts kk tpos) (.Call (.Name "enumerate" p) [e] [] pos) (iEnumT X.K ta) := by
  refine ⟨fun pins s σ H R I h => ?_⟩
  refine Call_ (ld_blt I hg hm boot_enumerate (PyProof.Rows.callWith_type1 (thn (ha.run pos pins s σ H _ I h) fun us s1 ⟨vs, H1, I1, r1, q1⟩ => ?_) hs rfl))
  obtain ⟨a, xs, ex, hq, q⟩ := q1
  subst ex
  cases r1 with
  | cons r rr =>
    cases rr
    cases r
    obtain ⟨its, rv, p', hz⟩ := I1.tuple hq
    have la : a < s1.heap.objs.size := by obtain ⟨o, e, _⟩ := p'; exact Heap.lt_size e
    refine call_enum1 (begins_tuple a its.toArray) (tup_is p') fun h' he hit hsz hk => wpAny_pyIter_enum he ?_
    have I2 : Inv X pins σ H1 { s1 with heap := h' } := I1.kept (t' := s1.toks) hk
    refine ⟨s1.heap.objs.size + 1, [s1.heap.objs.size + 1, s1.heap.objs.size], _, _, H1, rfl, I2, turn_enumT a (s1.heap.objs.size + 1) s1.heap.objs.size xs, ⟨⟨.none, he⟩, ⟨_, hit, rfl, rfl⟩, Nat.succ_ne_self _, Nat.ne_of_gt (Nat.lt_succ_of_lt la), Nat.ne_of_lt la, Nat.zero_le _⟩, fun b hb => ?_, q⟩
    have e' : b = s1.heap.objs.size + 1 ∨ b = s1.heap.objs.size := by simpa using hb
    have hle : s1.heap.objs.size ≤ b := by
      rcases e' with z | z
      · rw [z]; exact Nat.le_add_right _ _
      · rw [z]; exact Nat.le_refl _
    exact I1.fpOk hle (I1.hok.fresh hle)
/-- a loop over the places and items of a tuple -/
theorem for_enumT {K : PySem.W.Frag} {a : Addr} {xs : List V} {g : TG} {tb : TS} {D : Ends} {σ : L2.St} {H : Hp} (Pv : Nat → L2.St → Hp → Prop) (h0 : Pv 0 σ H) (hl : ∀ i σ H, i ≤ xs.length → Pv i σ H → SqT K H a xs)
    (hb : ∀ (i : Nat) (x : V) (σ : L2.St) (H : Hp) (T : Addr), xs[i]? = some x → H T = none → Pv i σ H → g (.ref T) σ (upd H T (.tup [.int (i : Nat), x])) fun σ2 H2 => tb { D with nx := Pv (i + 1), ct := Pv (i + 1), bk := D.nx } σ2 H2)
    (hd : ∀ σ H, Pv xs.length σ H → D.nx σ H) :
    ∃ W : Nat → Nat → L2.St → Hp → Prop, (∃ m, W 0 m σ H) ∧ ∀ i m σ H, W i m σ H →
      ((Iut K a xs).stop i H ∧ D.nx σ H) ∨ ((Iut K a xs).go i H ∧ ∃ N : L2.St → Hp → Prop, (∀ σ' H', N σ' H' → ∃ m', m' < m ∧ W (i + 1) m' σ' H') ∧ ∀ v H', (Iut K a xs).yld i H v H' → g v σ H' fun σ2 H2 => tb { D with nx := N, ct := N, bk := D.nx } σ2 H2) := by
  refine ⟨fun i m σ H => m = xs.length - i ∧ i ≤ xs.length ∧ Pv i σ H, ⟨xs.length, by simp, Nat.zero_le _, h0⟩, ?_⟩
  rintro i m σ H ⟨rfl, hi, p⟩
  by_cases hlt : i < xs.length
  · refine .inr ⟨⟨hl i σ H hi p, hlt⟩, Pv (i + 1), fun σ' H' p' => ⟨xs.length - (i + 1), by omega, rfl, hlt, p'⟩, fun v H' y => ?_⟩
    obtain ⟨T, x, rfl, hT, rfl, hx⟩ := y
    exact hb i x σ H T hx hT p
  · have e : i = xs.length := by omega
    subst e
    exact .inl ⟨⟨hl _ σ H hi p, Nat.le_refl _⟩, hd σ H p⟩
end Et

/-! ## An own error's __init__ that begins with super().__init__(..), as a def of the hand layer -/
namespace Su
open PySem PySem.Spec PyProof.Rows L2
section
variable {P : Program} {w : World} {K : PySem.W.Frag} {mg : Str → Option Value} {base : Heap}
/-- the written part's word on the class at C, whose __init__ at f closes over the cell cc; its code at cda -/
structure Sup (P : Program) (K : PySem.W.Frag) (C cc cda : Addr) : Prop where
  ex : OexC K C
  up : PySem.W.ks_superIn K C C "__init__" = some (some (.builtin "ValueError.__init__"))
  noAny : PySem.W.nsIn K cStatics "thirdparty.any" = some none
  isV : PySem.W.subIn K (.ref C) (.type "ValueError") = some true
  cell : ∃ (cl : Value) (cld : Option Addr) (csl : Array (Option Value)), K.lookup cc = some ⟨cl, cld, .cell (some (.ref C)), csl⟩
  own : PySem.W.mroIn K C (.ref C) = some true
  plain : PySem.W.nsIn K mainGlobals "super" = some none
  code : ∃ (ccl : Value) (cdd : Option Addr) (vs : Array Value) (ccs : Array (Option Value)) (file : Str) (tf : Tok), K.lookup cda = some ⟨ccl, cdd, .fields vs, ccs⟩ ∧ vs[2]? = some (.str file tf) ∧ ((P.main.file : Str) == file) = true
  top : (P.main.scope.names.lookup ("super" : Str)).isSome = false
structure Scp (ps : List Str) (sc : Scope) : Prop where
  kind : sc.kind = .function
  co : sc.isCoroutine = false
  gen : sc.isGenerator = false
  nd : ps.Nodup
  par : ∀ x ∈ ps, sc.names.lookup x = some .local
  free : ∀ y ∈ sc.names, y.2 = .free → y.1 = "__class__"
  nocell : ∀ y ∈ sc.names, y.2 ≠ .cell
  sup : sc.names.lookup ("super" : Str) = some .globalImplicit
  kc : sc.names.lookup ("__class__" : Str) = some .free
def envS (qual : Str) (scope : Scope) (L f cda cc : Addr) : Env := PySem.W.ksEnv qual scope L f (.ref cda) cc
def cxS (P : Program) (w : World) (K : PySem.W.Frag) (mg : Str → Option Value) (base : Heap) (ps : List Str) (qual : Str) (scope : Scope) (f cda cc : Addr) (A : Around) (outer : List Env) (s : Shared) (H : Hp) : Cx where
  prog := P
  w := w
  K := K
  mg := mg
  base := base
  A := A.deeper (envS qual scope s.heap.objs.size f cda cc)
  N := ps
  s_0 := s
  H_0 := H
  env := envS qual scope s.heap.objs.size f cda cc
  outer := outer
  stack := envS qual scope s.heap.objs.size f cda cc :: outer
  ex := []
  fn := fun x => x != "__class__"
  calm := true
  pn := []
  xe := fun e s' => wpAny (model P w) (A.deeper (envS qual scope s.heap.objs.size f cda cc)) (leaving (envS qual scope s.heap.objs.size f cda cc) e) (fun _ _ => False) (fun _ _ => False) s'
theorem look_zip : ∀ {ps : List Str} {us : List Value} {i : Nat} {x : Str} {u : Value}, ps.Nodup → ps[i]? = some x → us[i]? = some u → (ps.zip us).reverse.lookup x = some u := by
  intro ps us i x u nd hp hu
  have key : ∀ (l : List (Str × Value)), (∀ p ∈ l, p.1 = x → p.2 = u) → (x, u) ∈ l → l.lookup x = some u := by
    intro l
    induction l with
    | nil => intro _ h; cases h
    | cons p l ih =>
      intro h1 h2
      obtain ⟨a, b⟩ := p
      by_cases e : x = a
      · subst e
        have := h1 (x, b) List.mem_cons_self rfl
        simp only at this
        rw [this]
        simp [List.lookup]
      · have e' : (x == a) = false := by simpa using e
        rw [show ((a, b) :: l).lookup x = l.lookup x by simp [List.lookup, e']]
        refine ih (fun p hp' => h1 p (List.mem_cons_of_mem _ hp')) ?_
        rcases List.mem_cons.mp h2 with z | z
        · cases z
          exact absurd rfl e
        · exact z
  refine key _ (fun p hp' hx => ?_) ?_
  · have hm := List.mem_reverse.mp hp'
    obtain ⟨j, hj⟩ := List.getElem?_of_mem hm
    obtain ⟨a, b⟩ := p
    have h1 := List.getElem?_zip_eq_some.mp hj
    simp only at h1 hx
    subst hx
    have hi : i < ps.length := (List.getElem?_eq_some_iff.mp hp).1
    have ij : j = i := by
      exact nodup_ix nd h1.1 hp
    subst ij
    rw [hu] at h1
    exact (Option.some.inj h1.2).symm
  · refine List.mem_reverse.mpr (List.mem_of_getElem? (i := i) ?_)
    exact List.getElem?_zip_eq_some.mpr ⟨hp, hu⟩
theorem inv_sup {ps : List Str} {qual : Str} {scope : Scope} {f cda cc C : Addr} {A : Around} {outer : List Env} {s : Shared} {H : Hp} {h1 : Heap} {us : List Value} {vs : List V} {tk : Nat} (S : Scp ps scope) (T : Sup P K C cc cda) (hd : A.handled = none)
    (e0 : Env0 P w K mg base A outer s H) (hl : vs.length = ps.length) (r : Vals vs us) (hns : h1.Ns s.heap.objs.size (fun x => (ps.zip us).reverse.lookup x)) (hk : ∀ b o, s.heap.get? b = some o → h1.get? b = some o) :
    Inv (cxS P w K mg base ps qual scope f cda cc A outer s H) [] (vs.map some) H { s with heap := h1, toks := tk } := by
  have none_in : ∀ b : Addr, b ∉ (cxS P w K mg base ps qual scope f cda cc A outer s H).ex := fun b z => by
    have z' : b ∈ ([] : List Addr) := z
    cases z'
  have one : ∀ {x : Str} {c : Addr}, (envS qual scope s.heap.objs.size f cda cc).cells.lookup x = some c → x = "__class__" ∧ c = cc := by
    intro x c h
    have h' : ([("__class__", cc)] : List (Str × Addr)).lookup x = some c := h
    by_cases e : x = "__class__"
    · subst e
      have : (some cc : Option Addr) = some c := by simpa [List.lookup] using h'
      exact ⟨rfl, (Option.some.inj this).symm⟩
    · have e' : (x == ("__class__" : Str)) = false := by simpa using e
      rw [show ([("__class__", cc)] : List (Str × Addr)).lookup x = none by simp [List.lookup, e']] at h'
      cases h'
  obtain ⟨cl, cld, csl, lcc⟩ := T.cell
  have kcc := e0.mod.kin cc _ lcc
  have hcc := e0.bs cc _ kcc
  have ltc : cc < s.heap.objs.size := Heap.lt_size hcc.1
  refine { ok := ?_, os := rfl, bare := e0.bare, base := Un.kept hk, loc := ⟨_, hns, fun i x v a b c => ?_⟩, cell := fun x c h => ?_, free := e0.hok.fresh (Nat.le_refl _), freeC := fun x c h => ?_, pin := fun p hp => ?_, hok := e0.hok.kept hk, len := ?_ }
  · refine { mod := e0.mod, kind := S.kind, glob := rfl, blt := rfl, above := Nat.le_refl _, inj := fun x y c a b => ?_, has := fun x h => ?_, cab := fun x c a b => ?_, hd := fun _ => hd, frames := Around.frames_deeper e0.frames, stk := .inr ⟨rfl, rfl⟩, exf := fun b z => absurd z (none_in b), bs := e0.bs, bsz := e0.bsz, noex := fun b _ _ => none_in b, exfs := fun b z => absurd z (none_in b), funs := e0.funs, frf := e0.frf }
    · rw [(one a).1, (one b).1]
    · have h' : scope.names.lookup x = some .cell ∨ scope.names.lookup x = some .free := h
      rcases h' with q | q
      · exact absurd rfl (S.nocell _ (PySem.mem_of_lookup q))
      · have : x = "__class__" := S.free _ (PySem.mem_of_lookup q) rfl
        subst this
        exact ⟨cc, by show ([(("__class__" : Str), cc)] : List (Str × Addr)).lookup ("__class__" : Str) = some cc; simp [List.lookup]⟩
    · have a' : (x != "__class__") = true := a
      rw [(one b).1] at a'
      simp at a'
  · have hi : ps[i]? = some x := a
    rw [List.getElem?_map] at b
    cases q : vs[i]? with
    | none => rw [q] at b; cases b
    | some y =>
      rw [q] at b
      cases b
      obtain ⟨u, hu, rv⟩ := r.get q
      exact ⟨u, rv, .inl ⟨S.par x (List.mem_of_getElem? hi), look_zip S.nd hi hu⟩⟩
  · rw [(one h).2]
    exact ⟨some (.ref C), _, hk _ _ hcc.1, rfl⟩
  · rw [(one h).2]
    exact hcc.2
  · have hp' : p ∈ ([] : List (Addr × Obj)) := hp
    cases hp'
  · rw [List.length_map]
    exact hl
/-- ValueError.__init__ bound to an error that is being made -/
theorem init_bound {X : Cx} {pins : List (Addr × Obj)} {σ : L2.St} {H : Hp} {s : Shared} {a u C : Addr} {us : List Value} {Q : Value → Shared → Prop} {E : Value → Shared → Prop} {A : Around} (T : OexC X.K C) (I : Inv X pins σ H s) (ea : H a = some (exo a C none))
    (hu : s.heap.get? u = some (PySem.W.kxs_mw "ValueError.__init__" a)) (fit : us.length ≤ sizeLine) (q : ∀ s', Inv X pins σ H s' → Q .none s') : wpAny (model X.prog X.w) A (call (.ref u) us) Q E s := by
  obtain ⟨nm, qn, N, bs, bm, sn, sub, ab, col, dd, k0, k1, k2, k3, k5, hC, hbm⟩ := T.cls
  have hC' := I.kIn _ _ hC
  obtain ⟨t1, ho⟩ := exo_at I.hok ea
  obtain ⟨hp, g, d, tk, os⟩ := s
  apply wpAny_call
  apply codeAny_of_tree
  change wpAny _ A.in1 (callAny (.ref u) ⟨us, []⟩) _ _ _
  unfold callAny
  apply wpAny_bind
  refine wpAny_load hu ?_
  have is1 : (Value.type "method-wrapper" == Value.type "method" || (Value.type "method-wrapper" == Value.type "builtin_function_or_method" || Value.type "method-wrapper" == Value.type "method-wrapper")) = true := by decide
  simp only [PySem.W.kxs_mw, Bool.or_assoc, is1, if_true]
  refine PySem.W.KFB.if_so (by decide) ?_
  apply wpAny_bind
  refine PySem.W.check_bound_init F.excBase_ValueError.toExcCallFacts hC' ho rfl ?_
  refine wpAny_bind (wpAny_pure (wpAny_pure ⟨plainId_quiet F.excBase_ValueError.init.plain _, codeAny_builtin F.excBase_ValueError.initEntry ?_⟩))
  refine PySem.W.exc_init_tree (cls := .ref C) (t0 := t1) (dv := none) (c2 := .none) (c3 := .none) (b4 := .bool false) ho fit fun h' k e' _ => ?_
  have J := I.write (t' := tk) (x := a) (e := a) (o := exo a C none) (by rw [ea]; exact True.intro) (.inl rfl) k ⟨_, e'⟩ (exo_ok e')
  have same : upd H a (exo a C none) = H := by
    funext b
    by_cases hb : b = a
    · subst hb
      rw [upd_same, ea]
    · exact upd_ne hb
  rw [same] at J
  exact q _ J
/-- super().__init__(..) and what follows -/
theorem fn_sup {ps : List Str} {name qual : Str} {params : Arguments} {scope : Scope} {f cda cc C : Addr} {k : Nat} {sp : Sp} {oc dV kV doc pm ct : Value} {od an : Option Addr} {osl : Array (Option Value)} {p0 p1 p2 p3 p4 : Pos} {e : Expr} {es : List Expr} {rest : List Stmt} {ar : Arg}
    (look : K.lookup f = some ⟨oc, od, .func (PySem.W.ksFn name qual params (.Expr (.Call (.Attribute (.Call (.Name "super" p0) [] [] p1) "__init__" p2) (e :: es) [] p3) p4 :: rest) scope dV kV doc pm an (.ref cda) ct cc), osl⟩)
    (code : PySem.W.codeIn K (.ref cda) qual = true) (S : Scp ps scope) (T : Sup P K C cc cda) (first : (params.posonlyargs ++ params.args).head? = some ar) (first' : ps[0]? = some ar.arg)
    (len : ∀ vs H Q E, sp vs H Q E → vs.length = ps.length)
    (inner : ∀ (A : Around) (outer : List Env) (s : Shared) (H : Hp) (vs : List V) (Q : VK) (E : XK), Room k (A.deeper (envS qual scope s.heap.objs.size f cda cc)) → sp vs H Q E →
      ∃ (a : Addr) (ta : TA) (tb : TS), vs[0]? = some (.ref a) ∧ H a = some (exo a C none) ∧ PA (cxS P w K mg base ps qual scope f cda cc A outer s H) (e :: es) ta ∧ PSs (cxS P w K mg base ps qual scope f cda cc A outer s H) rest tb ∧
        ta (vs.map some) H fun ws H1 => ws.length ≤ 1000 ∧ H1 a = some (exo a C none) ∧ tb { rt := Q, nx := fun _ => Q V.non } (vs.map some) H1)
    (he : ∀ env, starEach (e :: es) env = (false, eval e env) :: starEach es env := by intro; rfl) (hpl : ∀ (pos : Pos) (env : Env), (backTo pos (starEach es env)).any (·.1) = false := by intros; rfl)
    (hev : ∀ env, ∃ pl, eval (.Call (.Attribute (.Call (.Name "super" p0) [] [] p1) "__init__" p2) (e :: es) [] p3) env = (do
      let ov ← attributeBase (.Call (.Name "super" p0) [] [] p1) "__init__" env (eval (.Call (.Name "super" p0) [] [] p1) env)
      standAt p2.atName
      let (f, first) ← holding [ov] (getMethod ov "__init__" pl)
      callWith p3 f first (backTo p3 (starEach (e :: es) env)) []) := by intro; exact ⟨_, rfl⟩)
    (hsw : ∀ env, swapsWith (.Call (.Attribute (.Call (.Name "super" p0) [] [] p1) "__init__" p2) (e :: es) [] p3) none p4.line env = pure false := by intro; rfl) :
    FnOk P w K mg base CX0 (k + 1) f (PySem.W.ksFn name qual params (.Expr (.Call (.Attribute (.Call (.Name "super" p0) [] [] p1) "__init__" p2) (e :: es) [] p3) p4 :: rest) scope dV kV doc pm an (.ref cda) ct cc) ps sp := by
  refine ⟨len, fun A outer s H args us vs Q E room e0 bd rel told => ?_⟩
  have cnt := len _ _ _ _ told
  have isK : K.In s.heap := e0.mod.kin.keeps fun b o q => (e0.bs b o q).1
  refine PySem.ks_codeAny_call_defAt room.depth (isK _ _ look) rfl (e0.mod.nolimit.keeps fun b o q => (e0.bs b o q).1) (PySem.W.codeRec_of isK code) rfl bd S.nocell (fun y hy => ?_) (fun h1 hns hk1 => ?_) S.co S.gen S.kind
  · obtain ⟨n, v⟩ := y
    exact S.par n (List.of_mem_zip hy).1
  have I : Inv (cxS P w K mg base ps qual scope f cda cc A outer s H) [] (vs.map some) H { s with heap := h1, toks := s.toks + (ps.zip us).length } := inv_sup S T room.hd e0 cnt rel hns hk1
  obtain ⟨a, ta, tb, v0, ea, pa, pb, q⟩ := inner A outer s H vs Q E (room.deeper _) told
  have quietX := I.quiet
  obtain ⟨pl, ev⟩ := hev (envS qual scope s.heap.objs.size f cda cc)
  obtain ⟨ccl, cdd, vv, ccs, file, tf, hcode, hvs, hfile⟩ := T.code
  obtain ⟨cl, cld, csl, hcell⟩ := T.cell
  obtain ⟨nm, qn, N, bs, bm, sn, sub, ab, col, dd, k0, k1, k2, k3, k5, hC, hbm⟩ := T.ex.cls
  have isD : PySem.W.clsIn K C = some { name := nm, bases := bs, mro := .ref C :: bm, ns := N, qualname := qn, hasDict := true, slotNames := sn, subclasses := sub, abstract := ab, collection := col, hasDel := false } := by
    unfold PySem.W.clsIn
    rw [hC] <;> rfl
  obtain ⟨t1, ho⟩ := exo_at I.hok ea
  obtain ⟨mb, nsb, boots⟩ := e0.mod.blt
  have kp : ∀ {b : Addr} {o : Obj}, base.get? b = some o → h1.get? b = some o := fun {b o} z => hk1 _ _ (e0.bs _ _ z).1
  have us0 : us[0]? = some (.ref a) := by
    obtain ⟨u, hu, rv⟩ := rel.get v0
    cases rv
    exact hu
  have self := look_zip (us := us) S.nd first' us0
  refine PySem.ks_wpAt_execs_cons (PySem.ks_wpAt_Expr_any (PySem.ks_wpAt_MethodCall (pl := pl) ?_ ev) quietX (hsw _))
  refine PySem.ks_wpAt_super_base (env := envS qual scope s.heap.objs.size f cda cc) S.sup S.kc rfl rfl (hk1 _ _ (isK _ _ look)) rfl first rfl (hk1 _ _ (isK _ _ hcode)) rfl hvs hfile T.top ?_
  refine PySem.W.ks_loadName_global S.kind S.sup (PySem.Calls.loadGlobal_builtin (env := envS qual scope s.heap.objs.size f cda cc) (e0.mod.glob.keeps fun b o z => kp z) (PySem.W.mg_none_of e0.mod.kin e0.mod.glob T.plain) (nsb.keeps fun b o z => kp z) ((boots _ (by decide +kernel)).trans PyProof.Rows.Boot.«super») ⟨rfl, ?_⟩)
  refine wpAny_loadName_free (c := cc) (v := .ref C) S.kind S.kc (by show ([(("__class__" : Str), cc)] : List (Str × Addr)).lookup ("__class__" : Str) = some cc; simp [List.lookup]) ⟨_, hk1 _ _ (isK _ _ hcell), rfl⟩ ?_
  refine wpAny_loadName_local (m := fun x => (ps.zip us).reverse.lookup x) S.kind (S.par _ (List.mem_of_getElem? first')) hns self ?_
  refine PySem.ks_wpAny_isType_cls (hk1 _ _ (isK _ _ hC)) rfl ⟨rfl, ?_⟩
  refine PySem.ks_wpAny_call_super (hk1 _ _ (isK _ _ hC)) rfl ho rfl (fun c z => by cases z) (PySem.W.looks_mroIn (isK.keeps hk1) T.own) (fun h2 e2 kk2 => ?_)
  have I2 := I.kept (h' := h2) (t' := s.toks + (ps.zip us).length) kk2
  obtain ⟨t2, ho2⟩ := exo_at I2.hok ea
  have isK2 : K.In h2 := I2.kIn
  have up := T.up
  unfold PySem.W.ks_superIn at up
  rw [isD] at up
  have aC : a ≠ C := fun z => by
    have h3 := isK2 _ _ hC
    rw [← z, ho2] at h3
    cases h3
  have looksV : PySem.W.Looks (model P w) h2 (isInstance (.ref a) (.type "ValueError")) true :=
    (show PySem.W.InstAt h2 a _ C none from ⟨ho2, rfl, rfl, trivial⟩).type.andThen (PySem.W.looks_subIn isK2 T.isV)
  refine PySem.W.kxs_getMethod PySem.W.kxs_ValueError e2 (PySem.W.looks_opaque isK2 T.noAny) (l₀ := .ref C :: bm) (fun A Q E s k q => wpAny_bind ((PySem.W.looks_clsIn isK2 isD) A _ E s k (wpAny_pure q))) rfl isK2 up looksV aC rfl ?_
  have I3 := I2.kept (h' := h2.push (PySem.W.kxs_mw "ValueError.__init__" a)) (t' := s.toks + (ps.zip us).length + 1) (fun b o z => Heap.get?_push_of_some _ z)
  have eu : (h2.push (PySem.W.kxs_mw "ValueError.__init__" a)).get? h2.objs.size = some (PySem.W.kxs_mw "ValueError.__init__" a) := Heap.get?_push_at rfl rfl
  have I4 : Inv (cxS P w K mg base ps qual scope f cda cc A outer s H) [(h2.objs.size, PySem.W.kxs_mw "ValueError.__init__" a)] (vs.map some) H { s with heap := h2.push (PySem.W.kxs_mw "ValueError.__init__" a), toks := s.toks + (ps.zip us).length + 1 } := by
    refine I3.pins_of fun p hp => ?_
    cases List.mem_singleton.mp hp
    refine ⟨eu, I2.hok.fresh (Nat.le_refl _), fun z => ?_, I2.nofs (Nat.le_refl _), fun v z => by cases z⟩
    have := I2.lt
    rw [← z] at this
    exact absurd this (Nat.lt_irrefl _)
  refine PySem.W.kxs_callWith (i := "ValueError.__init__") (x := a) ?_ ?_
  · rw [he]
    exact hpl _ _
  have args : ∀ (R : Args → Shared → Prop) (Z : Value → Shared → Prop) (s4 : Shared), wpAny (model P w) (A.deeper (envS qual scope s.heap.objs.size f cda cc)) (spliced (backTo p3 (starEach (e :: es) (envS qual scope s.heap.objs.size f cda cc)))) (fun vs s' => R ⟨vs, []⟩ s') Z s4 →
      wpAny (model P w) (A.deeper (envS qual scope s.heap.objs.size f cda cc)) (evalArgs (.ref h2.objs.size) true (backTo p3 (starEach (e :: es) (envS qual scope s.heap.objs.size f cda cc))) []) R Z s4 := by
    intro R Z s4 h4
    rw [he] at h4 ⊢
    exact PySem.Calls.evalArgs_plain h4
  refine args _ _ _ (wpAny_mono (pa.run p3 _ _ _ _ _ I4 q) (fun ws s5 h5 => ?_) (fun _ _ z => z))
  obtain ⟨wv, H1, I5, r5, lw, ea5, q5⟩ := h5
  have pu := I5.pin (h2.objs.size, PySem.W.kxs_mw "ValueError.__init__" a) (List.mem_append_right _ (List.mem_singleton.mpr rfl))
  refine ⟨pu.1, ?_⟩
  refine init_bound T.ex I5 ea5 pu.1 ?_ (fun s6 I6 => ?_)
  · rw [List.nil_append, ← Paired.length r5, sizeLine_eq]
    omega
  have I7 : Inv (cxS P w K mg base ps qual scope f cda cc A outer s H) [] (vs.map some) H1 s6 := I6.pins_of fun p hp => by cases hp
  refine wpAt_of_wpAny (wpAny_mono (pb.run _ _ _ _ _ I7 q5) (fun fl s' hs => ?_) (fun _ _ z => z))
  cases fl with
  | ret u =>
    obtain ⟨v, _, H', J, rv, qq⟩ := hs
    exact ⟨v, H', J.os, J.bare, J.base, J.hok, rv, qq⟩
  | next =>
    obtain ⟨_, H', J, qq⟩ := hs
    exact ⟨V.non, H', J.os, J.bare, J.base, J.hok, rfl, qq⟩
  | brk =>
    obtain ⟨_, _, _, qq⟩ := hs
    exact qq.elim
  | cont =>
    obtain ⟨_, _, _, qq⟩ := hs
    exact qq.elim
end
end Su

/-! ## ArgumentError(reason), ScheduleError(number, reason) being made -/
namespace Er
open PySem PySem.Spec PyProof.Rows L2
section
variable {P : Program} {w : World} {K : PySem.W.Frag} {mg : Str → Option Value} {base : Heap}
abbrev sAE : Stmt := inClass (Tr.top 2) 0
def spAE (K : PySem.W.Frag) (C : Addr) : Sp := fun vs H Q _ => ∃ (a : Addr) (r : Str), vs = [.ref a, .str r] ∧ r.length ≤ 1000 ∧ H a = some (exo a C none) ∧ ∀ dx, H dx = none → dx ≠ a → Q .non (upd (upd H dx (exd dx [("reason", .str r)])) a (exo a C (some dx)))
theorem scAE : Su.Scp ["self", "reason"] (defScope sAE) := ⟨rfl, rfl, rfl, by decide +kernel, by decide +kernel, by decide +kernel, by decide +kernel, by decide +kernel, by decide +kernel⟩
theorem ok_ae {f cda cc C : Addr} {oc kV doc pm ct : Value} {od an : Option Addr} {osl : Array (Option Value)}
    (look : K.lookup f = some ⟨oc, od, .func (PySem.W.ksFn "__init__" "ArgumentError.__init__" (defArgs sAE) (defBody sAE) (defScope sAE) .none kV doc pm an (.ref cda) ct cc), osl⟩)
    (code : PySem.W.codeIn K (.ref cda) "ArgumentError.__init__" = true) (T : Su.Sup P K C cc cda) (n1 : PySem.W.findIn K (.ref C) "reason" = some none) :
    FnOk P w K mg base CX0 1 f (PySem.W.ksFn "__init__" "ArgumentError.__init__" (defArgs sAE) (defBody sAE) (defScope sAE) .none kV doc pm an (.ref cda) ct cc) ["self", "reason"] (spAE K C) := by
  refine Su.fn_sup look code scAE T rfl rfl (fun vs H Q E h => ?_) (fun A outer s H vs Q E hr h => ?_)
  · obtain ⟨a, r, rfl, _⟩ := h
    rfl
  · obtain ⟨a, r, rfl, hl2, ea, q⟩ := h
    refine ⟨a, _, _, rfl, ea, pa_cons (pe_joined (.cons pe_str (.cons (pe_fmt (pv 1)) .nil))) pa_nil, pss_one (ps_ost (pv 0) (pv 1)), ?_⟩
    refine ⟨_, rfl, ?_, _, rfl, .inl ⟨r, rfl, Nat.le_trans hl2 (by decide), _, rfl, ?_, ?_⟩⟩
    · exact Nat.le_trans (show (Str.empty ++ ("an argument is wrong: " : Str)).length ≤ 100 by decide +kernel) (by decide)
    · rw [strLen_append]
      exact Nat.le_trans (Nat.add_le_add (show (Str.empty ++ ("an argument is wrong: " : Str)).length ≤ 100 by decide +kernel) hl2) (by decide)
    refine ⟨(show 1 ≤ 1000 by decide), ea, ?_⟩
    exact ⟨_, rfl, _, rfl, a, C, rfl, T.ex, n1, .inl ⟨ea, fun dx hdx ne => q dx hdx ne⟩⟩
end
end Er

namespace Er
open PySem PySem.Spec PyProof.Rows L2
section
variable {P : Program} {w : World} {K : PySem.W.Frag} {mg : Str → Option Value} {base : Heap}
abbrev sSE : Stmt := inClass (Tr.top 3) 0
theorem log_12' {n : Int} (h : n.natAbs < 10 ^ 12) : n.natAbs.log2 < 1920 := by
  by_cases z : n.natAbs = 0
  · rw [z]; decide
  · exact Nat.lt_trans ((Nat.log2_lt z).mpr (Nat.lt_of_lt_of_le h (show 10 ^ 12 ≤ 2 ^ 40 by decide))) (by decide)
def spSE (K : PySem.W.Frag) (C : Addr) : Sp := fun vs H Q _ => ∃ (a : Addr) (n : Int) (r : Str), vs = [.ref a, .int n, .str r] ∧ n.natAbs < 10 ^ 12 ∧ r.length ≤ 1000 ∧ H a = some (exo a C none) ∧
  ∀ dx, H dx = none → dx ≠ a → Q .non (upd (upd (upd H dx (exd dx [("number", .int n)])) a (exo a C (some dx))) dx (exd dx [("reason", .str r), ("number", .int n)]))
theorem scSE : Su.Scp ["self", "number", "reason"] (defScope sSE) := ⟨rfl, rfl, rfl, by decide +kernel, by decide +kernel, by decide +kernel, by decide +kernel, by decide +kernel, by decide +kernel⟩
theorem ok_se {f cda cc C : Addr} {oc kV doc pm ct : Value} {od an : Option Addr} {osl : Array (Option Value)}
    (look : K.lookup f = some ⟨oc, od, .func (PySem.W.ksFn "__init__" "ScheduleError.__init__" (defArgs sSE) (defBody sSE) (defScope sSE) .none kV doc pm an (.ref cda) ct cc), osl⟩)
    (code : PySem.W.codeIn K (.ref cda) "ScheduleError.__init__" = true) (T : Su.Sup P K C cc cda) (n1 : PySem.W.findIn K (.ref C) "number" = some none) (n2 : PySem.W.findIn K (.ref C) "reason" = some none) :
    FnOk P w K mg base CX0 1 f (PySem.W.ksFn "__init__" "ScheduleError.__init__" (defArgs sSE) (defBody sSE) (defScope sSE) .none kV doc pm an (.ref cda) ct cc) ["self", "number", "reason"] (spSE K C) := by
  refine Su.fn_sup look code scSE T rfl rfl (fun vs H Q E h => ?_) (fun A outer s H vs Q E hr h => ?_)
  · obtain ⟨a, n, r, rfl, _⟩ := h
    rfl
  · obtain ⟨a, n, r, rfl, hn, hl2, ea, q⟩ := h
    refine ⟨a, _, _, rfl, ea, pa_cons (pe_joined (.cons pe_str (.cons (pe_fmt (pv 1)) (.cons pe_str (.cons (pe_fmt (pv 2)) .nil))))) pa_nil, pss_cons (ps_ost (pv 0) (pv 1)) (pss_one (ps_ost (pv 0) (pv 2))), ?_⟩
    have hl := PyData.shown_int_le hn
    rw [PyData.shown_int] at hl
    have e1 : (Str.empty ++ ("the schedule is wrong at action " : Str)).length ≤ 100 := by decide +kernel
    have e2 : (": " : Str).length ≤ 100 := by decide +kernel
    refine ⟨_, rfl, ?_, _, rfl, .inr ⟨n, rfl, log_12' hn, _, rfl, ?_, ⟨_, rfl, ?_, _, rfl, .inl ⟨r, rfl, Nat.le_trans hl2 (by decide), _, rfl, ?_, ?_⟩⟩⟩⟩
    · exact Nat.le_trans e1 (by decide)
    · rw [strLen_append]
      exact Nat.le_trans (Nat.add_le_add e1 hl) (by decide)
    · rw [strLen_append, strLen_append]
      exact Nat.le_trans (Nat.add_le_add (Nat.add_le_add e1 hl) e2) (by decide)
    · rw [strLen_append, strLen_append, strLen_append]
      exact Nat.le_trans (Nat.add_le_add (Nat.add_le_add (Nat.add_le_add e1 hl) e2) hl2) (by decide)
    refine ⟨(show 1 ≤ 1000 by decide), ea, ?_⟩
    refine ⟨_, rfl, _, rfl, a, C, rfl, T.ex, n1, .inl ⟨ea, fun dx hdx ne => ?_⟩⟩
    refine ⟨_, rfl, _, rfl, a, C, rfl, T.ex, n2, .inr ⟨dx, [(("number" : Str), V.int n)], upd_same, ?_, (show 1 ≤ 900 by decide), ?_⟩⟩
    · rw [upd_ne ne]
      exact upd_same
    · exact q dx hdx ne
end
end Er

namespace Tr
open PySem L2

section
variable {K : PySem.W.Frag}
theorem tv1 {H : Hp} {a : Addr} {x : V} {d : PyData} (h : H a = some (.tup [x])) (hx : Tv K H d x) : Tv K H (.tuple [d]) (.ref a) := ⟨a, _, rfl, SqT.of h, x, _, rfl, hx, rfl⟩
theorem tv2 {H : Hp} {a : Addr} {x y : V} {d e : PyData} (h : H a = some (.tup [x, y])) (hx : Tv K H d x) (hy : Tv K H e y) : Tv K H (.tuple [d, e]) (.ref a) := ⟨a, _, rfl, SqT.of h, x, _, rfl, hx, y, _, rfl, hy, rfl⟩
theorem tv3 {H : Hp} {a : Addr} {x y z : V} {d e g : PyData} (h : H a = some (.tup [x, y, z])) (hx : Tv K H d x) (hy : Tv K H e y) (hz : Tv K H g z) : Tv K H (.tuple [d, e, g]) (.ref a) := ⟨a, _, rfl, SqT.of h, x, _, rfl, hx, y, _, rfl, hy, z, _, rfl, hz, rfl⟩
theorem tv4 {H : Hp} {a : Addr} {x y z u : V} {d e g i : PyData} (h : H a = some (.tup [x, y, z, u])) (hx : Tv K H d x) (hy : Tv K H e y) (hz : Tv K H g z) (hu : Tv K H i u) : Tv K H (.tuple [d, e, g, i]) (.ref a) :=
  ⟨a, _, rfl, SqT.of h, x, _, rfl, hx, y, _, rfl, hy, z, _, rfl, hz, u, _, rfl, hu, rfl⟩
end

theorem cut_hi {xs : List V} {u : Int} (h0 : 0 ≤ u) : cutV xs none (some u) = xs.take u.toNat := by
  obtain ⟨k, rfl⟩ : ∃ k : Nat, u = (k : Int) := ⟨u.toNat, by omega⟩
  unfold cutV
  rw [HT.sIx_nat, HT.sIx_none, Nat.sub_zero, List.drop_zero]
  have e : ((k : Nat) : Int).toNat = k := by omega
  rw [e]
  rcases Nat.le_total k xs.length with h | h
  · rw [Nat.min_eq_left h]
  · rw [Nat.min_eq_right h, List.take_of_length_le h, List.take_of_length_le (Nat.le_refl _)]
theorem same_alloc {H : Hp} {q : Addr} {o : HO} (h : H q = none) : Same H (upd H q o) := fun b u e => by rw [upd_ne (ne_of_none e h)]; exact e
theorem same_put {H H' : Hp} {q : Addr} {o : HO} (s : Same H H') (h : H q = none) : Same H (upd H' q o) := fun b u e => by rw [upd_ne (ne_of_none e h)]; exact s b u e

end Tr

/-! ## Tables of least costs: the mirror -/
namespace Sd
open PySem L2 Tr Pu PyProof.Rows
abbrev Ent := Option Nat × Nat
abbrev Tab := List (List Ent)
def cD : Option Nat → PyData
  | none => .none
  | some c => .int c
def cV : Option Nat → V
  | none => .non
  | some c => .int c
def entD (e : Ent) : PyData := .tuple [cD e.1, .int e.2]
def rowD (r : List Ent) : PyData := .tuple (r.map entD)
def cst (T : Tab) (t s : Nat) : Option Nat := ((T.getD (t - 1) []).getD s (none, 0)).1
def cand (T : Tab) (t s i : Nat) : Option (Nat × Nat) :=
  match cst T (t - (i + 1)) (s - 1), cst T (i + 1) s with
  | some b, some f => some (i + 1 + b + f, i + 1)
  | _, _ => none
def cands (T : Tab) (t s n : Nat) : List (Nat × Nat) := (List.range n).filterMap (cand T t s)
def minC : List (Nat × Nat) → Nat
  | [] => 0
  | e :: r => r.foldl (fun m x => if x.1 < m then x.1 else m) e.1
def right (T : Tab) (t s : Nat) : List Ent :=
  if t = 1 then [(some 0, 0)] else if s = 0 then [(none, 0)] else ((cands T t s (t - 1)).filter fun e => e.1 == minC (cands T t s (t - 1))).map fun e => (some e.1, e.2)
def rowN (T : Tab) (t n : Nat) : List Ent := (List.range n).map fun s => (right T t s).headD (none, 0)
def tabN (n : Nat) : Nat → Tab
  | 0 => []
  | k + 1 => tabN n k ++ [rowN (tabN n k) (k + 1) n]
theorem minC_le : ∀ {l : List (Nat × Nat)} {e : Nat × Nat}, e ∈ l → minC l ≤ e.1 := by
  have g : ∀ (r : List (Nat × Nat)) (m : Nat), r.foldl (fun m x => if x.1 < m then x.1 else m) m ≤ m ∧ ∀ x ∈ r, r.foldl (fun m x => if x.1 < m then x.1 else m) m ≤ x.1 := by
    intro r
    induction r with
    | nil => intro m; exact ⟨Nat.le_refl _, fun x h => by cases h⟩
    | cons y r ih =>
      intro m
      obtain ⟨h1, h2⟩ := ih (if y.1 < m then y.1 else m)
      rw [List.foldl_cons]
      refine ⟨Nat.le_trans h1 (by split <;> omega), fun x hx => ?_⟩
      rcases List.mem_cons.mp hx with rfl | hx
      · exact Nat.le_trans h1 (by split <;> omega)
      · exact h2 x hx
  intro l e h
  cases l with
  | nil => cases h
  | cons a r =>
    rcases List.mem_cons.mp h with rfl | h
    · exact (g r _).1
    · exact (g r _).2 e h
theorem minC_mem : ∀ {l : List (Nat × Nat)}, l ≠ [] → ∃ e ∈ l, e.1 = minC l := by
  have g : ∀ (r : List (Nat × Nat)) (m : Nat), r.foldl (fun m x => if x.1 < m then x.1 else m) m = m ∨ ∃ x ∈ r, x.1 = r.foldl (fun m x => if x.1 < m then x.1 else m) m := by
    intro r
    induction r with
    | nil => intro m; exact .inl rfl
    | cons y r ih =>
      intro m
      rw [List.foldl_cons]
      rcases ih (if y.1 < m then y.1 else m) with h | ⟨x, hx, h⟩
      · by_cases c : y.1 < m
        · rw [if_pos c] at h ⊢
          exact .inr ⟨y, List.mem_cons_self, h.symm⟩
        · rw [if_neg c] at h ⊢
          exact .inl h
      · exact .inr ⟨x, List.mem_cons_of_mem _ hx, h⟩
  intro l h
  cases l with
  | nil => exact absurd rfl h
  | cons a r =>
    rcases g r a.1 with h | ⟨x, hx, h⟩
    · exact ⟨a, List.mem_cons_self, h.symm⟩
    · exact ⟨x, List.mem_cons_of_mem _ hx, h⟩
/-- a table of m rows of n entries in which only entries without slots may have no cost -/
structure Okk (T : Tab) (n m : Nat) : Prop where
  len : m ≤ T.length
  row : ∀ j < m, (T.getD j []).length = n
  one : 0 < m → ∀ s < n, cst T 1 s = some 0
  cost : ∀ j < m, ∀ s, 1 ≤ s → s < n → ∃ c, cst T (j + 1) s = some c
theorem cands_succ (T : Tab) (t s i : Nat) : cands T t s (i + 1) = cands T t s i ++ (match cand T t s i with | some e => [e] | none => []) := by
  unfold cands
  rw [List.range_succ, List.filterMap_append]
  cases h : cand T t s i <;> simp [h]
theorem cands_ne {T : Tab} {n t s : Nat} (h : Okk T n (t - 1)) (ht : 2 ≤ t) (h1 : 1 ≤ s) (h2 : s < n) : cands T t s (t - 1) ≠ [] := by
  obtain ⟨k, rfl⟩ : ∃ k, t = k + 2 := ⟨t - 2, by omega⟩
  intro z
  have e1 : k + 2 - 1 = k + 1 := by omega
  rw [e1] at z h
  rw [cands_succ] at z
  obtain ⟨c, hc⟩ := h.cost k (by omega) s h1 h2
  have e : cand T (k + 2) s k = some (k + 1 + 0 + c, k + 1) := by
    unfold cand
    rw [show k + 2 - (k + 1) = 1 by omega, h.one (by omega) (s - 1) (by omega), hc]
  rw [e] at z
  simp at z
theorem right_head {T : Tab} {n t s : Nat} (h : Okk T n (t - 1)) (ht : 1 ≤ t) (h2 : s < n) : ∃ e r, right T t s = e :: r ∧ (1 ≤ s → ∃ c, e.1 = some c) ∧ (t = 1 → e = (some 0, 0)) := by
  unfold right
  by_cases c1 : t = 1
  · rw [if_pos c1]
    exact ⟨_, _, rfl, fun _ => ⟨0, rfl⟩, fun _ => rfl⟩
  · rw [if_neg c1]
    by_cases c2 : s = 0
    · rw [if_pos c2]
      exact ⟨_, _, rfl, fun z => absurd z (by omega), fun z => absurd z c1⟩
    · rw [if_neg c2]
      obtain ⟨e, he, hm⟩ := minC_mem (cands_ne h (by omega) (by omega) h2)
      cases q : (cands T t s (t - 1)).filter fun e => e.1 == minC (cands T t s (t - 1)) with
      | nil =>
        have : e ∈ (cands T t s (t - 1)).filter fun e => e.1 == minC (cands T t s (t - 1)) := List.mem_filter.mpr ⟨he, by simp [hm]⟩
        rw [q] at this
        cases this
      | cons a r => exact ⟨_, _, rfl, fun _ => ⟨a.1, rfl⟩, fun z => absurd z c1⟩
theorem tabN_len (n : Nat) : ∀ k, (tabN n k).length = k
  | 0 => rfl
  | k + 1 => by rw [tabN, List.length_append, tabN_len n k]; rfl
theorem okk_tab (n : Nat) : ∀ k, Okk (tabN n k) n k
  | 0 => ⟨Nat.zero_le _, fun j h => absurd h (Nat.not_lt_zero _), fun h => absurd h (Nat.lt_irrefl _), fun j h => absurd h (Nat.not_lt_zero _)⟩
  | k + 1 => by
    have ih := okk_tab n k
    have hl := tabN_len n k
    have lo : ∀ j, j < k → (tabN n (k + 1)).getD j [] = (tabN n k).getD j [] := fun j hj => by
      rw [tabN, List.getD_eq_getElem?_getD, List.getD_eq_getElem?_getD, List.getElem?_append_left (by omega)]
    have hi : (tabN n (k + 1)).getD k [] = rowN (tabN n k) (k + 1) n := by
      rw [tabN, List.getD_eq_getElem?_getD, List.getElem?_append_right (by omega), hl, Nat.sub_self]
      rfl
    have cl : ∀ j, j < k → ∀ s, cst (tabN n (k + 1)) (j + 1) s = cst (tabN n k) (j + 1) s := fun j hj s => by
      unfold cst
      rw [Nat.add_sub_cancel, lo j hj]
    have ch : ∀ s, s < n → cst (tabN n (k + 1)) (k + 1) s = ((right (tabN n k) (k + 1) s).headD (none, 0)).1 := fun s hs => by
      unfold cst
      rw [Nat.add_sub_cancel, hi]
      unfold rowN
      rw [List.getD_eq_getElem?_getD, List.getElem?_map, List.getElem?_range hs]
      rfl
    refine ⟨by rw [tabN_len]; exact Nat.le_refl _, fun j hj => ?_, fun _ s hs => ?_, fun j hj s h1 h2 => ?_⟩
    · by_cases c : j < k
      · rw [lo j c]
        exact ih.row j c
      · have : j = k := by omega
        subst this
        rw [hi]
        simp [rowN]
    · by_cases c : 0 < k
      · rw [cl 0 c]
        exact ih.one c s hs
      · have : k = 0 := by omega
        subst this
        rw [ch s hs]
        rfl
    · by_cases c : j < k
      · rw [cl j c]
        exact ih.cost j c s h1 h2
      · have : j = k := by omega
        subst this
        rw [ch s h2]
        obtain ⟨e, r, q, g, _⟩ := right_head (t := j + 1) ih (by omega) h2
        rw [q]
        exact g h1
end Sd

/-! ## min of pairs; the entries of a table -/
namespace Sd
open PySem L2 Tr Pu PyProof.Rows
section
variable {X : Cx}
def entC (e : Nat × Nat) : PyData := .tuple [.int e.1, .int e.2]
def rMinP (K : PySem.W.Frag) : List V → Hp → VK → Prop := fun vs H Q => ∃ (a : Addr) (x : Nat × Nat) (es : List (Nat × Nat)) (xs : List V), vs = [.ref a] ∧ SqL K H a xs ∧ TvL K H ((x :: es).map entC) xs ∧
  ∀ (i : Nat) (e : Nat × Nat) v, (x :: es)[i]? = some e → e.1 = minC (x :: es) → xs[i]? = some v → Q v H
theorem lt_pair (a b : Nat × Nat) : PySem.W.dataLt (entC a) (entC b) = (if a.1 = b.1 then decide (a.2 < b.2) else decide (a.1 < b.1)) := by
  have h := PySem.W.DatumOrd.lt_eq (α := Int × Int) ((a.1 : Int), (a.2 : Int)) ((b.1 : Int), (b.2 : Int))
  have e : PySem.W.dataLt (entC a) (entC b) = PySem.W.DatumOrd.lt (α := Int × Int) ((a.1 : Int), (a.2 : Int)) ((b.1 : Int), (b.2 : Int)) := h
  rw [e]
  show (if (a.1 : Int) = (b.1 : Int) then decide ((a.2 : Int) < (b.2 : Int)) else decide ((a.1 : Int) < (b.1 : Int))) = _
  by_cases c : a.1 = b.1
  · rw [if_pos c, if_pos (by omega)]
    congr 1
    exact propext (by omega)
  · rw [if_neg c, if_neg (by omega)]
    congr 1
    exact propext (by omega)
/-- the item that min picks has the least first part -/
theorem pick_min (x : Nat × Nat) (es : List (Nat × Nat)) : ∀ k, k ≤ es.length →
    argBest (fun i j => PySem.W.dataLt (((x :: es).map entC).getD i .none) (((x :: es).map entC).getD j .none)) k ≤ k ∧
      ∀ e, (x :: es)[argBest (fun i j => PySem.W.dataLt (((x :: es).map entC).getD i .none) (((x :: es).map entC).getD j .none)) k]? = some e → e.1 = minC (x :: es.take k) := by
  have gd : ∀ (i : Nat) (e : Nat × Nat), (x :: es)[i]? = some e → ((x :: es).map entC).getD i .none = entC e := fun i e h => by
    rw [List.getD_eq_getElem?_getD, List.getElem?_map, h]
    rfl
  intro k
  induction k with
  | zero =>
    intro _
    refine ⟨Nat.le_refl _, fun e h => ?_⟩
    have : x = e := Option.some.inj h
    subst this
    rfl
  | succ k ih =>
    intro hk
    obtain ⟨i1, i2⟩ := ih (by omega)
    obtain ⟨y, hy⟩ : ∃ y, es[k]? = some y := ⟨es[k], List.getElem?_eq_getElem hk⟩
    have hy2 : (x :: es)[k + 1]? = some y := by rw [List.getElem?_cons_succ]; exact hy
    obtain ⟨z, hz⟩ : ∃ z, (x :: es)[argBest (fun i j => PySem.W.dataLt (((x :: es).map entC).getD i .none) (((x :: es).map entC).getD j .none)) k]? = some z :=
      ⟨_, List.getElem?_eq_getElem (by rw [List.length_cons]; omega)⟩
    have hm := i2 z hz
    have et : es.take (k + 1) = es.take k ++ [y] := by rw [List.take_add_one, hy]; rfl
    have em : minC (x :: es.take (k + 1)) = if y.1 < z.1 then y.1 else z.1 := by
      rw [et, hm]
      show (es.take k ++ [y]).foldl _ x.1 = _
      rw [List.foldl_append]
      rfl
    have hstep : argBest (fun i j => PySem.W.dataLt (((x :: es).map entC).getD i .none) (((x :: es).map entC).getD j .none)) (k + 1) =
        if PySem.W.dataLt (entC y) (entC z) = true then k + 1 else argBest (fun i j => PySem.W.dataLt (((x :: es).map entC).getD i .none) (((x :: es).map entC).getD j .none)) k := by
      show (if PySem.W.dataLt (((x :: es).map entC).getD (k + 1) .none) (((x :: es).map entC).getD (argBest _ k) .none) = true then k + 1 else argBest _ k) = _
      rw [gd _ _ hy2, gd _ _ hz]
    rw [hstep, lt_pair]
    by_cases c : y.1 = z.1
    · rw [if_pos c]
      by_cases c2 : y.2 < z.2
      · rw [if_pos (decide_eq_true c2)]
        refine ⟨Nat.le_refl _, fun e h => ?_⟩
        rw [hy2] at h
        cases h
        rw [em, if_neg (by omega), c]
      · rw [if_neg (by simpa using c2)]
        refine ⟨Nat.le_succ_of_le i1, fun e h => ?_⟩
        rw [hz] at h
        cases h
        rw [em, if_neg (by omega)]
    · rw [if_neg c]
      by_cases c2 : y.1 < z.1
      · rw [if_pos (decide_eq_true c2)]
        refine ⟨Nat.le_refl _, fun e h => ?_⟩
        rw [hy2] at h
        cases h
        rw [em, if_pos c2]
      · rw [if_neg (by simpa using c2)]
        refine ⟨Nat.le_succ_of_le i1, fun e h => ?_⟩
        rw [hz] at h
        cases h
        rw [em, if_neg c2]
theorem alike_ents (es : List (Nat × Nat)) : PySem.W.AlikeAll (es.map entC) := by
  refine ⟨fun x hx y hy => ?_, fun x hx => ?_⟩
  · obtain ⟨a, _, rfl⟩ := List.mem_map.mp hx
    obtain ⟨b, _, rfl⟩ := List.mem_map.mp hy
    exact PySem.W.DatumOrd.alike (α := Int × Int) ((a.1 : Int), (a.2 : Int)) ((b.1 : Int), (b.2 : Int))
  · obtain ⟨a, _, rfl⟩ := List.mem_map.mp hx
    intro z
    cases z
theorem depth_ents (es : List (Nat × Nat)) : PyData.depthAll (es.map entC) ≤ 1 := by
  induction es with
  | nil => exact Nat.zero_le _
  | cons e r ih =>
    show max (PyData.depth (entC e)) (PyData.depthAll (r.map entC)) ≤ 1
    exact Nat.max_le.mpr ⟨by show max 0 (max 0 0) + 1 ≤ 1; decide, ih⟩
theorem cr_minD (hc : X.calm = true) (hu : X.A.units + 64 < cLine) : CallR X (.builtin "min") (rMinP X.K) := by
  intro pins s σ H vs us Q I r h
  obtain ⟨a, x, es, xs, rfl, hs, tv, q⟩ := h
  obtain ⟨its, rv, hl, _⟩ := I.list hs
  rw [Vals.ref1 r]
  obtain ⟨as, ra⟩ := Dp.readsAll I _ xs its (dps_tv _ xs tv) rv
  have hr : ReadsAll s.heap its.toArray.toList ((x :: es).map entC) as := ra
  have hn : its.toArray.size = es.length + 1 := by
    have := PySem.W.readsAll_len hr
    rw [List.length_map] at this
    exact this
  refine PySem.call_min_walkH (PySem.W.iter_listW (A := X.A.in1) (I.ok.hd hc) hl.isList fun s₂ e W st hfp hw hk => ?_)
  have hd := depth_ents (x :: es)
  refine ⟨_, _, _, _, _, _, _, s.heap, _, rfl, W, st, hfp, by omega, hw, hk, PySem.W.cmpIn_lt (A := X.A.in1) hr (alike_ents _) (by show X.A.units + 1 + _ < _; omega), fun v s' hP m => ?_⟩
  obtain ⟨h', tk, rfl, hk'⟩ := PySem.W.moved_old e rfl m
  have e1 : its.toArray.size - 1 = es.length := by omega
  rw [e1] at hP
  obtain ⟨p1, p2⟩ := pick_min x es es.length (Nat.le_refl _)
  obtain ⟨z, hz⟩ : ∃ z, (x :: es)[argBest (fun i j => PySem.W.dataLt (((x :: es).map entC).getD i .none) (((x :: es).map entC).getD j .none)) es.length]? = some z :=
    ⟨_, List.getElem?_eq_getElem (by rw [List.length_cons]; omega)⟩
  have hm := p2 z hz
  rw [List.take_length] at hm
  have hv : its[argBest (fun i j => PySem.W.dataLt (((x :: es).map entC).getD i .none) (((x :: es).map entC).getD j .none)) es.length]? = some v := by simpa using hP
  have hx : argBest (fun i j => PySem.W.dataLt (((x :: es).map entC).getD i .none) (((x :: es).map entC).getD j .none)) es.length < xs.length := by
    rw [rv.length]
    exact (List.getElem?_eq_some_iff.mp hv).1
  obtain ⟨u, h1, h2⟩ := Vals.get rv (List.getElem?_eq_getElem hx)
  rw [hv] at h1
  cases h1
  exact ⟨_, H, I.kept hk', h2, q _ z _ hz hm (List.getElem?_eq_getElem hx)⟩
end
end Sd

/-! ## right_entries, table_rows, least -/
namespace Sd
open PySem L2 Tr Pu PyProof.Rows
section
variable {K : PySem.W.Frag} {H H' : Hp}
theorem carry_lst {E : Addr} {ys : List V} {o : HO} (h : H E = some (.lst ys)) : Carry K H (upd H E o) := fun a xs q => by
  rcases q with (q | ⟨o', q⟩) | q
  · exact .inl (.inl (by rw [upd_ne (ne_of q h (by intro z; cases z))]; exact q))
  · exact .inl (.inr ⟨o', by rw [upd_ne (ne_of q h (by intro z; cases z))]; exact q⟩)
  · exact .inr q
theorem tvl_snoc {ds : List PyData} {xs : List V} {d : PyData} {x : V} (h : TvL K H ds xs) (hx : Tv K H d x) : TvL K H (ds ++ [d]) (xs ++ [x]) := tvl_app h ⟨x, [], rfl, hx, rfl⟩
/-- a row of a table that is at hand -/
theorem row_at {ds : List PyData} {xs : List V} {T : Tab} {j n s : Nat} (tv : TvL K H ds xs) (hj : ds[j]? = some (rowD (T.getD j []))) (hn : (T.getD j []).length = n) (hs : s < n) :
    ∃ ra es ya k, atI xs (j : Int) = some (.ref ra) ∧ SqT K H ra es ∧ atI es (s : Int) = some (.ref ya) ∧ SqT K H ya [cV (cst T (j + 1) s), .int k] := by
  obtain ⟨x, hx, tx⟩ := tvl_get tv hj
  obtain ⟨ra, es, rfl, sq, l⟩ := tx
  obtain ⟨e, he⟩ : ∃ e, (T.getD j [])[s]? = some e := ⟨_, List.getElem?_eq_getElem (by omega)⟩
  obtain ⟨y, hy, ty⟩ := tvl_get (j := s) (d := entD e) l (by rw [List.getElem?_map, he]; rfl)
  obtain ⟨ya, zs, rfl, sq2, l2⟩ := ty
  obtain ⟨u, r, rfl, t1, k, r2, rfl, t2, rfl⟩ := l2
  have ec : cst T (j + 1) s = e.1 := by
    unfold cst
    rw [Nat.add_sub_cancel, List.getD_eq_getElem?_getD, he]
    rfl
  have eu : u = cV e.1 := by
    cases h : e.1 with
    | none => rw [h] at t1; exact t1
    | some c => rw [h] at t1; exact t1
  have ek : k = .int (e.2 : Int) := t2
  refine ⟨ra, es, ya, (e.2 : Int), atI_nat hx, sq, atI_nat hy, ?_⟩
  rw [ec, ← eu, ← ek]
  exact sq2
theorem ix_any {p : Addr} {xs : List V} {i : Int} {v : V} {Q : VK} (h : SqL K H p xs ∨ SqT K H p xs) (ha : atI xs i = some v) (q : Q v H) : rIxL K (.ref p) (.int i) H Q ∨ rIxT K (.ref p) (.int i) H Q := by
  rcases h with h | h
  · exact .inl ⟨p, xs, i, v, rfl, rfl, h, ha, q⟩
  · exact .inr ⟨p, xs, i, v, rfl, rfl, h, ha, q⟩
theorem sq_any {p : Addr} {xs : List V} (s : Same H H') (h : SqL K H p xs ∨ SqT K H p xs) : SqL K H' p xs ∨ SqT K H' p xs := by
  rcases h with h | h
  · exact .inl (s.seq h)
  · exact .inr (same_carry s _ _ h)
end
/-- what right_entries promises -/
def spRe (K : PySem.W.Frag) : Sp := fun vs H Q _ => ∃ (r : Addr) (ds : List PyData) (xs : List V) (T : Tab) (t s n : Nat), vs = [.ref r, .int (t : Int), .int (s : Int)] ∧ (SqL K H r xs ∨ SqT K H r xs) ∧ TvL K H ds xs ∧
  (∀ j < t - 1, ds[j]? = some (rowD (T.getD j []))) ∧ Okk T n (t - 1) ∧ 1 ≤ t ∧ t ≤ 41 ∧ s < n ∧ n ≤ 10 ∧
  ∀ p ys H', H p = none → Same H H' → H' p = some (.lst ys) → TvL K H' ((right T t s).map entD) ys → Q (.ref p) H'
abbrev sRe : Stmt := top 20
abbrev nRe : List Str := ["rows", "beats", "empty", "entries", "split", "behind", "before", "cost", "entry"]
section
variable {P : Program} {w : World} {K : PySem.W.Frag} {mg : Str → Option Value} {base : Heap}
theorem scRe : FnScope nRe ["rows", "beats", "empty"] (defScope sRe) := ⟨rfl, rfl, rfl, by decide +kernel, rfl, by decide +kernel, by decide +kernel⟩
theorem ok_re {f : Addr} {fd : FuncData} (F : Fun K "right_entries" "right_entries" sRe f fd) (T : Bi mg) (zMin : mg "min" = none) : FnOk P w K mg base CX0 1 f fd ["rows", "beats", "empty"] (spRe K) := by
  refine F.ok scRe (fun vs H Q E h => ?_) (fun cdv A outer s H vs Q E hr h => ?_)
  · obtain ⟨r, ds, xs, T, t, s, n, rfl, _⟩ := h
    rfl
  · obtain ⟨r, ds, xs, TT, t, s, n, rfl, hS, tv, hrow, ok, t1, t41, hs, n10, q⟩ := h
    have nd := scRe.nd
    have one : 1 ≤ sizeLine := by decide
    have two : 2 ≤ sizeLine := by decide
    refine ⟨_, pss_cons (ps_if (pt_cmpR op_eq (pv 1) pe_int (nomark _)) (pss_one (ps_ret (pe_lst (pa_cons (pe_tup (pa_cons pe_int (pa_cons pe_int pa_nil))) pa_nil)))) pss_nil)
      (pss_cons (ps_if (pt_cmpR op_eq (pv 2) pe_int (nomark _)) (pss_one (ps_ret (pe_lst (pa_cons (pe_tup (pa_cons pe_non (pa_cons pe_int pa_nil))) pa_nil)))) pss_nil)
      (pss_cons (ps_set (i := 3) nd rfl (.inl rfl) (pe_lst pa_nil))
      (pss_cons (ps_for PassesOwn.never rfl (pi_range2 rfl T.range (pa_cons pe_int (pa_cons (pv 1) pa_nil))) (pg_name (i := 4) nd rfl (.inl rfl)) (pss_cons (ps_par (i := 5) (j := 6) rfl nd rfl rfl (by decide) rfl rfl (pa_cons (pe_ix ix_tup (pe_ix ix_tup (pe_ix (IxR.or ix_list ix_tup) (pv 0) (pe_op op_sub (pe_op op_sub (pv 1) (pv 4)) pe_int) (fun _ _ => rfl)) (pe_op op_sub (pv 2) pe_int) (fun _ _ => rfl)) pe_int (fun _ _ => rfl)) (pa_cons (pe_ix ix_tup (pe_ix ix_tup (pe_ix (IxR.or ix_list ix_tup) (pv 0) (pe_op op_sub (pv 4) pe_int) (fun _ _ => rfl)) (pv 2) (fun _ _ => rfl)) pe_int (fun _ _ => rfl)) pa_nil)) (by rfl))
      (pss_one (ps_if (pt_cmpR op_notN (pv 5) pe_non (nomark _)) (pss_one (ps_expr (pe_bm PySem.F.plainAttrs_list PySem.F.slot_list_append PySem.F.type_list_append mt_append (pv 3) (pa_cons (pe_tup (pa_cons (pe_op op_add (pe_op op_add (pv 4) (pv 5)) (pv 6)) (pa_cons (pv 4) pa_nil))) pa_nil)))) pss_nil))))
      (pss_cons (ps_set (i := 7) nd rfl (.inr rfl) (pe_ix ix_tup (pe_callB (cr_minD rfl hr.units) rfl zMin (by decide +kernel) (pa_cons (pv 3) pa_nil)) pe_int (fun _ _ => rfl)))
      (pss_one (ps_ret (pe_lc (own := [("entry", 8)]) (g := gName 8) rfl nd (pi_list (pv 3)) (blkOk_by (N := nRe) (sc := defScope sRe) (by decide +kernel)) (fun _ _ _ _ _ => pg_name (i := 8) nd rfl (.inl rfl)) (fun _ _ _ _ _ => pts_one (pt_cmpR op_eq (pe_ix (ixT (K' := K) rfl) (pv 8) pe_int (fun _ _ => rfl)) (pv 7) (nomark _))) (fun _ _ _ _ _ => (pv 8))))))))), ?_⟩
    refine ⟨_, rfl, rfl, _, rfl, ?_⟩
    by_cases c1 : t = 1
    · refine iteT' (by subst c1; rfl) ?_
      refine ⟨two, fun a ha => ⟨one, fun p hp => ?_⟩⟩
      have ra : right TT t s = [(some 0, 0)] := by unfold right; rw [if_pos c1]
      have np : H p = none := by
        rw [upd_ne (ne_of_none upd_same hp).symm] at hp
        exact hp
      refine q p _ _ np ((same_alloc ha).trans (same_alloc hp)) upd_same ?_
      rw [ra]
      exact ⟨_, _, rfl, Tv.carry (carry_new hp) _ _ (tv2 upd_same rfl rfl), rfl⟩
    refine iteF' (by
      have : ¬ ((t : Int) = 1) := by omega
      simp [this]) ?_
    refine ⟨_, rfl, rfl, _, rfl, ?_⟩
    by_cases c2 : s = 0
    · refine iteT' (by subst c2; rfl) ?_
      refine ⟨two, fun a ha => ⟨one, fun p hp => ?_⟩⟩
      have ra : right TT t s = [(none, 0)] := by unfold right; rw [if_neg c1, if_pos c2]
      have np : H p = none := by
        rw [upd_ne (ne_of_none upd_same hp).symm] at hp
        exact hp
      refine q p _ _ np ((same_alloc ha).trans (same_alloc hp)) upd_same ?_
      rw [ra]
      exact ⟨_, _, rfl, Tv.carry (carry_new hp) _ _ (tv2 upd_same rfl rfl), rfl⟩
    refine iteF' (by
      have : ¬ (s = 0) := c2
      simp [this]) ?_
    refine ⟨Nat.zero_le _, fun E hE => ?_⟩
    have etn : ((t : Int) - 1).toNat = t - 1 := by omega
    refine ⟨_, rfl, 1, (t : Int), rfl, ⟨by decide, by decide, by omega, by omega⟩, for_range (lo := 1) (n := ((t : Int) - 1).toNat)
      (fun i σ H' => Same H H' ∧ (∃ ys, H' E = some (.lst ys) ∧ TvL K H' ((cands TT t s i).map entC) ys) ∧ ∃ w4 w5 w6 w7 w8 : Option V, σ = [some (.ref r), some (.int (t : Int)), some (.int (s : Int)), some (.ref E), w4, w5, w6, w7, w8])
      ⟨same_alloc hE, ⟨[], upd_same, rfl⟩, _, _, _, _, _, rfl⟩ ?_ ?_⟩
    · rintro i σ H1 hi ⟨sm, ⟨ys, eE, tys⟩, w4, w5, w6, w7, w8, rfl⟩
      rw [etn] at hi
      have tv1 := TvL.carry (same_carry sm) _ _ tv
      have hS1 := sq_any sm hS
      obtain ⟨ra, es, ya, k, h1, h2, h3, h4⟩ := row_at (s := s - 1) tv1 (hrow (t - (i + 1) - 1) (by omega)) (ok.row _ (by omega)) (by omega)
      obtain ⟨ra', es', ya', k', h1', h2', h3', h4'⟩ := row_at (s := s) tv1 (hrow i (by omega)) (ok.row _ (by omega)) hs
      have i1 : (t : Int) - (1 + (i : Int)) - 1 = ((t - (i + 1) - 1 : Nat) : Int) := by omega
      have i2 : (s : Int) - 1 = ((s - 1 : Nat) : Int) := by omega
      have i3 : 1 + (i : Int) - 1 = (i : Int) := by omega
      rw [← i1] at h1
      rw [← i2] at h3
      rw [← i3] at h1'
      rw [show t - (i + 1) - 1 + 1 = t - (i + 1) by omega] at h4
      obtain ⟨cf, hcf⟩ := ok.cost i (by omega) s (by omega) hs
      rw [hcf] at h4'
      refine ⟨_, rfl, _, rfl, _, rfl, _, _, rfl, rfl, _, _, rfl, rfl, ix_any hS1 h1 ?_⟩
      refine ⟨_, rfl, _, _, rfl, rfl, ra, es, _, _, rfl, rfl, h2, h3, ya, _, 0, _, rfl, rfl, h4, rfl, ?_⟩
      refine ⟨_, rfl, _, rfl, _, _, rfl, rfl, ix_any hS1 h1' ?_⟩
      refine ⟨_, rfl, ra', es', _, _, rfl, rfl, h2', h3', ya', _, 0, _, rfl, rfl, h4', rfl, _, _, rfl, ?_⟩
      cases hb : cst TT (t - (i + 1)) (s - 1) with
      | none =>
        refine ⟨_, rfl, rfl, _, rfl, iteF' rfl ?_⟩
        refine ⟨sm, ⟨ys, eE, ?_⟩, _, _, _, _, _, rfl⟩
        have ec : cands TT t s (i + 1) = cands TT t s i := by
          rw [cands_succ]
          have : cand TT t s i = none := by unfold cand; rw [hb]
          rw [this]
          exact List.append_nil _
        rw [ec]
        exact tys
      | some b =>
        refine ⟨_, rfl, rfl, _, rfl, iteT' rfl ?_⟩
        have sz : ys.length < sizeLine := by
          rw [tvl_len tys, List.length_map]
          have : (cands TT t s i).length ≤ i := by
            have := List.length_filterMap_le (cand TT t s) (List.range i)
            rw [List.length_range] at this
            exact this
          exact Nat.lt_of_le_of_lt (show _ ≤ 41 by omega) (by decide)
        refine ⟨_, rfl, .inl ⟨rfl, _, SqL.of eE⟩, _, rfl, _, rfl, _, _, rfl, rfl, _, rfl, _, _, rfl, rfl, ?_⟩
        refine ⟨_, rfl, two, fun a ha => ?_⟩
        have nE : E ≠ a := ne_of_none eE ha
        refine ⟨E, ys, _, rfl, rfl, by rw [upd_ne nE]; exact eE, sz, ?_⟩
        refine ⟨same_put (sm.trans (same_alloc ha)) hE, ⟨_, upd_same, ?_⟩, _, _, _, _, _, rfl⟩
        have ec : cands TT t s (i + 1) = cands TT t s i ++ [(i + 1 + b + cf, i + 1)] := by
          rw [cands_succ]
          have : cand TT t s i = some (i + 1 + b + cf, i + 1) := by unfold cand; rw [hb, hcf]
          rw [this]
        rw [ec, List.map_append]
        refine TvL.carry (carry_lst (ys := ys) (by rw [upd_ne nE]; exact eE)) _ _ (tvl_snoc (TvL.carry (carry_new ha) _ _ tys) ?_)
        have e1 : 1 + (i : Int) + (b : Int) + (cf : Int) = ((i + 1 + b + cf : Nat) : Int) := by omega
        have e2 : 1 + (i : Int) = ((i + 1 : Nat) : Int) := by omega
        exact tv2 upd_same (by show V.int _ = V.int _; rw [e1]) (by show V.int _ = V.int _; rw [e2])
    · rintro σ H1 ⟨sm, ⟨ys, eE, tys⟩, w4, w5, w6, w7, w8, rfl⟩
      rw [etn] at tys
      have ne := cands_ne (s := s) ok (by omega) (by omega) hs
      cases hc : cands TT t s (t - 1) with
      | nil => exact absurd hc ne
      | cons x es =>
        rw [hc] at tys
        refine ⟨_, rfl, E, x, es, ys, rfl, SqL.of eE, tys, fun i e v he hm hv => ?_⟩
        obtain ⟨d', hd', tv'⟩ : ∃ d', ((x :: es).map entC)[i]? = some d' ∧ Tv K H1 d' v := by
          obtain ⟨v', h1, h2⟩ := tvl_get (j := i) (d := entC e) tys (by rw [List.getElem?_map, he]; rfl)
          rw [hv] at h1
          cases h1
          exact ⟨_, by rw [List.getElem?_map, he]; rfl, h2⟩
        have : d' = entC e := by
          rw [List.getElem?_map, he] at hd'
          exact (Option.some.inj hd').symm
        subst this
        obtain ⟨va, vs, rfl, sq, u1, r1, rfl, tu1, u2, r2, rfl, tu2, rfl⟩ := tv'
        have eu : u1 = .int (e.1 : Int) := tu1
        subst eu
        refine ⟨va, _, 0, _, rfl, rfl, sq, rfl, ?_⟩
        have em : e.1 = minC (cands TT t s (t - 1)) := by rw [hc]; exact hm
        refine ⟨_, rfl, E, rfl, ⟨_, SqL.of eE⟩, fun D hD => ?_⟩
        refine lc_list (K := K) (a := E) (xs := ys) (fun j H' => Same H1 H' ∧ ∃ zs, H' D = some (.lst zs) ∧ zs.length ≤ j ∧ TvL K H' ((((x :: es).take j).filter fun a => a.1 == e.1).map entC) zs)
          ⟨same_alloc hD, [], upd_same, Nat.le_refl _, rfl⟩ (fun j H' _ h => SqL.of (h.1 _ _ eE)) ?_ ?_
        · rintro j y H2 hj ⟨s2, zs, eD, lz, tz⟩
          obtain ⟨a, ha⟩ : ∃ a, (x :: es)[j]? = some a := by
            have hl : j < ys.length := (List.getElem?_eq_some_iff.mp hj).1
            have := tvl_len tys
            rw [List.length_map] at this
            exact ⟨_, List.getElem?_eq_getElem (by omega)⟩
          obtain ⟨y', h1, h2⟩ := tvl_get (j := j) (d := entC a) tys (by rw [List.getElem?_map, ha]; rfl)
          rw [hj] at h1
          cases h1
          have ty2 := Tv.carry (same_carry s2) _ _ h2
          obtain ⟨yb, vs, rfl, sq2, u3, r3, rfl, tu3, u4, r4, rfl, tu4, rfl⟩ := id ty2
          have eu3 : u3 = .int (a.1 : Int) := tu3
          subst eu3
          have tk : (x :: es).take (j + 1) = (x :: es).take j ++ [a] := by rw [List.take_add_one, ha]; rfl
          refine ⟨rfl, _, rfl, yb, _, 0, _, rfl, rfl, sq2, rfl, _, rfl, rfl, _, rfl, ?_⟩
          by_cases c : a.1 = e.1
          · refine iteT' (by simp [c]) ?_
            refine ⟨_, rfl, zs, eD, ?_, same_put s2 hD, _, upd_same, ?_, ?_⟩
            · have hl : j < ys.length := (List.getElem?_eq_some_iff.mp hj).1
              have := tvl_len tys
              rw [List.length_map, ← hc] at this
              have l2 : (cands TT t s (t - 1)).length ≤ t - 1 := by
                have := List.length_filterMap_le (cand TT t s) (List.range (t - 1))
                rw [List.length_range] at this
                exact this
              exact Nat.lt_of_le_of_lt (show _ ≤ 41 by omega) (by decide)
            · rw [List.length_append]
              exact Nat.succ_le_succ lz
            · rw [tk, List.filter_append, List.map_append]
              have : [a].filter (fun a => a.1 == e.1) = [a] := by simp [c]
              rw [this]
              exact TvL.carry (carry_lst eD) _ _ (tvl_snoc tz ty2)
          · refine iteF' (by
              have : ¬ ((a.1 : Int) = (e.1 : Int)) := by omega
              simp [this]) ?_
            refine ⟨s2, zs, eD, Nat.le_succ_of_le lz, ?_⟩
            rw [tk, List.filter_append]
            have : [a].filter (fun a => a.1 == e.1) = [] := by simp [c]
            rw [this, List.append_nil]
            exact tz
        · rintro H2 ⟨s2, zs, eD, lz, tz⟩
          have ll : ys.length = (x :: es).length := by
            have := tvl_len tys
            rw [List.length_map] at this
            exact this
          rw [ll, List.take_length] at tz
          have np : H D = none := by
            cases q2 : H D with
            | none => rfl
            | some o =>
              have := sm _ _ q2
              rw [hD] at this
              cases this
          refine q D zs H2 np (sm.trans s2) eD ?_
          have er : (right TT t s).map entD = (((x :: es).filter fun a => a.1 == e.1).map entC) := by
            unfold right
            rw [if_neg c1, if_neg c2, List.map_map, em, hc]
            rfl
          rw [er]
          exact tz
end
end Sd

namespace Sd
open PySem L2 Tr Pu PyProof.Rows
/-- what table_rows promises -/
def spTr (K : PySem.W.Frag) : Sp := fun vs H Q _ => ∃ (b s : Nat), vs = [.int (b : Int), .int (s : Int)] ∧ b ≤ 40 ∧ s ≤ 8 ∧
  ∀ p xs H', H p = none → Same H H' → H' p = some (.lst xs) → TvL K H' ((tabN (s + 1) b).map rowD) xs → Q (.ref p) H'
abbrev sTr : Stmt := top 19
abbrev nTr : List Str := ["beats", "slots", "rows", "number", "empty"]
theorem none_back {H H' : Hp} {p : Addr} (s : Same H H') (h : H' p = none) : H p = none := by
  cases q : H p with
  | none => rfl
  | some o =>
    have := s _ _ q
    rw [h] at this
    cases this
theorem at0 (y : V) (ys : List V) : atI (y :: ys) 0 = some y := atI_nat (xs := y :: ys) (j := 0) rfl
section
variable {P : Program} {w : World} {K : PySem.W.Frag} {mg : Str → Option Value} {base : Heap}
theorem scTr : FnScope nTr ["beats", "slots"] (defScope sTr) := ⟨rfl, rfl, rfl, by decide +kernel, rfl, by decide +kernel, by decide +kernel⟩
theorem ok_tr {f : Addr} {fd : FuncData} (F : Fun K "table_rows" "table_rows" sTr f fd) (T : Bi mg) (c_re : Cal P w K mg base CX0 1 "right_entries" ["rows", "beats", "empty"] (spRe K)) : FnOk P w K mg base CX0 2 f fd ["beats", "slots"] (spTr K) := by
  refine F.ok scTr (fun vs H Q E h => ?_) (fun cdv A outer s H vs Q E hr h => ?_)
  · obtain ⟨b, s, rfl, _⟩ := h
    rfl
  · obtain ⟨b, s, rfl, hb, hs, q⟩ := h
    have nd := scTr.nd
    refine ⟨_, pss_cons (ps_set (i := 2) nd rfl (.inr rfl) (pe_lst pa_nil))
      (pss_cons (ps_for PassesOwn.never rfl (pi_range2 rfl T.range (pa_cons pe_int (pa_cons (pe_op op_add (pv 0) pe_int) pa_nil))) (pg_name (i := 3) nd rfl (.inr rfl)) (pss_one (ps_expr (pe_bm PySem.F.plainAttrs_list PySem.F.slot_list_append PySem.F.type_list_append mt_append (pv 2) (pa_cons (pe_callTy call_tuple_of rfl T.tuple PyProof.Rows.boot_tuple (pa_cons (pe_lc (own := [("empty", 4)]) (g := gName 4) (tt := tYes) rfl nd (pi_range1 rfl T.range (pa_cons (pe_op op_add (pv 1) pe_int) pa_nil)) (blkOk_by (N := nTr) (sc := defScope sTr) (by decide +kernel)) (fun _ _ _ _ _ => pg_name (i := 4) nd rfl (.inl rfl)) (fun _ _ _ _ _ => pts_nil) (fun _ _ _ _ _ => (pe_ix (ixL (K' := K) rfl) (pe_call c_re.ok (hr.mono (by first | decide | omega)) rfl c_re.m c_re.kp c_re.b .nil pass0 (pa_cons (pv 2) (pa_cons (pv 3) (pa_cons (pv 4) pa_nil)))) pe_int (fun _ _ => rfl)))) pa_nil)) pa_nil)))))
      (pss_one (ps_ret (pv 2)))), ?_⟩
    refine ⟨Nat.zero_le _, fun E hE => ?_⟩
    have etn : ((b : Int) + 1 - 1).toNat = b := by omega
    refine ⟨_, rfl, _, _, rfl, rfl, 1, (b : Int) + 1, rfl, ⟨by decide, by decide, by omega, by omega⟩, for_range (lo := 1) (n := ((b : Int) + 1 - 1).toNat)
      (fun i σ H' => Same H H' ∧ (∃ xs, H' E = some (.lst xs) ∧ TvL K H' ((tabN (s + 1) i).map rowD) xs) ∧ ∃ w3 w4 : Option V, σ = [some (.int (b : Int)), some (.int (s : Int)), some (.ref E), w3, w4])
      ⟨same_alloc hE, ⟨[], upd_same, rfl⟩, _, _, rfl⟩ ?_ ?_⟩
    · rintro i σ H1 hi ⟨sm, ⟨xs, eE, txs⟩, w3, w4, rfl⟩
      rw [etn] at hi
      have esn : ((s : Int) + 1).toNat = s + 1 := by omega
      refine ⟨_, rfl, .inl ⟨rfl, _, SqL.of eE⟩, _, rfl, _, _, rfl, rfl, (s : Int) + 1, rfl, by omega, by omega, fun D hD => ?_⟩
      refine lc_range (lo := 0) (n := ((s : Int) + 1).toNat) (fun j H' => Same H1 H' ∧ ∃ zs, H' D = some (.lst zs) ∧ TvL K H' ((List.range j).map fun e => entD ((right (tabN (s + 1) i) (i + 1) e).headD (none, 0))) zs)
        ⟨same_alloc hD, [], upd_same, rfl⟩ ?_ ?_
      · rintro j H2 hj ⟨s2, zs, eD, tz⟩
        rw [esn] at hj
        have ok := okk_tab (s + 1) i
        refine ⟨rfl, _, rfl, _, rfl, _, rfl, E, _, xs, tabN (s + 1) i, i + 1, j, s + 1, ?_, .inl (SqL.of (s2 _ _ eE)), TvL.carry (same_carry s2) _ _ txs, fun l hl => ?_, ok, by omega, by omega, hj, by omega, fun p ys H3 np s3 ep tp => ?_⟩
        · show [V.ref E, V.int (1 + (i : Int)), V.int (0 + (j : Int))] = _
          rw [show 1 + (i : Int) = ((i + 1 : Nat) : Int) by omega, show 0 + (j : Int) = (j : Int) by omega]
        · rw [List.getElem?_map, List.getD_eq_getElem?_getD]
          have : l < (tabN (s + 1) i).length := by rw [tabN_len]; omega
          rw [List.getElem?_eq_getElem this]
          rfl
        · obtain ⟨e, r, hR, _, _⟩ := right_head (t := i + 1) ok (by omega) hj
          rw [hR] at tp
          obtain ⟨y, ys', rfl, ty, tr'⟩ := tp
          have hd : (right (tabN (s + 1) i) (i + 1) j).headD (none, 0) = e := by rw [hR]; rfl
          refine ⟨p, _, 0, y, rfl, rfl, SqL.of ep, at0 y ys', zs, s3 _ _ eD, ?_, same_put (s2.trans s3) hD, _, upd_same, ?_⟩
          · rw [tvl_len tz, List.length_map, List.length_range]
            exact Nat.lt_of_le_of_lt (show j ≤ 41 by omega) (by decide)
          · rw [List.range_succ, List.map_append]
            refine TvL.carry (carry_lst (s3 _ _ eD)) _ _ (tvl_snoc (TvL.carry (same_carry s3) _ _ tz) ?_)
            show Tv K H3 (entD ((right (tabN (s + 1) i) (i + 1) j).headD (none, 0))) y
            rw [hd]
            exact ty
      · rintro H2 ⟨s2, zs, eD, tz⟩
        rw [esn] at tz
        refine ⟨D, zs, rfl, .inl ⟨SqL.of eD, fun l hl => ?_⟩⟩
        have nEl : E ≠ l := ne_of_none (s2 _ _ eE) hl
        refine ⟨E, xs, _, rfl, rfl, by rw [upd_ne nEl]; exact s2 _ _ eE, ?_, same_put ((sm.trans s2).trans (same_alloc hl)) hE, ⟨_, upd_same, ?_⟩, _, _, rfl⟩
        · rw [tvl_len txs, List.length_map, tabN_len]
          exact Nat.lt_of_le_of_lt (show i ≤ 41 by omega) (by decide)
        · rw [tabN, List.map_append]
          refine TvL.carry (carry_lst (ys := xs) (by rw [upd_ne nEl]; exact s2 _ _ eE)) _ _ (tvl_snoc (TvL.carry (carry_new hl) _ _ (TvL.carry (same_carry s2) _ _ txs)) ?_)
          refine ⟨l, zs, rfl, SqT.of upd_same, TvL.carry (carry_new hl) _ _ ?_⟩
          unfold rowN
          rw [List.map_map]
          exact tz
    · rintro σ H1 ⟨sm, ⟨xs, eE, txs⟩, w3, w4, rfl⟩
      rw [etn] at txs
      exact ⟨_, rfl, q E xs H1 hE sm eE txs⟩
end
end Sd

/-! ## the numbers of beats and of slots -/
namespace Sd
open PySem L2 Tr Pu PyProof.Rows
def isI : PyData → Bool
  | .int _ => true
  | _ => false
def dIsi (ds : List PyData) (d : PyData) : Prop := ∃ x, ds = [x] ∧ d = .bool (isI x) ∧ (∀ l, x ≠ .list l) ∧ ∀ l, x ≠ .dict l
def btw (x : PyData) (a b : Int) : Bool :=
  match x with
  | .int i => decide (a ≤ i) && decide (i ≤ b)
  | _ => false
def dBtw (ds : List PyData) (d : PyData) : Prop := ∃ (x : PyData) (a b : Int), ds = [x, .int a, .int b] ∧ d = .bool (btw x a b) ∧ (∀ l, x ≠ .list l) ∧ ∀ l, x ≠ .dict l
abbrev sIsi : Stmt := top 7
abbrev sBtw : Stmt := top 8
abbrev sCkb : Stmt := top 10
abbrev sCkn : Stmt := top 16
section
variable {P : Program} {w : World} {K : PySem.W.Frag} {mg : Str → Option Value} {base : Heap}
/-- how an own error is made: its class's __init__ -/
structure Mk (P : Program) (w : World) (K : PySem.W.Frag) (mg : Str → Option Value) (base : Heap) (x : Str) (C : Addr) (ps : List Str) (sp : Sp) where
  fI : Addr
  fd : FuncData
  ok : FnOk P w K mg base CX0 1 fI fd ps sp
  b : Binds K fd ps []
  ex : OexC K C
  iC : PySem.W.findIn K (.ref C) "__init__" = some (some (.ref fI))
  tI : PySem.W.typeIn K (.ref fI) = some (.type "function")
  m : mg x = some (.ref C)
theorem scIsi : FnScope ["value"] ["value"] (defScope sIsi) := ⟨rfl, rfl, rfl, by decide +kernel, rfl, by decide +kernel, by decide +kernel⟩
theorem ok_isi {f : Addr} {fd : FuncData} (F : Fun K "is_integer" "is_integer" sIsi f fd) (T : Bi mg) : FnOk P w K mg base CX0 1 f fd ["value"] (spP K 1 dIsi) := by
  refine ok_P F scIsi (by decide) (fun cdv A outer s H E hr => ⟨_, pss_one (ps_ret (pe_and (pe_callB call_isi rfl T.isinstance PyProof.Rows.boot_isinstance (pa_cons (pv 0) (pa_cons (pe_bltn (v := .ty "int") rfl T.int PyProof.Rows.boot_int rfl) pa_nil))) (pe_one (pe_not (pe_callB call_isi rfl T.isinstance PyProof.Rows.boot_isinstance (pa_cons (pv 0) (pa_cons (pe_bltn (v := .ty "bool") rfl T.bool PyProof.Rows.boot_bool rfl) pa_nil))))))), ?_⟩)
  rintro ds d - ⟨x, rfl, rfl, n1, n2⟩
  cases x with
  | none => exact dr_ret (de_andF (de_isi (de_var rfl) (show kitB "NoneType" "int" = some false by decide +kernel)))
  | bool b => exact dr_ret (de_andT (de_isi (de_var rfl) (show kitB "bool" "int" = some true by decide +kernel)) (de_not (de_isi (d := .bool b) (n := "bool") (b := true) (de_var rfl) (show kitB "bool" "bool" = some true by decide +kernel))))
  | int i => exact dr_ret (de_andT (de_isi (de_var rfl) (show kitB "int" "int" = some true by decide +kernel)) (de_not (de_isi (d := .int i) (n := "bool") (b := false) (de_var rfl) (show kitB "int" "bool" = some false by decide +kernel))))
  | str z => exact dr_ret (de_andF (de_isi (de_var rfl) (show kitB "str" "int" = some false by decide +kernel)))
  | tuple l => exact dr_ret (de_andF (de_isi (de_var rfl) (show kitB "tuple" "int" = some false by decide +kernel)))
  | list l => exact absurd rfl (n1 l)
  | dict l => exact absurd rfl (n2 l)
theorem pv_isi {x : PyData} (n1 : ∀ l, x ≠ .list l) (n2 : ∀ l, x ≠ .dict l) : PV K (spP K 1 dIsi) [x] (.bool (isI x)) := pv_P ⟨x, rfl, rfl, n1, n2⟩
theorem scBtw : FnScope ["value", "least", "most"] ["value", "least", "most"] (defScope sBtw) := ⟨rfl, rfl, rfl, by decide +kernel, rfl, by decide +kernel, by decide +kernel⟩
theorem ok_btw {f : Addr} {fd : FuncData} (F : Fun K "is_between" "is_between" sBtw f fd) (c_isi : Cal P w K mg base CX0 1 "is_integer" ["value"] (spP K 1 dIsi)) : FnOk P w K mg base CX0 2 f fd ["value", "least", "most"] (spP K 3 dBtw) := by
  refine ok_P F scBtw (by decide) (fun cdv A outer s H E hr => ⟨_, pss_one (ps_ret (pe_and (pe_call c_isi.ok (hr.mono (by first | decide | omega)) rfl c_isi.m c_isi.kp c_isi.b .nil pass0 (pa_cons (pv 0) pa_nil)) (pe_one (pe_chain op_le op_le (pv 1) (pv 0) (pv 2))))), ?_⟩)
  rintro ds d - ⟨x, a, b, rfl, rfl, n1, n2⟩
  have arg : DA K (tCons (tVar 0) tNil) (List.map some [x, .int a, .int b] ++ List.replicate (3 - 3) none) [x] := da_one (de_var rfl)
  cases x with
  | int i =>
    apply dr_ret
    apply de_andT
    · exact de_call arg (pv_isi n1 n2)
    · exact de_chain (de_var rfl) (de_var rfl) (de_var rfl)
  | none => exact dr_ret (de_andF (de_call arg (pv_isi n1 n2)))
  | bool b => exact dr_ret (de_andF (de_call arg (pv_isi n1 n2)))
  | str z => exact dr_ret (de_andF (de_call arg (pv_isi n1 n2)))
  | tuple l => exact dr_ret (de_andF (de_call arg (pv_isi n1 n2)))
  | list l => exact absurd rfl (n1 l)
  | dict l => exact absurd rfl (n2 l)
theorem pv_btw {x : PyData} {a b : Int} (n1 : ∀ l, x ≠ .list l) (n2 : ∀ l, x ≠ .dict l) : PV K (spP K 3 dBtw) [x, .int a, .int b] (.bool (btw x a b)) := pv_P ⟨x, a, b, rfl, rfl, n1, n2⟩
/-- the error of an argument being raised -/
theorem err_A {C : Addr} {H H1 : Hp} {W : XK} {r : Str} (sm : Same H H1) (hr : r.length ≤ 1000) (k : ∀ d H', Same H H' → H' d = some (.xd [("reason", .str r)]) → W (.ref C) (some d) H') :
    [V.str r].length ≤ 1000 ∧ ∀ a, H1 a = none → Er.spAE K C (.ref a :: ([V.str r] ++ [])) (upd H1 a (exo a C none))
      (fun v H2 => v = .non ∧ ∃ (d : Addr) (fs : List (Str × V)), H2 a = some (exo a C (some d)) ∧ H2 d = some (exd d fs) ∧ H1 d = none ∧ W (.ref C) (some d) (upd (del H2 a) d (.xd fs))) (fun _ _ _ => False) := by
  refine ⟨(show 1 ≤ 1000 by decide), fun a ha => ⟨a, r, rfl, hr, upd_same, fun dx hdx ne => ⟨rfl, dx, _, upd_same, (by rw [upd_ne ne]; exact upd_same), (by rw [upd_ne ne] at hdx; exact hdx), ?_⟩⟩⟩
  rw [upd_ne ne] at hdx
  refine k dx _ (fun b u e => ?_) upd_same
  have e1 := sm _ _ e
  have nb : b ≠ a := ne_of_none e1 ha
  have nb2 : b ≠ dx := ne_of_none e1 hdx
  rw [upd_ne nb2, del_ne nb, upd_ne nb, upd_ne nb2, upd_ne nb]
  exact e1
/-- what check_beats promises -/
def spCkb (K : PySem.W.Frag) (CA : Addr) : Sp := fun vs H Q E => ∃ (v : V) (x : PyData), vs = [v] ∧ Tv K H x v ∧ (btw x 0 40 = true → ∀ H', Same H H' → Q .non H') ∧
  (btw x 0 40 = false → ∀ d H', Same H H' → H' d = some (.xd [("reason", .str "beats")]) → E (.ref CA) (some d) H')
def spCkn (K : PySem.W.Frag) (CA : Addr) : Sp := fun vs H Q E => ∃ (v u : V) (x y : PyData), vs = [v, u] ∧ Tv K H x v ∧ Tv K H y u ∧ (btw x 0 40 = true → btw y 0 8 = true → ∀ H', Same H H' → Q .non H') ∧
  (btw x 0 40 = false → ∀ d H', Same H H' → H' d = some (.xd [("reason", .str "beats")]) → E (.ref CA) (some d) H') ∧
  (btw x 0 40 = true → btw y 0 8 = false → ∀ d H', Same H H' → H' d = some (.xd [("reason", .str "slots")]) → E (.ref CA) (some d) H')
theorem tv_nolist {H : Hp} {x : PyData} {v : V} (h : Tv K H x v) : (∀ l, x ≠ .list l) ∧ ∀ l, x ≠ .dict l := ⟨fun l e => by subst e; exact h, fun l e => by subst e; exact h⟩
theorem scCkb : FnScope ["beats"] ["beats"] (defScope sCkb) := ⟨rfl, rfl, rfl, by decide +kernel, rfl, by decide +kernel, by decide +kernel⟩
theorem ok_ckb {f CA : Addr} {fd : FuncData} (F : Fun K "check_beats" "check_beats" sCkb f fd) {tB : Tok} (gB : mg "MAX_BEATS" = some (.int 40 tB)) (c_btw : Cal P w K mg base CX0 2 "is_between" ["value", "least", "most"] (spP K 3 dBtw))
    (c_mkA : Mk P w K mg base "ArgumentError" CA ["self", "reason"] (Er.spAE K CA)) : FnOk P w K mg base (L2.CX P w) 3 f fd ["beats"] (spCkb K CA) := by
  refine F.okX scCkb (fun vs H Q E h => ?_) (fun cdv A outer s H vs Q E hr h => ?_)
  · obtain ⟨v, x, rfl, _⟩ := h
    rfl
  · obtain ⟨v, x, rfl, tx, q1, q2⟩ := h
    refine ⟨_, pss_one (ps_if (pt_not (pt_val (pe_call c_btw.ok (hr.mono (by first | decide | omega)) rfl c_btw.m c_btw.kp c_btw.b .nil pass0 (pa_cons (pv 0) (pa_cons pe_int (pa_cons (pe_glob (v := .int 40) rfl gB ⟨_, rfl⟩) pa_nil)))))) (pss_one (ps_raise rfl (takes_of rfl rfl rfl rfl) (pmk_oex c_mkA.ex c_mkA.iC c_mkA.tI c_mkA.ok (hr.mono (by first | decide | omega)) c_mkA.b .nil pass0 rfl c_mkA.m (pa_cons pe_str pa_nil)))) pss_nil), ?_⟩
    refine ⟨_, rfl, [x, .int 0, .int 40], _, rfl, ⟨_, _, rfl, tx, _, _, rfl, rfl, _, _, rfl, rfl, rfl⟩, ⟨x, 0, 40, rfl, rfl, (tv_nolist tx).1, (tv_nolist tx).2⟩, fun u H1 s1 tu => ?_⟩
    cases tu
    refine ⟨_, rfl, ?_⟩
    cases c : btw x 0 40 with
    | true => exact iteF' rfl (q1 c H1 s1)
    | false =>
      refine iteT' rfl ?_
      exact err_A s1 (by decide +kernel) fun d H' s2 e => q2 c d H' s2 e
theorem scCkn : FnScope ["beats", "slots"] ["beats", "slots"] (defScope sCkn) := ⟨rfl, rfl, rfl, by decide +kernel, rfl, by decide +kernel, by decide +kernel⟩
theorem ok_ckn {f CA : Addr} {fd : FuncData} (F : Fun K "check_numbers" "check_numbers" sCkn f fd) {tK : Tok} (gK : mg "MAX_KEPT" = some (.int 8 tK)) (c_btw : Cal P w K mg base CX0 2 "is_between" ["value", "least", "most"] (spP K 3 dBtw))
    (c_ckb : Cal P w K mg base (L2.CX P w) 3 "check_beats" ["beats"] (spCkb K CA))
    (c_mkA : Mk P w K mg base "ArgumentError" CA ["self", "reason"] (Er.spAE K CA)) : FnOk P w K mg base (L2.CX P w) 4 f fd ["beats", "slots"] (spCkn K CA) := by
  refine F.okX scCkn (fun vs H Q E h => ?_) (fun cdv A outer s H vs Q E hr h => ?_)
  · obtain ⟨v, u, x, y, rfl, _⟩ := h
    rfl
  · obtain ⟨v, u, x, y, rfl, tx, ty, q1, q2, q3⟩ := h
    refine ⟨_, pss_cons (ps_expr (pe_call c_ckb.ok (hr.mono (by first | decide | omega)) rfl c_ckb.m c_ckb.kp c_ckb.b .nil (passes_call (takes_of rfl rfl rfl rfl) (fun _ _ _ _ h => h)) (pa_cons (pv 0) pa_nil)))
      (pss_one (ps_if (pt_not (pt_val (pe_call c_btw.ok (hr.mono (by first | decide | omega)) rfl c_btw.m c_btw.kp c_btw.b .nil pass0 (pa_cons (pv 1) (pa_cons pe_int (pa_cons (pe_glob (v := .int 8) rfl gK ⟨_, rfl⟩) pa_nil)))))) (pss_one (ps_raise rfl (takes_of rfl rfl rfl rfl) (pmk_oex c_mkA.ex c_mkA.iC c_mkA.tI c_mkA.ok (hr.mono (by first | decide | omega)) c_mkA.b .nil pass0 rfl c_mkA.m (pa_cons pe_str pa_nil)))) pss_nil)), ?_⟩
    refine ⟨_, rfl, v, x, rfl, tx, fun c1 H1 s1 => ?_, fun c1 d H' s1 e => q2 c1 d H' s1 e⟩
    have ty1 := ty.carry (same_carry s1)
    refine ⟨_, rfl, [y, .int 0, .int 8], _, rfl, ⟨_, _, rfl, ty1, _, _, rfl, rfl, _, _, rfl, rfl, rfl⟩, ⟨y, 0, 8, rfl, rfl, (tv_nolist ty).1, (tv_nolist ty).2⟩, fun u H2 s2 tu => ?_⟩
    cases tu
    refine ⟨_, rfl, ?_⟩
    cases c : btw y 0 8 with
    | true => exact iteF' rfl (q1 c1 c H2 (s1.trans s2))
    | false =>
      refine iteT' rfl ?_
      exact err_A (s1.trans s2) (by decide +kernel) fun d H' s2 e => q3 c1 c d H' s2 e
/-- the least cost -/
def Lc (b s : Nat) : Option Nat := if b = 0 then some 0 else cst (tabN (s + 1) b) b s
theorem btw_nat {n m : Nat} (h : n ≤ m) : btw (.int (n : Int)) 0 (m : Int) = true := by
  show (decide ((0 : Int) ≤ (n : Int)) && decide ((n : Int) ≤ (m : Int))) = true
  rw [decide_eq_true (by omega), decide_eq_true (by omega)]
  rfl
end
end Sd

namespace Sd
open PySem L2 Tr Pu PyProof.Rows
abbrev sLst : Stmt := top 14
section
variable {P : Program} {w : World} {K : PySem.W.Frag} {mg : Str → Option Value} {base : Heap}
def spLst (K : PySem.W.Frag) : Sp := fun vs H Q _ => ∃ (b s : Nat), vs = [.int (b : Int), .int (s : Int)] ∧ b ≤ 40 ∧ s ≤ 8 ∧ ∀ H', Same H H' → Q (cV (Lc b s)) H'
theorem scLst : FnScope ["beats", "slots"] ["beats", "slots"] (defScope sLst) := ⟨rfl, rfl, rfl, by decide +kernel, rfl, by decide +kernel, by decide +kernel⟩
theorem ok_lst {f CA : Addr} {fd : FuncData} (F : Fun K "least" "least" sLst f fd) (c_ckn : Cal P w K mg base (L2.CX P w) 4 "check_numbers" ["beats", "slots"] (spCkn K CA)) (c_tr : Cal P w K mg base CX0 2 "table_rows" ["beats", "slots"] (spTr K)) :
    FnOk P w K mg base (L2.CX P w) 5 f fd ["beats", "slots"] (spLst K) := by
  refine F.okX scLst (fun vs H Q E h => ?_) (fun cdv A outer s H vs Q E hr h => ?_)
  · obtain ⟨b, s, rfl, _⟩ := h
    rfl
  · obtain ⟨b, s, rfl, hb, hs, q⟩ := h
    refine ⟨_, pss_cons (ps_expr (pe_call c_ckn.ok (hr.mono (by first | decide | omega)) rfl c_ckn.m c_ckn.kp c_ckn.b .nil (passes_call (takes_of rfl rfl rfl rfl) (fun _ _ _ _ h => h)) (pa_cons (pv 0) (pa_cons (pv 1) pa_nil))))
      (pss_cons (ps_if (pt_cmpR op_eq (pv 0) pe_int (nomark _)) (pss_one (ps_ret pe_int)) pss_nil)
      (pss_one (ps_ret (pe_ix ix_tup (pe_ix ix_tup (pe_ix ix_list (pe_call c_tr.ok (hr.mono (by first | decide | omega)) rfl c_tr.m c_tr.kp c_tr.b .nil pass0 (pa_cons (pv 0) (pa_cons (pv 1) pa_nil))) (pe_op op_sub (pv 0) pe_int) (fun _ _ => rfl)) (pv 1) (fun _ _ => rfl)) pe_int (fun _ _ => rfl))))), ?_⟩
    have e1 : btw (.int (b : Int)) 0 40 = true := btw_nat (m := 40) hb
    have e2 : btw (.int (s : Int)) 0 8 = true := btw_nat (m := 8) hs
    refine ⟨_, rfl, _, rfl, _, _, .int (b : Int), .int (s : Int), rfl, rfl, rfl, fun _ _ H1 s1 => ?_, fun z => absurd z (by rw [e1]; decide), fun _ z => absurd z (by rw [e2]; decide)⟩
    refine ⟨_, rfl, rfl, _, rfl, ?_⟩
    by_cases c : b = 0
    · refine iteT' (by subst c; rfl) ?_
      have : Lc b s = some 0 := if_pos c
      have q' := q H1 s1
      rw [this] at q'
      exact q'
    · refine iteF' (by simp [c]) ?_
      refine ⟨_, rfl, _, rfl, b, s, rfl, hb, hs, fun p xs H2 np s2 ep tx => ?_⟩
      obtain ⟨ra, es, ya, k, h1, h2, h3, h4⟩ := row_at (T := tabN (s + 1) b) (j := b - 1) (s := s) (n := s + 1) tx (by
        rw [List.getElem?_map, List.getD_eq_getElem?_getD]
        have : b - 1 < (tabN (s + 1) b).length := by rw [tabN_len]; omega
        rw [List.getElem?_eq_getElem this]
        rfl) ((okk_tab (s + 1) b).row _ (by omega)) (by omega)
      rw [show ((b - 1 : Nat) : Int) = (b : Int) - 1 by omega] at h1
      rw [show b - 1 + 1 = b by omega] at h4
      refine ⟨_, rfl, _, _, rfl, rfl, p, xs, _, _, rfl, rfl, SqL.of ep, h1, _, rfl, ra, es, _, _, rfl, rfl, h2, h3, ya, _, 0, _, rfl, rfl, h4, rfl, ?_⟩
      have : Lc b s = cst (tabN (s + 1) b) b s := if_neg c
      have q' := q H2 (s1.trans s2)
      rw [this] at q'
      exact q'
end
end Sd

/-! ## the form of an action -/
namespace Sd
open PySem L2 Tr Pu PyProof.Rows
inductive Act where
  | keep (s : Int) | restore (s : Int) | advance (n : Int) | turn
def Act.enc : Act → PyData
  | .keep s => .tuple [.str "keep", .int s]
  | .restore s => .tuple [.str "restore", .int s]
  | .advance n => .tuple [.str "advance", .int n]
  | .turn => .tuple [.str "turn"]
/-- the action that a value is -/
def act? (d : PyData) : Option Act :=
  match d with
  | .tuple [.str z] => if z = "turn" then some .turn else none
  | .tuple [.str z, .int n] => if z = "advance" then (if 1 ≤ n then some (.advance n) else none) else if z = "keep" then (if 0 ≤ n then some (.keep n) else none) else if z = "restore" then (if 0 ≤ n then some (.restore n) else none) else none
  | _ => none
def flatHead : PyData → Bool
  | .tuple (x :: _) => flatD x
  | .list _ => false
  | .dict _ => false
  | _ => true
def dAct (ds : List PyData) (d : PyData) : Prop := ∃ x, ds = [x] ∧ flatHead x = true ∧ (∀ h y r, x = .tuple (h :: y :: r) → (∀ l, y ≠ .list l) ∧ ∀ l, y ≠ .dict l) ∧ d = .bool (act? x).isSome
abbrev sAct : Stmt := top 17
section
variable {P : Program} {w : World} {K : PySem.W.Frag} {mg : Str → Option Value} {base : Heap}
theorem scAct : FnScope ["value"] ["value"] (defScope sAct) := ⟨rfl, rfl, rfl, by decide +kernel, rfl, by decide +kernel, by decide +kernel⟩
theorem ok_act {f : Addr} {fd : FuncData} (F : Fun K "is_action" "is_action" sAct f fd) (T : Bi mg) (c_isi : Cal P w K mg base CX0 1 "is_integer" ["value"] (spP K 1 dIsi)) : FnOk P w K mg base CX0 2 f fd ["value"] (spP K 1 dAct) := by
  refine ok_P F scAct (by decide) (fun cdv A outer s H E hr => ⟨_, pss_cons (ps_if (PW.pt (pw_or (pt_not (pt_val (pe_callB call_isi rfl T.isinstance PyProof.Rows.boot_isinstance (pa_cons (pv 0) (pa_cons (pe_bltn (v := .ty "tuple") rfl T.tuple PyProof.Rows.boot_tuple rfl) pa_nil))))) (pw_or1 (pt_not (pt_truth (pv 0) (by intro _; rfl)))))) (pss_one (ps_ret pe_bl)) pss_nil)
      (pss_cons (ps_if (pt_cmpR op_eq (pe_ix ix_tup (pv 0) pe_int (fun _ _ => rfl)) pe_str (nomark _)) (pss_one (ps_ret (pe_cmpR op_eq (pe_callB call_len_seq rfl T.len PySem.boot_len (pa_cons (pv 0) pa_nil)) pe_int (nomark _)))) pss_nil)
      (pss_cons (ps_if (PW.pt (pw_or (pt_cmpR (notInK (K' := K) rfl) (pe_ix ix_tup (pv 0) pe_int (fun _ _ => rfl)) (pe_tup (pa_cons pe_str (pa_cons pe_str (pa_cons pe_str pa_nil)))) (by rfl)) (pw_or1 (pt_cmpR op_ne (pe_callB call_len_seq rfl T.len PySem.boot_len (pa_cons (pv 0) pa_nil)) pe_int (nomark _))))) (pss_one (ps_ret pe_bl)) pss_nil)
      (pss_one (ps_ret (pe_and (pe_call c_isi.ok (hr.mono (by first | decide | omega)) rfl c_isi.m c_isi.kp c_isi.b .nil pass0 (pa_cons (pe_ix ix_tup (pv 0) pe_int (fun _ _ => rfl)) pa_nil)) (pe_one (pe_cmpR op_ge (pe_ix ix_tup (pv 0) pe_int (fun _ _ => rfl)) (pe_ifExp (pt_cmpR op_eq (pe_ix ix_tup (pv 0) pe_int (fun _ _ => rfl)) pe_str (nomark _)) pe_int pe_int) (nomark _)))))))), ?_⟩)
  rintro ds d - ⟨x, rfl, fh, nl, rfl⟩
  have notup : ∀ n : String, tyD x = n → kitB n "tuple" = some false → ∀ tt : TT, ∀ tr : TS, DR K (tSeq (tIfS (tOr (tNot (tB (tCB (rIsi K) (tCons (tVar 0) (tCons (tC (.ty "tuple")) tNil))))) tt) (tRet (tC (.bl false))) tNext) tr) (List.map some [x] ++ List.replicate (1 - 1) none) (.bool false) := by
    intro n hn hk tt tr
    refine dr_whenT (dt_orT (dt_notT (dt_B (de_isi (de_var (d := x) rfl) (by rw [hn]; exact hk))))) (dr_ret de_bl)
  cases x with
  | none => exact notup "NoneType" rfl (by decide +kernel) _ _
  | bool b => exact notup "bool" rfl (by decide +kernel) _ _
  | int i => exact notup "int" rfl (by decide +kernel) _ _
  | str z => exact notup "str" rfl (by decide +kernel) _ _
  | list l => cases fh
  | dict l => cases fh
  | tuple l =>
    have isT : ∀ ρ : Rho, ∀ l : List PyData, ρ[0]? = some (some (.tuple l)) → DE K (tCB (rIsi K) (tCons (tVar 0) (tCons (tC (.ty "tuple")) tNil))) ρ (.bool true) := fun ρ l h => de_isi (de_var h) (show kitB "tuple" "tuple" = some true by decide +kernel)
    cases l with
    | nil => exact dr_whenT (dt_orF (dt_notF (dt_B (isT _ _ rfl))) (dt_notT (dt_truT (ds := []) (de_var rfl)))) (dr_ret de_bl)
    | cons h r =>
      refine dr_whenF (dt_orF (dt_notF (dt_B (isT _ _ rfl))) (dt_notF (dt_truT (ds := h :: r) (de_var rfl)))) ?_
      have fl : flatD h = true := fh
      have hd0 : atI (h :: r) 0 = some h := atI_nat (xs := h :: r) (j := 0) rfl
      have H0 : DE K (tOp (rIxT K) (tVar 0) (tC (.int 0))) (List.map some [PyData.tuple (h :: r)] ++ List.replicate (1 - 1) none) h := de_ix (de_var rfl) de_int hd0
      have LEN : ∀ {q : List V → Hp → VK → Prop}, (∀ p ys H (Q : VK), SqT K H p ys → Q (.int ys.length) H → q [.ref p] H Q) → DE K (tCB q (tCons (tVar 0) tNil)) (List.map some [PyData.tuple (h :: r)] ++ List.replicate (1 - 1) none) (.int ((h :: r).length : Int)) := fun hq => de_lenT hq (de_var rfl)
      have IN : DE K (tTup (tCons (tC (.str "keep")) (tCons (tC (.str "restore")) (tCons (tC (.str "advance")) tNil)))) (List.map some [PyData.tuple (h :: r)] ++ List.replicate (1 - 1) none) (.tuple [.str "keep", .str "restore", .str "advance"]) := de_tup (da_cons de_str (da_cons de_str (da_one de_str)))
      by_cases ct : isStr h "turn" = true
      · -- turn
        obtain rfl : h = .str "turn" := by
          cases h with
          | str z => exact congrArg PyData.str (of_decide_eq_true ct)
          | none => cases ct
          | bool b => cases ct
          | int i => cases ct
          | tuple l => cases ct
          | list l => cases ct
          | dict l => cases ct
        refine dr_whenT (dt_test (ct ▸ de_eqX H0 de_str fl)) (dr_ret ?_)
        have e : (act? (.tuple (PyData.str "turn" :: r))).isSome = decide ((((PyData.str "turn" :: r).length : Nat) : Int) = 1) := by
          rcases r with _ | ⟨y, r⟩
          · rfl
          · have : ¬ ((((PyData.str "turn" :: y :: r).length : Nat) : Int) = 1) := by simp; omega
            rw [decide_eq_false this]
            rcases r with _ | ⟨y2, r⟩
            · cases y <;> rfl
            · cases y <;> rfl
        rw [e]
        exact de_eqI (LEN (fun p ys H Q h q => ⟨p, ys, rfl, .inr h, q⟩)) de_int
      · refine dr_whenF (dt_test ((Bool.eq_false_iff.mpr ct) ▸ de_eqX H0 de_str fl)) ?_
        by_cases ci : inStr h ["keep", "restore", "advance"] = true
        · obtain ⟨z, rfl, hz⟩ : ∃ z, h = .str z ∧ z ∈ (["keep", "restore", "advance"] : List Str) := by
            cases h with
            | str z => exact ⟨z, rfl, of_decide_eq_true ci⟩
            | none => cases ci
            | bool b => cases ci
            | int i => cases ci
            | tuple l => cases ci
            | list l => cases ci
            | dict l => cases ci
          have NI : DT K (tTest (tOp (rIn K true) (tOp (rIxT K) (tVar 0) (tC (.int 0))) (tTup (tCons (tC (.str "keep")) (tCons (tC (.str "restore")) (tCons (tC (.str "advance")) tNil)))))) (List.map some [PyData.tuple (.str z :: r)] ++ List.replicate (1 - 1) none) false := by
            have := de_ninX (K := K) H0 IN (zs := ["keep", "restore", "advance"]) rfl fl
            rw [ci] at this
            exact dt_test this
          rcases r with _ | ⟨y, r⟩
          · refine dr_whenT (dt_orF NI (dt_test (b := true) (de_neI (K := K) (LEN (fun p ys H Q h q => ⟨p, ys, rfl, .inr h, q⟩)) (de_int (i := 2))))) ?_
            · have e : (act? (.tuple [PyData.str z])).isSome = false := by
                have : ¬ z = "turn" := fun q => ct (by rw [q]; rfl)
                show (if z = "turn" then some Act.turn else none).isSome = false
                rw [if_neg this]
                rfl
              rw [e]
              exact dr_ret de_bl
          rcases r with _ | ⟨y2, r⟩
          · -- two parts
            refine dr_whenF (dt_orF NI (dt_test (b := false) (de_neI (K := K) (LEN (fun p ys H Q h q => ⟨p, ys, rfl, .inr h, q⟩)) (de_int (i := 2))))) ?_
            have H1 : DE K (tOp (rIxT K) (tVar 0) (tC (.int 1))) (List.map some [PyData.tuple [.str z, y]] ++ List.replicate (1 - 1) none) y := de_ix (de_var rfl) de_int rfl
            obtain ⟨n1, n2⟩ := nl _ _ _ rfl
            have ISI := de_call (K := K) (E := fun _ _ _ => False) (da_one H1) (pv_isi n1 n2)
            have zt : ¬ z = "turn" := fun q => ct (by rw [q]; rfl)
            cases y with
            | int n =>
              have e : (act? (.tuple [PyData.str z, .int n])).isSome = decide ((if z = "advance" then (1 : Int) else 0) ≤ n) := by
                show (if z = "advance" then (if 1 ≤ n then some (Act.advance n) else none) else if z = "keep" then (if 0 ≤ n then some (.keep n) else none) else if z = "restore" then (if 0 ≤ n then some (.restore n) else none) else none).isSome = _
                by_cases c1 : z = "advance"
                · rw [if_pos c1, if_pos c1]
                  by_cases c2 : 1 ≤ n
                  · rw [if_pos c2, decide_eq_true c2]; rfl
                  · rw [if_neg c2, decide_eq_false c2]; rfl
                · rw [if_neg c1, if_neg c1]
                  by_cases c3 : z = "keep"
                  · rw [if_pos c3]
                    by_cases c2 : 0 ≤ n
                    · rw [if_pos c2, decide_eq_true c2]; rfl
                    · rw [if_neg c2, decide_eq_false c2]; rfl
                  · rw [if_neg c3]
                    have c4 : z = "restore" := by
                      rcases List.mem_cons.mp hz with h | h
                      · exact absurd h c3
                      · rcases List.mem_cons.mp h with h | h
                        · exact h
                        · exact absurd (List.mem_singleton.mp h) c1
                    rw [if_pos c4]
                    by_cases c2 : 0 ≤ n
                    · rw [if_pos c2, decide_eq_true c2]; rfl
                    · rw [if_neg c2, decide_eq_false c2]; rfl
              rw [e]
              refine dr_ret (de_andT ISI ?_)
              refine de_cmpI (p := fun i j => decide (j ≤ i)) H1 ?_
              by_cases c1 : z = "advance"
              · rw [if_pos c1]
                refine de_ifT (dt_test ?_) de_int
                have := de_eqX (K := K) H0 (de_str (z := "advance")) fl
                rw [show isStr (.str z) "advance" = true from decide_eq_true c1] at this
                exact this
              · rw [if_neg c1]
                refine de_ifF (dt_test ?_) de_int
                have := de_eqX (K := K) H0 (de_str (z := "advance")) fl
                rw [show isStr (.str z) "advance" = false from decide_eq_false c1] at this
                exact this
            | none => exact dr_ret (de_andF ISI)
            | bool b => exact dr_ret (de_andF ISI)
            | str s => exact dr_ret (de_andF ISI)
            | tuple l => exact dr_ret (de_andF ISI)
            | list l => exact absurd rfl (n1 l)
            | dict l => exact absurd rfl (n2 l)
          · -- three parts and more
            have e : (act? (.tuple (PyData.str z :: y :: y2 :: r))).isSome = false := by cases y <;> rfl
            rw [e]
            refine dr_whenT (dt_orF NI (dt_test (b := true) ?_)) (dr_ret de_bl)
            refine de_of ?_ (de_neI (K := K) (LEN (fun p ys H Q h q => ⟨p, ys, rfl, .inr h, q⟩)) (de_int (i := 2)))
            have : ¬ ((((PyData.str z :: y :: y2 :: r).length : Nat) : Int) = 2) := by simp; omega
            rw [decide_eq_false this]
            rfl
        · have NI : DT K (tTest (tOp (rIn K true) (tOp (rIxT K) (tVar 0) (tC (.int 0))) (tTup (tCons (tC (.str "keep")) (tCons (tC (.str "restore")) (tCons (tC (.str "advance")) tNil)))))) (List.map some [PyData.tuple (h :: r)] ++ List.replicate (1 - 1) none) true := by
            have := de_ninX (K := K) H0 IN (zs := ["keep", "restore", "advance"]) rfl fl
            rw [Bool.eq_false_iff.mpr ci] at this
            exact dt_test this
          have e : (act? (.tuple (h :: r))).isSome = false := by
            cases h with
            | str z =>
              have zt : ¬ z = "turn" := fun q => ct (by rw [q]; rfl)
              have zi : ¬ z ∈ (["keep", "restore", "advance"] : List Str) := fun q => ci (decide_eq_true q)
              rcases r with _ | ⟨y, r⟩
              · show (if z = "turn" then some Act.turn else none).isSome = false
                rw [if_neg zt]; rfl
              rcases r with _ | ⟨y2, r⟩
              · cases y with
                | int n =>
                  show (if z = "advance" then (if 1 ≤ n then some (Act.advance n) else none) else if z = "keep" then (if 0 ≤ n then some (.keep n) else none) else if z = "restore" then (if 0 ≤ n then some (.restore n) else none) else none).isSome = _
                  rw [if_neg (fun q => zi (by rw [q]; simp)), if_neg (fun q => zi (by rw [q]; simp)), if_neg (fun q => zi (by rw [q]; simp))]
                  rfl
                | none => rfl
                | bool b => rfl
                | str s => rfl
                | tuple l => rfl
                | list l => rfl
                | dict l => rfl
              · cases y <;> rfl
            | none => rcases r with _ | ⟨y, _ | ⟨y2, r⟩⟩ <;> first | rfl | (cases y <;> rfl)
            | bool b => rcases r with _ | ⟨y, _ | ⟨y2, r⟩⟩ <;> first | rfl | (cases y <;> rfl)
            | int i => rcases r with _ | ⟨y, _ | ⟨y2, r⟩⟩ <;> first | rfl | (cases y <;> rfl)
            | tuple l => cases fl
            | list l => cases fl
            | dict l => cases fl
          rw [e]
          exact dr_whenT (dt_orT NI) (dr_ret de_bl)
end
end Sd

/-! ## the judge's object -/
namespace Sd
open PySem L2 Tr Pu PyProof.Rows
structure JS where
  front : Int
  slots : Int
  pos : Option Int
  kvs : List (Key × V)
  cost : Int
def posV : Option Int → V
  | none => .non
  | some i => .int i
def jf (front slots : Int) (pos : V) (d : Addr) (cost : Int) : List (Str × V) := [("front", .int front), ("slots", .int slots), ("position", pos), ("kept", .ref d), ("cost", .int cost)]
structure JAt (C : Addr) (H : Hp) (p d : Addr) (j : JS) : Prop where
  ob : ∃ dx, H p = some (.ins C dx (jf j.front j.slots (posV j.pos) d j.cost))
  dc : H d = some (.dK j.kvs)
theorem JAt.next {C : Addr} {H H' : Hp} {p d : Addr} {j : JS} (h : JAt C H p d j) (s : Same H H') : JAt C H' p d j := by
  obtain ⟨dx, e⟩ := h.ob
  exact ⟨⟨dx, s _ _ e⟩, s _ _ h.dc⟩
def reasonA (j : JS) : Act → Option Str
  | .keep s => if j.slots ≤ s then some "slot" else (match j.pos with | none => some "nowhere" | some _ => none)
  | .restore s => if j.slots ≤ s then some "slot" else if (valV j.kvs (Sum.inl s : Key)).isSome = true then none else some "empty"
  | .advance n => match j.pos with | none => some "nowhere" | some p => if j.front ≤ p + n then some "beyond" else none
  | .turn => match j.pos with | none => some "nowhere" | some p => if p = j.front - 1 then none else some "turn"
def reason (j : JS) (x : PyData) : Option Str :=
  match act? x with
  | none => some "form"
  | some a => if j.front = 0 then some "done" else reasonA j a
theorem rea_none {j : JS} {x : PyData} (h : act? x = none) : reason j x = some ("form" : Str) := by unfold reason; rw [h]
theorem rea_done {j : JS} {x : PyData} {a : Act} (h : act? x = some a) (h0 : j.front = 0) : reason j x = some ("done" : Str) := by unfold reason; rw [h]; exact if_pos h0
theorem rea_act {j : JS} {x : PyData} {a : Act} (h : act? x = some a) (h0 : ¬ j.front = 0) : reason j x = reasonA j a := by unfold reason; rw [h]; exact if_neg h0
def follow (j : JS) : Act → JS
  | .keep s => { j with kvs := putK j.kvs (Sum.inl s : Key) (posV j.pos) }
  | .restore s => { j with pos := match valV j.kvs (Sum.inl s : Key) with | some (.int i) => some i | _ => none }
  | .advance n => match j.pos with | some p => { j with pos := some (p + n), cost := j.cost + n } | none => j
  | .turn => { j with pos := none, front := j.front - 1 }
/-- the kept positions are whole numbers -/
def KI (j : JS) : Prop := ∀ k v, valV j.kvs k = some v → ∃ i, v = .int i
def reaV : Option Str → V
  | none => .non
  | some r => .str r
structure JTxt (K : PySem.W.Frag) (C : Addr) : Prop where
  cl : Cls K C
  nF : NoAttr K C "front"
  nS : NoAttr K C "slots"
  nP : NoAttr K C "position"
  nK : NoAttr K C "kept"
  nC : NoAttr K C "cost"
def spJin (CJ : Addr) : Sp := fun vs H Q _ => ∃ (p dx : Addr) (b s : Int), vs = [.ref p, .int b, .int s] ∧ H p = some (.ins CJ dx []) ∧
  ∀ d H', H d = none → d ≠ p → JAt CJ H' p d ⟨b, s, some 0, [], 0⟩ → (∀ c o, H c = some o → c ≠ p → H' c = some o) → Q .non H'
def spFind (K : PySem.W.Frag) (CJ : Addr) : Sp := fun vs H Q _ => ∃ (p d : Addr) (j : JS) (x : PyData) (v : V), vs = [.ref p, v] ∧ JAt CJ H p d j ∧ Tv K H x v ∧ flatHead x = true ∧
  ∀ H', Same H H' → Q (reaV (reason j x)) H'
def spFol (K : PySem.W.Frag) (CJ : Addr) : Sp := fun vs H Q _ => ∃ (p d : Addr) (j : JS) (x : PyData) (v : V) (a : Act), vs = [.ref p, v] ∧ JAt CJ H p d j ∧ p ≠ d ∧ Tv K H x v ∧ act? x = some a ∧ reason j x = none ∧ KI j ∧ j.kvs.length ≤ 5000 ∧
  ∀ H', JAt CJ H' p d (follow j a) → (∀ c o, H c = some o → c ≠ p → c ≠ d → H' c = some o) → Q .non H'
def Act.ok : Act → Prop
  | .keep s => 0 ≤ s | .restore s => 0 ≤ s | .advance n => 1 ≤ n | .turn => True
theorem act_2 {z : Str} {n : Int} {a : Act} (h : act? (.tuple [.str z, .int n]) = some a) : PyData.tuple [.str z, .int n] = a.enc ∧ a.ok := by
  have h' : (if z = "advance" then (if 1 ≤ n then some (Act.advance n) else none) else if z = "keep" then (if 0 ≤ n then some (.keep n) else none) else if z = "restore" then (if 0 ≤ n then some (.restore n) else none) else none) = some a := h
  by_cases c1 : z = "advance"
  · rw [if_pos c1] at h'
    by_cases c2 : 1 ≤ n
    · rw [if_pos c2] at h'
      cases Option.some.inj h'
      subst c1
      exact ⟨rfl, c2⟩
    · rw [if_neg c2] at h'
      cases h'
  rw [if_neg c1] at h'
  by_cases c3 : z = "keep"
  · rw [if_pos c3] at h'
    by_cases c2 : 0 ≤ n
    · rw [if_pos c2] at h'
      cases Option.some.inj h'
      subst c3
      exact ⟨rfl, c2⟩
    · rw [if_neg c2] at h'
      cases h'
  rw [if_neg c3] at h'
  by_cases c4 : z = "restore"
  · rw [if_pos c4] at h'
    by_cases c2 : 0 ≤ n
    · rw [if_pos c2] at h'
      cases Option.some.inj h'
      subst c4
      exact ⟨rfl, c2⟩
    · rw [if_neg c2] at h'
      cases h'
  · rw [if_neg c4] at h'
    cases h'
theorem act_1 {z : Str} {a : Act} (h : act? (.tuple [.str z]) = some a) : PyData.tuple [.str z] = a.enc ∧ a.ok := by
  have h' : (if z = "turn" then some Act.turn else none) = some a := h
  by_cases c1 : z = "turn"
  · rw [if_pos c1] at h'
    cases Option.some.inj h'
    subst c1
    exact ⟨rfl, trivial⟩
  · rw [if_neg c1] at h'
    cases h'
theorem act_some {x : PyData} {a : Act} (h : act? x = some a) : x = a.enc ∧ a.ok := by
  cases x with
  | tuple l =>
    rcases l with _ | ⟨u, _ | ⟨y, _ | ⟨y2, r⟩⟩⟩
    · cases h
    · cases u with
      | str z => exact act_1 h
      | none => cases h
      | bool b => cases h
      | int i => cases h
      | tuple l => cases h
      | list l => cases h
      | dict l => cases h
    · cases u with
      | str z =>
        cases y with
        | int n => exact act_2 h
        | none => cases h
        | bool b => cases h
        | str i => cases h
        | tuple l => cases h
        | list l => cases h
        | dict l => cases h
      | none => cases h
      | bool b => cases h
      | int i => cases h
      | tuple l => cases h
      | list l => cases h
      | dict l => cases h
    · cases u with
      | str z => cases y <;> cases h
      | none => cases h
      | bool b => cases h
      | int i => cases h
      | tuple l => cases h
      | list l => cases h
      | dict l => cases h
  | none => cases h
  | bool b => cases h
  | int i => cases h
  | str l => cases h
  | list l => cases h
  | dict l => cases h
theorem tv_items {K : PySem.W.Frag} {H : Hp} {ds : List PyData} {v : V} (h : Tv K H (.tuple ds) v) : ∀ y ∈ ds, (∀ l, y ≠ .list l) ∧ ∀ l, y ≠ .dict l := by
  obtain ⟨a, xs, rfl, _, l⟩ := h
  intro y hy
  obtain ⟨i, hi⟩ := List.getElem?_of_mem hy
  obtain ⟨x, _, hx⟩ := tvl_get l hi
  exact tv_nolist hx
abbrev sJin : Stmt := inClass (top 12) 0
abbrev sFind : Stmt := inClass (top 12) 1
abbrev sFol : Stmt := inClass (top 12) 2
section
variable {P : Program} {w : World} {K : PySem.W.Frag} {mg : Str → Option Value} {base : Heap} {CJ : Addr}
theorem scJin : FnScope ["self", "beats", "slots"] ["self", "beats", "slots"] (defScope sJin) := ⟨rfl, rfl, rfl, by decide +kernel, rfl, by decide +kernel, by decide +kernel⟩
theorem ok_jin {f : Addr} {fd : FuncData} (F : Fun K "__init__" "Judge.__init__" sJin f fd) (T : JTxt K CJ) : FnOk P w K mg base CX0 1 f fd ["self", "beats", "slots"] (spJin CJ) := by
  refine F.ok scJin (fun vs H Q E h => ?_) (fun cdv A outer s H vs Q E hr h => ?_)
  · obtain ⟨p, dx, b, s, rfl, _⟩ := h
    rfl
  · obtain ⟨p, dx, b, s, rfl, hp, q⟩ := h
    refine ⟨_, pss_cons (ps_fld (pv 0) (pv 1) rfl)
      (pss_cons (ps_fld (pv 0) (pv 2) rfl)
      (pss_cons (ps_fld (pv 0) pe_int rfl)
      (pss_cons (ps_fld (pv 0) pe_dnewK rfl)
      (pss_one (ps_fld (pv 0) pe_int rfl))))), ?_⟩
    refine ⟨_, rfl, _, rfl, p, CJ, dx, _, rfl, hp, T.cl, T.nF, (by show 0 < 1000; decide), ?_⟩
    refine ⟨_, rfl, _, rfl, p, CJ, dx, _, rfl, upd_same, T.cl, T.nS, (by show 1 < 1000; decide), ?_⟩
    refine ⟨_, rfl, p, CJ, dx, _, rfl, upd_same, T.cl, T.nP, (by show 2 < 1000; decide), ?_⟩
    rw [upd_upd, upd_upd]
    intro d hd
    have nd : d ≠ p := fun z => by rw [z, upd_same] at hd; cases hd
    have hd0 : H d = none := by rw [upd_ne nd] at hd; exact hd
    refine ⟨_, rfl, p, CJ, dx, _, rfl, (by rw [upd_ne nd.symm]; exact upd_same), T.cl, T.nK, (by show 3 < 1000; decide), ?_⟩
    refine ⟨_, rfl, p, CJ, dx, _, rfl, upd_same, T.cl, T.nC, (by show 4 < 1000; decide), ?_⟩
    rw [upd_upd]
    refine q d _ hd0 nd ⟨⟨dx, upd_same⟩, ?_⟩ (fun c o e hc => ?_)
    · rw [upd_ne nd, upd_same]
    · rw [upd_ne hc, upd_ne (ne_of_none e hd0), upd_ne hc]
      exact e
theorem scFind : FnScope ["self", "action", "head"] ["self", "action"] (defScope sFind) := ⟨rfl, rfl, rfl, by decide +kernel, rfl, by decide +kernel, by decide +kernel⟩
theorem ok_find {f : Addr} {fd : FuncData} (F : Fun K "find_reason" "Judge.find_reason" sFind f fd) (T : JTxt K CJ) (c_act : Cal P w K mg base CX0 2 "is_action" ["value"] (spP K 1 dAct)) : FnOk P w K mg base CX0 3 f fd ["self", "action"] (spFind K CJ) := by
  refine F.ok scFind (fun vs H Q E h => ?_) (fun cdv A outer s H vs Q E hr h => ?_)
  · obtain ⟨p, d, j, x, v, rfl, _⟩ := h
    rfl
  · obtain ⟨p, d, j, x, v, rfl, hj, tx, fh, q⟩ := h
    have nd := scFind.nd
    refine ⟨_, pss_cons (ps_if (pt_not (pt_val (pe_call c_act.ok (hr.mono (by first | decide | omega)) rfl c_act.m c_act.kp c_act.b .nil pass0 (pa_cons (pv 1) pa_nil)))) (pss_one (ps_ret pe_str)) pss_nil)
      (pss_cons (ps_if (pt_cmpR op_eq (pe_fld (pv 0) rfl) pe_int (nomark _)) (pss_one (ps_ret pe_str)) pss_nil)
      (pss_cons (ps_set (i := 2) nd rfl (.inl rfl) (pe_ix ix_tup (pv 1) pe_int (fun _ _ => rfl)))
      (pss_cons (ps_if (PW.pt (pw_and (pt_cmpR (inK (K' := K) rfl) (pv 2) (pe_tup (pa_cons pe_str (pa_cons pe_str pa_nil))) (by rfl)) (pw_and1 (pt_cmpR op_ge (pe_ix ix_tup (pv 1) pe_int (fun _ _ => rfl)) (pe_fld (pv 0) rfl) (nomark _))))) (pss_one (ps_ret pe_str)) pss_nil)
      (pss_cons (ps_if (pt_cmpR op_eq (pv 2) pe_str (nomark _)) (pss_one (ps_ret (pe_ifExp (pt_cmp (pc_din (hu_of hr) (pe_ix ix_tup (pv 1) pe_int (fun _ _ => rfl)) (pe_fld (pv 0) rfl))) pe_non pe_str))) pss_nil)
      (pss_cons (ps_if (pt_cmpR op_isN (pe_fld (pv 0) rfl) pe_non (nomark _)) (pss_one (ps_ret pe_str)) pss_nil)
      (pss_cons (ps_if (PW.pt (pw_and (pt_cmpR op_eq (pv 2) pe_str (nomark _)) (pw_and1 (pt_cmpR op_ge (pe_op op_add (pe_fld (pv 0) rfl) (pe_ix ix_tup (pv 1) pe_int (fun _ _ => rfl))) (pe_fld (pv 0) rfl) (nomark _))))) (pss_one (ps_ret pe_str)) pss_nil)
      (pss_cons (ps_if (PW.pt (pw_and (pt_cmpR op_eq (pv 2) pe_str (nomark _)) (pw_and1 (pt_cmpR op_ne (pe_fld (pv 0) rfl) (pe_op op_sub (pe_fld (pv 0) rfl) pe_int) (nomark _))))) (pss_one (ps_ret pe_str)) pss_nil)
      (pss_one (ps_ret pe_non))))))))), ?_⟩
    refine ⟨_, rfl, [x], _, rfl, ⟨_, _, rfl, tx, rfl⟩, ⟨x, rfl, fh, fun h y r e => by subst e; exact tv_items tx y (by simp), rfl⟩, fun u H1 s1 tu => ?_⟩
    cases tu
    refine ⟨_, rfl, ?_⟩
    cases ha : act? x with
    | none =>
      refine iteT' rfl ?_
      rw [rea_none ha] at q
      exact q H1 s1
    | some a =>
      refine iteF' rfl ?_
      obtain ⟨dx, ej⟩ := (hj.next s1).ob
      have ek := (hj.next s1).dc
      have tx1 := tx.carry (same_carry s1)
      obtain ⟨rfl, hok⟩ := act_some ha
      refine ⟨_, rfl, p, CJ, dx, _, _, rfl, ej, T.cl, T.nF, rfl, rfl, _, rfl, ?_⟩
      by_cases c0 : j.front = 0
      · refine iteT' (by simp [c0]) ?_
        rw [rea_done ha c0] at q
        exact q H1 s1
      refine iteF' (by simp [c0]) ?_
      have two : 2 ≤ sizeLine := by decide
      cases a with
      | keep s =>
        obtain ⟨va, xs, rfl, sq, u1, r1, rfl, t1, u2, r2, rfl, t2, rfl⟩ := tx1
        cases t1
        cases t2
        refine ⟨_, rfl, va, _, 0, _, rfl, rfl, sq, rfl, ?_⟩
        refine ⟨_, rfl, two, fun t ht => ⟨t, _, rfl, .inr (SqT.of upd_same), rfl, rfl, _, rfl, ?_⟩⟩
        refine iteT' (by decide +kernel) ?_
        have sm := s1.trans (same_alloc (o := .tup [V.str "keep", V.str "restore"]) ht)
        have ej2 : (upd H1 t (.tup [V.str "keep", V.str "restore"])) p = _ := same_alloc ht _ _ ej
        refine ⟨_, rfl, va, _, 1, _, rfl, rfl, same_carry (same_alloc ht) _ _ sq, rfl, _, rfl, p, CJ, dx, _, _, rfl, ej2, T.cl, T.nS, rfl, _, _, rfl, rfl, _, rfl, ?_⟩
        rw [rea_act ha c0] at q
        have er : reasonA j (Act.keep s) = if j.slots ≤ s then some ("slot" : Str) else (match j.pos with | none => some ("nowhere" : Str) | some _ => none) := rfl
        by_cases c1 : j.slots ≤ s
        · refine iteT' (decide_eq_true c1) ?_
          rw [er, if_pos c1] at q
          exact q _ sm
        refine iteF' (decide_eq_false c1) ?_
        rw [er, if_neg c1] at q
        refine ⟨_, rfl, rfl, _, rfl, iteF' (by decide +kernel) ?_⟩
        refine ⟨_, rfl, p, CJ, dx, _, _, rfl, ej2, T.cl, T.nP, rfl, rfl, _, rfl, ?_⟩
        cases hp : j.pos with
        | none =>
          refine iteT' rfl ?_
          rw [hp] at q
          exact q _ sm
        | some i =>
          refine iteF' rfl ?_
          rw [hp] at q
          refine ⟨_, rfl, rfl, _, rfl, iteF' (by decide +kernel) ?_⟩
          refine iteF ?_
          refine ⟨_, rfl, rfl, _, rfl, iteF' (by decide +kernel) ?_⟩
          refine iteF ?_
          exact q _ sm
      | restore s =>
        obtain ⟨va, xs, rfl, sq, u1, r1, rfl, t1, u2, r2, rfl, t2, rfl⟩ := tx1
        cases t1
        cases t2
        refine ⟨_, rfl, va, _, 0, _, rfl, rfl, sq, rfl, ?_⟩
        refine ⟨_, rfl, two, fun t ht => ⟨t, _, rfl, .inr (SqT.of upd_same), rfl, rfl, _, rfl, ?_⟩⟩
        refine iteT' (by decide +kernel) ?_
        have sm := s1.trans (same_alloc (o := .tup [V.str "keep", V.str "restore"]) ht)
        have ej2 : (upd H1 t (.tup [V.str "keep", V.str "restore"])) p = _ := same_alloc ht _ _ ej
        have ek2 : (upd H1 t (.tup [V.str "keep", V.str "restore"])) d = _ := same_alloc ht _ _ ek
        have sq2 := same_carry (K := K) (same_alloc (o := .tup [V.str "keep", V.str "restore"]) ht) _ _ sq
        refine ⟨_, rfl, va, _, 1, _, rfl, rfl, sq2, rfl, _, rfl, p, CJ, dx, _, _, rfl, ej2, T.cl, T.nS, rfl, _, _, rfl, rfl, _, rfl, ?_⟩
        rw [rea_act ha c0] at q
        have er : reasonA j (Act.restore s) = if j.slots ≤ s then some ("slot" : Str) else if (valV j.kvs (Sum.inl s : Key)).isSome = true then none else some ("empty" : Str) := rfl
        by_cases c1 : j.slots ≤ s
        · refine iteT' (decide_eq_true c1) ?_
          rw [er, if_pos c1] at q
          exact q _ sm
        refine iteF' (decide_eq_false c1) ?_
        rw [er, if_neg c1] at q
        refine ⟨_, rfl, rfl, _, rfl, iteT' (by decide +kernel) ?_⟩
        refine ⟨_, rfl, va, _, 1, _, rfl, rfl, sq2, rfl, _, rfl, p, CJ, dx, _, _, rfl, ej2, T.cl, T.nK, rfl, d, _, rfl, DGet.k (k := Sum.inl s) ek2, _, rfl, ?_⟩
        cases hv : (valV j.kvs (Sum.inl s : Key)).isSome with
        | true =>
          refine iteT' rfl ?_
          rw [hv, if_pos rfl] at q
          exact q _ sm
        | false =>
          refine iteF' rfl ?_
          rw [hv, if_neg Bool.false_ne_true] at q
          exact q _ sm
      | advance n =>
        obtain ⟨va, xs, rfl, sq, u1, r1, rfl, t1, u2, r2, rfl, t2, rfl⟩ := tx1
        cases t1
        cases t2
        refine ⟨_, rfl, va, _, 0, _, rfl, rfl, sq, rfl, ?_⟩
        refine ⟨_, rfl, two, fun t ht => ⟨t, _, rfl, .inr (SqT.of upd_same), rfl, rfl, _, rfl, ?_⟩⟩
        refine iteF' (by decide +kernel) ?_
        have sm := s1.trans (same_alloc (o := .tup [V.str "keep", V.str "restore"]) ht)
        have ej2 : (upd H1 t (.tup [V.str "keep", V.str "restore"])) p = _ := same_alloc ht _ _ ej
        have sq2 := same_carry (K := K) (same_alloc (o := .tup [V.str "keep", V.str "restore"]) ht) _ _ sq
        refine iteF ?_
        rw [rea_act ha c0] at q
        refine ⟨_, rfl, rfl, _, rfl, iteF' (by decide +kernel) ?_⟩
        refine ⟨_, rfl, p, CJ, dx, _, _, rfl, ej2, T.cl, T.nP, rfl, rfl, _, rfl, ?_⟩
        have er : reasonA j (Act.advance n) = match j.pos with | none => some ("nowhere" : Str) | some p => if j.front ≤ p + n then some ("beyond" : Str) else none := rfl
        rw [er] at q
        cases hp : j.pos with
        | none =>
          refine iteT' rfl ?_
          rw [hp] at q
          exact q _ sm
        | some i =>
          refine iteF' rfl ?_
          rw [hp] at q ej2
          refine ⟨_, rfl, rfl, _, rfl, iteT' (by decide +kernel) ?_⟩
          refine ⟨_, rfl, p, CJ, dx, _, _, rfl, ej2, T.cl, T.nP, rfl, _, rfl, va, _, 1, _, rfl, rfl, sq2, rfl, _, _, rfl, rfl, _, rfl, p, CJ, dx, _, _, rfl, ej2, T.cl, T.nF, rfl, _, _, rfl, rfl, _, rfl, ?_⟩
          by_cases c1 : j.front ≤ i + n
          · refine iteT' (decide_eq_true c1) ?_
            have q' := q _ sm
            rw [show (match some i with | none => some ("nowhere" : Str) | some p => if j.front ≤ p + n then some ("beyond" : Str) else none) = some ("beyond" : Str) from if_pos c1] at q'
            exact q'
          · refine iteF' (decide_eq_false c1) ?_
            refine ⟨_, rfl, rfl, _, rfl, iteF' (by decide +kernel) ?_⟩
            refine iteF ?_
            have q' := q _ sm
            rw [show (match some i with | none => some ("nowhere" : Str) | some p => if j.front ≤ p + n then some ("beyond" : Str) else none) = none from if_neg c1] at q'
            exact q'
      | turn =>
        obtain ⟨va, xs, rfl, sq, u1, r1, rfl, t1, rfl⟩ := tx1
        cases t1
        refine ⟨_, rfl, va, _, 0, _, rfl, rfl, sq, rfl, ?_⟩
        refine ⟨_, rfl, two, fun t ht => ⟨t, _, rfl, .inr (SqT.of upd_same), rfl, rfl, _, rfl, ?_⟩⟩
        refine iteF' (by decide +kernel) ?_
        have sm := s1.trans (same_alloc (o := .tup [V.str "keep", V.str "restore"]) ht)
        have ej2 : (upd H1 t (.tup [V.str "keep", V.str "restore"])) p = _ := same_alloc ht _ _ ej
        refine iteF ?_
        rw [rea_act ha c0] at q
        refine ⟨_, rfl, rfl, _, rfl, iteF' (by decide +kernel) ?_⟩
        refine ⟨_, rfl, p, CJ, dx, _, _, rfl, ej2, T.cl, T.nP, rfl, rfl, _, rfl, ?_⟩
        have er : reasonA j Act.turn = match j.pos with | none => some ("nowhere" : Str) | some p => if p = j.front - 1 then none else some ("turn" : Str) := rfl
        rw [er] at q
        cases hp : j.pos with
        | none =>
          refine iteT' rfl ?_
          rw [hp] at q
          exact q _ sm
        | some i =>
          refine iteF' rfl ?_
          rw [hp] at q ej2
          refine ⟨_, rfl, rfl, _, rfl, iteF' (by decide +kernel) ?_⟩
          refine iteF ?_
          refine ⟨_, rfl, rfl, _, rfl, iteT' (by decide +kernel) ?_⟩
          refine ⟨_, rfl, p, CJ, dx, _, _, rfl, ej2, T.cl, T.nP, rfl, _, rfl, p, CJ, dx, _, _, rfl, ej2, T.cl, T.nF, rfl, _, _, rfl, rfl, rfl, _, rfl, ?_⟩
          by_cases c1 : i = j.front - 1
          · refine iteF' (by simp [posV, c1]) ?_
            have q' := q _ sm
            rw [show (match some i with | none => some ("nowhere" : Str) | some p => if p = j.front - 1 then none else some ("turn" : Str)) = none from if_pos c1] at q'
            exact q'
          · refine iteT' (by simp [posV, c1]) ?_
            have q' := q _ sm
            rw [show (match some i with | none => some ("nowhere" : Str) | some p => if p = j.front - 1 then none else some ("turn" : Str)) = some ("turn" : Str) from if_neg c1] at q'
            exact q'
theorem scFol : FnScope ["self", "action", "head"] ["self", "action"] (defScope sFol) := ⟨rfl, rfl, rfl, by decide +kernel, rfl, by decide +kernel, by decide +kernel⟩
theorem ok_fol {f : Addr} {fd : FuncData} (F : Fun K "follow" "Judge.follow" sFol f fd) (T : JTxt K CJ) : FnOk P w K mg base CX0 1 f fd ["self", "action"] (spFol K CJ) := by
  refine F.ok scFol (fun vs H Q E h => ?_) (fun cdv A outer s H vs Q E hr h => ?_)
  · obtain ⟨p, d, j, x, v, a, rfl, _⟩ := h
    rfl
  · obtain ⟨p, d, j, x, v, a, rfl, hj, npd, tx, ha, hrs, ki, hl, q⟩ := h
    have nd := scFol.nd
    obtain ⟨dx, ej⟩ := hj.ob
    have ek := hj.dc
    obtain ⟨rfl, hok⟩ := act_some ha
    have c0 : ¬ j.front = 0 := fun z => by rw [rea_done ha z] at hrs; cases hrs
    rw [rea_act ha c0] at hrs
    refine ⟨_, pss_cons (ps_set (i := 2) nd rfl (.inl rfl) (pe_ix ix_tup (pv 1) pe_int (fun _ _ => rfl)))
      (pss_one (ps_if (pt_cmpR op_eq (pv 2) pe_str (nomark _)) (pss_one (ps_dput (hu_of hr) (pe_fld (pv 0) rfl) (pe_ix ix_tup (pv 1) pe_int (fun _ _ => rfl)) (pe_fld (pv 0) rfl) rfl)) (pss_one (ps_if (pt_cmpR op_eq (pv 2) pe_str (nomark _)) (pss_one (ps_fld (pv 0) (pe_dget (hu_of hr) (pe_fld (pv 0) rfl) (pe_ix ix_tup (pv 1) pe_int (fun _ _ => rfl)) (fun _ _ => rfl)) rfl)) (pss_one (ps_if (pt_cmpR op_eq (pv 2) pe_str (nomark _)) (pss_cons (ps_fldaug (pv 0) (pe_ix ix_tup (pv 1) pe_int (fun _ _ => rfl)) in_add)
      (pss_one (ps_fldaug (pv 0) (pe_ix ix_tup (pv 1) pe_int (fun _ _ => rfl)) in_add))) (pss_cons (ps_fld (pv 0) pe_non rfl)
      (pss_one (ps_fldaug (pv 0) pe_int in_sub))))))))), ?_⟩
    cases a with
    | keep s =>
      obtain ⟨va, xs, rfl, sq, u1, r1, rfl, t1, u2, r2, rfl, t2, rfl⟩ := tx
      cases t1
      cases t2
      refine ⟨_, rfl, va, _, 0, _, rfl, rfl, sq, rfl, ?_⟩
      refine ⟨_, rfl, rfl, _, rfl, iteT' (by decide +kernel) ?_⟩
      refine ⟨_, rfl, p, CJ, dx, _, _, rfl, ej, T.cl, T.nP, rfl, _, rfl, p, CJ, dx, _, _, rfl, ej, T.cl, T.nK, rfl, _, rfl, va, _, 1, _, rfl, rfl, sq, rfl, d, _, rfl, DPut.k (k := Sum.inl s) ek (Nat.lt_of_le_of_lt hl (by decide)), ?_⟩
      refine q _ ⟨⟨dx, ?_⟩, upd_same⟩ (fun c o e h1 h2 => by rw [upd_ne h2]; exact e)
      rw [upd_ne npd]
      exact ej
    | restore s =>
      obtain ⟨va, xs, rfl, sq, u1, r1, rfl, t1, u2, r2, rfl, t2, rfl⟩ := tx
      cases t1
      cases t2
      have hv : ∃ i, valV j.kvs (Sum.inl s : Key) = some (.int i) := by
        have er : reasonA j (Act.restore s) = if j.slots ≤ s then some ("slot" : Str) else if (valV j.kvs (Sum.inl s : Key)).isSome = true then none else some ("empty" : Str) := rfl
        rw [er] at hrs
        split at hrs
        · cases hrs
        · split at hrs
          · rename_i hs
            obtain ⟨v, hv⟩ := Option.isSome_iff_exists.mp hs
            obtain ⟨i, rfl⟩ := ki _ _ hv
            exact ⟨i, hv⟩
          · cases hrs
      obtain ⟨i, hv⟩ := hv
      refine ⟨_, rfl, va, _, 0, _, rfl, rfl, sq, rfl, ?_⟩
      refine ⟨_, rfl, rfl, _, rfl, iteF' (by decide +kernel) ?_⟩
      refine ⟨_, rfl, rfl, _, rfl, iteT' (by decide +kernel) ?_⟩
      refine ⟨_, rfl, p, CJ, dx, _, _, rfl, ej, T.cl, T.nK, rfl, _, rfl, va, _, 1, _, rfl, rfl, sq, rfl, d, .int i, rfl, hv ▸ DGet.k (k := Sum.inl s) ek, ?_⟩
      refine ⟨_, rfl, p, CJ, dx, _, rfl, ej, T.cl, T.nP, (by show 5 < 1000; decide), ?_⟩
      have ef : follow j (.restore s) = { j with pos := some i } := by
        show { j with pos := match valV j.kvs (Sum.inl s : Key) with | some (.int i) => some i | _ => none } = _
        rw [hv]
      refine q _ ⟨⟨dx, ?_⟩, ?_⟩ (fun c o e h1 h2 => by rw [upd_ne h1]; exact e)
      · rw [upd_same, ef]
        rfl
      · rw [upd_ne npd.symm, ef]
        exact ek
    | advance n =>
      obtain ⟨va, xs, rfl, sq, u1, r1, rfl, t1, u2, r2, rfl, t2, rfl⟩ := tx
      cases t1
      cases t2
      obtain ⟨i, hp⟩ : ∃ i, j.pos = some i := by
        cases hp : j.pos with
        | none =>
          have er : reasonA j (Act.advance n) = match j.pos with | none => some ("nowhere" : Str) | some p => if j.front ≤ p + n then some ("beyond" : Str) else none := rfl
          rw [er, hp] at hrs
          cases hrs
        | some i => exact ⟨i, rfl⟩
      have ef : follow j (.advance n) = { j with pos := some (i + n), cost := j.cost + n } := by
        show (match j.pos with | some p => { j with pos := some (p + n), cost := j.cost + n } | none => j) = _
        rw [hp]
      rw [hp] at ej
      refine ⟨_, rfl, va, _, 0, _, rfl, rfl, sq, rfl, ?_⟩
      refine ⟨_, rfl, rfl, _, rfl, iteF' (by decide +kernel) ?_⟩
      refine ⟨_, rfl, rfl, _, rfl, iteF' (by decide +kernel) ?_⟩
      refine ⟨_, rfl, rfl, _, rfl, iteT' (by decide +kernel) ?_⟩
      have sq2 : SqT K (upd H p (.ins CJ dx (putF "position" (.int (i + n)) (jf j.front j.slots (posV (some i)) d j.cost)))) va [.str "advance", .int n] := by
        rcases sq with (q1 | ⟨o, q1⟩) | q1
        · exact .inl (.inl (by rw [upd_ne (ne_of q1 ej (by intro z; cases z))]; exact q1))
        · exact .inl (.inr ⟨o, by rw [upd_ne (ne_of q1 ej (by intro z; cases z))]; exact q1⟩)
        · exact .inr q1
      refine ⟨_, rfl, p, CJ, dx, _, _, rfl, ej, T.cl, T.nP, rfl, _, rfl, va, _, 1, _, rfl, rfl, sq, rfl, _, _, rfl, rfl, dx, _, ej, (by show 5 < 1000; decide), ?_⟩
      refine ⟨_, rfl, p, CJ, dx, _, _, rfl, upd_same, T.cl, T.nC, rfl, _, rfl, va, _, 1, _, rfl, rfl, sq2, rfl, _, _, rfl, rfl, dx, _, upd_same, (by show 5 < 1000; decide), ?_⟩
      rw [upd_upd]
      refine q _ ⟨⟨dx, ?_⟩, ?_⟩ (fun c o e h1 h2 => by rw [upd_ne h1]; exact e)
      · rw [upd_same, ef]
        rfl
      · rw [upd_ne npd.symm, ef]
        exact ek
    | turn =>
      obtain ⟨va, xs, rfl, sq, u1, r1, rfl, t1, rfl⟩ := tx
      cases t1
      refine ⟨_, rfl, va, _, 0, _, rfl, rfl, sq, rfl, ?_⟩
      refine ⟨_, rfl, rfl, _, rfl, iteF' (by decide +kernel) ?_⟩
      refine ⟨_, rfl, rfl, _, rfl, iteF' (by decide +kernel) ?_⟩
      refine ⟨_, rfl, rfl, _, rfl, iteF' (by decide +kernel) ?_⟩
      refine ⟨_, rfl, p, CJ, dx, _, rfl, ej, T.cl, T.nP, (by show 5 < 1000; decide), ?_⟩
      refine ⟨_, rfl, p, CJ, dx, _, _, rfl, upd_same, T.cl, T.nF, rfl, _, _, rfl, rfl, dx, _, upd_same, (by show 5 < 1000; decide), ?_⟩
      rw [upd_upd]
      refine q _ ⟨⟨dx, ?_⟩, ?_⟩ (fun c o e h1 h2 => by rw [upd_ne h1]; exact e)
      · rw [upd_same]
        rfl
      · rw [upd_ne npd.symm]
        exact ek
end
end Sd

/-! ## judge -/
namespace Sd
open PySem L2 Tr Pu PyProof.Rows
/-- an action that is right where it stands, followed -/
def stepJ (j : JS) (x : PyData) : Option JS :=
  match reason j x with
  | some _ => none
  | none => match act? x with
    | some a => some (follow j a)
    | none => none
def runJ (j : JS) : List PyData → Option JS
  | [] => some j
  | x :: r => match stepJ j x with
    | some j' => runJ j' r
    | none => none
theorem runJ_app (j : JS) (l : List PyData) (x : PyData) {j' : JS} (h : runJ j l = some j') : runJ j (l ++ [x]) = stepJ j' x := by
  induction l generalizing j with
  | nil =>
    have e : j = j' := Option.some.inj h
    subst e
    show (match stepJ j x with | some j' => some j' | none => none) = _
    cases stepJ j x <;> rfl
  | cons y r ih =>
    show (match stepJ j y with | some j' => runJ j' (r ++ [x]) | none => none) = _
    have h' : (match stepJ j y with | some j' => runJ j' r | none => none) = some j' := h
    cases e : stepJ j y with
    | none => rw [e] at h'; cases h'
    | some j2 =>
      rw [e] at h'
      exact ih j2 h'
theorem runJ_pre (j : JS) (l r : List PyData) {j' : JS} (h : runJ j (l ++ r) = some j') : ∃ j1, runJ j l = some j1 := by
  induction l generalizing j with
  | nil => exact ⟨j, rfl⟩
  | cons y l ih =>
    have h' : (match stepJ j y with | some j1 => runJ j1 (l ++ r) | none => none) = some j' := h
    cases e : stepJ j y with
    | none => rw [e] at h'; cases h'
    | some j2 =>
      rw [e] at h'
      obtain ⟨j1, h1⟩ := ih j2 h'
      refine ⟨j1, ?_⟩
      show (match stepJ j y with | some j1 => runJ j1 l | none => none) = some j1
      rw [e]
      exact h1
/-- where the whole is right no action is wrong -/
theorem run_fine {j0 j j' : JS} {ds : List PyData} {i : Nat} {x : PyData} {r : Str} (h : runJ j0 ds = some j) (hi : ds[i]? = some x) (hp : runJ j0 (ds.take i) = some j') (hr : reason j' x = some r) : False := by
  have e : ds = ds.take (i + 1) ++ ds.drop (i + 1) := (List.take_append_drop _ _).symm
  rw [e] at h
  obtain ⟨j1, h1⟩ := runJ_pre _ _ _ h
  have tk : ds.take (i + 1) = ds.take i ++ [x] := by rw [List.take_add_one, hi]; rfl
  rw [tk, runJ_app _ _ _ hp] at h1
  unfold stepJ at h1
  rw [hr] at h1
  cases h1
def js0 (b s : Int) : JS := ⟨b, s, some 0, [], 0⟩
theorem ki_step {j : JS} {a : Act} {x : PyData} (h : KI j) (ha : act? x = some a) (hr : reason j x = none) : KI (follow j a) := by
  have c0 : ¬ j.front = 0 := fun z => by rw [rea_done ha z] at hr; cases hr
  rw [rea_act ha c0] at hr
  cases a with
  | keep s =>
    intro k v hv
    have hv' : valV (putK j.kvs (Sum.inl s : Key) (posV j.pos)) k = some v := hv
    rw [valV_put] at hv'
    split at hv'
    · cases hp : j.pos with
      | none =>
        have er : reasonA j (Act.keep s) = if j.slots ≤ s then some ("slot" : Str) else (match j.pos with | none => some ("nowhere" : Str) | some _ => none) := rfl
        rw [er, hp] at hr
        split at hr <;> cases hr
      | some i =>
        rw [hp] at hv'
        exact ⟨i, (Option.some.inj hv').symm⟩
    · exact h _ _ hv'
  | restore s => exact h
  | advance n =>
    intro k v hv
    refine h k v ?_
    have e : (follow j (.advance n)).kvs = j.kvs := by
      show (match j.pos with | some p => { j with pos := some (p + n), cost := j.cost + n } | none => j).kvs = _
      cases j.pos <;> rfl
    rw [e] at hv
    exact hv
  | turn => exact h
theorem put_len (c : List (Key × V)) (k : Key) (x : V) : (putK c k x).length ≤ c.length + 1 := by
  unfold putK
  split
  · rw [List.length_map]; exact Nat.le_succ _
  · rw [List.length_append]; exact Nat.le_refl _
theorem kvs_len (j : JS) (a : Act) : (follow j a).kvs.length ≤ j.kvs.length + 1 := by
  cases a with
  | keep s => exact put_len _ _ _
  | restore s => exact Nat.le_succ _
  | advance n =>
    have e : (follow j (.advance n)).kvs = j.kvs := by
      show (match j.pos with | some p => { j with pos := some (p + n), cost := j.cost + n } | none => j).kvs = _
      cases j.pos <;> rfl
    rw [e]
    exact Nat.le_succ _
  | turn => exact Nat.le_succ _
def spJudge (K : PySem.W.Frag) (CS CA : Addr) : Sp := fun vs H Q E => ∃ (v : V) (sd bd nd : PyData) (u1 u2 : V), vs = [v, u1, u2] ∧ Tv K H sd v ∧ Tv K H bd u1 ∧ Tv K H nd u2 ∧
  (∀ ds, sd = .tuple ds → (∀ x ∈ ds, flatHead x = true) ∧ ds.length ≤ 2000) ∧
  (btw bd 0 40 = false → ∀ d H', Same H H' → H' d = some (.xd [("reason", .str "beats")]) → E (.ref CA) (some d) H') ∧
  (btw bd 0 40 = true → btw nd 0 8 = false → ∀ d H', Same H H' → H' d = some (.xd [("reason", .str "slots")]) → E (.ref CA) (some d) H') ∧
  ∀ b s : Int, bd = .int b → nd = .int s → btw bd 0 40 = true → btw nd 0 8 = true →
    ((∀ ds, sd ≠ .tuple ds) → ∀ d H', Same H H' → H' d = some (.xd [("reason", .str "form"), ("number", .int (-1))]) → E (.ref CS) (some d) H') ∧
    ∀ ds, sd = .tuple ds →
      (∀ j H', runJ (js0 b s) ds = some j → j.front = 0 → Same H H' → Q (.int j.cost) H') ∧
      (∀ (i : Nat) x j r d H', ds[i]? = some x → runJ (js0 b s) (ds.take i) = some j → reason j x = some r → Same H H' → H' d = some (.xd [("reason", .str r), ("number", .int (i : Int))]) → E (.ref CS) (some d) H') ∧
      (∀ j d H', runJ (js0 b s) ds = some j → ¬ j.front = 0 → Same H H' → H' d = some (.xd [("reason", .str "unfinished"), ("number", .int (ds.length : Int))]) → E (.ref CS) (some d) H')
/-- the error of a schedule being raised -/
theorem err_S {K : PySem.W.Frag} {C : Addr} {H H1 : Hp} {W : XK} {n : Int} {r : Str} (sm : Same H H1) (hn : n.natAbs < 10 ^ 12) (hr : r.length ≤ 1000) (k : ∀ d H', Same H H' → H' d = some (.xd [("reason", .str r), ("number", .int n)]) → W (.ref C) (some d) H') :
    [V.int n, V.str r].length ≤ 1000 ∧ ∀ a, H1 a = none → Er.spSE K C (.ref a :: ([V.int n, V.str r] ++ [])) (upd H1 a (exo a C none))
      (fun v H2 => v = .non ∧ ∃ (d : Addr) (fs : List (Str × V)), H2 a = some (exo a C (some d)) ∧ H2 d = some (exd d fs) ∧ H1 d = none ∧ W (.ref C) (some d) (upd (del H2 a) d (.xd fs))) (fun _ _ _ => False) := by
  refine ⟨(show 2 ≤ 1000 by decide), fun a ha => ⟨a, n, r, rfl, hn, hr, upd_same, fun dx hdx ne => ⟨rfl, dx, _, ?_, upd_same, (by rw [upd_ne ne] at hdx; exact hdx), ?_⟩⟩⟩
  · rw [upd_ne ne.symm]
    exact upd_same
  rw [upd_ne ne] at hdx
  refine k dx _ (fun b u e => ?_) upd_same
  have e1 := sm _ _ e
  have nb : b ≠ a := ne_of_none e1 ha
  have nb2 : b ≠ dx := ne_of_none e1 hdx
  rw [upd_ne nb2, del_ne nb, upd_ne nb2, upd_ne nb, upd_ne nb2, upd_ne nb]
  exact e1
theorem rea_short {j : JS} {x : PyData} {r : Str} (h : reason j x = some r) : r.length ≤ 1000 := by
  have all : ∀ z ∈ (["form", "done", "slot", "nowhere", "empty", "beyond", "turn"] : List Str), z.length ≤ 1000 := by decide +kernel
  refine all r ?_
  unfold reason at h
  split at h
  · cases h; decide +kernel
  · rename_i a _
    split at h
    · cases h; decide +kernel
    · cases a with
      | keep s =>
        have h' : (if j.slots ≤ s then some ("slot" : Str) else (match j.pos with | none => some ("nowhere" : Str) | some _ => none)) = some r := h
        split at h'
        · cases h'; decide +kernel
        · split at h' <;> cases h'
          decide +kernel
      | restore s =>
        have h' : (if j.slots ≤ s then some ("slot" : Str) else if (valV j.kvs (Sum.inl s : Key)).isSome = true then none else some ("empty" : Str)) = some r := h
        split at h'
        · cases h'; decide +kernel
        · split at h' <;> cases h'
          decide +kernel
      | advance n =>
        have h' : (match j.pos with | none => some ("nowhere" : Str) | some p => if j.front ≤ p + n then some ("beyond" : Str) else none) = some r := h
        split at h'
        · cases h'; decide +kernel
        · split at h' <;> cases h'
          decide +kernel
      | turn =>
        have h' : (match j.pos with | none => some ("nowhere" : Str) | some p => if p = j.front - 1 then none else some ("turn" : Str)) = some r := h
        split at h'
        · cases h'; decide +kernel
        · split at h' <;> cases h'
          decide +kernel
def isTupD : PyData → Bool
  | .tuple _ => true
  | _ => false
abbrev sJudge : Stmt := top 13
structure Mth (P : Program) (w : World) (K : PySem.W.Frag) (mg : Str → Option Value) (base : Heap) (C : Addr) (k : Nat) (m : Str) (ps : List Str) (sp : Sp) where
  f : Addr
  fd : FuncData
  ok : FnOk P w K mg base CX0 k f fd ps sp
  b : Binds K fd ps []
  cl : Cls K C
  mt : Meth K C m f
structure Mkr (P : Program) (w : World) (K : PySem.W.Frag) (mg : Str → Option Value) (base : Heap) (x : Str) (C : Addr) (k : Nat) (ps : List Str) (sp : Sp) where
  f : Addr
  fd : FuncData
  ok : FnOk P w K mg base CX0 k f fd ps sp
  b : Binds K fd ps []
  mke : L2.Mk K C f
  m : mg x = some (.ref C)
section
variable {P : Program} {w : World} {K : PySem.W.Frag} {mg : Str → Option Value} {base : Heap} {CJ CS CA : Addr}
theorem scJudge : FnScope ["schedule", "beats", "slots", "judging", "number", "action", "reason"] ["schedule", "beats", "slots"] (defScope sJudge) := ⟨rfl, rfl, rfl, by decide +kernel, rfl, by decide +kernel, by decide +kernel⟩
theorem int_of_btw {x : PyData} {a b : Int} (h : btw x a b = true) : ∃ i, x = .int i ∧ a ≤ i ∧ i ≤ b := by
  cases x with
  | int i =>
    have h' : (decide (a ≤ i) && decide (i ≤ b)) = true := h
    rw [Bool.and_eq_true] at h'
    exact ⟨i, rfl, of_decide_eq_true h'.1, of_decide_eq_true h'.2⟩
  | none => cases h
  | bool c => cases h
  | str s => cases h
  | tuple l => cases h
  | list l => cases h
  | dict l => cases h
theorem ok_judge {f : Addr} {fd : FuncData} (F : Fun K "judge" "judge" sJudge f fd) (T : Bi mg) (JT : JTxt K CJ) (zEn : mg "enumerate" = none) (c_ckn : Cal P w K mg base (L2.CX P w) 4 "check_numbers" ["beats", "slots"] (spCkn K CA))
    (c_J : Mkr P w K mg base "Judge" CJ 1 ["self", "beats", "slots"] (spJin CJ)) (c_fr : Mth P w K mg base CJ 3 "find_reason" ["self", "action"] (spFind K CJ)) (c_fo : Mth P w K mg base CJ 1 "follow" ["self", "action"] (spFol K CJ))
    (c_mkS : Mk P w K mg base "ScheduleError" CS ["self", "number", "reason"] (Er.spSE K CS)) : FnOk P w K mg base (L2.CX P w) 5 f fd ["schedule", "beats", "slots"] (spJudge K CS CA) := by
  refine F.okX scJudge (fun vs H Q E h => ?_) (fun cdv A outer s H vs Q E hr h => ?_)
  · obtain ⟨v, sd, bd, nd, u1, u2, rfl, _⟩ := h
    rfl
  · obtain ⟨v, sd, bd, sld, u1, u2, rfl, ts, tb, tn, hds, qb, qs, q⟩ := h
    have nd := scJudge.nd
    refine ⟨_, pss_cons (ps_expr (pe_call c_ckn.ok (hr.mono (by first | decide | omega)) rfl c_ckn.m c_ckn.kp c_ckn.b .nil (passes_call (takes_of rfl rfl rfl rfl) (fun _ _ _ _ h => h)) (pa_cons (pv 1) (pa_cons (pv 2) pa_nil))))
      (pss_cons (ps_if (pt_not (pt_val (pe_callB call_isi rfl T.isinstance PyProof.Rows.boot_isinstance (pa_cons (pv 0) (pa_cons (pe_bltn (v := .ty "tuple") rfl T.tuple PyProof.Rows.boot_tuple rfl) pa_nil))))) (pss_one (ps_raise rfl (takes_of rfl rfl rfl rfl) (pmk_oex c_mkS.ex c_mkS.iC c_mkS.tI c_mkS.ok (hr.mono (by first | decide | omega)) c_mkS.b .nil pass0 rfl c_mkS.m (pa_cons (pe_un un_neg pe_int) (pa_cons pe_str pa_nil))))) pss_nil)
      (pss_cons (ps_set (i := 3) nd rfl (.inl rfl) (pe_make c_J.mke c_J.ok (hr.mono (by first | decide | omega)) rfl c_J.m c_J.b .nil pass0 (pa_cons (pv 1) (pa_cons (pv 2) pa_nil))))
      (pss_cons (ps_for (passes_of rfl) rfl (Et.pi_enumT rfl zEn (pa_cons (pv 0) pa_nil)) (pg_tup (by rfl) (pgs_cons (pg_name (i := 4) nd rfl (.inl rfl)) (pgs_cons (pg_name (i := 5) nd rfl (.inl rfl)) pgs_nil))) (pss_cons (ps_set (i := 6) nd rfl (.inl rfl) (pe_meth (pv 3) c_fr.cl c_fr.mt c_fr.ok (hr.mono (by first | decide | omega)) c_fr.b .nil pass0 (pa_cons (pv 5) pa_nil)))
      (pss_cons (ps_if (pt_cmpR op_notN (pv 6) pe_non (nomark _)) (pss_one (ps_raise rfl (takes_of rfl rfl rfl rfl) (pmk_oex c_mkS.ex c_mkS.iC c_mkS.tI c_mkS.ok (hr.mono (by first | decide | omega)) c_mkS.b .nil pass0 rfl c_mkS.m (pa_cons (pv 4) (pa_cons (pv 6) pa_nil))))) pss_nil)
      (pss_one (ps_expr (pe_meth (pv 3) c_fo.cl c_fo.mt c_fo.ok (hr.mono (by first | decide | omega)) c_fo.b .nil pass0 (pa_cons (pv 5) pa_nil)))))))
      (pss_cons (ps_if (pt_cmpR op_ne (pe_fld (pv 3) rfl) pe_int (nomark _)) (pss_one (ps_raise rfl (takes_of rfl rfl rfl rfl) (pmk_oex c_mkS.ex c_mkS.iC c_mkS.tI c_mkS.ok (hr.mono (by first | decide | omega)) c_mkS.b .nil pass0 rfl c_mkS.m (pa_cons (pe_callB call_len_seq rfl T.len PySem.boot_len (pa_cons (pv 0) pa_nil)) (pa_cons pe_str pa_nil))))) pss_nil)
      (pss_one (ps_ret (pe_fld (pv 3) rfl))))))), ?_⟩
    refine ⟨_, rfl, _, rfl, u1, u2, bd, sld, rfl, tb, tn, fun c1 c2 H1 s1 => ?_, fun c1 d H' s1 e => qb c1 d H' s1 e, fun c1 c2 d H' s1 e => qs c1 c2 d H' s1 e⟩
    obtain ⟨b, rfl, b0, b1⟩ := int_of_btw c1
    obtain ⟨sl, rfl, sl0, sl1⟩ := int_of_btw c2
    cases tb
    cases tn
    obtain ⟨qf, q⟩ := q b sl rfl rfl c1 c2
    have ts1 := ts.carry (same_carry s1)
    refine ⟨_, rfl, v, .ty "tuple", .type (tyD sd), .type "tuple", isTupD sd, rfl, .ty _, tyx_tv ts1, ?_, _, rfl, ?_⟩
    · cases sd with
      | tuple l => exact kit_ty (show kitB "tuple" "tuple" = some true by decide +kernel)
      | none => exact kit_ty (show kitB "NoneType" "tuple" = some false by decide +kernel)
      | bool b => exact kit_ty (show kitB "bool" "tuple" = some false by decide +kernel)
      | int i => exact kit_ty (show kitB "int" "tuple" = some false by decide +kernel)
      | str z => exact kit_ty (show kitB "str" "tuple" = some false by decide +kernel)
      | list l => exact False.elim ts
      | dict l => exact False.elim ts
    by_cases ct : ∃ ds, sd = .tuple ds
    · obtain ⟨ds, rfl⟩ := ct
      refine iteF' rfl ?_
      obtain ⟨fh, dl⟩ := hds ds rfl
      obtain ⟨qo, qr, qu⟩ := q ds rfl
      obtain ⟨sa, xs, rfl, sq, tl⟩ := ts1
      have lx := tvl_len tl
      refine ⟨_, rfl, _, rfl, fun p dx hp hdx ne => ⟨p, dx, b, sl, rfl, upd_same, fun d H2 hd ndp hj keep => ⟨rfl, ?_⟩⟩⟩
      have ndd : d ≠ dx := fun z => by rw [z, upd_ne ne, upd_same] at hd; cases hd
      have hd1 : H1 d = none := by rw [upd_ne ndp, upd_ne ndd] at hd; exact hd
      have s2 : Same H1 H2 := fun c o e => keep c o (by rw [upd_ne (ne_of_none e hp), upd_ne (ne_of_none e hdx)]; exact e) (ne_of_none e hp)
      refine ⟨_, rfl, sa, xs, rfl, same_carry s2 _ _ sq, Et.for_enumT (K := K) (a := sa) (xs := xs)
        (fun i σ H' => Same H1 H' ∧ (∃ j, JAt CJ H' p d j ∧ runJ (js0 b sl) (ds.take i) = some j ∧ KI j ∧ j.kvs.length ≤ i) ∧ ∃ w4 w5 w6 : Option V, σ = [some (.ref sa), some (.int b), some (.int sl), some (.ref p), w4, w5, w6])
        ⟨s2, ⟨_, hj, rfl, (fun k v h => by cases h), Nat.le_refl _⟩, _, _, _, rfl⟩ (fun i σ H' _ h => same_carry h.1 _ _ sq) ?_ ?_⟩
      · rintro i x σ H3 T hx hT ⟨s3, ⟨j, hj3, hrun, ki, kl⟩, w4, w5, w6, rfl⟩
        have hil : i < xs.length := (List.getElem?_eq_some_iff.mp hx).1
        obtain ⟨dx', hdx'⟩ : ∃ dx', ds[i]? = some dx' := ⟨_, List.getElem?_eq_getElem (by omega)⟩
        obtain ⟨x2, hx2, tx⟩ := tvl_get (TvL.carry (same_carry s3) _ _ tl) hdx'
        rw [hx] at hx2
        cases hx2
        have sT : Same H3 (upd H3 T (.tup [.int (i : Nat), x])) := same_alloc hT
        refine ⟨T, _, rfl, SqT.of upd_same, rfl, _, _, rfl, _, _, rfl, rfl, ?_⟩
        obtain ⟨dxj, ej⟩ := (hj3.next sT).ob
        refine ⟨_, rfl, p, dxj, _, rfl, ej, rfl, _, rfl, p, d, j, dx', x, rfl, hj3.next sT, tx.carry (same_carry sT), fh dx' (List.mem_of_getElem? hdx'), fun H4 s4 => ?_⟩
        refine ⟨_, rfl, rfl, _, rfl, ?_⟩
        have hj4 := (hj3.next sT).next s4
        have sm := ((s1.trans s3).trans sT).trans s4
        cases hre : reason j dx' with
        | some r =>
          refine iteT' rfl ?_
          refine ⟨_, rfl, _, rfl, ?_⟩
          exact err_S sm (by omega) (rea_short hre) fun d' H' s5 e => qr i dx' j r d' H' hdx' hrun hre s5 e
        | none =>
          refine iteF' rfl ?_
          obtain ⟨dx4, ej4⟩ := hj4.ob
          obtain ⟨a, haa⟩ : ∃ a, act? dx' = some a := by
            cases h : act? dx' with
            | none => rw [rea_none h] at hre; cases hre
            | some a => exact ⟨a, rfl⟩
          have npd : p ≠ d := fun z => by subst z; exact ndp rfl
          refine ⟨_, rfl, p, dx4, _, rfl, ej4, rfl, _, rfl, p, d, j, dx', x, a, rfl, hj4, npd, (tx.carry (same_carry sT)).carry (same_carry s4), haa, hre, ki, by omega, fun H5 hj5 keep5 => ?_⟩
          refine ⟨fun c o e => ?_, ⟨follow j a, hj5, ?_, ki_step ki haa hre, Nat.le_trans (kvs_len j a) (Nat.succ_le_succ kl)⟩, _, _, _, rfl⟩
          · exact keep5 c o (s4 _ _ (sT _ _ (s3 _ _ e))) (ne_of_none e hp) (ne_of_none e hd1)
          · have tk : ds.take (i + 1) = ds.take i ++ [dx'] := by rw [List.take_add_one, hdx']; rfl
            rw [tk, runJ_app _ _ _ hrun]
            unfold stepJ
            rw [hre, haa]
      · rintro σ H3 ⟨s3, ⟨j, hj3, hrun, ki, kl⟩, w4, w5, w6, rfl⟩
        rw [lx, List.take_length] at hrun
        obtain ⟨dx3, ej3⟩ := hj3.ob
        refine ⟨_, rfl, p, CJ, dx3, _, _, rfl, ej3, JT.cl, JT.nF, rfl, rfl, _, rfl, ?_⟩
        by_cases c : j.front = 0
        · refine iteF' (by simp [c]) ?_
          exact ⟨_, rfl, p, CJ, dx3, _, _, rfl, ej3, JT.cl, JT.nC, rfl, qo j H3 hrun c (s1.trans s3)⟩
        · refine iteT' (by simp [c]) ?_
          refine ⟨_, rfl, sa, xs, rfl, .inr (same_carry s3 _ _ sq), ?_⟩
          rw [lx]
          exact err_S (s1.trans s3) (by omega) (by decide +kernel) fun d' H' s5 e => qu j d' H' hrun c s5 e
    · have nt : ∀ ds, sd ≠ .tuple ds := fun ds e => ct ⟨ds, e⟩
      have e0 : isTupD sd = false := by
        cases sd with
        | tuple l => exact absurd rfl (nt l)
        | none => rfl
        | bool b => rfl
        | int i => rfl
        | str z => rfl
        | list l => rfl
        | dict l => rfl
      refine iteT' (by rw [e0]; rfl) ?_
      exact ⟨_, rfl, err_S s1 (by decide) (by decide +kernel) fun d' H' s5 e => qf nt d' H' s5 e⟩
end
end Sd

/-! ## The least costs and their splits, written out -/
namespace Sd
open PySem L2 Tr Pu PyProof.Rows
def TL : Tab := [[(some 0, 0), (some 0, 0), (some 0, 0), (some 0, 0), (some 0, 0), (some 0, 0), (some 0, 0), (some 0, 0), (some 0, 0)],
  [(none, 0), (some 1, 1), (some 1, 1), (some 1, 1), (some 1, 1), (some 1, 1), (some 1, 1), (some 1, 1), (some 1, 1)],
  [(none, 0), (some 3, 2), (some 2, 1), (some 2, 1), (some 2, 1), (some 2, 1), (some 2, 1), (some 2, 1), (some 2, 1)],
  [(none, 0), (some 6, 3), (some 4, 1), (some 3, 1), (some 3, 1), (some 3, 1), (some 3, 1), (some 3, 1), (some 3, 1)],
  [(none, 0), (some 10, 4), (some 6, 2), (some 5, 1), (some 4, 1), (some 4, 1), (some 4, 1), (some 4, 1), (some 4, 1)],
  [(none, 0), (some 15, 5), (some 8, 3), (some 7, 1), (some 6, 1), (some 5, 1), (some 5, 1), (some 5, 1), (some 5, 1)],
  [(none, 0), (some 21, 6), (some 11, 3), (some 9, 1), (some 8, 1), (some 7, 1), (some 6, 1), (some 6, 1), (some 6, 1)],
  [(none, 0), (some 28, 7), (some 14, 4), (some 11, 2), (some 10, 1), (some 9, 1), (some 8, 1), (some 7, 1), (some 7, 1)],
  [(none, 0), (some 36, 8), (some 17, 5), (some 13, 3), (some 12, 1), (some 11, 1), (some 10, 1), (some 9, 1), (some 8, 1)],
  [(none, 0), (some 45, 9), (some 20, 6), (some 15, 4), (some 14, 1), (some 13, 1), (some 12, 1), (some 11, 1), (some 10, 1)],
  [(none, 0), (some 55, 10), (some 24, 6), (some 18, 4), (some 16, 1), (some 15, 1), (some 14, 1), (some 13, 1), (some 12, 1)],
  [(none, 0), (some 66, 11), (some 28, 7), (some 21, 4), (some 18, 2), (some 17, 1), (some 16, 1), (some 15, 1), (some 14, 1)],
  [(none, 0), (some 78, 12), (some 32, 8), (some 24, 4), (some 20, 3), (some 19, 1), (some 18, 1), (some 17, 1), (some 16, 1)],
  [(none, 0), (some 91, 13), (some 36, 9), (some 27, 4), (some 22, 4), (some 21, 1), (some 20, 1), (some 19, 1), (some 18, 1)],
  [(none, 0), (some 105, 14), (some 40, 10), (some 30, 5), (some 24, 5), (some 23, 1), (some 22, 1), (some 21, 1), (some 20, 1)],
  [(none, 0), (some 120, 15), (some 45, 10), (some 33, 6), (some 27, 5), (some 25, 1), (some 24, 1), (some 23, 1), (some 22, 1)],
  [(none, 0), (some 136, 16), (some 50, 11), (some 36, 7), (some 30, 5), (some 27, 2), (some 26, 1), (some 25, 1), (some 24, 1)],
  [(none, 0), (some 153, 17), (some 55, 12), (some 39, 8), (some 33, 5), (some 29, 3), (some 28, 1), (some 27, 1), (some 26, 1)],
  [(none, 0), (some 171, 18), (some 60, 13), (some 42, 9), (some 36, 5), (some 31, 4), (some 30, 1), (some 29, 1), (some 28, 1)],
  [(none, 0), (some 190, 19), (some 65, 14), (some 45, 10), (some 39, 5), (some 33, 5), (some 32, 1), (some 31, 1), (some 30, 1)],
  [(none, 0), (some 210, 20), (some 70, 15), (some 49, 10), (some 42, 5), (some 35, 6), (some 34, 1), (some 33, 1), (some 32, 1)],
  [(none, 0), (some 231, 21), (some 76, 15), (some 53, 10), (some 45, 5), (some 38, 6), (some 36, 1), (some 35, 1), (some 34, 1)],
  [(none, 0), (some 253, 22), (some 82, 16), (some 57, 10), (some 48, 5), (some 41, 6), (some 38, 2), (some 37, 1), (some 36, 1)],
  [(none, 0), (some 276, 23), (some 88, 17), (some 61, 10), (some 51, 5), (some 44, 6), (some 40, 3), (some 39, 1), (some 38, 1)],
  [(none, 0), (some 300, 24), (some 94, 18), (some 65, 10), (some 54, 5), (some 47, 6), (some 42, 4), (some 41, 1), (some 40, 1)],
  [(none, 0), (some 325, 25), (some 100, 19), (some 69, 11), (some 57, 6), (some 50, 6), (some 44, 5), (some 43, 1), (some 42, 1)],
  [(none, 0), (some 351, 26), (some 106, 20), (some 73, 12), (some 60, 7), (some 53, 6), (some 46, 6), (some 45, 1), (some 44, 1)],
  [(none, 0), (some 378, 27), (some 112, 21), (some 77, 13), (some 63, 8), (some 56, 6), (some 48, 7), (some 47, 1), (some 46, 1)],
  [(none, 0), (some 406, 28), (some 119, 21), (some 81, 14), (some 66, 9), (some 59, 6), (some 51, 7), (some 49, 1), (some 48, 1)],
  [(none, 0), (some 435, 29), (some 126, 22), (some 85, 15), (some 69, 10), (some 62, 6), (some 54, 7), (some 51, 2), (some 50, 1)],
  [(none, 0), (some 465, 30), (some 133, 23), (some 89, 16), (some 72, 11), (some 65, 6), (some 57, 7), (some 53, 3), (some 52, 1)],
  [(none, 0), (some 496, 31), (some 140, 24), (some 93, 17), (some 75, 12), (some 68, 6), (some 60, 7), (some 55, 4), (some 54, 1)],
  [(none, 0), (some 528, 32), (some 147, 25), (some 97, 18), (some 78, 13), (some 71, 6), (some 63, 7), (some 57, 5), (some 56, 1)],
  [(none, 0), (some 561, 33), (some 154, 26), (some 101, 19), (some 81, 14), (some 74, 6), (some 66, 7), (some 59, 6), (some 58, 1)],
  [(none, 0), (some 595, 34), (some 161, 27), (some 105, 20), (some 84, 15), (some 77, 6), (some 69, 7), (some 61, 7), (some 60, 1)],
  [(none, 0), (some 630, 35), (some 168, 28), (some 110, 20), (some 88, 15), (some 80, 6), (some 72, 7), (some 63, 8), (some 62, 1)],
  [(none, 0), (some 666, 36), (some 176, 28), (some 115, 20), (some 92, 15), (some 83, 6), (some 75, 7), (some 66, 8), (some 64, 1)],
  [(none, 0), (some 703, 37), (some 184, 29), (some 120, 20), (some 96, 15), (some 86, 6), (some 78, 7), (some 69, 8), (some 66, 2)],
  [(none, 0), (some 741, 38), (some 192, 30), (some 125, 20), (some 100, 15), (some 89, 6), (some 81, 7), (some 72, 8), (some 68, 3)],
  [(none, 0), (some 780, 39), (some 200, 31), (some 130, 20), (some 104, 15), (some 92, 6), (some 84, 7), (some 75, 8), (some 70, 4)]]
/-- the entry for t beats and s slots -/
def ent (T : Tab) (t s : Nat) : Ent := (T.getD (t - 1) []).getD s (none, 0)
theorem cst_ent (T : Tab) (t s : Nat) : cst T t s = (ent T t s).1 := rfl
def chkT : Bool := (List.range 41).all fun t => t == 0 || (List.range 9).all fun s => (right TL t s).headD (none, 0) == ent TL t s
theorem chkT_ok : chkT = true := by decide +kernel
theorem chkT_at {t s : Nat} (h1 : 1 ≤ t) (h : t < 41) (hs : s < 9) : (right TL t s).headD (none, 0) = ent TL t s := by
  have a := List.all_eq_true.mp chkT_ok t (List.mem_range.mpr h)
  have n1 : ¬ t = 0 := by omega
  have a' : ((List.range 9).all fun s => (right TL t s).headD (none, 0) == ent TL t s) = true := by
    rw [Bool.or_eq_true] at a
    rcases a with a | a
    · exact absurd (eq_of_beq a) n1
    · exact a
  exact eq_of_beq (List.all_eq_true.mp a' s (List.mem_range.mpr hs))
theorem cands_congr {T T' : Tab} {t s : Nat} (h : ∀ t' s', 1 ≤ t' → t' < t → (s' = s ∨ s' = s - 1) → cst T t' s' = cst T' t' s') : ∀ n, n ≤ t - 1 → cands T t s n = cands T' t s n
  | 0, _ => rfl
  | n + 1, hn => by
    rw [cands_succ, cands_succ, cands_congr h n (by omega)]
    have e : cand T t s n = cand T' t s n := by
      unfold cand
      rw [h (t - (n + 1)) (s - 1) (by omega) (by omega) (.inr rfl), h (n + 1) s (by omega) (by omega) (.inl rfl)]
    rw [e]
theorem right_congr {T T' : Tab} {t s : Nat} (h : ∀ t' s', 1 ≤ t' → t' < t → (s' = s ∨ s' = s - 1) → cst T t' s' = cst T' t' s') : right T t s = right T' t s := by
  unfold right
  rw [cands_congr h (t - 1) (Nat.le_refl _)]
theorem tab_low (n : Nat) : ∀ (k j : Nat) (s : Nat), 1 ≤ j → j ≤ k → ent (tabN n k) j s = ent (tabN n j) j s
  | 0, j, s, h1, h2 => by omega
  | k + 1, j, s, h1, h2 => by
    by_cases c : j = k + 1
    · rw [c]
    · rw [← tab_low n k j s h1 (by omega)]
      have hl := tabN_len n k
      have e : (tabN n (k + 1)).getD (j - 1) [] = (tabN n k).getD (j - 1) [] := by
        rw [tabN, List.getD_eq_getElem?_getD, List.getD_eq_getElem?_getD, List.getElem?_append_left (by omega)]
      unfold ent
      rw [e]
theorem tab_top (n k s : Nat) (hs : s < n) : ent (tabN n (k + 1)) (k + 1) s = (right (tabN n k) (k + 1) s).headD (none, 0) := by
  have hl := tabN_len n k
  have e : (tabN n (k + 1)).getD k [] = rowN (tabN n k) (k + 1) n := by
    rw [tabN, List.getD_eq_getElem?_getD, List.getElem?_append_right (by omega), hl, Nat.sub_self]
    rfl
  unfold ent
  rw [Nat.add_sub_cancel, e]
  unfold rowN
  rw [List.getD_eq_getElem?_getD, List.getElem?_map, List.getElem?_range hs]
  rfl
theorem tab_is (n : Nat) (hn : n ≤ 9) : ∀ (t : Nat), 1 ≤ t → t < 41 → ∀ s, s < n → ent (tabN n t) t s = ent TL t s := by
  intro t
  induction t using Nat.strongRecOn with
  | ind t ih =>
    intro h1 h40 s hs
    obtain ⟨k, rfl⟩ : ∃ k, t = k + 1 := ⟨t - 1, by omega⟩
    rw [tab_top n k s hs, ← chkT_at h1 h40 (by omega)]
    rw [right_congr (T' := TL) fun t' s' a b d => by
      rw [cst_ent, cst_ent, tab_low n k t' s' a (by omega), ih t' b a (by omega) s' (by rcases d with d | d <;> omega)]]
/-- an entry of the table that the program makes -/
theorem tab_ent {n k t s : Nat} (hn : n ≤ 9) (h1 : 1 ≤ t) (hk : t ≤ k) (h : t < 41) (hs : s < n) : ent (tabN n k) t s = ent TL t s := by
  rw [tab_low n k t s h1 hk, tab_is n hn t h1 h s hs]
/-- the least cost, by the table -/
theorem Lc_is {b s : Nat} (hb : b < 41) (hs : s < 9) : Lc b s = if b = 0 then some 0 else cst TL b s := by
  unfold Lc
  by_cases c : b = 0
  · rw [if_pos c, if_pos c]
  · rw [if_neg c, if_neg c, cst_ent, cst_ent, tab_is (s + 1) (by omega) b (by omega) hb s (by omega)]
end Sd

/-! ## plans: the mirror, and what they cost -/
namespace Sd
open PySem L2 Tr Pu PyProof.Rows
def sp (t e : Nat) : Nat := (ent TL t e).2
/-- the actions behind the keep -/
def loopA (rec : Nat → List Act) (slot : Int) (e : Nat) : Nat → Nat → List Act
  | 0, _ => [.turn]
  | f + 1, t => if t ≤ 1 then [.turn] else .advance (sp t e) :: (rec (t - sp t e) ++ .restore slot :: loopA rec slot e f (sp t e))
def plA (slots : Nat) : Nat → Nat → List Act
  | 0, t => List.replicate t .turn
  | e + 1, t => if t < 2 then List.replicate t .turn else .keep ((slots : Int) - ((e : Int) + 1)) :: loopA (plA slots e) ((slots : Int) - ((e : Int) + 1)) (e + 1) t t
def runA (j : JS) : List Act → Option JS
  | [] => some j
  | a :: r => if j.front = 0 then none else match reasonA j a with
    | some _ => none
    | none => runA (follow j a) r
def okA : Act → Bool
  | .keep s => decide (0 ≤ s) | .restore s => decide (0 ≤ s) | .advance n => decide (1 ≤ n) | .turn => true
def chkP : Bool := (List.range 41).all fun t => (List.range 9).all fun e => (t ≥ 2 && e == 0) || (
  (match runA (js0 t e) (plA e e t) with | some j => j.front == 0 && j.cost == ((if t = 0 then some 0 else cst TL t e).getD 0 : Nat) | none => false) && (plA e e t).all okA && decide ((plA e e t).length ≤ 500))
end Sd

namespace Sd
open PySem L2 Tr Pu PyProof.Rows
theorem chkP_ok : chkP = true := by decide +kernel
end Sd

namespace Sd
open PySem L2 Tr Pu PyProof.Rows
def chkS : Bool := (List.range 41).all fun t => (List.range 9).all fun e => decide (t < 2) || e == 0 || (decide (1 ≤ sp t e) && decide (sp t e < t) && (e != 1 || decide (t - sp t e < 2)))
theorem chkS_ok : chkS = true := by decide +kernel
theorem sp_at {t e : Nat} (h2 : 2 ≤ t) (h : t < 41) (h1 : 1 ≤ e) (he : e < 9) : 1 ≤ sp t e ∧ sp t e < t ∧ (e = 1 → t - sp t e < 2) := by
  have a := List.all_eq_true.mp (List.all_eq_true.mp chkS_ok t (List.mem_range.mpr h)) e (List.mem_range.mpr he)
  have n1 : ¬ t < 2 := by omega
  have n2 : ¬ e = 0 := by omega
  simp only [n1, decide_false, Bool.false_or, Bool.or_eq_true, Bool.and_eq_true, decide_eq_true_eq, beq_iff_eq, n2, false_or, bne_iff_ne, ne_eq] at a
  refine ⟨a.1.1, a.1.2, fun h => ?_⟩
  rcases a.2 with z | z
  · exact absurd h z
  · exact z
theorem chkP_at {t e : Nat} (h : t < 41) (he : e < 9) (hv : t < 2 ∨ 1 ≤ e) : (∃ j, runA (js0 t e) (plA e e t) = some j ∧ j.front = 0 ∧ Lc t e = some j.cost.toNat ∧ 0 ≤ j.cost) ∧ (plA e e t).all okA = true ∧ (plA e e t).length ≤ 500 := by
  have a := List.all_eq_true.mp (List.all_eq_true.mp chkP_ok t (List.mem_range.mpr h)) e (List.mem_range.mpr he)
  have n1 : (decide (t ≥ 2) && e == 0) = false := by
    rcases hv with z | z
    · simp [show ¬ t ≥ 2 by omega]
    · simp [show ¬ e = 0 by omega]
  rw [n1, Bool.false_or, Bool.and_eq_true, Bool.and_eq_true] at a
  refine ⟨?_, a.1.2, of_decide_eq_true a.2⟩
  cases hr : runA (js0 t e) (plA e e t) with
  | none => rw [hr] at a; cases a.1.1
  | some j =>
    rw [hr] at a
    have b : (j.front == 0 && j.cost == ((if t = 0 then some 0 else cst TL t e).getD 0 : Nat)) = true := a.1.1
    rw [Bool.and_eq_true] at b
    have b2 : j.cost = ((if t = 0 then some 0 else cst TL t e).getD 0 : Nat) := eq_of_beq b.2
    refine ⟨j, rfl, eq_of_beq b.1, ?_, by rw [b2]; exact Int.natCast_nonneg _⟩
    rw [Lc_is h he, b2]
    have : ∃ c, (if t = 0 then some 0 else cst TL t e) = some c := by
      by_cases c : t = 0
      · exact ⟨0, if_pos c⟩
      · rw [if_neg c]
        obtain ⟨e', r, hR, g1, g2⟩ := right_head (t := t) (okk_tab (e + 1) (t - 1)) (by omega) (Nat.lt_succ_self e)
        rw [cst_ent, ← tab_is (e + 1) (by omega) t (by omega) h e (by omega)]
        obtain ⟨k, rfl⟩ : ∃ k, t = k + 1 := ⟨t - 1, by omega⟩
        rw [tab_top _ _ _ (Nat.lt_succ_self e)]
        rw [Nat.add_sub_cancel] at hR
        rw [hR]
        show ∃ c, e'.1 = some c
        rcases hv with z | z
        · rw [g2 (by omega)]
          exact ⟨0, rfl⟩
        · exact g1 z
    obtain ⟨c, hc⟩ := this
    rw [hc]
    rfl
theorem loopA_len {rec rec' : Nat → List Act} {s s' : Int} {e : Nat} (h : ∀ t, (rec t).length = (rec' t).length) : ∀ f t, (loopA rec s e f t).length = (loopA rec' s' e f t).length
  | 0, t => rfl
  | f + 1, t => by
    unfold loopA
    split
    · rfl
    · rw [List.length_cons, List.length_cons, List.length_append, List.length_append, List.length_cons, List.length_cons, h, loopA_len h f]
theorem plA_len (S S' : Nat) : ∀ e t, (plA S e t).length = (plA S' e t).length
  | 0, t => rfl
  | e + 1, t => by
    unfold plA
    split
    · rfl
    · rw [List.length_cons, List.length_cons, loopA_len (plA_len S S' e)]
theorem plA_short {S t e : Nat} (h : t < 41) (he : e < 9) (hv : t < 2 ∨ 1 ≤ e) : (plA S e t).length ≤ 500 := by
  rw [plA_len S e]
  exact (chkP_at h he hv).2.2
theorem act_enc {a : Act} (h : okA a = true) : act? a.enc = some a := by
  cases a with
  | keep s =>
    have h' : 0 ≤ s := of_decide_eq_true h
    show (if ("keep" : Str) = "advance" then (if 1 ≤ s then some (Act.advance s) else none) else if ("keep" : Str) = "keep" then (if 0 ≤ s then some (.keep s) else none) else if ("keep" : Str) = "restore" then (if 0 ≤ s then some (.restore s) else none) else none) = _
    rw [if_neg (by decide +kernel), if_pos rfl, if_pos h']
  | restore s =>
    have h' : 0 ≤ s := of_decide_eq_true h
    show (if ("restore" : Str) = "advance" then (if 1 ≤ s then some (Act.advance s) else none) else if ("restore" : Str) = "keep" then (if 0 ≤ s then some (.keep s) else none) else if ("restore" : Str) = "restore" then (if 0 ≤ s then some (.restore s) else none) else none) = _
    rw [if_neg (by decide +kernel), if_neg (by decide +kernel), if_pos rfl, if_pos h']
  | advance n =>
    have h' : 1 ≤ n := of_decide_eq_true h
    show (if ("advance" : Str) = "advance" then (if 1 ≤ n then some (Act.advance n) else none) else if ("advance" : Str) = "keep" then (if 0 ≤ n then some (.keep n) else none) else if ("advance" : Str) = "restore" then (if 0 ≤ n then some (.restore n) else none) else none) = _
    rw [if_pos rfl, if_pos h']
  | turn => rfl
theorem flat_enc (a : Act) : flatHead a.enc = true := by cases a <;> rfl
theorem run_enc (l : List Act) : ∀ j, l.all okA = true → runJ j (l.map Act.enc) = runA j l := by
  induction l with
  | nil => intro j _; rfl
  | cons a r ih =>
    intro j h
    rw [List.all_cons, Bool.and_eq_true] at h
    have ha := act_enc h.1
    show (match stepJ j a.enc with | some j' => runJ j' (r.map Act.enc) | none => none) = if j.front = 0 then none else match reasonA j a with | some _ => none | none => runA (follow j a) r
    by_cases c : j.front = 0
    · rw [if_pos c]
      unfold stepJ
      rw [rea_done ha c]
    · rw [if_neg c]
      unfold stepJ
      rw [rea_act ha c, ha]
      cases hr : reasonA j a with
      | some r => rfl
      | none => exact ih _ h.2
def spPa (K : PySem.W.Frag) (k : Nat) : Sp := fun vs H Q _ => ∃ (r : Addr) (xs : List V) (B S t e : Nat), vs = [.ref r, .int (t : Int), .int (e : Int), .int (S : Int)] ∧ SqL K H r xs ∧ TvL K H ((tabN (S + 1) B).map rowD) xs ∧
  t ≤ B ∧ B ≤ 40 ∧ e ≤ S ∧ S ≤ 8 ∧ (t < 2 ∨ 1 ≤ e) ∧ e < k ∧ ∀ p ys H', H p = none → Same H H' → H' p = some (.lst ys) → TvL K H' ((plA S e t).map Act.enc) ys → Q (.ref p) H'
abbrev sPa : Stmt := top 18
abbrev sPlan : Stmt := top 15
/-- a row's entry, whole -/
theorem row_ent {K : PySem.W.Frag} {H : Hp} {ds : List PyData} {xs : List V} {T : Tab} {j n s : Nat} (tv : TvL K H ds xs) (hj : ds[j]? = some (rowD (T.getD j []))) (hn : (T.getD j []).length = n) (hs : s < n) :
    ∃ ra es ya, atI xs (j : Int) = some (.ref ra) ∧ SqT K H ra es ∧ atI es (s : Int) = some (.ref ya) ∧ SqT K H ya [cV (ent T (j + 1) s).1, .int ((ent T (j + 1) s).2 : Int)] := by
  obtain ⟨x, hx, tx⟩ := tvl_get tv hj
  obtain ⟨ra, es, rfl, sq, l⟩ := tx
  obtain ⟨e, he⟩ : ∃ e, (T.getD j [])[s]? = some e := ⟨_, List.getElem?_eq_getElem (by omega)⟩
  obtain ⟨y, hy, ty⟩ := tvl_get (j := s) (d := entD e) l (by rw [List.getElem?_map, he]; rfl)
  obtain ⟨ya, zs, rfl, sq2, l2⟩ := ty
  obtain ⟨u, r, rfl, t1, k, r2, rfl, t2, rfl⟩ := l2
  have ec : ent T (j + 1) s = e := by
    unfold ent
    rw [Nat.add_sub_cancel, List.getD_eq_getElem?_getD, he]
    rfl
  have eu : u = cV e.1 := by
    cases h : e.1 with
    | none => rw [h] at t1; exact t1
    | some c => rw [h] at t1; exact t1
  have ek : k = .int (e.2 : Int) := t2
  refine ⟨ra, es, ya, atI_nat hx, sq, atI_nat hy, ?_⟩
  rw [ec, ← eu, ← ek]
  exact sq2
section
variable {P : Program} {w : World} {K : PySem.W.Frag} {mg : Str → Option Value} {base : Heap} {CS CA : Addr}
theorem scPa : FnScope ["rows", "beats", "empty", "slots", "slot", "actions", "_", "split"] ["rows", "beats", "empty", "slots"] (defScope sPa) := ⟨rfl, rfl, rfl, by decide +kernel, rfl, by decide +kernel, by decide +kernel⟩
theorem ok_pa1 {f : Addr} {fd : FuncData} {k : Nat} (F : Fun K "plan_actions" "plan_actions" sPa f fd) (c_pa : Cal P w K mg base CX0 (k + 1) "plan_actions" ["rows", "beats", "empty", "slots"] (spPa K k)) :
    FnOk P w K mg base CX0 (k + 1 + 1) f fd ["rows", "beats", "empty", "slots"] (spPa K (k + 1)) := by
  refine F.ok scPa (fun vs H Q E h => ?_) (fun cdv A outer s H vs Q E hr h => ?_)
  · obtain ⟨r, xs, B, S, t, e, rfl, _⟩ := h
    rfl
  · obtain ⟨r, xs, B, S, t, e, rfl, hS, tv, tB, B40, eS, S8, hv, ek, q⟩ := h
    have nd := scPa.nd
    have one : 1 ≤ sizeLine := by decide
    have two : 2 ≤ sizeLine := by decide
    refine ⟨_, pss_cons (ps_if (pt_cmpR op_lt (pv 1) pe_int (nomark _)) (pss_one (ps_ret (pe_op op_rep (pe_lst (pa_cons (pe_tup (pa_cons pe_str pa_nil)) pa_nil)) (pv 1)))) pss_nil)
      (pss_cons (ps_set (i := 4) nd rfl (.inl rfl) (pe_op op_sub (pv 3) (pv 2)))
      (pss_cons (ps_set (i := 5) nd rfl (.inl rfl) (pe_lst (pa_cons (pe_tup (pa_cons pe_str (pa_cons (pv 4) pa_nil))) pa_nil)))
      (pss_cons (ps_while PassesOwn.never (pt_cmpR op_gt (pv 1) pe_int (nomark _)) (pss_cons (ps_asg (pe_ix ix_tup (pe_ix ix_list (pv 0) (pe_op op_sub (pv 1) pe_int) (fun _ _ => rfl)) (pv 2) (fun _ _ => rfl)) (pg_tup (by rfl) (pgs_cons (pg_name (i := 6) nd rfl (.inl rfl)) (pgs_cons (pg_name (i := 7) nd rfl (.inl rfl)) pgs_nil))))
      (pss_cons (ps_expr (pe_bm PySem.F.plainAttrs_list PySem.F.slot_list_append PySem.F.type_list_append mt_append (pv 5) (pa_cons (pe_tup (pa_cons pe_str (pa_cons (pv 7) pa_nil))) pa_nil)))
      (pss_cons (ps_aug (i := 5) nd rfl (.inl rfl) (pe_call c_pa.ok (hr.mono (by first | decide | omega)) rfl c_pa.m c_pa.kp c_pa.b .nil pass0 (pa_cons (pv 0) (pa_cons (pe_op op_sub (pv 1) (pv 7)) (pa_cons (pe_op op_sub (pv 2) pe_int) (pa_cons (pv 3) pa_nil))))) iop_ext)
      (pss_cons (ps_expr (pe_bm PySem.F.plainAttrs_list PySem.F.slot_list_append PySem.F.type_list_append mt_append (pv 5) (pa_cons (pe_tup (pa_cons pe_str (pa_cons (pv 4) pa_nil))) pa_nil)))
      (pss_one (ps_set (i := 1) nd rfl (.inl rfl) (pv 7))))))))
      (pss_cons (ps_expr (pe_bm PySem.F.plainAttrs_list PySem.F.slot_list_append PySem.F.type_list_append mt_append (pv 5) (pa_cons (pe_tup (pa_cons pe_str pa_nil)) pa_nil)))
      (pss_one (ps_ret (pv 5))))))), ?_⟩
    refine ⟨_, rfl, _, _, rfl, rfl, _, rfl, ?_⟩
    by_cases c : t < 2
    · refine iteT' (decide_eq_true (by omega)) ?_
      refine ⟨one, fun a ha => ⟨one, fun l hl => ⟨_, rfl, l, (t : Int), _, rfl, rfl, upd_same, by omega, by omega, ?_, fun p hp => ?_⟩⟩⟩
      · show 1 * (t : Int).toNat ≤ sizeLine
        exact Nat.le_trans (show _ ≤ 2 by omega) (by decide)
      · have sm : Same H (upd (upd H a (.tup [V.str "turn"])) l (.lst [V.ref a])) := (same_alloc ha).trans (same_alloc hl)
        refine q p _ _ (none_back sm hp) (sm.trans (same_alloc hp)) upd_same ?_
        have ta : Tv K (upd (upd H a (.tup [V.str "turn"])) l (.lst [V.ref a])) Act.turn.enc (.ref a) := Tv.carry (carry_new hl) _ _ (tv1 upd_same rfl)
        have ep : plA S e t = List.replicate t .turn := by
          cases e with
          | zero => rfl
          | succ e => exact if_pos c
        rw [ep]
        have tt : t = 0 ∨ t = 1 := by omega
        rcases tt with rfl | rfl
        · exact rfl
        · exact ⟨_, _, rfl, ta.carry (carry_new hp), rfl⟩
    refine iteF' (decide_eq_false (by omega)) ?_
    have he1 : 1 ≤ e := by rcases hv with z | z <;> omega
    obtain ⟨e, rfl⟩ : ∃ e', e = e' + 1 := ⟨e - 1, by omega⟩
    refine ⟨_, rfl, _, rfl, _, _, rfl, rfl, ?_⟩
    refine ⟨_, rfl, two, fun a ha => ⟨one, fun L hL => ?_⟩⟩
    have sm0 : Same H (upd (upd H a (.tup [V.str "keep", V.int ((S : Int) - ((e + 1 : Nat) : Int))])) L (.lst [V.ref a])) := (same_alloc ha).trans (same_alloc hL)
    have hL0 : H L = none := by
      rw [upd_ne (ne_of_none upd_same hL).symm] at hL
      exact hL
    have es : (S : Int) - ((e + 1 : Nat) : Int) = (S : Int) - ((e : Int) + 1) := by omega
    have ep : plA S (e + 1) t = .keep ((S : Int) - ((e : Int) + 1)) :: loopA (plA S e) ((S : Int) - ((e : Int) + 1)) (e + 1) t t := if_neg c
    have app : ∀ {H1 : Hp} {ys : List V} {ds : List PyData} {t : Addr} {vs : List V} {d : PyData}, Same H H1 → H1 L = some (.lst ys) → TvL K H1 ds ys → ds.length ≤ 2000 → H1 t = none → Tv K (upd H1 t (.tup vs)) d (.ref t) →
        (upd H1 t (.tup vs)) L = some (.lst ys) ∧ ys.length < sizeLine ∧ Same H (upd (upd H1 t (.tup vs)) L (.lst (ys ++ [.ref t]))) ∧ (upd (upd H1 t (.tup vs)) L (.lst (ys ++ [.ref t]))) L = some (.lst (ys ++ [.ref t])) ∧
          TvL K (upd (upd H1 t (.tup vs)) L (.lst (ys ++ [.ref t]))) (ds ++ [d]) (ys ++ [.ref t]) := by
      intro H1 ys ds t vs d sm eR tl dl ht td
      have e1 : (upd H1 t (.tup vs)) L = some (.lst ys) := by rw [upd_ne (ne_of_none eR ht)]; exact eR
      refine ⟨e1, ?_, same_put (sm.trans (same_alloc ht)) hL0, upd_same, ?_⟩
      · rw [tvl_len tl]
        exact Nat.lt_of_le_of_lt dl (by decide)
      · exact TvL.carry (carry_lst e1) _ _ (tvl_snoc (TvL.carry (carry_new ht) _ _ tl) td)
    have tot : (plA S (e + 1) t).length ≤ 500 := plA_short (by omega) (by omega) hv
    refine while_by (fun σ H' => Same H H' ∧ ∃ (u f : Nat) (acc : List Act) (ys : List V) (w6 w7 : Option V), σ = [some (.ref r), some (.int (u : Int)), some (.int ((e + 1 : Nat) : Int)), some (.int (S : Int)), some (.int ((S : Int) - ((e + 1 : Nat) : Int))), some (.ref L), w6, w7] ∧
        1 ≤ u ∧ u ≤ t ∧ u ≤ f ∧ H' L = some (.lst ys) ∧ TvL K H' (acc.map Act.enc) ys ∧ acc ++ loopA (plA S e) ((S : Int) - ((e : Int) + 1)) (e + 1) f u = plA S (e + 1) t)
      (fun σ _ => match σ with | [_, some (.int u), _, _, _, _, _, _] => u.toNat | _ => 0)
      ⟨sm0, t, t, [.keep ((S : Int) - ((e : Int) + 1))], [.ref a], none, none, rfl, by omega, Nat.le_refl _, Nat.le_refl _, upd_same, ?_, ep.symm⟩ ?_ ?_
    · refine ⟨_, _, rfl, Tv.carry (carry_new hL) _ _ (tv2 upd_same rfl ?_), rfl⟩
      show V.int _ = V.int _
      rw [es]
    · rintro σ H1 ⟨sm, u, f, acc, ys, w6, w7, rfl, u1, ut, uf, eL, tl, eq⟩
      refine ⟨_, rfl, _, _, rfl, rfl, _, rfl, ?_⟩
      have al : acc.length ≤ 500 := by
        have := congrArg List.length eq
        rw [List.length_append] at this
        omega
      by_cases cu : u ≤ 1
      · -- the last turn
        refine iteF' (decide_eq_false (by omega)) ?_
        have el : loopA (plA S e) ((S : Int) - ((e : Int) + 1)) (e + 1) f u = [.turn] := by
          cases f with
          | zero => rfl
          | succ f => exact if_pos cu
        refine ⟨_, rfl, .inl ⟨rfl, _, SqL.of eL⟩, one, fun b hb => ?_⟩
        obtain ⟨a1, a2, a3, a4, a5⟩ := app (vs := [.str "turn"]) (d := Act.turn.enc) sm eL tl (by rw [List.length_map]; omega) hb (tv1 upd_same rfl)
        refine ⟨L, ys, _, rfl, rfl, a1, a2, _, rfl, q L _ _ hL0 a3 a4 ?_⟩
        rw [← eq, el, List.map_append]
        exact a5
      · refine iteT' (decide_eq_true (by omega)) ?_
        obtain ⟨f, rfl⟩ : ∃ f', f = f' + 1 := ⟨f - 1, by omega⟩
        obtain ⟨s1, s2, s3⟩ := sp_at (t := u) (e := e + 1) (by omega) (by omega) (by omega) (by omega)
        have el : loopA (plA S e) ((S : Int) - ((e : Int) + 1)) (e + 1) (f + 1) u = .advance (sp u (e + 1)) :: (plA S e (u - sp u (e + 1)) ++ .restore ((S : Int) - ((e : Int) + 1)) :: loopA (plA S e) ((S : Int) - ((e : Int) + 1)) (e + 1) f (sp u (e + 1))) := if_neg cu
        have hS1 := sm.seq hS
        have tv1' := TvL.carry (same_carry sm) _ _ tv
        obtain ⟨ra, es', ya, h1, h2, h3, h4⟩ := row_ent (T := tabN (S + 1) B) (j := u - 1) (s := e + 1) (n := S + 1) tv1' (by
          rw [List.getElem?_map, List.getD_eq_getElem?_getD]
          have : u - 1 < (tabN (S + 1) B).length := by rw [tabN_len]; omega
          rw [List.getElem?_eq_getElem this]
          rfl) ((okk_tab (S + 1) B).row _ (by omega)) (by omega)
        rw [show u - 1 + 1 = u by omega, tab_ent (by omega) (by omega) (by omega) (by omega) (by omega)] at h4
        rw [show ((u - 1 : Nat) : Int) = (u : Int) - 1 by omega] at h1
        have h4' : SqT K H1 ya [cV (ent TL u (e + 1)).1, .int (sp u (e + 1) : Int)] := h4
        refine ⟨_, rfl, _, rfl, _, _, rfl, rfl, r, xs, _, _, rfl, rfl, hS1, h1, _, rfl, ra, es', _, _, rfl, rfl, h2, h3, ?_⟩
        refine ⟨ya, _, rfl, h4', rfl, _, _, rfl, _, _, rfl, rfl, ?_⟩
        -- advance
        refine ⟨_, rfl, .inl ⟨rfl, _, SqL.of eL⟩, _, rfl, two, fun b hb => ?_⟩
        obtain ⟨a1, a2, a3, a4, a5⟩ := app (vs := [.str "advance", .int (sp u (e + 1) : Int)]) (d := (Act.advance (sp u (e + 1))).enc) sm eL tl (by rw [List.length_map]; omega) hb (tv2 upd_same rfl rfl)
        refine ⟨L, ys, _, rfl, rfl, a1, a2, ?_⟩
        -- the plan behind
        have k1 : Same H (upd (upd H1 b (.tup [V.str "advance", .int (sp u (e + 1) : Int)])) L (.lst (ys ++ [.ref b]))) := a3
        refine ⟨_, rfl, _, rfl, _, rfl, _, rfl, _, _, rfl, rfl, _, rfl, _, _, rfl, rfl, _, rfl, r, xs, B, S, u - sp u (e + 1), e, ?_, k1.seq hS, TvL.carry (same_carry k1) _ _ tv, by omega, B40, by omega, S8, ?_, by omega, fun p zs H2 np s2' ep2 tp => ?_⟩
        · show [V.ref r, V.int ((u : Int) - (sp u (e + 1) : Int)), V.int (((e + 1 : Nat) : Int) - 1), V.int (S : Int)] = _
          rw [show (u : Int) - (sp u (e + 1) : Int) = ((u - sp u (e + 1) : Nat) : Int) by omega, show ((e + 1 : Nat) : Int) - 1 = (e : Int) by omega]
        · by_cases z : e = 0
          · exact .inl (s3 (by omega))
          · exact .inr (by omega)
        have eL2 := s2' _ _ a4
        have tl2 := TvL.carry (same_carry s2') _ _ a5
        have lr : (plA S e (u - sp u (e + 1))).length ≤ 500 := plA_short (by omega) (by omega) (by
          by_cases z : e = 0
          · exact .inl (s3 (by omega))
          · exact .inr (by omega))
        have nLp : L ≠ p := ne_of_none a4 np
        refine ⟨L, p, _, zs, rfl, rfl, eL2, ep2, ?_, ?_⟩
        · rw [tvl_len tl2, tvl_len tp, List.length_append, List.length_map, List.length_map]
          exact Nat.le_trans (show _ ≤ 2000 by show acc.length + 1 + _ ≤ _; omega) (by decide)
        have tl3 : TvL K (upd H2 L (.lst (ys ++ [.ref b] ++ zs))) (acc.map Act.enc ++ [(Act.advance (sp u (e + 1))).enc] ++ (plA S e (u - sp u (e + 1))).map Act.enc) (ys ++ [.ref b] ++ zs) := TvL.carry (carry_lst eL2) _ _ (tvl_app tl2 tp)
        have sm3 : Same H (upd H2 L (.lst (ys ++ [.ref b] ++ zs))) := same_put (a3.trans s2') hL0
        -- restore
        refine ⟨_, rfl, .inl ⟨rfl, _, SqL.of upd_same⟩, _, rfl, two, fun b2 hb2 => ?_⟩
        obtain ⟨b1', b2', b3', b4', b5'⟩ := app (vs := [.str "restore", .int ((S : Int) - ((e + 1 : Nat) : Int))]) (d := (Act.restore ((S : Int) - ((e : Int) + 1))).enc) sm3 upd_same tl3 (by
          rw [List.length_append, List.length_append, List.length_map, List.length_map]
          show acc.length + 1 + _ ≤ _
          omega) hb2 (by
            refine tv2 upd_same rfl ?_
            show V.int _ = V.int _
            rw [es])
        refine ⟨L, _, _, rfl, rfl, b1', b2', ?_⟩
        refine ⟨_, rfl, ⟨b3', sp u (e + 1), f, acc ++ [.advance (sp u (e + 1))] ++ plA S e (u - sp u (e + 1)) ++ [.restore ((S : Int) - ((e : Int) + 1))], _, _, _, rfl, s1, by omega, by omega, b4', ?_, ?_⟩, ?_⟩
        · rw [List.map_append, List.map_append, List.map_append]
          exact b5'
        · rw [← eq, el]
          simp
        · show ((sp u (e + 1) : Nat) : Int).toNat < (u : Int).toNat
          omega
    · intro σ H' Q1 Q2 hq h
      obtain ⟨v, h1, i, j, e1, e2, k, h3, h4⟩ := h
      exact ⟨v, h1, i, j, e1, e2, k, h3, hq _ _ h4⟩
theorem ok_pa {f : Addr} {fd : FuncData} (F : Fun K "plan_actions" "plan_actions" sPa f fd) (b : Binds K fd ["rows", "beats", "empty", "slots"] []) (m : mg "plan_actions" = some (.ref f)) : ∀ k : Nat, FnOk P w K mg base CX0 (k + 1) f fd ["rows", "beats", "empty", "slots"] (spPa K k)
  | 0 => ⟨fun vs H Q E h => by obtain ⟨_, _, _, _, _, _, _, _, _, _, _, _, _, _, z, _⟩ := h; exact absurd z (Nat.not_lt_zero _), fun A outer s H args us vs Q E _ _ _ _ h => by obtain ⟨_, _, _, _, _, _, _, _, _, _, _, _, _, _, z, _⟩ := h; exact absurd z (Nat.not_lt_zero _)⟩
  | k + 1 => ok_pa1 F ⟨f, fd, ok_pa F b m k, b, F.kp, m⟩
/-- what plan promises -/
def spPlan (K : PySem.W.Frag) (CS : Addr) : Sp := fun vs H Q E => ∃ (b s : Nat), vs = [.int (b : Int), .int (s : Int)] ∧ b ≤ 40 ∧ s ≤ 8 ∧
  ((b < 2 ∨ 1 ≤ s) → ∀ v H', Same H H' → Tv K H' (.tuple ((plA s s b).map Act.enc)) v → Q v H') ∧
  (¬ (b < 2 ∨ 1 ≤ s) → ∀ d H', Same H H' → H' d = some (.xd [("reason", .str "unfinished"), ("number", .int 0)]) → E (.ref CS) (some d) H')
theorem scPlan : FnScope ["beats", "slots"] ["beats", "slots"] (defScope sPlan) := ⟨rfl, rfl, rfl, by decide +kernel, rfl, by decide +kernel, by decide +kernel⟩
theorem ok_plan {f : Addr} {fd : FuncData} (F : Fun K "plan" "plan" sPlan f fd) (T : Bi mg) (c_ckn : Cal P w K mg base (L2.CX P w) 4 "check_numbers" ["beats", "slots"] (spCkn K CA)) (c_tr : Cal P w K mg base CX0 2 "table_rows" ["beats", "slots"] (spTr K))
    (c_pa : Cal P w K mg base CX0 10 "plan_actions" ["rows", "beats", "empty", "slots"] (spPa K 9)) (c_mkS : Mk P w K mg base "ScheduleError" CS ["self", "number", "reason"] (Er.spSE K CS)) :
    FnOk P w K mg base (L2.CX P w) 11 f fd ["beats", "slots"] (spPlan K CS) := by
  refine F.okX scPlan (fun vs H Q E h => ?_) (fun cdv A outer s H vs Q E hr h => ?_)
  · obtain ⟨b, s, rfl, _⟩ := h
    rfl
  · obtain ⟨b, sl, rfl, hb, hs, q, qe⟩ := h
    refine ⟨_, pss_cons (ps_expr (pe_call c_ckn.ok (hr.mono (by first | decide | omega)) rfl c_ckn.m c_ckn.kp c_ckn.b .nil (passes_call (takes_of rfl rfl rfl rfl) (fun _ _ _ _ h => h)) (pa_cons (pv 0) (pa_cons (pv 1) pa_nil))))
      (pss_cons (ps_if (PW.pt (pw_and (pt_cmpR op_ge (pv 0) pe_int (nomark _)) (pw_and1 (pt_cmpR op_eq (pv 1) pe_int (nomark _))))) (pss_one (ps_raise rfl (takes_of rfl rfl rfl rfl) (pmk_oex c_mkS.ex c_mkS.iC c_mkS.tI c_mkS.ok (hr.mono (by first | decide | omega)) c_mkS.b .nil pass0 rfl c_mkS.m (pa_cons pe_int (pa_cons pe_str pa_nil))))) pss_nil)
      (pss_one (ps_ret (pe_callTy call_tuple_of rfl T.tuple PyProof.Rows.boot_tuple (pa_cons (pe_call c_pa.ok (hr.mono (by first | decide | omega)) rfl c_pa.m c_pa.kp c_pa.b .nil pass0 (pa_cons (pe_call c_tr.ok (hr.mono (by first | decide | omega)) rfl c_tr.m c_tr.kp c_tr.b .nil pass0 (pa_cons (pv 0) (pa_cons (pv 1) pa_nil))) (pa_cons (pv 0) (pa_cons (pv 1) (pa_cons (pv 1) pa_nil))))) pa_nil))))), ?_⟩
    have e1 : btw (.int (b : Int)) 0 40 = true := btw_nat (m := 40) hb
    have e2 : btw (.int (sl : Int)) 0 8 = true := btw_nat (m := 8) hs
    refine ⟨_, rfl, _, rfl, _, _, .int (b : Int), .int (sl : Int), rfl, rfl, rfl, fun _ _ H1 s1 => ?_, fun z => absurd z (by rw [e1]; decide), fun _ z => absurd z (by rw [e2]; decide)⟩
    by_cases c : b < 2
    · refine ⟨_, rfl, _, _, rfl, rfl, _, rfl, iteF' (decide_eq_false (by omega)) ?_⟩
      refine iteF ?_
      refine ⟨_, rfl, _, rfl, b, sl, rfl, hb, hs, fun p xs H2 np s2 ep tx => ?_⟩
      refine ⟨_, rfl, _, rfl, _, rfl, p, xs, b, sl, b, sl, rfl, SqL.of ep, tx, Nat.le_refl _, hb, Nat.le_refl _, hs, .inl c, by omega, fun p2 ys H3 np2 s3 ep3 ty => ?_⟩
      refine ⟨p2, ys, rfl, .inl ⟨SqL.of ep3, fun l hl => ?_⟩⟩
      exact q (.inl c) _ _ ((s1.trans (s2.trans s3)).trans (same_alloc hl)) ⟨l, ys, rfl, SqT.of upd_same, TvL.carry (carry_new hl) _ _ ty⟩
    · refine ⟨_, rfl, _, _, rfl, rfl, _, rfl, iteT' (decide_eq_true (by omega)) ?_⟩
      refine ⟨_, rfl, rfl, _, rfl, ?_⟩
      by_cases c2 : sl = 0
      · refine iteT' (by simp [c2]) ?_
        exact err_S s1 (by decide) (by decide +kernel) fun d H' s2 e => qe (by omega) d H' s2 e
      · refine iteF' (by simp [c2]) ?_
        refine ⟨_, rfl, _, rfl, b, sl, rfl, hb, hs, fun p xs H2 np s2 ep tx => ?_⟩
        refine ⟨_, rfl, _, rfl, _, rfl, p, xs, b, sl, b, sl, rfl, SqL.of ep, tx, Nat.le_refl _, hb, Nat.le_refl _, hs, .inr (by omega), by omega, fun p2 ys H3 np2 s3 ep3 ty => ?_⟩
        refine ⟨p2, ys, rfl, .inl ⟨SqL.of ep3, fun l hl => ?_⟩⟩
        exact q (.inr (by omega)) _ _ ((s1.trans (s2.trans s3)).trans (same_alloc hl)) ⟨l, ys, rfl, SqT.of upd_same, TvL.carry (carry_new hl) _ _ ty⟩
end
end Sd

namespace Sd
open PySem L2 Tr Pu PyProof.Rows
/-- numbers from 0 on -/
structure NN (j : JS) : Prop where
  f : 0 ≤ j.front
  p : ∀ i, j.pos = some i → 0 ≤ i
  k : ∀ k v, valV j.kvs k = some v → ∃ i, v = .int i ∧ 0 ≤ i
theorem nn_step {j : JS} {a : Act} {x : PyData} (h : NN j) (ha : act? x = some a) (hr : reason j x = none) : NN (follow j a) := by
  have c0 : ¬ j.front = 0 := fun z => by rw [rea_done ha z] at hr; cases hr
  rw [rea_act ha c0] at hr
  obtain ⟨rfl, hok⟩ := act_some ha
  cases a with
  | keep s =>
    refine ⟨h.f, h.p, fun k v hv => ?_⟩
    have hv' : valV (putK j.kvs (Sum.inl s : Key) (posV j.pos)) k = some v := hv
    rw [valV_put] at hv'
    split at hv'
    · cases hp : j.pos with
      | none =>
        have er : reasonA j (Act.keep s) = if j.slots ≤ s then some ("slot" : Str) else (match j.pos with | none => some ("nowhere" : Str) | some _ => none) := rfl
        rw [er, hp] at hr
        split at hr <;> cases hr
      | some i =>
        rw [hp] at hv'
        exact ⟨i, (Option.some.inj hv').symm, h.p i hp⟩
    · exact h.k _ _ hv'
  | restore s =>
    refine ⟨h.f, fun i hi => ?_, h.k⟩
    have hi' : (match valV j.kvs (Sum.inl s : Key) with | some (.int i) => some i | _ => none) = some i := hi
    cases hv : valV j.kvs (Sum.inl s : Key) with
    | none => rw [hv] at hi'; cases hi'
    | some v =>
      obtain ⟨i2, rfl, h2⟩ := h.k _ _ hv
      rw [hv] at hi'
      cases hi'
      exact h2
  | advance n =>
    have hn : 1 ≤ n := hok
    cases hp : j.pos with
    | none =>
      have er : reasonA j (Act.advance n) = match j.pos with | none => some ("nowhere" : Str) | some p => if j.front ≤ p + n then some ("beyond" : Str) else none := rfl
      rw [er, hp] at hr
      cases hr
    | some i =>
      have ef : follow j (.advance n) = { j with pos := some (i + n), cost := j.cost + n } := by
        show (match j.pos with | some p => { j with pos := some (p + n), cost := j.cost + n } | none => j) = _
        rw [hp]
      rw [ef]
      refine ⟨h.f, fun k hk => ?_, h.k⟩
      have := h.p i hp
      cases hk
      omega
  | turn =>
    refine ⟨?_, (fun i hi => by cases hi), h.k⟩
    show 0 ≤ j.front - 1
    have := h.f
    omega
theorem fol_slots (j : JS) (a : Act) : (follow j a).slots = j.slots := by
  cases a with
  | advance n =>
    show (match j.pos with | some p => { j with pos := some (p + n), cost := j.cost + n } | none => j).slots = _
    cases j.pos <;> rfl
  | keep s => rfl
  | restore s => rfl
  | turn => rfl
theorem runJ_slots (l : List PyData) : ∀ (j j' : JS), runJ j l = some j' → j'.slots = j.slots := by
  induction l with
  | nil => intro j j' h; cases h; rfl
  | cons x r ih =>
    intro j j' h
    have h' : (match stepJ j x with | some j' => runJ j' r | none => none) = some j' := h
    cases e : stepJ j x with
    | none => rw [e] at h'; cases h'
    | some j2 =>
      rw [e] at h'
      rw [ih _ _ h']
      unfold stepJ at e
      cases hr : reason j x with
      | some r => rw [hr] at e; cases e
      | none =>
        rw [hr] at e
        cases ha : act? x with
        | none => rw [ha] at e; cases e
        | some a =>
          rw [ha] at e
          cases e
          exact fol_slots j a
theorem run_slots {b sl : Int} {l : List PyData} {j : JS} (h : runJ (js0 b sl) l = some j) : j.slots = sl := runJ_slots l _ _ h
end Sd

namespace Sd
open PySem L2 Tr Pu PyProof.Rows
def lc (t u : Nat) : Option Nat := if t = 0 then some 0 else cst TL t u
def chkZ : Bool := (List.range 2).all fun t => (List.range 9).all fun u => lc t u == some 0
theorem chkZ_ok : chkZ = true := by decide +kernel
theorem lc_low {t u : Nat} (h : t < 2) (hu : u < 9) : lc t u = some 0 :=
  eq_of_beq (List.all_eq_true.mp (List.all_eq_true.mp chkZ_ok t (List.mem_range.mpr h)) u (List.mem_range.mpr hu))
theorem Lc_lc {b s : Nat} (hb : b < 41) (hs : s < 9) : Lc b s = lc b s := Lc_is hb hs
end Sd

/-! ## No schedule is cheaper than the least cost -/
namespace Sd
open PySem L2 Tr Pu PyProof.Rows
def lcN (t e : Nat) : Nat := (lc t e).getD 1000000
def chkR : Bool := (List.range 41).all fun t => (List.range 9).all fun e => e == 0 || (List.range t).all fun k => k == 0 || decide (lcN t e ≤ k + lcN (t - k) (e - 1) + lcN k e)
theorem chkR_ok : chkR = true := by decide +kernel
theorem lc_rec {t e k : Nat} (ht : t ≤ 40) (he : e ≤ 8) (h1 : 1 ≤ e) (k1 : 1 ≤ k) (kt : k < t) : lcN t e ≤ k + lcN (t - k) (e - 1) + lcN k e := by
  have a := List.all_eq_true.mp (List.all_eq_true.mp chkR_ok t (List.mem_range.mpr (by omega))) e (List.mem_range.mpr (by omega))
  rw [show (e == 0) = false from beq_false_of_ne (by omega), Bool.false_or] at a
  have b := List.all_eq_true.mp a k (List.mem_range.mpr kt)
  rw [show (k == 0) = false from beq_false_of_ne (by omega), Bool.false_or] at b
  exact of_decide_eq_true b
def chkA : Bool := (List.range 41).all fun t => (List.range 8).all fun e => decide (lcN t (e + 1) ≤ lcN t e)
theorem chkA_ok : chkA = true := by decide +kernel
theorem lc_anti1 {t e : Nat} (ht : t ≤ 40) (he : e + 1 ≤ 8) : lcN t (e + 1) ≤ lcN t e :=
  of_decide_eq_true (List.all_eq_true.mp (List.all_eq_true.mp chkA_ok t (List.mem_range.mpr (by omega))) e (List.mem_range.mpr (by omega)))
theorem lc_anti {t e' : Nat} (ht : t ≤ 40) : ∀ {e : Nat}, e ≤ 8 → e' ≤ e → lcN t e ≤ lcN t e'
  | 0, _, h => by rw [show e' = 0 by omega]; exact Nat.le_refl _
  | e + 1, he, h => by
    by_cases c : e' = e + 1
    · rw [c]; exact Nat.le_refl _
    · exact Nat.le_trans (lc_anti1 ht he) (lc_anti ht (by omega) (by omega))
theorem lc_one {e : Nat} (he : e ≤ 8) : lcN 1 e = 0 := by unfold lcN; rw [lc_low (by decide) (by omega)]; rfl
abbrev Pr := List (Nat × Nat)
/-- positions s_1 < s_2 < .. < f, each with the one before it that it comes from: lo ≤ k_1 ≤ s_1 < k_2 ≤ s_2 < .. -/
def Chn (f : Nat) : Nat → Pr → Prop
  | lo, [] => lo ≤ f
  | lo, (s, k) :: r => lo ≤ k ∧ k ≤ s ∧ Chn f (s + 1) r
def Qc (f : Nat) : Nat → Nat → Pr → Nat
  | e, prev, [] => lcN (f - prev) e
  | e, prev, (s, k) :: r => lcN (s - prev) e + (s - k) + Qc f (e - 1) s r
theorem chn_le {f : Nat} : ∀ {lo : Nat} {r : Pr}, Chn f lo r → lo ≤ f
  | lo, [], h => h
  | lo, (s, k) :: r, h => by
    have := chn_le h.2.2
    have h1 := h.1
    have h2 := h.2.1
    omega
theorem chn_weak {f lo lo' : Nat} (hl : lo' ≤ lo) : ∀ {r : Pr}, Chn f lo r → Chn f lo' r
  | [], h => Nat.le_trans hl h
  | (s, k) :: r, h => ⟨Nat.le_trans hl h.1, h.2.1, h.2.2⟩
theorem q_anti {f : Nat} (hf : f ≤ 40) : ∀ (r : Pr) (e e' prev lo : Nat), Chn f lo r → e ≤ 8 → e' ≤ e → Qc f e prev r ≤ Qc f e' prev r
  | [], e, e', prev, lo, _, he, h => lc_anti (by omega) he h
  | (s, k) :: r, e, e', prev, lo, hc, he, h => by
    have h1 := q_anti hf r (e - 1) (e' - 1) s (s + 1) hc.2.2 (by omega) (by omega)
    have h3 := chn_le hc.2.2
    have h2 : lcN (s - prev) e ≤ lcN (s - prev) e' := lc_anti (by omega) he h
    show lcN (s - prev) e + (s - k) + Qc f (e - 1) s r ≤ lcN (s - prev) e' + (s - k) + Qc f (e' - 1) s r
    omega
theorem q_rem {f e prev s k n : Nat} {r : Pr} (hf : f ≤ 40) (he : e ≤ 8) (h1 : 1 ≤ e) (hp : prev < s) (hk : k ≤ s) (hn : k ≤ prev + n) (hc : Chn f (s + 1) r) : Qc f e prev r ≤ Qc f e prev ((s, k) :: r) + n := by
  cases r with
  | nil =>
    have hs : s + 1 ≤ f := hc
    have := lc_rec (t := f - prev) (e := e) (k := s - prev) (by omega) he h1 (by omega) (by omega)
    rw [show f - prev - (s - prev) = f - s by omega] at this
    show lcN (f - prev) e ≤ lcN (s - prev) e + (s - k) + lcN (f - s) (e - 1) + n
    omega
  | cons x r =>
    obtain ⟨s2, k2⟩ := x
    obtain ⟨a, b, d⟩ := hc
    have hs := chn_le d
    have := lc_rec (t := s2 - prev) (e := e) (k := s - prev) (by omega) he h1 (by omega) (by omega)
    rw [show s2 - prev - (s - prev) = s2 - s by omega] at this
    have an := q_anti hf r (e - 1) (e - 1 - 1) s2 (s2 + 1) d (by omega) (by omega)
    show lcN (s2 - prev) e + (s2 - k2) + Qc f (e - 1) s2 r ≤ lcN (s - prev) e + (s - k) + (lcN (s2 - s) (e - 1) + (s2 - k2) + Qc f (e - 1 - 1) s2 r) + n
    omega
theorem adv_list {f p n : Nat} {S : Nat → Prop} (hf : f ≤ 40) (hn : 1 ≤ n) : ∀ (r : Pr) (e prev : Nat), Chn f (prev + 1) r → e ≤ 8 → r.length ≤ e → (∀ x ∈ r, x.2 = p + n ∨ S x.2) →
    ∃ r', Chn f (prev + 1) r' ∧ (∀ x ∈ r', x.2 = p ∨ S x.2) ∧ r'.length ≤ e ∧ Qc f e prev r' ≤ Qc f e prev r + n
  | [], e, prev, hc, he, hl, hs => ⟨[], hc, (fun x h => (nomatch h)), Nat.zero_le _, Nat.le_add_right _ _⟩
  | (s, k) :: r, e, prev, hc, he, hl, hs => by
    obtain ⟨h1, h2, h3⟩ := hc
    have hl' : r.length + 1 ≤ e := hl
    by_cases ck : k = p + n
    · subst ck
      -- what follows comes from elsewhere
      have no : ∀ (r : Pr) (lo : Nat), p + n < lo → Chn f lo r → (∀ x ∈ r, x.2 = p + n ∨ S x.2) → ∀ x ∈ r, S x.2 := by
        intro r
        induction r with
        | nil => intro lo _ _ _ x h; cases h
        | cons y r ih =>
          obtain ⟨s2, k2⟩ := y
          intro lo hlo hc hs x hx
          rcases List.mem_cons.mp hx with rfl | hx
          · rcases hs _ List.mem_cons_self with z | z
            · have := hc.1
              have z' : k2 = p + n := z
              omega
            · exact z
          · exact ih (s2 + 1) (by have := hc.1; have := hc.2.1; omega) hc.2.2 (fun x h => hs x (List.mem_cons_of_mem _ h)) x hx
      have tl := no r (s + 1) (by omega) h3 (fun x h => hs x (List.mem_cons_of_mem _ h))
      by_cases cp : prev + 1 ≤ p
      · refine ⟨(s, p) :: r, ⟨cp, by omega, h3⟩, fun x hx => ?_, hl, ?_⟩
        · rcases List.mem_cons.mp hx with rfl | hx
          · exact .inl rfl
          · exact .inr (tl x hx)
        · show lcN (s - prev) e + (s - p) + Qc f (e - 1) s r ≤ lcN (s - prev) e + (s - (p + n)) + Qc f (e - 1) s r + n
          omega
      · exact ⟨r, chn_weak (by omega) h3, fun x hx => .inr (tl x hx), by omega, q_rem hf he (by omega) (by omega) h2 (by omega) h3⟩
    · have sk : S k := (hs _ List.mem_cons_self).resolve_left ck
      obtain ⟨r', a, b, d, q⟩ := adv_list hf hn r (e - 1) s h3 (by omega) (by omega) (fun x h => hs x (List.mem_cons_of_mem _ h))
      refine ⟨(s, k) :: r', ⟨h1, h2, a⟩, fun x hx => ?_, ?_, ?_⟩
      · rcases List.mem_cons.mp hx with rfl | hx
        · exact .inr sk
        · exact b x hx
      · show r'.length + 1 ≤ e
        omega
      · show lcN (s - prev) e + (s - k) + Qc f (e - 1) s r' ≤ lcN (s - prev) e + (s - k) + Qc f (e - 1) s r + n
        omega
theorem app_list {f : Nat} : ∀ (r : Pr) (e prev lo : Nat), Chn f lo r → e ≤ 8 → Chn (f + 1) lo (r ++ [(f, f)]) ∧ Qc (f + 1) e prev (r ++ [(f, f)]) = Qc f e prev r
  | [], e, prev, lo, hc, he => by
    refine ⟨⟨hc, Nat.le_refl _, Nat.le_refl _⟩, ?_⟩
    show lcN (f - prev) e + (f - f) + lcN (f + 1 - f) (e - 1) = lcN (f - prev) e
    rw [show f + 1 - f = 1 by omega, lc_one (by omega)]
    omega
  | (s, k) :: r, e, prev, lo, hc, he => by
    obtain ⟨a, b⟩ := app_list r (e - 1) s (s + 1) hc.2.2 (by omega)
    refine ⟨⟨hc.1, hc.2.1, a⟩, ?_⟩
    show lcN (s - prev) e + (s - k) + Qc (f + 1) (e - 1) s (r ++ [(f, f)]) = lcN (s - prev) e + (s - k) + Qc f (e - 1) s r
    rw [b]
/-- from these positions, with c slots, what is left to the front f costs at most D only if .. -/
def Lwb (A : Nat → Prop) (c f : Nat) (D : Int) : Prop := (f = 0 ∧ 0 ≤ D) ∨ (A 0 ∧ ∃ r : Pr, Chn f 1 r ∧ (∀ x ∈ r, A x.2) ∧ r.length ≤ c ∧ (Qc f c 0 r : Int) ≤ D)
theorem gd_mono {A A' : Nat → Prop} {c f : Nat} {D : Int} (h : ∀ x, A' x → A x) : Lwb A' c f D → Lwb A c f D
  | .inl z => .inl z
  | .inr ⟨z, r, a, b, d, q⟩ => .inr ⟨h 0 z, r, a, fun x hx => h _ (b x hx), d, q⟩
theorem gd_adv {S : Nat → Prop} {c f p n : Nat} {D : Int} (hc : c ≤ 8) (hf : f ≤ 40) (hn : 1 ≤ n) : Lwb (fun x => x = p + n ∨ S x) c f D → Lwb (fun x => x = p ∨ S x) c f (D + n)
  | .inl z => .inl ⟨z.1, by omega⟩
  | .inr ⟨z, r, a, b, d, q⟩ => by
    have z0 : S 0 := by
      rcases z with z | z
      · omega
      · exact z
    obtain ⟨r', a', b', d', q'⟩ := adv_list (S := S) hf hn r c 0 a hc d b
    exact .inr ⟨.inr z0, r', a', b', d', by omega⟩
theorem gd_turn {S : Nat → Prop} {c f : Nat} {D : Int} (hc : c ≤ 8) (cnt : ∀ ks : List Nat, ks.Pairwise (· < ·) → (∀ x ∈ ks, S x) → ks.length ≤ c) : Lwb S c f D → Lwb (fun x => x = f ∨ S x) c (f + 1) D
  | .inl z => by
    obtain ⟨rfl, z⟩ := z
    refine .inr ⟨.inl rfl, [], Nat.le_refl _, (fun x h => (nomatch h)), Nat.zero_le _, ?_⟩
    show ((lcN (0 + 1 - 0) c : Nat) : Int) ≤ D
    rw [show 0 + 1 - 0 = 1 from rfl, lc_one hc]
    exact z
  | .inr ⟨z, r, a, b, d, q⟩ => by
    obtain ⟨a', q'⟩ := app_list r c 0 1 a hc
    have inc : ∀ (r : Pr) (lo : Nat), Chn f lo r → (r.map (·.2)).Pairwise (· < ·) ∧ ∀ x ∈ r.map (·.2), lo ≤ x := by
      intro r
      induction r with
      | nil => intro lo _; exact ⟨List.Pairwise.nil, fun x h => (nomatch h)⟩
      | cons y r ih =>
        obtain ⟨s, k⟩ := y
        intro lo h
        obtain ⟨i1, i2⟩ := ih (s + 1) h.2.2
        refine ⟨List.Pairwise.cons (fun x hx => ?_) i1, fun x hx => ?_⟩
        · have := i2 x hx
          have := h.2.1
          show k < x
          omega
        · rcases List.mem_cons.mp hx with rfl | hx
          · exact h.1
          · have := i2 x hx
            have h1 := h.1
            have h2 := h.2.1
            omega
    obtain ⟨i1, i2⟩ := inc r 1 a
    have := cnt (0 :: r.map (·.2)) (List.Pairwise.cons (fun x hx => i2 x hx) i1) (fun x hx => by
      rcases List.mem_cons.mp hx with rfl | hx
      · exact z
      · obtain ⟨y, hy, rfl⟩ := List.mem_map.mp hx
        exact b y hy)
    rw [List.length_cons, List.length_map] at this
    refine .inr ⟨.inr z, r ++ [(f, f)], a', fun x hx => ?_, ?_, ?_⟩
    · rcases List.mem_append.mp hx with hx | hx
      · exact .inr (b x hx)
      · rw [List.mem_singleton.mp hx]
        exact .inl rfl
    · rw [List.length_append]
      exact this
    · rw [q']
      exact q
theorem gd_end {c T : Nat} {D : Int} (hc : c ≤ 8) (h : Lwb (fun x => x = 0) c T D) : (lcN T c : Int) ≤ D := by
  rcases h with ⟨rfl, h⟩ | ⟨_, r, a, b, d, q⟩
  · have : lcN 0 c = 0 := by unfold lcN lc; rfl
    rw [this]
    exact h
  · cases r with
    | nil => exact q
    | cons x r =>
      have h1 := b x List.mem_cons_self
      have h2 := a.1
      obtain ⟨s, k⟩ := x
      have h1' : k = 0 := h1
      have h2' : 1 ≤ k := h2
      omega
/-- c slots hold c positions at most -/
theorem cnt_slots {st : Nat → Option Nat} : ∀ (c : Nat) (ks : List Nat), ks.Pairwise (· < ·) → (∀ x ∈ ks, ∃ i, i < c ∧ st i = some x) → ks.length ≤ c
  | 0, ks, _, h => by
    cases ks with
    | nil => exact Nat.le_refl _
    | cons x r =>
      obtain ⟨i, hi, _⟩ := h x List.mem_cons_self
      omega
  | c + 1, ks, hp, h => by
    have key : ∀ (ks : List Nat) (y : Nat), ks.Pairwise (· < ·) → ks.length ≤ (ks.filter fun x => decide (x ≠ y)).length + 1 := by
      intro ks y
      induction ks with
      | nil => intro _; exact Nat.zero_le _
      | cons a r ih =>
        intro hp
        rw [List.pairwise_cons] at hp
        by_cases c : a = y
        · have e : (r.filter fun x => decide (x ≠ y)) = r := List.filter_eq_self.mpr fun x hx => decide_eq_true (by have := hp.1 x hx; omega)
          rw [List.filter_cons_of_neg (by simp [c]), e]
          exact Nat.le_refl _
        · rw [List.filter_cons_of_pos (by simp [c]), List.length_cons, List.length_cons]
          have := ih hp.2
          omega
    cases hs : st c with
    | none =>
      refine Nat.le_trans (cnt_slots (st := st) c ks hp fun x hx => ?_) (Nat.le_succ _)
      obtain ⟨i, hi, e⟩ := h x hx
      refine ⟨i, ?_, e⟩
      by_cases z : i = c
      · rw [z, hs] at e; cases e
      · omega
    | some y =>
      have l := key ks y hp
      have := cnt_slots (st := st) c (ks.filter fun x => decide (x ≠ y)) (hp.filter _) fun x hx => by
        obtain ⟨hx1, hx2⟩ := List.mem_filter.mp hx
        obtain ⟨i, hi, e⟩ := h x hx1
        refine ⟨i, ?_, e⟩
        by_cases z : i = c
        · rw [z, hs] at e
          cases e
          exact absurd rfl (of_decide_eq_true hx2)
        · omega
      omega
/-- the positions at hand -/
def stA (j : JS) (i : Nat) : Option Nat := match valV j.kvs (Sum.inl (i : Int) : Key) with | some (.int x) => some x.toNat | _ => none
def Avl (j : JS) (c : Nat) (x : Nat) : Prop := j.pos = some (x : Int) ∨ ∃ i, i < c ∧ stA j i = some x
theorem low_step {j : JS} {a : Act} {x : PyData} {c : Nat} {D : Int} (nn : NN j) (hc : c ≤ 8) (hs : j.slots = (c : Int)) (hf : j.front ≤ 40) (ha : act? x = some a) (hr : reason j x = none)
    (g : Lwb (Avl (follow j a) c) c (follow j a).front.toNat (D - (follow j a).cost)) : Lwb (Avl j c) c j.front.toNat (D - j.cost) := by
  have c0 : ¬ j.front = 0 := fun z => by rw [rea_done ha z] at hr; cases hr
  rw [rea_act ha c0] at hr
  obtain ⟨rfl, hok⟩ := act_some ha
  have f0 := nn.f
  cases a with
  | keep s =>
    have s0 : 0 ≤ s := hok
    refine gd_mono (fun y hy => ?_) g
    rcases hy with hy | ⟨i, hi, hy⟩
    · exact .inl hy
    · have e : stA (follow j (.keep s)) i = match valV (putK j.kvs (Sum.inl s : Key) (posV j.pos)) (Sum.inl (i : Int) : Key) with | some (.int x) => some x.toNat | _ => none := rfl
      rw [e, valV_put] at hy
      by_cases ck : (Sum.inl (i : Int) : Key) = Sum.inl s
      · rw [if_pos ck] at hy
        cases hp : j.pos with
        | none => rw [hp] at hy; cases hy
        | some p =>
          rw [hp] at hy
          have : p.toNat = y := Option.some.inj hy
          have := nn.p p hp
          refine .inl ?_
          rw [hp]
          congr 1
          omega
      · rw [if_neg ck] at hy
        exact .inr ⟨i, hi, hy⟩
  | restore s =>
    have s0 : 0 ≤ s := hok
    have er : reasonA j (Act.restore s) = if j.slots ≤ s then some ("slot" : Str) else if (valV j.kvs (Sum.inl s : Key)).isSome = true then none else some ("empty" : Str) := rfl
    rw [er] at hr
    have sl : ¬ j.slots ≤ s := fun z => by rw [if_pos z] at hr; cases hr
    refine gd_mono (fun y hy => ?_) g
    rcases hy with hy | hy
    · have hy' : (match valV j.kvs (Sum.inl s : Key) with | some (.int i) => some i | _ => none) = some (y : Int) := hy
      cases hv : valV j.kvs (Sum.inl s : Key) with
      | none => rw [hv] at hy'; cases hy'
      | some v =>
        obtain ⟨i, rfl, i0⟩ := nn.k _ _ hv
        rw [hv] at hy'
        have e : i = (y : Int) := Option.some.inj hy'
        refine .inr ⟨s.toNat, by omega, ?_⟩
        unfold stA
        rw [show ((s.toNat : Nat) : Int) = s by omega, hv, e]
        rfl
    · exact .inr hy
  | advance n =>
    have n1 : 1 ≤ n := hok
    have er : reasonA j (Act.advance n) = match j.pos with | none => some ("nowhere" : Str) | some p => if j.front ≤ p + n then some ("beyond" : Str) else none := rfl
    cases hp : j.pos with
    | none => rw [er, hp] at hr; cases hr
    | some p =>
      have p0 := nn.p p hp
      have ef : follow j (.advance n) = { j with pos := some (p + n), cost := j.cost + n } := by
        show (match j.pos with | some p => { j with pos := some (p + n), cost := j.cost + n } | none => j) = _
        rw [hp]
      rw [ef] at g
      have g2 : Lwb (fun x => x = p.toNat + n.toNat ∨ ∃ i, i < c ∧ stA j i = some x) c j.front.toNat (D - (j.cost + n)) := by
        refine gd_mono (fun y hy => ?_) g
        rcases hy with hy | hy
        · have : p + n = (y : Int) := Option.some.inj hy
          exact .inl (by omega)
        · exact .inr hy
      have g3 := gd_adv hc (by omega) (by omega : 1 ≤ n.toNat) g2
      rw [show D - (j.cost + n) + (n.toNat : Int) = D - j.cost by omega] at g3
      refine gd_mono (fun y hy => ?_) g3
      rcases hy with hy | hy
      · exact .inl (by rw [hp]; congr 1; omega)
      · exact .inr hy
  | turn =>
    have er : reasonA j Act.turn = match j.pos with | none => some ("nowhere" : Str) | some p => if p = j.front - 1 then none else some ("turn" : Str) := rfl
    cases hp : j.pos with
    | none => rw [er, hp] at hr; cases hr
    | some p =>
      rw [er, hp] at hr
      have e1 : p = j.front - 1 := Decidable.byContradiction fun z => by
        have : (if p = j.front - 1 then none else some ("turn" : Str)) = none := hr
        rw [if_neg z] at this
        cases this
      have g2 : Lwb (fun x => ∃ i, i < c ∧ stA j i = some x) c (j.front - 1).toNat (D - j.cost) := by
        refine gd_mono (fun y hy => ?_) g
        rcases hy with hy | hy
        · cases hy
        · exact hy
      have g3 := gd_turn hc (fun ks h1 h2 => cnt_slots (st := stA j) c ks h1 h2) g2
      rw [show (j.front - 1).toNat + 1 = j.front.toNat by omega] at g3
      refine gd_mono (fun y hy => ?_) g3
      rcases hy with hy | hy
      · exact .inl (by rw [hp]; congr 1; omega)
      · exact .inr hy
theorem fol_front {j : JS} (a : Act) : (follow j a).front ≤ j.front := by
  cases a with
  | advance n =>
    show (match j.pos with | some p => { j with pos := some (p + n), cost := j.cost + n } | none => j).front ≤ _
    cases j.pos <;> exact Int.le_refl _
  | keep s => exact Int.le_refl _
  | restore s => exact Int.le_refl _
  | turn => show j.front - 1 ≤ j.front; omega
theorem low_run {c : Nat} (hc : c ≤ 8) : ∀ (ds : List PyData) (j j' : JS), NN j → j.slots = (c : Int) → j.front ≤ 40 → runJ j ds = some j' → j'.front = 0 → Lwb (Avl j c) c j.front.toNat (j'.cost - j.cost)
  | [], j, j', nn, hs, hf, h, h0 => by
    have e : j = j' := Option.some.inj h
    subst e
    exact .inl ⟨by rw [h0]; rfl, by omega⟩
  | x :: r, j, j', nn, hs, hf, h, h0 => by
    have h' : (match stepJ j x with | some j1 => runJ j1 r | none => none) = some j' := h
    cases e : stepJ j x with
    | none => rw [e] at h'; cases h'
    | some j1 =>
      rw [e] at h'
      unfold stepJ at e
      cases hr : reason j x with
      | some q => rw [hr] at e; cases e
      | none =>
        rw [hr] at e
        cases ha : act? x with
        | none => rw [ha] at e; cases e
        | some a =>
          rw [ha] at e
          have e1 : follow j a = j1 := Option.some.inj e
          subst e1
          exact low_step nn hc hs hf ha hr (low_run hc r _ j' (nn_step nn ha hr) (by rw [fol_slots]; exact hs) (Int.le_trans (fol_front a) hf) h' h0)
/-- what the judge accepts costs the least cost at least -/
theorem low_bound {b c : Nat} {ds : List PyData} {j : JS} (hb : b ≤ 40) (hc : c ≤ 8) (h : runJ (js0 b c) ds = some j) (h0 : j.front = 0) : (lcN b c : Int) ≤ j.cost := by
  have g := low_run hc ds (js0 b c) j ⟨Int.natCast_nonneg b, (fun i h => by cases h; exact Int.le_refl _), (fun k v h => by cases h)⟩ rfl (by show (b : Int) ≤ 40; omega) h h0
  have g2 : Lwb (fun x => x = 0) c b j.cost := by
    rw [show (js0 b c).front.toNat = b by show (b : Int).toNat = b; omega, show j.cost - (js0 b c).cost = j.cost by show j.cost - 0 = _; omega] at g
    refine gd_mono (fun y hy => ?_) g
    rcases hy with hy | ⟨i, _, hy⟩
    · have : (0 : Int) = (y : Int) := Option.some.inj hy
      omega
    · cases hy
  exact gd_end hc g2
end Sd

/-! ## no schedule is cheaper: the law's own numbers -/
namespace Sd
open PySem L2 Tr Pu PyProof.Rows
def wayI (a : Int) : Nat → Int
  | 0 => 1
  | k + 1 => wayI a k * (a - k) / ((k : Int) + 1)
def spWays : Sp := fun vs H Q _ => ∃ (a : Int) (b : Nat), vs = [.int a, .int (b : Int)] ∧ -1000 ≤ a ∧ a ≤ 1000 ∧ b ≤ 1000 ∧ Q (.int (wayI a b)) H
def rnd (b s : Int) (n : Nat) : Nat → Int
  | 0 => 0
  | k + 1 => if wayI (s + rnd b s n k) n < b then rnd b s n k + 1 else rnd b s n k
def closedI (b : Int) (n : Nat) : Int := if b < 2 then 0 else rnd b n n 41 * b - wayI ((n : Int) + rnd b n n 41) (n + 1)
theorem rnd_le (b s : Int) (n : Nat) : ∀ k, 0 ≤ rnd b s n k ∧ rnd b s n k ≤ k
  | 0 => ⟨Int.le_refl _, Int.le_refl _⟩
  | k + 1 => by
    have ih := rnd_le b s n k
    show 0 ≤ (if wayI (s + rnd b s n k) n < b then rnd b s n k + 1 else rnd b s n k) ∧ (if wayI (s + rnd b s n k) n < b then rnd b s n k + 1 else rnd b s n k) ≤ _
    split <;> omega
def spClosed : Sp := fun vs H Q _ => ∃ (b n : Nat), vs = [.int (b : Int), .int (n : Int)] ∧ b ≤ 40 ∧ n ≤ 8 ∧ Q (.int (closedI b n)) H
abbrev sWays : Stmt := top 24
abbrev sClosed : Stmt := top 25
section
variable {P : Program} {w : World} {K : PySem.W.Frag} {mg : Str → Option Value} {base : Heap}
theorem scWays : FnScope ["a", "b", "value", "k"] ["a", "b"] (defScope sWays) := ⟨rfl, rfl, rfl, by decide +kernel, rfl, by decide +kernel, by decide +kernel⟩
theorem ok_ways {f : Addr} {fd : FuncData} (F : Fun K "_law_choose" "_law_choose" sWays f fd) (T : Bi mg) : FnOk P w K mg base CX0 1 f fd ["a", "b"] spWays := by
  refine F.ok scWays (fun vs H Q E h => ?_) (fun cdv A outer s H vs Q E hr h => ?_)
  · obtain ⟨a, b, rfl, _⟩ := h
    rfl
  · obtain ⟨a, b, rfl, a0, a1, b1, q⟩ := h
    have nd := scWays.nd
    refine ⟨_, pss_cons (ps_set (i := 2) nd rfl (.inl rfl) pe_int)
      (pss_cons (ps_for PassesOwn.never rfl (pi_range1 rfl T.range (pa_cons (pv 1) pa_nil)) (pg_name (i := 3) nd rfl (.inl rfl)) (pss_one (ps_set (i := 2) nd rfl (.inl rfl) (pe_op op_fdiv (pe_op op_mul (pv 2) (pe_op op_sub (pv 0) (pv 3))) (pe_op op_add (pv 3) pe_int)))))
      (pss_one (ps_ret (pv 2)))), ?_⟩
    have eb : (b : Int).toNat = b := by omega
    refine ⟨_, rfl, (b : Int), rfl, by omega, by omega, for_range (lo := 0) (n := (b : Int).toNat) (fun i σ H' => H' = H ∧ ∃ w3 : Option V, σ = [some (.int a), some (.int (b : Int)), some (.int (wayI a i)), w3]) ⟨rfl, none, rfl⟩ ?_ ?_⟩
    · rintro i σ H1 hi ⟨rfl, w3, rfl⟩
      rw [eb] at hi
      have ei : (0 : Int) + (i : Int) = (i : Int) := by omega
      refine ⟨_, rfl, _, rfl, _, rfl, _, _, rfl, rfl, _, _, rfl, rfl, .inr ⟨by omega, by omega⟩, _, rfl, _, _, rfl, rfl, _, _, rfl, rfl, ⟨by omega, by omega⟩, rfl, some (.int (0 + (i : Int))), ?_⟩
      rw [ei]
      rfl
    · rintro σ H1 ⟨rfl, w3, rfl⟩
      rw [eb]
      exact ⟨_, rfl, q⟩
theorem scClosed : FnScope ["beats", "slots", "rounds", "k"] ["beats", "slots"] (defScope sClosed) := ⟨rfl, rfl, rfl, by decide +kernel, rfl, by decide +kernel, by decide +kernel⟩
theorem ok_closed {f : Addr} {fd : FuncData} (F : Fun K "_law_least" "_law_least" sClosed f fd) (T : Bi mg) (c_ways : Cal P w K mg base CX0 1 "_law_choose" ["a", "b"] spWays) : FnOk P w K mg base CX0 2 f fd ["beats", "slots"] spClosed := by
  refine F.ok scClosed (fun vs H Q E h => ?_) (fun cdv A outer s H vs Q E hr h => ?_)
  · obtain ⟨b, n, rfl, _⟩ := h
    rfl
  · obtain ⟨b, n, rfl, hb, hn, q⟩ := h
    have nd := scClosed.nd
    refine ⟨_, pss_cons (ps_if (pt_cmpR op_lt (pv 0) pe_int (nomark _)) (pss_one (ps_ret pe_int)) pss_nil)
      (pss_cons (ps_set (i := 2) nd rfl (.inl rfl) pe_int)
      (pss_cons (ps_for PassesOwn.never rfl (pi_range1 rfl T.range (pa_cons pe_int pa_nil)) (pg_name (i := 3) nd rfl (.inl rfl)) (pss_one (ps_if (pt_cmpR op_lt (pe_call c_ways.ok (hr.mono (by first | decide | omega)) rfl c_ways.m c_ways.kp c_ways.b .nil pass0 (pa_cons (pe_op op_add (pv 1) (pv 2)) (pa_cons (pv 1) pa_nil))) (pv 0) (nomark _)) (pss_one (ps_set (i := 2) nd rfl (.inl rfl) (pe_op op_add (pv 2) pe_int))) pss_nil)))
      (pss_one (ps_ret (pe_op op_sub (pe_op op_mul (pv 2) (pv 0)) (pe_call c_ways.ok (hr.mono (by first | decide | omega)) rfl c_ways.m c_ways.kp c_ways.b .nil pass0 (pa_cons (pe_op op_add (pv 1) (pv 2)) (pa_cons (pe_op op_add (pv 1) pe_int) pa_nil)))))))), ?_⟩
    refine ⟨_, rfl, _, _, rfl, rfl, _, rfl, ?_⟩
    by_cases c : b < 2
    · refine iteT' (decide_eq_true (by omega)) ?_
      have e : closedI b n = 0 := if_pos (by omega)
      rw [e] at q
      exact q
    refine iteF' (decide_eq_false (by omega)) ?_
    refine ⟨41, rfl, by decide, by decide, for_range (lo := 0) (n := 41) (fun i σ H' => H' = H ∧ ∃ w3 : Option V, σ = [some (.int (b : Int)), some (.int (n : Int)), some (.int (rnd b n n i)), w3]) ⟨rfl, none, rfl⟩ ?_ ?_⟩
    · rintro i σ H1 hi ⟨rfl, w3, rfl⟩
      have l := rnd_le b n n i
      refine ⟨_, rfl, _, rfl, _, _, rfl, rfl, _, rfl, (n : Int) + rnd b n n i, n, rfl, by omega, by omega, by omega, _, rfl, _, _, rfl, rfl, _, rfl, ?_⟩
      by_cases c1 : wayI ((n : Int) + rnd b n n i) n < (b : Int)
      · refine iteT' (decide_eq_true c1) ?_
        refine ⟨_, rfl, _, _, rfl, rfl, rfl, some (.int (0 + (i : Int))), ?_⟩
        have e : rnd b n n (i + 1) = rnd b n n i + 1 := if_pos c1
        rw [e]
        rfl
      · refine iteF' (decide_eq_false c1) ?_
        refine ⟨rfl, some (.int (0 + (i : Int))), ?_⟩
        have e : rnd b n n (i + 1) = rnd b n n i := if_neg c1
        rw [e]
        rfl
    · rintro σ H1 ⟨rfl, w3, rfl⟩
      have l := rnd_le b n n 41
      refine ⟨_, rfl, _, rfl, _, _, rfl, rfl, .inl ⟨by omega, by omega⟩, _, rfl, _, rfl, _, _, rfl, rfl, _, rfl, _, _, rfl, rfl, (n : Int) + rnd b n n 41, n + 1, ?_, by omega, by omega, by omega, _, _, rfl, rfl, ?_⟩
      · show [V.int ((n : Int) + rnd b n n 41), V.int ((n : Int) + 1)] = _
        rw [show (n : Int) + 1 = ((n + 1 : Nat) : Int) by omega]
      · have e : closedI b n = rnd b n n 41 * b - wayI ((n : Int) + rnd b n n 41) (n + 1) := if_neg (by omega)
        rw [e] at q
        exact q

end
end Sd

namespace Sd
open PySem L2 Tr Pu PyProof.Rows
def heV : Option Nat → V
  | none => .non
  | some x => .int x
/-- the greatest of the held positions before the front -/
def bestH (held : List (Option Nat)) (front : Nat) : Nat → Nat
  | 0 => 0
  | i + 1 => match held.getD i none, held.getD (bestH held front i) none with
    | some x, some y => if decide (x < front) && decide (y < x) then i else bestH held front i
    | _, _ => bestH held front i
theorem bestH_some {held : List (Option Nat)} {front x0 : Nat} (h0 : held.getD 0 none = some x0) (hx : x0 < front) : ∀ i, (bestH held front i = 0 ∨ bestH held front i < i) ∧ ∃ y, held.getD (bestH held front i) none = some y ∧ y < front
  | 0 => ⟨.inl rfl, x0, h0, hx⟩
  | i + 1 => by
    obtain ⟨lt, y, hy, hl⟩ := bestH_some h0 hx i
    have lt' : bestH held front i = 0 ∨ bestH held front i < i + 1 := lt.imp id (fun h => Nat.lt_succ_of_lt h)
    cases e : held.getD i none with
    | none =>
      have u : bestH held front (i + 1) = bestH held front i := by
        show (match held.getD i none, held.getD (bestH held front i) none with | some x, some y => if decide (x < front) && decide (y < x) then i else bestH held front i | _, _ => bestH held front i) = _
        rw [e]
      rw [u]
      exact ⟨lt', y, hy, hl⟩
    | some x =>
      have u : bestH held front (i + 1) = if decide (x < front) && decide (y < x) then i else bestH held front i := by
        show (match held.getD i none, held.getD (bestH held front i) none with | some x, some y => if decide (x < front) && decide (y < x) then i else bestH held front i | _, _ => bestH held front i) = _
        rw [e, hy]
      rw [u]
      by_cases c : (decide (x < front) && decide (y < x)) = true
      · rw [if_pos c]
        rw [Bool.and_eq_true] at c
        exact ⟨.inr (Nat.lt_succ_self i), x, e, of_decide_eq_true c.1⟩
      · rw [if_neg c]
        exact ⟨lt', y, hy, hl⟩
def spBest (K : PySem.W.Frag) : Sp := fun vs H Q _ => ∃ (a : Addr) (held : List (Option Nat)) (front x0 : Nat), vs = [.ref a, .int (front : Int)] ∧ SqL K H a (held.map heV) ∧ held.length ≤ 100 ∧ held.getD 0 none = some x0 ∧ x0 < front ∧ Q (.int (bestH held front held.length : Int)) H
abbrev sBest : Stmt := top 26
section
variable {P : Program} {w : World} {K : PySem.W.Frag} {mg : Str → Option Value} {base : Heap}
theorem held_at {held : List (Option Nat)} {i : Nat} (h : i < held.length) : atI (held.map heV) (i : Int) = some (heV (held.getD i none)) := atI_nat (by rw [List.getElem?_map, List.getD_eq_getElem?_getD, List.getElem?_eq_getElem h]; rfl)
theorem scBest : FnScope ["held", "front", "best", "slot"] ["held", "front"] (defScope sBest) := ⟨rfl, rfl, rfl, by decide +kernel, rfl, by decide +kernel, by decide +kernel⟩
theorem ok_best {f : Addr} {fd : FuncData} (F : Fun K "_law_best" "_law_best" sBest f fd) (T : Bi mg) : FnOk P w K mg base CX0 1 f fd ["held", "front"] (spBest K) := by
  refine F.ok scBest (fun vs H Q E h => ?_) (fun cdv A outer s H vs Q E hr h => ?_)
  · obtain ⟨a, held, front, x0, rfl, _⟩ := h
    rfl
  · obtain ⟨a, held, front, x0, rfl, hS, hl, h0, hx, q⟩ := h
    have nd := scBest.nd
    have pos : 0 < held.length := by
      cases held with
      | nil => cases h0
      | cons x r => exact Nat.succ_pos _
    refine ⟨_, pss_cons (ps_set (i := 2) nd rfl (.inl rfl) pe_int)
      (pss_cons (ps_for PassesOwn.never rfl (pi_range1 rfl T.range (pa_cons (pe_callB call_len_seq rfl T.len PySem.boot_len (pa_cons (pv 0) pa_nil)) pa_nil)) (pg_name (i := 3) nd rfl (.inl rfl)) (pss_one (ps_if (PW.pt (pw_and (pt_cmpR op_notN (pe_ix ix_list (pv 0) (pv 3) (fun _ _ => rfl)) pe_non (nomark _)) (pw_and (pt_cmpR op_lt (pe_ix ix_list (pv 0) (pv 3) (fun _ _ => rfl)) (pv 1) (nomark _)) (pw_and1 (pt_cmpR op_gt (pe_ix ix_list (pv 0) (pv 3) (fun _ _ => rfl)) (pe_ix ix_list (pv 0) (pv 2) (fun _ _ => rfl)) (nomark _)))))) (pss_one (ps_set (i := 2) nd rfl (.inl rfl) (pv 3))) pss_nil)))
      (pss_one (ps_ret (pv 2)))), ?_⟩
    have ln : (held.map heV).length = held.length := List.length_map ..
    have tn : (((held.map heV).length : Nat) : Int).toNat = held.length := by rw [ln]; rfl
    refine ⟨_, rfl, a, _, rfl, .inl hS, ((held.map heV).length : Int), rfl, by omega, by omega, for_range (lo := 0) (n := (((held.map heV).length : Nat) : Int).toNat)
      (fun i σ H' => H' = H ∧ ∃ w3 : Option V, σ = [some (.ref a), some (.int (front : Int)), some (.int (bestH held front i : Int)), w3]) ⟨rfl, none, rfl⟩ ?_ ?_⟩
    · rintro i σ H1 hi ⟨rfl, w3, rfl⟩
      rw [tn] at hi
      obtain ⟨lt, y, hy, hyl⟩ := bestH_some h0 hx i
      have e0 : (0 : Int) + (i : Int) = (i : Int) := by omega
      have A1 : atI (held.map heV) ((0 : Int) + (i : Int)) = some (heV (held.getD i none)) := by rw [e0]; exact held_at hi
      have A2 : atI (held.map heV) (bestH held front i : Int) = some (.int (y : Int)) := by
        have := held_at (held := held) (i := bestH held front i) (by omega)
        rw [hy] at this
        exact this
      refine ⟨_, rfl, _, rfl, a, _, _, _, rfl, rfl, hS, A1, rfl, _, rfl, ?_⟩
      cases e : held.getD i none with
      | none =>
        have u : bestH held front (i + 1) = bestH held front i := by
          show (match held.getD i none, held.getD (bestH held front i) none with | some x, some y => if decide (x < front) && decide (y < x) then i else bestH held front i | _, _ => bestH held front i) = _
          rw [e]
        refine iteF' rfl ?_
        refine iteF ?_
        refine ⟨rfl, some (.int (0 + (i : Int))), ?_⟩
        simp only [u]
        rfl
      | some x =>
        rw [e] at A1
        have u : bestH held front (i + 1) = if decide (x < front) && decide (y < x) then i else bestH held front i := by
          show (match held.getD i none, held.getD (bestH held front i) none with | some x, some y => if decide (x < front) && decide (y < x) then i else bestH held front i | _, _ => bestH held front i) = _
          rw [e, hy]
        refine iteT' rfl ?_
        refine ⟨_, rfl, _, rfl, a, _, _, _, rfl, rfl, hS, A1, _, rfl, _, _, rfl, rfl, _, rfl, ?_⟩
        by_cases c1 : x < front
        · refine iteT' (decide_eq_true (by omega)) ?_
          refine ⟨_, rfl, _, rfl, a, _, _, _, rfl, rfl, hS, A1, _, rfl, _, rfl, a, _, _, _, rfl, rfl, hS, A2, _, _, rfl, rfl, _, rfl, ?_⟩
          by_cases c2 : y < x
          · refine iteT' (decide_eq_true (by omega)) ?_
            rw [decide_eq_true c1, decide_eq_true c2] at u
            refine ⟨_, rfl, rfl, some (.int (0 + (i : Int))), ?_⟩
            simp only [u]
            show List.set _ _ _ = _
            simp only [e0]
            rfl
          · refine iteF' (decide_eq_false (by omega)) ?_
            rw [decide_eq_true c1, decide_eq_false c2] at u
            refine ⟨rfl, some (.int (0 + (i : Int))), ?_⟩
            simp only [u]
            rfl
        · refine iteF' (decide_eq_false (by omega)) ?_
          refine iteF ?_
          rw [decide_eq_false c1] at u
          refine ⟨rfl, some (.int (0 + (i : Int))), ?_⟩
          simp only [u]
          rfl
    · rintro σ H1 ⟨rfl, w3, rfl⟩
      rw [tn]
      exact ⟨_, rfl, q⟩
end
end Sd

namespace Sd
open PySem L2 Tr Pu PyProof.Rows
def advN : Act → List Int
  | .advance n => [n]
  | _ => []
def advs (as : List Act) : List Int := as.flatMap advN
def spCost (K : PySem.W.Frag) : Sp := fun vs H Q _ => ∃ (v : V) (as : List Act), vs = [v] ∧ Tv K H (.tuple (as.map Act.enc)) v ∧ as.length ≤ 2000 ∧ ∀ H', Same H H' → Q (.int (advs as).sum) H'
abbrev sCost : Stmt := top 28
abbrev nCost : List Str := ["schedule", "action"]
section
variable {P : Program} {w : World} {K : PySem.W.Frag} {mg : Str → Option Value} {base : Heap}
theorem scCost : FnScope nCost ["schedule"] (defScope sCost) := ⟨rfl, rfl, rfl, by decide +kernel, rfl, by decide +kernel, by decide +kernel⟩
theorem ok_cost {f : Addr} {fd : FuncData} (F : Fun K "_law_cost" "_law_cost" sCost f fd) (T : Bi mg) (zSum : mg "sum" = none) : FnOk P w K mg base CX0 1 f fd ["schedule"] (spCost K) := by
  refine F.ok scCost (fun vs H Q E h => ?_) (fun cdv A outer s H vs Q E hr h => ?_)
  · obtain ⟨v, as, rfl, _⟩ := h
    rfl
  · obtain ⟨v, as, rfl, tv, hl, q⟩ := h
    obtain ⟨sa, xs, rfl, sq, tl⟩ := tv
    have nd := scCost.nd
    have lx : xs.length = as.length := by rw [tvl_len tl, List.length_map]
    refine ⟨_, pss_one (ps_ret (pe_callB (cr_sum rfl) rfl zSum (by decide +kernel) (pa_cons (pe_lc (own := [("action", 1)]) (g := gName 1) rfl nd (pi_tup (pv 0)) (blkOk_by (N := nCost) (sc := defScope sCost) (by decide +kernel)) (fun _ _ _ _ _ => pg_name (i := 1) nd rfl (.inl rfl)) (fun _ _ _ _ _ => pts_one (pt_cmpR op_eq (pe_ix (ixT (K' := K) rfl) (pv 1) pe_int (fun _ _ => rfl)) pe_str (nomark _))) (fun _ _ _ _ _ => (pe_ix (ixT (K' := K) rfl) (pv 1) pe_int (fun _ _ => rfl)))) pa_nil))), ?_⟩
    refine ⟨_, rfl, sa, rfl, ⟨_, sq⟩, fun D hD => ?_⟩
    refine lc_tup (K := K) (a := sa) (xs := xs) (fun i H' => Same H H' ∧ (advs (as.take i)).length ≤ i ∧ H' D = some (.lst ((advs (as.take i)).map V.int))) ⟨same_alloc hD, Nat.le_refl _, upd_same⟩ (fun i H' _ h => same_carry h.1 _ _ sq) ?_ ?_
    · rintro i x H1 hx ⟨sm, li, eD⟩
      have il : i < xs.length := (List.getElem?_eq_some_iff.mp hx).1
      obtain ⟨a, ha⟩ : ∃ a, as[i]? = some a := ⟨_, List.getElem?_eq_getElem (by omega)⟩
      obtain ⟨y', h1, h2⟩ := tvl_get (j := i) (d := a.enc) tl (by rw [List.getElem?_map, ha]; rfl)
      rw [hx] at h1
      cases h1
      have tx := h2.carry (same_carry sm)
      have tk : advs (as.take (i + 1)) = advs (as.take i) ++ advN a := by
        unfold advs
        rw [List.take_add_one, ha, List.flatMap_append]
        show _ ++ (advN a ++ []) = _
        rw [List.append_nil]
      have stay : advN a = [] → Same H H1 ∧ (advs (as.take (i + 1))).length ≤ i + 1 ∧ H1 D = some (.lst ((advs (as.take (i + 1))).map V.int)) := fun z => by
        rw [tk, z, List.append_nil]
        exact ⟨sm, Nat.le_succ_of_le li, eD⟩
      cases a with
      | turn =>
        obtain ⟨va, zs, rfl, sq2, u1, r1, rfl, t1, rfl⟩ := tx
        cases t1
        exact ⟨rfl, _, rfl, va, _, 0, _, rfl, rfl, sq2, rfl, rfl, _, rfl, iteF' (by decide +kernel) (stay rfl)⟩
      | keep n =>
        obtain ⟨va, zs, rfl, sq2, u1, r1, rfl, t1, u2, r2, rfl, t2, rfl⟩ := tx
        cases t1
        cases t2
        exact ⟨rfl, _, rfl, va, _, 0, _, rfl, rfl, sq2, rfl, rfl, _, rfl, iteF' (by decide +kernel) (stay rfl)⟩
      | restore n =>
        obtain ⟨va, zs, rfl, sq2, u1, r1, rfl, t1, u2, r2, rfl, t2, rfl⟩ := tx
        cases t1
        cases t2
        exact ⟨rfl, _, rfl, va, _, 0, _, rfl, rfl, sq2, rfl, rfl, _, rfl, iteF' (by decide +kernel) (stay rfl)⟩
      | advance n =>
        obtain ⟨va, zs, rfl, sq2, u1, r1, rfl, t1, u2, r2, rfl, t2, rfl⟩ := tx
        cases t1
        cases t2
        refine ⟨rfl, _, rfl, va, _, 0, _, rfl, rfl, sq2, rfl, rfl, _, rfl, iteT' (by decide +kernel) ?_⟩
        refine ⟨_, rfl, va, _, 1, _, rfl, rfl, sq2, rfl, _, eD, ?_, same_put sm hD, ?_, ?_⟩
        · rw [List.length_map]
          exact Nat.lt_of_le_of_lt (show _ ≤ 2000 by omega) (by decide)
        · rw [tk, List.length_append]
          exact Nat.succ_le_succ li
        · rw [upd_same, tk, List.map_append]
          rfl
    · rintro H1 ⟨sm, li, eD⟩
      rw [lx, List.take_length] at eD
      exact ⟨D, advs as, rfl, SqL.of eD, q H1 sm⟩
/-- what a run costs is what it advances -/
theorem run_advs : ∀ (as : List Act) (j j' : JS), runA j as = some j' → j'.cost = j.cost + (advs as).sum
  | [], j, j', h => by
    cases h
    show j.cost = j.cost + 0
    omega
  | a :: r, j, j', h => by
    have h' : (if j.front = 0 then none else match reasonA j a with | some _ => none | none => runA (follow j a) r) = some j' := h
    by_cases c0 : j.front = 0
    · rw [if_pos c0] at h'; cases h'
    rw [if_neg c0] at h'
    cases hr : reasonA j a with
    | some q => rw [hr] at h'; cases h'
    | none =>
      rw [hr] at h'
      have ih := run_advs r _ j' h'
      have e : (follow j a).cost = j.cost + (advN a).sum := by
        cases a with
        | keep s => show j.cost = j.cost + 0; omega
        | restore s => show j.cost = j.cost + 0; omega
        | turn => show j.cost = j.cost + 0; omega
        | advance n =>
          have er : reasonA j (Act.advance n) = match j.pos with | none => some ("nowhere" : Str) | some p => if j.front ≤ p + n then some ("beyond" : Str) else none := rfl
          cases hp : j.pos with
          | none => rw [er, hp] at hr; cases hr
          | some p =>
            have ef : follow j (.advance n) = { j with pos := some (p + n), cost := j.cost + n } := by
              show (match j.pos with | some p => { j with pos := some (p + n), cost := j.cost + n } | none => j) = _
              rw [hp]
            rw [ef]
            show j.cost + n = j.cost + (n + 0)
            omega
      have t : (advs (a :: r)).sum = (advN a).sum + (advs r).sum := by
        show (advN a ++ advs r).sum = _
        rw [List.sum_append]
      rw [ih, e, t]
      omega
end
end Sd

/-! ## the draws of a script (as in the drawn trees) -/
namespace Sd
open PySem L2 Tr Pu PyProof.Rows
/-- the two lists of the draws: the numbers at d, the counter at p -/
structure Dr (K : PySem.W.Frag) (H : Hp) (d p : Addr) : Prop where
  ne : d ≠ p
  num : ∃ ns : List Int, SqL K H d (ns.map V.int)
  ctr : AtL H p
theorem Dr.next {K : PySem.W.Frag} {H H' : Hp} {d p : Addr} (h : Dr K H d p) (s : Stays p H H') (c : AtL H' p) : Dr K H' d p := by
  obtain ⟨ns, q⟩ := h.num
  exact ⟨h.ne, ⟨ns, s.list h.ne q⟩, c⟩
theorem Dr.new {K : PySem.W.Frag} {H : Hp} {d p q : Addr} {o : HO} (h : Dr K H d p) (n : H q = none) : Dr K (upd H q o) d p := h.next (stays_new n) (h.ctr.new n)
def spTake (K : PySem.W.Frag) : Sp := fun vs H Q _ => ∃ (d p : Addr) (m : Int), vs = [.ref d, .ref p, .int m] ∧ Dr K H d p ∧ 0 < m ∧
  ∀ v H', 0 ≤ v → v < m → Stays p H H' → AtL H' p → Q (.int v) H'
abbrev sTake : Stmt := top 23
section
variable {P : Program} {w : World} {K : PySem.W.Frag} {mg : Str → Option Value} {base : Heap}
theorem scTake : FnScope ["draws", "at", "many", "number"] ["draws", "at", "many"] (defScope sTake) := ⟨rfl, rfl, rfl, by decide +kernel, rfl, by decide +kernel, by decide +kernel⟩
theorem at_in {α : Type} {xs : List α} {j : Int} (h0 : 0 ≤ j) (h : j < (xs.length : Int)) : ∃ x, atI xs j = some x ∧ xs[j.toNat]? = some x := by
  have e : j = ((j.toNat : Nat) : Int) := by omega
  have hk : j.toNat < xs.length := by omega
  have q : atI xs ((j.toNat : Nat) : Int) = some xs[j.toNat] := atI_nat (List.getElem?_eq_getElem hk)
  rw [← e] at q
  exact ⟨_, q, List.getElem?_eq_getElem hk⟩
theorem ok_take {f : Addr} {fd : FuncData} (F : Fun K "_law_take" "_law_take" sTake f fd) (T : Bi mg) : FnOk P w K mg base CX0 1 f fd ["draws", "at", "many"] (spTake K) := by
  refine F.ok scTake (fun vs H Q E h => ?_) (fun cdv A outer s H vs Q E hr h => ?_)
  · obtain ⟨d, p, m, rfl, _⟩ := h
    rfl
  · obtain ⟨d, p, m, rfl, D, m0, q⟩ := h
    obtain ⟨ns, hS⟩ := D.num
    obtain ⟨j, j0, hp⟩ := D.ctr
    have nd := scTake.nd
    refine ⟨_, pss_cons (ps_if (pt_cmpR op_ge (pe_ix ix_list (pv 1) pe_int (fun _ _ => rfl)) (pe_callB call_len_seq rfl T.len PySem.boot_len (pa_cons (pv 0) pa_nil)) (nomark _)) (pss_one (ps_ret pe_int)) pss_nil)
      (pss_cons (ps_set (i := 3) nd rfl (.inl rfl) (pe_ix ix_list (pv 0) (pe_ix ix_list (pv 1) pe_int (fun _ _ => rfl)) (fun _ _ => rfl)))
      (pss_cons (ps_asg (pe_op op_add (pe_ix ix_list (pv 1) pe_int (fun _ _ => rfl)) pe_int) (pg_sub (pv 1) pe_int set_list))
      (pss_one (ps_ret (pe_op op_mod (pe_callTy call_int1 rfl T.int PyProof.Rows.boot_int (pa_cons (pv 3) pa_nil)) (pv 2)))))), ?_⟩
    refine ⟨_, rfl, p, _, _, _, rfl, rfl, SqL.of hp, rfl, _, rfl, d, _, rfl, .inl hS, _, _, rfl, rfl, _, rfl, ?_⟩
    rw [List.length_map]
    by_cases c : j ≥ (ns.length : Int)
    · refine iteT' (decide_eq_true c) ?_
      exact q 0 H (Int.le_refl _) m0 (Stays.refl _ _) ⟨j, j0, hp⟩
    · refine iteF' (decide_eq_false c) ?_
      obtain ⟨x, hx, hx2⟩ := at_in (xs := ns.map V.int) j0 (by rw [List.length_map]; omega)
      rw [List.getElem?_map] at hx2
      obtain ⟨n, rfl⟩ : ∃ n, x = V.int n := by
        cases e : ns[j.toNat]? with
        | none => rw [e] at hx2; cases hx2
        | some n => rw [e] at hx2; exact ⟨n, (Option.some.inj hx2).symm⟩
      refine ⟨_, rfl, _, rfl, p, _, _, _, rfl, rfl, SqL.of hp, rfl, d, _, _, _, rfl, rfl, hS, hx, ?_⟩
      refine ⟨_, rfl, p, _, _, _, rfl, rfl, SqL.of hp, rfl, _, _, rfl, rfl, _, rfl, p, _, _, _, rfl, rfl, hp, rfl, ?_⟩
      refine ⟨_, rfl, .inl ⟨_, rfl, _, rfl, _, _, rfl, rfl, m0, ?_⟩⟩
      exact q _ _ (Int.emod_nonneg _ (by omega)) (Int.emod_lt_of_pos _ m0) stays_upd ⟨j + 1, by omega, upd_same⟩
end
/-! ### the draws of a script -/
def spDraws (K : PySem.W.Frag) : Sp := fun vs H Q _ => ∃ (a : Addr) (ns : List Int), vs = [.ref a] ∧ SqL K H a (ns.map V.int) ∧
  ∀ (d : Addr) (ds : List Int) H', H d = none → Same H H' → H' d = some (.lst (ds.map V.int)) → Q (.ref d) H'
abbrev sDraws : Stmt := top 22
abbrev nDraws : List Str := ["script", "draws", "cell", "rest", "k", "mixed"]
theorem scDraws : FnScope nDraws ["script"] (defScope sDraws) := ⟨rfl, rfl, rfl, by decide +kernel, rfl, by decide +kernel, by decide +kernel⟩
section
variable {P : Program} {w : World} {K : PySem.W.Frag} {mg : Str → Option Value} {base : Heap}
theorem ok_draws {f : Addr} {fd : FuncData} (F : Fun K "_law_draws" "_law_draws" sDraws f fd) (T : Bi mg) : FnOk P w K mg base CX0 1 f fd ["script"] (spDraws K) := by
  refine F.ok scDraws (fun vs H Q E h => ?_) (fun cdv A outer s H vs Q E hr h => ?_)
  · obtain ⟨a, ns, rfl, _⟩ := h
    rfl
  · obtain ⟨a, ns, rfl, hS, q⟩ := h
    have nd := scDraws.nd
    refine ⟨_, pss_cons (ps_set (i := 1) nd rfl (.inl rfl) (pe_lst pa_nil))
      (pss_cons (ps_for PassesOwn.never rfl (pi_list (pe_slice sl_list (pv 0) po_none (po_some pe_int))) (pg_name (i := 2) nd rfl (.inl rfl)) (pss_cons (ps_set (i := 3) nd rfl (.inl rfl) (pe_callB call_abs rfl T.abs PyProof.Rows.boot_abs (pa_cons (pv 2) pa_nil)))
      (pss_one (ps_if (pt_cmpR op_ge (pv 3) (pe_op op_pow pe_int pe_int) (nomark _)) (pss_one (ps_for PassesOwn.never rfl (pi_range1 rfl T.range (pa_cons pe_int pa_nil)) (pg_name (i := 4) nd rfl (.inl rfl)) (pss_one (ps_if (pt_cmpR op_gt (pv 3) pe_int (nomark _)) (pss_cons (ps_expr (pe_bm PySem.F.plainAttrs_list PySem.F.slot_list_append PySem.F.type_list_append mt_append (pv 1) (pa_cons (pe_op op_mod (pe_callTy call_int1 rfl T.int PyProof.Rows.boot_int (pa_cons (pv 3) pa_nil)) pe_int) pa_nil)))
      (pss_one (ps_set (i := 3) nd rfl (.inl rfl) (pe_op op_fdiv (pv 3) pe_int)))) pss_nil)))) (pss_cons (ps_set (i := 5) nd rfl (.inl rfl) (pe_op op_mod (pe_callTy call_int1 rfl T.int PyProof.Rows.boot_int (pa_cons (pe_op op_add (pe_op op_mul (pv 3) pe_int) pe_int) pa_nil)) pe_int))
      (pss_one (ps_for PassesOwn.never rfl (pi_range1 rfl T.range (pa_cons pe_int pa_nil)) (pg_name (i := 4) nd rfl (.inl rfl)) (pss_cons (ps_set (i := 5) nd rfl (.inl rfl) (pe_op op_mod (pe_callTy call_int1 rfl T.int PyProof.Rows.boot_int (pa_cons (pe_op op_add (pe_op op_add (pe_op op_mul (pv 5) pe_int) (pe_op op_mul pe_int (pv 4))) pe_int) pa_nil)) pe_int))
      (pss_one (ps_expr (pe_bm PySem.F.plainAttrs_list PySem.F.slot_list_append PySem.F.type_list_append mt_append (pv 1) (pa_cons (pe_op op_fdiv (pv 5) pe_int) pa_nil))))))))))))
      (pss_one (ps_ret (pv 1)))), ?_⟩
    refine ⟨Nat.zero_le _, fun L hL => ?_⟩
    have sm0 : Same H (upd H L (.lst [])) := same_alloc hL
    refine ⟨_, rfl, 63, rfl, a, _, rfl, sm0.seq hS, fun S hS2 => ?_⟩
    have ec : cutV (ns.map V.int) none (some 63) = (ns.take 63).map V.int := by
      rw [cut_hi (by decide)]
      show (ns.map V.int).take 63 = _
      rw [List.map_take]
    rw [ec]
    have eL0 : (upd (upd H L (.lst [])) S (.lst ((ns.take 63).map V.int))) L = some (.lst (([] : List Int).map V.int)) := by rw [upd_ne (ne_of_none upd_same hS2)]; exact upd_same
    have nLS : L ≠ S := ne_of_none upd_same hS2
    refine ⟨S, rfl, ⟨_, SqL.of upd_same⟩, for_list (K := K) (a := S) (xs := (ns.take 63).map V.int) (fun j σ H' => Same H H' ∧ H' S = some (.lst ((ns.take 63).map V.int)) ∧ (∃ ds : List Int, H' L = some (.lst (ds.map V.int)) ∧ ds.length ≤ 60 * j) ∧
        ∃ w2 w3 w4 w5 : Option V, σ = [some (.ref a), some (.ref L), w2, w3, w4, w5])
      ⟨sm0.trans (same_alloc hS2), upd_same, ⟨[], eL0, Nat.zero_le _⟩, _, _, _, _, rfl⟩ (fun j σ H' _ h => SqL.of h.2.1) ?_ ?_⟩
    · rintro j x σ H' hj ⟨sm, eS, ⟨ds, eL, lds⟩, w2, w3, w4, w5, rfl⟩
      have jl : j < 63 := by
        have h1 := (List.getElem?_eq_some_iff.mp hj).1
        rw [List.length_map, List.length_take] at h1
        omega
      rw [List.getElem?_map] at hj
      obtain ⟨n, rfl⟩ : ∃ n, x = V.int n := by
        cases e : (ns.take 63)[j]? with
        | none => rw [e] at hj; cases hj
        | some n => rw [e] at hj; exact ⟨n, (Option.some.inj hj).symm⟩
      have app : ∀ (H2 : Hp) (es : List Int) (m : Nat) (u : Int), Same H H2 → H2 S = some (.lst ((ns.take 63).map V.int)) → H2 L = some (.lst (es.map V.int)) → es.length ≤ 60 * j + m → m < 60 →
          (es.map V.int).length < sizeLine ∧ Same H (upd H2 L (.lst (es.map V.int ++ [V.int u]))) ∧ (upd H2 L (.lst (es.map V.int ++ [V.int u]))) S = some (.lst ((ns.take 63).map V.int)) ∧
            ∃ gs : List Int, (upd H2 L (.lst (es.map V.int ++ [V.int u]))) L = some (.lst (gs.map V.int)) ∧ gs.length ≤ 60 * j + (m + 1) := by
        intro H2 es m u s2 eS2 eL2 le hm
        refine ⟨?_, same_put s2 hL, ?_, es ++ [u], ?_, ?_⟩
        · rw [List.length_map]
          exact Nat.lt_of_lt_of_le (show es.length < 4000 by omega) (by decide)
        · rw [upd_ne nLS.symm]; exact eS2
        · rw [upd_same, List.map_append]; rfl
        · rw [List.length_append]
          show es.length + 1 ≤ _
          omega
      refine ⟨_, rfl, _, rfl, _, rfl, _, _, rfl, rfl, ⟨by decide, by decide, by decide⟩, _, _, rfl, rfl, _, rfl, ite2 (fun _ => ?_) (fun _ => ?_)⟩
      · refine ⟨60, rfl, by decide, by decide, for_range (lo := 0) (n := 60) (fun i σ H' => Same H H' ∧ H' S = some (.lst ((ns.take 63).map V.int)) ∧ (∃ ds : List Int, H' L = some (.lst (ds.map V.int)) ∧ ds.length ≤ 60 * j + i) ∧
            ∃ (r : Int) (w4 : Option V), σ = [some (.ref a), some (.ref L), some (.int n), some (.int r), w4, w5])
          ⟨sm, eS, ⟨ds, eL, lds⟩, _, _, rfl⟩ ?_ ?_⟩
        · rintro i σ H2 hi ⟨sm2, eS2, ⟨es, eL2, les⟩, r, w4', rfl⟩
          obtain ⟨p1, p2, p3, p4⟩ := app H2 es i (r % 1009) sm2 eS2 eL2 les hi
          refine ⟨_, rfl, _, _, rfl, rfl, _, rfl, ite2 (fun _ => ?_) (fun _ => ?_)⟩
          · refine ⟨_, rfl, .inl ⟨rfl, _, SqL.of eL2⟩, _, rfl, .inl ⟨r, rfl, _, _, rfl, rfl, (show (0:Int) < 1009 by decide), L, _, _, rfl, rfl, eL2, p1, ?_⟩⟩
            exact ⟨_, rfl, _, _, rfl, rfl, ⟨by decide, by decide⟩, p2, p3, p4, _, _, rfl⟩
          · exact ⟨sm2, eS2, ⟨es, eL2, Nat.le_succ_of_le les⟩, _, _, rfl⟩
        · rintro σ H2 ⟨sm2, eS2, ⟨es, eL2, les⟩, r, w4', rfl⟩
          exact ⟨sm2, eS2, ⟨es, eL2, by omega⟩, _, _, _, _, rfl⟩
      · refine ⟨_, rfl, _, _, rfl, rfl, .inr ⟨by decide, by decide⟩, _, _, rfl, rfl, .inl ⟨_, rfl, _, _, rfl, rfl, (show (0:Int) < 2147483647 by decide), ?_⟩⟩
        refine ⟨7, rfl, by decide, by decide, for_range (lo := 0) (n := 7) (fun i σ H' => Same H H' ∧ H' S = some (.lst ((ns.take 63).map V.int)) ∧ (∃ ds : List Int, H' L = some (.lst (ds.map V.int)) ∧ ds.length ≤ 60 * j + i) ∧
            ∃ (m : Int) (w3 w4 : Option V), σ = [some (.ref a), some (.ref L), some (.int n), w3, w4, some (.int m)])
          ⟨sm, eS, ⟨ds, eL, lds⟩, _, _, _, rfl⟩ ?_ ?_⟩
        · rintro i σ H2 hi ⟨sm2, eS2, ⟨es, eL2, les⟩, m, w3', w4', rfl⟩
          refine ⟨_, rfl, _, _, rfl, rfl, .inr ⟨by decide, by decide⟩, _, rfl, _, _, rfl, rfl, .inl ⟨by decide, by decide⟩, _, _, rfl, rfl, _, _, rfl, rfl, .inl ⟨_, rfl, _, _, rfl, rfl, (show (0:Int) < 2147483629 by decide), ?_⟩⟩
          obtain ⟨p1, p2, p3, p4⟩ := app H2 es i ((m * 16807 + 69621 * (0 + (i : Int)) + 5) % 2147483629 / 1009) sm2 eS2 eL2 les (by omega)
          refine ⟨_, rfl, .inl ⟨rfl, _, SqL.of eL2⟩, _, rfl, _, _, rfl, rfl, ⟨by decide, by decide⟩, L, _, _, rfl, rfl, eL2, p1, ?_⟩
          exact ⟨p2, p3, p4, _, _, _, rfl⟩
        · rintro σ H2 ⟨sm2, eS2, ⟨es, eL2, les⟩, m, w3', w4', rfl⟩
          exact ⟨sm2, eS2, ⟨es, eL2, by omega⟩, _, _, _, _, rfl⟩
    · rintro σ H' ⟨sm, eS, ⟨ds, eL, lds⟩, w2, w3, w4, w5, rfl⟩
      exact ⟨_, rfl, q L ds H' hL sm eL⟩
end

end Sd

/-! ### the law's own schedule: what holds of it at each action -/
namespace Sd
open PySem L2 Tr Pu PyProof.Rows
theorem runA_app (j : JS) (as : List Act) (a : Act) {j1 : JS} (h : runA j as = some j1) (hf : ¬ j1.front = 0) (hr : reasonA j1 a = none) : runA j (as ++ [a]) = some (follow j1 a) := by
  induction as generalizing j with
  | nil =>
    have e : j = j1 := Option.some.inj h
    rw [e]
    show (if j1.front = 0 then none else match reasonA j1 a with | some _ => none | none => runA (follow j1 a) []) = _
    rw [if_neg hf, hr]
    rfl
  | cons x r ih =>
    have h' : (if j.front = 0 then none else match reasonA j x with | some _ => none | none => runA (follow j x) r) = some j1 := h
    show (if j.front = 0 then none else match reasonA j x with | some _ => none | none => runA (follow j x) (r ++ [a])) = _
    by_cases c : j.front = 0
    · rw [if_pos c] at h'; cases h'
    · rw [if_neg c] at h' ⊢
      cases hx : reasonA j x with
      | some q => rw [hx] at h'; cases h'
      | none => rw [hx] at h'; exact ih _ h'
structure SI (b n : Nat) (held : List (Option Nat)) (pos : Option Nat) (f : Nat) (as : List Act) : Prop where
  run : ∃ j, runA (js0 b n) as = some j ∧ j.front = (f : Int) ∧ j.pos = pos.map Int.ofNat ∧ j.slots = (n : Int) ∧ ∀ i, i < n → valV j.kvs (Sum.inl (i : Int) : Key) = (held.getD i none).map fun x => V.int (x : Int)
  ok : as.all okA = true
  len : held.length = n
  first : 1 < b → held.getD 0 none = some 0
  lt : ∀ x, pos = some x → x < f ∨ f = 0
  no : pos = none → 1 < b ∨ f = 0
  le : f ≤ b
theorem all_snoc {as : List Act} {a : Act} (h : as.all okA = true) (g : okA a = true) : (as ++ [a]).all okA = true := by
  rw [List.all_append, h]
  show (true && (okA a && true)) = true
  rw [g]
  rfl
theorem si_start {b n : Nat} : SI b n (List.replicate n none) (some 0) b [] ∨ 1 < b := by
  by_cases c : 1 < b
  · exact .inr c
  · refine .inl ⟨⟨js0 b n, rfl, rfl, rfl, rfl, fun i hi => ?_⟩, rfl, List.length_replicate .., fun z => absurd z c, fun x hx => ?_, fun z => (nomatch z), Nat.le_refl _⟩
    · rw [List.getD_eq_getElem?_getD, List.getElem?_replicate]
      split <;> rfl
    · cases hx
      omega
theorem si_restore {b n s x f : Nat} {held : List (Option Nat)} {pos : Option Nat} {as : List Act} (h : SI b n held pos f as) (hs : s < n) (hx : held.getD s none = some x) (hf : x < f) : SI b n held (some x) f (as ++ [.restore (s : Int)]) := by
  obtain ⟨j, h1, h2, h3, h4, h5⟩ := h.run
  have hv := h5 s hs
  rw [hx] at hv
  have hr : reasonA j (Act.restore (s : Int)) = none := by
    show (if j.slots ≤ (s : Int) then some ("slot" : Str) else if (valV j.kvs (Sum.inl (s : Int) : Key)).isSome = true then none else some ("empty" : Str)) = none
    rw [if_neg (by omega), hv]
    rfl
  refine ⟨⟨_, runA_app _ _ _ h1 (by omega) hr, h2, ?_, h4, h5⟩, all_snoc h.ok (decide_eq_true (Int.natCast_nonneg s)), h.len, h.first, fun y hy => ?_, fun z => (nomatch z), h.le⟩
  · show (match valV j.kvs (Sum.inl (s : Int) : Key) with | some (.int i) => some i | _ => none) = _
    rw [hv]
    rfl
  · cases hy
    exact .inl hf
theorem si_adv {b n m x f : Nat} {held : List (Option Nat)} {as : List Act} (h : SI b n held (some x) f as) (hm : 1 ≤ m) (hf : x + m < f) : SI b n held (some (x + m)) f (as ++ [.advance (m : Int)]) := by
  obtain ⟨j, h1, h2, h3, h4, h5⟩ := h.run
  have h3' : j.pos = some (x : Int) := h3
  have hr : reasonA j (Act.advance (m : Int)) = none := by
    show (match j.pos with | none => some ("nowhere" : Str) | some p => if j.front ≤ p + (m : Int) then some ("beyond" : Str) else none) = none
    rw [h3']
    exact if_neg (by omega)
  have ef : follow j (.advance (m : Int)) = { j with pos := some ((x : Int) + m), cost := j.cost + m } := by
    show (match j.pos with | some p => { j with pos := some (p + (m : Int)), cost := j.cost + m } | none => j) = _
    rw [h3']
  refine ⟨⟨_, runA_app _ _ _ h1 (by omega) hr, ?_, ?_, ?_, ?_⟩, all_snoc h.ok (decide_eq_true (by omega)), h.len, h.first, fun y hy => ?_, fun z => (nomatch z), h.le⟩
  · rw [ef]; exact h2
  · rw [ef]
    show some ((x : Int) + (m : Int)) = some (((x + m : Nat)) : Int)
    congr 1
  · rw [ef]; exact h4
  · rw [ef]; exact h5
  · cases hy
    exact .inl hf
theorem si_turn {b n f : Nat} {held : List (Option Nat)} {as : List Act} (h : SI b n held (some f) (f + 1) as) : SI b n held none f (as ++ [.turn]) := by
  obtain ⟨j, h1, h2, h3, h4, h5⟩ := h.run
  have h3' : j.pos = some (f : Int) := h3
  have hr : reasonA j Act.turn = none := by
    show (match j.pos with | none => some ("nowhere" : Str) | some p => if p = j.front - 1 then none else some ("turn" : Str)) = none
    rw [h3']
    exact if_pos (by omega)
  refine ⟨⟨_, runA_app _ _ _ h1 (by omega) hr, ?_, rfl, h4, h5⟩, all_snoc h.ok rfl, h.len, h.first, (fun y hy => (nomatch hy)), fun _ => ?_, ?_⟩
  · show j.front - 1 = (f : Int)
    omega
  · have := h.le
    omega
  · have := h.le
    omega
theorem si_keep0 {b n s x f : Nat} {held : List (Option Nat)} {as : List Act}
    (run : ∃ j, runA (js0 b n) as = some j ∧ j.front = (f : Int) ∧ j.pos = (some x).map Int.ofNat ∧ j.slots = (n : Int) ∧ ∀ i, i < n → valV j.kvs (Sum.inl (i : Int) : Key) = (held.getD i none).map fun x => V.int (x : Int))
    (ok : as.all okA = true) (hl : held.length = n) (first : s ≠ 0 → 1 < b → held.getD 0 none = some 0) (lt : x < f ∨ f = 0) (le : f ≤ b) (hf : 0 < f) (hs : s < n) (h0 : s = 0 → x = 0) : SI b n (held.set s (some x)) (some x) f (as ++ [.keep (s : Int)]) := by
  obtain ⟨j, h1, h2, h3, h4, h5⟩ := run
  have h3' : j.pos = some (x : Int) := h3
  have hr : reasonA j (Act.keep (s : Int)) = none := by
    show (if j.slots ≤ (s : Int) then some ("slot" : Str) else (match j.pos with | none => some ("nowhere" : Str) | some _ => none)) = none
    rw [if_neg (by omega), h3']
  have gs : ∀ i, (held.set s (some x)).getD i none = if i = s then some x else held.getD i none := fun i => by
    rw [List.getD_eq_getElem?_getD, List.getD_eq_getElem?_getD, List.getElem?_set]
    by_cases c : i = s
    · rw [if_pos c.symm, if_pos c, if_pos (by omega)]
      rfl
    · rw [if_neg (fun z => c z.symm), if_neg c]
  refine ⟨⟨_, runA_app _ _ _ h1 (by omega) hr, h2, h3, h4, fun i hi => ?_⟩, all_snoc ok (decide_eq_true (Int.natCast_nonneg s)), by rw [List.length_set]; exact hl, fun z => ?_, (fun y hy => by cases hy; exact lt), (fun z => (nomatch z)), le⟩
  · show valV (putK j.kvs (Sum.inl (s : Int) : Key) (posV j.pos)) (Sum.inl (i : Int) : Key) = _
    rw [valV_put, gs, h3']
    by_cases c : i = s
    · rw [if_pos c, c, if_pos rfl]
      rfl
    · rw [if_neg c, if_neg (fun z => c (by have := Sum.inl.inj z; omega))]
      exact h5 i hi
  · rw [gs]
    by_cases c : 0 = s
    · rw [if_pos c, h0 c.symm]
    · rw [if_neg c]
      exact first (fun z => c z.symm) z
theorem si_keep {b n s x f : Nat} {held : List (Option Nat)} {as : List Act} (h : SI b n held (some x) f as) (hf : 0 < f) (hs : s < n) (h0 : s = 0 → x = 0) : SI b n (held.set s (some x)) (some x) f (as ++ [.keep (s : Int)]) :=
  si_keep0 h.run h.ok h.len (fun _ => h.first) (h.lt x rfl) h.le hf hs h0
theorem getD_rep (n i : Nat) : (List.replicate n (none : Option Nat)).getD i none = none := by
  rw [List.getD_eq_getElem?_getD, List.getElem?_replicate]
  split <;> rfl
theorem si_start2 {b n : Nat} (hb : 1 < b) (hn : 1 ≤ n) : SI b n ((List.replicate n none).set 0 (some 0)) (some 0) b [.keep 0] :=
  si_keep0 (as := []) (s := 0) ⟨js0 b n, rfl, rfl, rfl, rfl, fun i _ => by rw [getD_rep]; rfl⟩ rfl (List.length_replicate ..) (fun z => absurd rfl z) (.inl (by omega)) (Nat.le_refl _) (by omega) (by omega) (fun _ => rfl)
end Sd

namespace Sd
open PySem L2 Tr Pu PyProof.Rows
theorem seq_k {ts tu : TS} {D : Ends} {σ : L2.St} {H : Hp} (Pr : L2.St → Hp → Prop) (h : ∀ D' : Ends, D'.rt = D.rt → (∀ σ' H', Pr σ' H' → D'.nx σ' H') → ts D' σ H) (k : ∀ σ' H', Pr σ' H' → tu D σ' H') : tSeq ts tu D σ H := h { D with nx := tu D } rfl k
theorem ixN_nat {n j : Nat} (h : j < n) : ixN n (j : Int) = some j := by
  unfold ixN
  rw [if_pos (by omega), if_pos (by omega)]
  rfl
theorem ifs_T {K : PySem.W.Frag} {H : Hp} {σ : L2.St} {ρ : Rho} {D : Ends} {t : TT} {ts tu : TS} (h : DT K t ρ true) (en : En K H σ ρ) (k : ∀ H2, Same H H2 → ts D σ H2) : tIfS t ts tu D σ H := h σ H _ en fun H1 s1 => k H1 s1
theorem ifs_F {K : PySem.W.Frag} {H : Hp} {σ : L2.St} {ρ : Rho} {D : Ends} {t : TT} {ts tu : TS} (h : DT K t ρ false) (en : En K H σ ρ) (k : ∀ H2, Same H H2 → tu D σ H2) : tIfS t ts tu D σ H := h σ H _ en fun H1 s1 => k H1 s1
theorem en_0 {K : PySem.W.Frag} {H : Hp} : En K H [] [] := ⟨rfl, fun i d h => by simp at h⟩
theorem en_s {K : PySem.W.Frag} {H : Hp} {σ : L2.St} {ρ : Rho} {d : PyData} {v : V} (t : Tv K H d v) (h : En K H σ ρ) : En K H (some v :: σ) (some d :: ρ) := ⟨congrArg (· + 1) h.1, fun i e q => by
  cases i with
  | zero => cases q; exact ⟨v, rfl, t⟩
  | succ i => exact h.2 i e q⟩
theorem en_n {K : PySem.W.Frag} {H : Hp} {σ : L2.St} {ρ : Rho} {x : Option V} (h : En K H σ ρ) : En K H (x :: σ) (none :: ρ) := ⟨congrArg (· + 1) h.1, fun i e q => by
  cases i with
  | zero => cases q
  | succ i => exact h.2 i e q⟩
def posD : Option Nat → PyData
  | none => .none
  | some x => .int (x : Int)
def posN : Option Nat → V
  | none => .non
  | some x => .int (x : Int)
/-- the two lists, and the counter of the draws -/
structure HS (K : PySem.W.Frag) (H H' : Hp) (p L M : Addr) (as : List Act) (held : List (Option Nat)) : Prop where
  st : Stays p H H'
  ctr : AtL H' p
  lst : ∃ ys, H' L = some (.lst ys) ∧ TvL K H' (as.map Act.enc) ys
  hd : H' M = some (.lst (held.map heV))
section
variable {K : PySem.W.Frag} {H H' : Hp} {p L M : Addr} {as : List Act} {held : List (Option Nat)}
theorem hs_app {a : Act} {t : Addr} {vs : List V} (h : HS K H H' p L M as held) (hL : H L = none) (nL : L ≠ p) (nM : M ≠ L) (ht : H' t = none) (ta : Tv K (upd H' t (.tup vs)) a.enc (.ref t)) (len : as.length ≤ 2000) :
    ∃ ys, H' L = some (.lst ys) ∧ (upd H' t (.tup vs)) L = some (.lst ys) ∧ ys.length < sizeLine ∧ HS K H (upd (upd H' t (.tup vs)) L (.lst (ys ++ [.ref t]))) p L M (as ++ [a]) held := by
  obtain ⟨ys, eL, tl⟩ := h.lst
  obtain ⟨j, j0, ep⟩ := h.ctr
  have e1 : (upd H' t (.tup vs)) L = some (.lst ys) := by rw [upd_ne (ne_of_none eL ht)]; exact eL
  refine ⟨ys, eL, e1, ?_, ⟨fun b o nb e => ?_, ⟨j, j0, ?_⟩, ⟨_, upd_same, ?_⟩, ?_⟩⟩
  · rw [tvl_len tl, List.length_map]
    exact Nat.lt_of_le_of_lt len (by decide)
  · have e2 := h.st b o nb e
    rw [upd_ne (ne_of_none e hL), upd_ne (ne_of_none e2 ht)]
    exact e2
  · rw [upd_ne nL.symm, upd_ne (ne_of_none ep ht)]
    exact ep
  · rw [List.map_append]
    exact TvL.carry (carry_lst e1) _ _ (tvl_snoc (TvL.carry (carry_new ht) _ _ tl) ta)
  · rw [upd_ne nM, upd_ne (ne_of_none h.hd ht)]
    exact h.hd
theorem hs_set {s : Nat} {x : Option Nat} (h : HS K H H' p L M as held) (hM : H M = none) (nMp : M ≠ p) (nM : M ≠ L) : HS K H (upd H' M (.lst ((held.set s x).map heV))) p L M as (held.set s x) := by
  obtain ⟨ys, eL, tl⟩ := h.lst
  obtain ⟨j, j0, ep⟩ := h.ctr
  refine ⟨fun b o nb e => ?_, ⟨j, j0, ?_⟩, ⟨ys, ?_, TvL.carry (carry_lst h.hd) _ _ tl⟩, upd_same⟩
  · rw [upd_ne (ne_of_none e hM)]
    exact h.st b o nb e
  · rw [upd_ne nMp.symm]
    exact ep
  · rw [upd_ne nM.symm]
    exact eL
theorem hs_same {H2 : Hp} (h : HS K H H' p L M as held) (s : Same H' H2) : HS K H H2 p L M as held := by
  obtain ⟨ys, eL, tl⟩ := h.lst
  obtain ⟨j, j0, ep⟩ := h.ctr
  exact ⟨h.st.trans (same_stays s), ⟨j, j0, s _ _ ep⟩, ⟨ys, s _ _ eL, TvL.carry (same_carry s) _ _ tl⟩, s _ _ h.hd⟩
theorem pos_tv {x : Option Nat} : Tv K H (posD x) (posN x) := by cases x <;> rfl
theorem hs_draw {H2 : Hp} (h : HS K H H' p L M as held) (nL : L ≠ p) (nMp : M ≠ p) (s : Stays p H' H2) (c : AtL H2 p) : HS K H H2 p L M as held := by
  obtain ⟨ys, eL, tl⟩ := h.lst
  exact ⟨h.st.trans s, c, ⟨ys, s _ _ nL eL, TvL.carry (s.carry h.ctr) _ _ tl⟩, s _ _ nMp h.hd⟩
end
/-- where the schedule stands -/
def InvS (K : PySem.W.Frag) (H : Hp) (b n : Nat) (d p L M : Addr) (m : Nat) (σ' : L2.St) (H' : Hp) : Prop := ∃ (w5 w9 w10 w11 w12 : Option V) (held : List (Option Nat)) (pos : Option Nat) (f : Nat) (as : List Act), σ' = [some (.int (b : Int)), some (.int (n : Int)), some (.ref d), some (.ref p), some (.ref L), w5, some (.ref M), some (posN pos), some (.int (f : Int)), w9, w10, w11, w12] ∧
  HS K H H' p L M as held ∧ SI b n held pos f as ∧ as.length ≤ m
def InvF (K : PySem.W.Frag) (H : Hp) (b n : Nat) (d p L M : Addr) (m g : Nat) (σ' : L2.St) (H' : Hp) : Prop := ∃ (w5 w9 w10 w11 w12 : Option V) (held : List (Option Nat)) (pos : Option Nat) (f : Nat) (as : List Act), σ' = [some (.int (b : Int)), some (.int (n : Int)), some (.ref d), some (.ref p), some (.ref L), w5, some (.ref M), some (posN pos), some (.int (f : Int)), w9, w10, w11, w12] ∧
  HS K H H' p L M as held ∧ SI b n held pos f as ∧ as.length ≤ m ∧ f ≤ g
def InvG (K : PySem.W.Frag) (H : Hp) (b n : Nat) (d p L M : Addr) (m f : Nat) (far : Bool) (σ' : L2.St) (H' : Hp) : Prop := ∃ (w5 w9 w10 w11 w12 : Option V) (held : List (Option Nat)) (x : Nat) (as : List Act), σ' = [some (.int (b : Int)), some (.int (n : Int)), some (.ref d), some (.ref p), some (.ref L), w5, some (.ref M), some (.int (x : Int)), some (.int (f : Int)), w9, w10, w11, w12] ∧
  HS K H H' p L M as held ∧ SI b n held (some (if far = true then f - 1 else x)) f as ∧ as.length ≤ m
def spSch (K : PySem.W.Frag) : Sp := fun vs H Q _ => ∃ (b n : Nat) (d p : Addr), vs = [.int (b : Int), .int (n : Int), .ref d, .ref p] ∧ b ≤ 40 ∧ 1 ≤ n ∧ n ≤ 8 ∧ Dr K H d p ∧
  ∀ v as H', Stays p H H' → Tv K H' (.tuple (as.map Act.enc)) v → as.all okA = true → as.length ≤ 2000 → (∃ j, runA (js0 b n) as = some j ∧ j.front = 0) → Q v H'
abbrev sSch : Stmt := top 27
abbrev nSch : List Str := ["beats", "slots", "draws", "at", "actions", "k", "held", "position", "front", "choice", "slot", "step", "best"]
section
variable {P : Program} {w : World} {K : PySem.W.Frag} {mg : Str → Option Value} {base : Heap}
theorem scSch : FnScope nSch ["beats", "slots", "draws", "at"] (defScope sSch) := ⟨rfl, rfl, rfl, by decide +kernel, rfl, by decide +kernel, by decide +kernel⟩
theorem ok_sch {f : Addr} {fd : FuncData} (F : Fun K "_law_schedule" "_law_schedule" sSch f fd) (T : Bi mg) (c_take : Cal P w K mg base CX0 1 "_law_take" ["draws", "at", "many"] (spTake K)) (c_best : Cal P w K mg base CX0 1 "_law_best" ["held", "front"] (spBest K)) : FnOk P w K mg base CX0 2 f fd ["beats", "slots", "draws", "at"] (spSch K) := by
  refine F.ok scSch (fun vs H Q E h => ?_) (fun cdv A outer s H vs Q E hr h => ?_)
  · obtain ⟨b, n, d, p, rfl, _⟩ := h
    rfl
  · obtain ⟨b, n, d, p, rfl, hb, n1, n8, D0, q⟩ := h
    have nd := scSch.nd
    have one : 1 ≤ sizeLine := by decide
    have two : 2 ≤ sizeLine := by decide
    refine ⟨_, pss_cons (ps_set (i := 4) nd rfl (.inl rfl) (pe_lst pa_nil))
      (pss_cons (ps_setLc (i := 6) (own := [("k", 5)]) (g := gName 5) (tt := tYes) rfl nd rfl rfl (sw_true rfl rfl rfl (by decide +kernel)) (pi_range1 rfl T.range (pa_cons (pv 1) pa_nil)) (blkOk_by (N := nSch) (sc := defScope sSch) (by decide +kernel)) (fun _ _ _ _ _ => pg_name (i := 5) nd rfl (.inl rfl)) (fun _ _ _ _ _ => pts_nil) (fun _ _ _ _ _ => pe_non))
      (pss_cons (ps_set (i := 7) nd rfl (.inl rfl) pe_int)
      (pss_cons (ps_set (i := 8) nd rfl (.inl rfl) (pv 0))
      (pss_cons (ps_if (pt_cmpR op_gt (pv 0) pe_int (nomark _)) (pss_cons (ps_expr (pe_bm PySem.F.plainAttrs_list PySem.F.slot_list_append PySem.F.type_list_append mt_append (pv 4) (pa_cons (pe_tup (pa_cons pe_str (pa_cons pe_int pa_nil))) pa_nil)))
      (pss_one (ps_asg pe_int (pg_sub (pv 6) pe_int set_list)))) pss_nil)
      (pss_cons (ps_for PassesOwn.never rfl (pi_range1 rfl T.range (pa_cons (pe_call c_take.ok (hr.mono (by first | decide | omega)) rfl c_take.m c_take.kp c_take.b .nil pass0 (pa_cons (pv 2) (pa_cons (pv 3) (pa_cons pe_int pa_nil)))) pa_nil)) (pg_name (i := 5) nd rfl (.inl rfl)) (pss_cons (ps_set (i := 9) nd rfl (.inl rfl) (pe_call c_take.ok (hr.mono (by first | decide | omega)) rfl c_take.m c_take.kp c_take.b .nil pass0 (pa_cons (pv 2) (pa_cons (pv 3) (pa_cons pe_int pa_nil)))))
      (pss_cons (ps_set (i := 10) nd rfl (.inl rfl) (pe_call c_take.ok (hr.mono (by first | decide | omega)) rfl c_take.m c_take.kp c_take.b .nil pass0 (pa_cons (pv 2) (pa_cons (pv 3) (pa_cons (pv 1) pa_nil)))))
      (pss_cons (ps_if (pt_cmpR op_eq (pv 8) pe_int (nomark _)) (pss_one ps_break) pss_nil)
      (pss_one (ps_if (PW.pt (pw_or (pt_cmpR op_isN (pv 7) pe_non (nomark _)) (pw_or1 (pt_cmpR op_eq (pv 9) pe_int (nomark _))))) (pss_one (ps_if (PW.pt (pw_and (pt_cmpR op_notN (pe_ix ix_list (pv 6) (pv 10) (fun _ _ => rfl)) pe_non (nomark _)) (pw_and1 (pt_cmpR op_lt (pe_ix ix_list (pv 6) (pv 10) (fun _ _ => rfl)) (pv 8) (nomark _))))) (pss_cons (ps_set (i := 7) nd rfl (.inl rfl) (pe_ix ix_list (pv 6) (pv 10) (fun _ _ => rfl)))
      (pss_one (ps_expr (pe_bm PySem.F.plainAttrs_list PySem.F.slot_list_append PySem.F.type_list_append mt_append (pv 4) (pa_cons (pe_tup (pa_cons pe_str (pa_cons (pv 10) pa_nil))) pa_nil))))) pss_nil)) (pss_one (ps_if (PW.pt (pw_and (pt_cmpR op_eq (pv 9) pe_int (nomark _)) (pw_and1 (pt_cmpR op_gt (pv 10) pe_int (nomark _))))) (pss_cons (ps_asg (pv 7) (pg_sub (pv 6) (pv 10) set_list))
      (pss_one (ps_expr (pe_bm PySem.F.plainAttrs_list PySem.F.slot_list_append PySem.F.type_list_append mt_append (pv 4) (pa_cons (pe_tup (pa_cons pe_str (pa_cons (pv 10) pa_nil))) pa_nil))))) (pss_one (ps_if (pt_cmpR op_eq (pv 7) (pe_op op_sub (pv 8) pe_int) (nomark _)) (pss_cons (ps_expr (pe_bm PySem.F.plainAttrs_list PySem.F.slot_list_append PySem.F.type_list_append mt_append (pv 4) (pa_cons (pe_tup (pa_cons pe_str pa_nil)) pa_nil)))
      (pss_cons (ps_set (i := 8) nd rfl (.inl rfl) (pe_op op_sub (pv 8) pe_int))
      (pss_one (ps_set (i := 7) nd rfl (.inl rfl) pe_non)))) (pss_cons (ps_set (i := 11) nd rfl (.inl rfl) (pe_op op_add pe_int (pe_call c_take.ok (hr.mono (by first | decide | omega)) rfl c_take.m c_take.kp c_take.b .nil pass0 (pa_cons (pv 2) (pa_cons (pv 3) (pa_cons (pe_op op_sub (pe_op op_sub (pv 8) pe_int) (pv 7)) pa_nil))))))
      (pss_cons (ps_expr (pe_bm PySem.F.plainAttrs_list PySem.F.slot_list_append PySem.F.type_list_append mt_append (pv 4) (pa_cons (pe_tup (pa_cons pe_str (pa_cons (pv 11) pa_nil))) pa_nil)))
      (pss_one (ps_set (i := 7) nd rfl (.inl rfl) (pe_op op_add (pv 7) (pv 11))))))))))))))))
      (pss_cons (ps_for PassesOwn.never rfl (pi_range1 rfl T.range (pa_cons (pv 0) pa_nil)) (pg_name (i := 5) nd rfl (.inl rfl)) (pss_one (ps_if (pt_cmpR op_gt (pv 8) pe_int (nomark _)) (pss_cons (ps_if (pt_cmpR op_isN (pv 7) pe_non (nomark _)) (pss_cons (ps_set (i := 12) nd rfl (.inl rfl) (pe_call c_best.ok (hr.mono (by first | decide | omega)) rfl c_best.m c_best.kp c_best.b .nil pass0 (pa_cons (pv 6) (pa_cons (pv 8) pa_nil))))
      (pss_cons (ps_set (i := 7) nd rfl (.inl rfl) (pe_ix ix_list (pv 6) (pv 12) (fun _ _ => rfl)))
      (pss_one (ps_expr (pe_bm PySem.F.plainAttrs_list PySem.F.slot_list_append PySem.F.type_list_append mt_append (pv 4) (pa_cons (pe_tup (pa_cons pe_str (pa_cons (pv 12) pa_nil))) pa_nil)))))) pss_nil)
      (pss_cons (ps_if (pt_cmpR op_lt (pv 7) (pe_op op_sub (pv 8) pe_int) (nomark _)) (pss_one (ps_expr (pe_bm PySem.F.plainAttrs_list PySem.F.slot_list_append PySem.F.type_list_append mt_append (pv 4) (pa_cons (pe_tup (pa_cons pe_str (pa_cons (pe_op op_sub (pe_op op_sub (pv 8) pe_int) (pv 7)) pa_nil))) pa_nil)))) pss_nil)
      (pss_cons (ps_expr (pe_bm PySem.F.plainAttrs_list PySem.F.slot_list_append PySem.F.type_list_append mt_append (pv 4) (pa_cons (pe_tup (pa_cons pe_str pa_nil)) pa_nil)))
      (pss_cons (ps_set (i := 8) nd rfl (.inl rfl) (pe_op op_sub (pv 8) pe_int))
      (pss_one (ps_set (i := 7) nd rfl (.inl rfl) pe_non)))))) pss_nil)))
      (pss_one (ps_ret (pe_callTy call_tuple_of rfl T.tuple PyProof.Rows.boot_tuple (pa_cons (pv 4) pa_nil)))))))))), ?_⟩
    refine ⟨Nat.zero_le _, fun L hL => ?_⟩
    have etn : ((n : Nat) : Int).toNat = n := by omega
    obtain ⟨j0, j00, ep0⟩ := D0.ctr
    have nL : L ≠ p := fun z => by rw [z, ep0] at hL; cases hL
    refine ⟨_, rfl, (n : Int), rfl, by omega, by omega, fun M hM => ?_⟩
    refine lc_range (lo := 0) (n := ((n : Nat) : Int).toNat) (fun i H' => Same (upd H L (.lst [])) H' ∧ H' M = some (.lst ((List.replicate i none).map heV))) ⟨same_alloc hM, upd_same⟩ ?_ ?_
    · rintro i H1 hi ⟨sm, eM⟩
      refine ⟨rfl, _, eM, ?_, same_put sm hM, ?_⟩
      · rw [List.length_map, List.length_replicate]
        exact Nat.lt_of_le_of_lt (show i ≤ 8 by omega) (by decide)
      · rw [upd_same, List.replicate_succ', List.map_append]
        rfl
    rintro H1 ⟨sm, eM⟩
    rw [etn] at eM
    have hM0 : H M = none := by
      by_cases z : M = L
      · rw [z]; exact hL
      · rw [upd_ne z] at hM; exact hM
    have nM : M ≠ L := fun z => by rw [z, upd_same] at hM; cases hM
    have nMp : M ≠ p := fun z => by rw [z, ep0] at hM0; cases hM0
    have h0 : HS K H H1 p L M [] (List.replicate n none) := ⟨fun b' o nb e => sm _ _ (by rw [upd_ne (ne_of_none e hL)]; exact e), ⟨j0, j00, sm _ _ (by rw [upd_ne nL.symm]; exact ep0)⟩, ⟨[], sm _ _ upd_same, rfl⟩, eM⟩
    refine ⟨_, rfl, ?_⟩
    dsimp only
    refine seq_k (InvS K H b n d p L M 1) (fun D' hD k => ?_) ?_
    · refine ⟨_, rfl, _, _, rfl, rfl, _, rfl, ?_⟩
      by_cases c : 1 < b
      · refine iteT' (decide_eq_true (by omega)) ?_
        obtain ⟨ys, eL, _⟩ := h0.lst
        refine ⟨_, rfl, .inl ⟨rfl, _, SqL.of eL⟩, two, fun t ht => ?_⟩
        obtain ⟨zs, _, e1, l1, h1⟩ := hs_app (a := .keep 0) (vs := [.str "keep", .int 0]) h0 hL nL nM ht (tv2 upd_same rfl rfl) (Nat.zero_le _)
        refine ⟨L, zs, _, rfl, rfl, e1, l1, ?_⟩
        have h2 := hs_set (s := 0) (x := some 0) h1 hM0 nMp nM
        refine ⟨_, rfl, M, _, 0, 0, rfl, rfl, h1.hd, ?_, ?_⟩
        · rw [List.length_map, List.length_replicate]
          exact ixN_nat (j := 0) (by omega)
        · refine k _ _ ⟨_, _, _, _, _, _, _, _, _, rfl, ?_, si_start2 c n1, Nat.le_refl _⟩
          rw [List.map_set] at h2
          exact h2
      · refine iteF' (decide_eq_false (by omega)) ?_
        exact k _ _ ⟨_, _, _, _, _, _, _, _, _, rfl, h0, si_start.resolve_right c, Nat.zero_le _⟩
    rintro _ H2 ⟨w5, w9, w10, w11, w12, held, pos, f, as, rfl, h2, si, len⟩
    refine seq_k (InvS K H b n d p L M 60) (fun D' hD k => ?_) ?_
    · refine ⟨_, rfl, _, rfl, d, p, 50, rfl, D0.next h2.st h2.ctr, by decide, fun v H3 v0 v1 st3 ct3 => ⟨v, rfl, by omega, by omega, for_range (lo := 0) (n := v.toNat) (fun i σ H' => InvS K H b n d p L M (1 + i) σ H')
        ⟨_, _, _, _, _, _, _, _, _, rfl, hs_draw h2 nL nMp st3 ct3, si, len⟩ ?_ ?_⟩⟩
      · rintro i _ H4 hi ⟨w5, w9, w10, w11, w12, held, pos, f, as, rfl, h4, si, len⟩
        refine ⟨_, rfl, _, rfl, d, p, 5, rfl, D0.next h4.st h4.ctr, by decide, fun ch H5 c0 c1 st5 ct5 => ?_⟩
        have h5 := hs_draw h4 nL nMp st5 ct5
        refine ⟨_, rfl, _, rfl, _, rfl, d, p, (n : Int), rfl, D0.next h5.st h5.ctr, by omega, fun sl H6 s0 s1 st6 ct6 => ?_⟩
        have h6 := hs_draw h5 nL nMp st6 ct6
        obtain ⟨sN, rfl⟩ : ∃ sN : Nat, sl = (sN : Int) := ⟨sl.toNat, by omega⟩
        have sn : sN < n := by omega
        refine ⟨_, rfl, rfl, _, rfl, ?_⟩
        by_cases cf : f = 0
        · refine iteT' (by simp [cf]) ?_
          exact k _ _ ⟨_, _, _, _, _, _, _, _, _, rfl, h6, si, by omega⟩
        refine iteF' (by simp [cf]) ?_
        unfold tNext
        dsimp only
        have f0 : 0 < f := by omega
        by_cases cr : pos = none ∨ ch = 0
        · refine ifs_T (K := K) (ρ := [none, none, none, none, none, none, none, some (posD pos), none, some (.int ch), none, none, none]) ?_ (en_n (en_n (en_n (en_n (en_n (en_n (en_n (en_s pos_tv (en_n (en_s rfl (en_n (en_n (en_n en_0))))))))))))) fun H7 s7 => ?_
          · rcases cr with rfl | rfl
            · exact dt_orT (dt_test (de_isN (d := .none) (b := true) (fun x H Q h => ⟨rfl, h⟩) (de_var rfl)))
            · cases pos with
              | none => exact dt_orT (dt_test (de_isN (d := .none) (b := true) (fun x H Q h => ⟨rfl, h⟩) (de_var rfl)))
              | some x => exact dt_orF (dt_test (de_isN (d := .int (x : Int)) (b := false) (fun x H Q h => ⟨rfl, h⟩) (de_var rfl))) (dt_test (de_of (congrArg PyData.bool (decide_eq_true rfl)) (de_eqI (de_var rfl) de_int)))
          have h7 := hs_same h6 s7
          have A1 : atI (held.map heV) (sN : Int) = some (heV (held.getD sN none)) := held_at (by rw [si.len]; exact sn)
          refine ⟨_, rfl, _, rfl, M, _, _, _, rfl, rfl, SqL.of h7.hd, A1, rfl, _, rfl, ?_⟩
          cases hx : held.getD sN none with
          | none =>
            refine iteF' rfl ?_
            refine iteF ?_
            exact ⟨_, _, _, _, _, _, _, _, _, rfl, h7, si, by omega⟩
          | some x =>
            rw [hx] at A1
            refine iteT' rfl ?_
            refine ⟨_, rfl, _, rfl, M, _, _, _, rfl, rfl, SqL.of h7.hd, A1, _, rfl, _, _, rfl, rfl, _, rfl, ?_⟩
            by_cases cx : x < f
            · refine iteT' (decide_eq_true (by omega)) ?_
              refine ⟨_, rfl, _, rfl, M, _, _, _, rfl, rfl, SqL.of h7.hd, A1, ?_⟩
              obtain ⟨ys, eL, _⟩ := h7.lst
              refine ⟨_, rfl, .inl ⟨rfl, _, SqL.of eL⟩, _, rfl, two, fun t ht => ?_⟩
              obtain ⟨zs, _, e1, l1, h8⟩ := hs_app (a := .restore (sN : Int)) (vs := [.str "restore", .int (sN : Int)]) h7 hL nL nM ht (tv2 upd_same rfl rfl) (by omega)
              exact ⟨L, zs, _, rfl, rfl, e1, l1, _, _, _, _, _, _, some x, _, _, rfl, h8, si_restore si sn hx cx, by rw [List.length_append]; show as.length + 1 ≤ _; omega⟩
            · refine iteF' (decide_eq_false (by omega)) ?_
              exact ⟨_, _, _, _, _, _, _, _, _, rfl, h7, si, by omega⟩
        · obtain ⟨x, rfl⟩ : ∃ x, pos = some x := by
            cases pos with
            | none => exact absurd (.inl rfl) cr
            | some x => exact ⟨x, rfl⟩
          have ch0 : ¬ ch = 0 := fun z => cr (.inr z)
          have xf : x < f := by
            rcases si.lt x rfl with z | z
            · exact z
            · exact absurd z cf
          refine ifs_F (K := K) (ρ := [none, none, none, none, none, none, none, some (.int (x : Int)), none, some (.int ch), none, none, none]) ?_ (en_n (en_n (en_n (en_n (en_n (en_n (en_n (en_s rfl (en_n (en_s rfl (en_n (en_n (en_n en_0))))))))))))) fun H7 s7 => ?_
          · exact dt_orF (dt_test (de_isN (d := .int (x : Int)) (b := false) (fun x H Q h => ⟨rfl, h⟩) (de_var rfl))) (dt_test (de_of (congrArg PyData.bool (decide_eq_false ch0)) (de_eqI (de_var rfl) de_int)))
          have h7 := hs_same h6 s7
          by_cases ck : ch = 1 ∧ 0 < sN
          · refine ifs_T (K := K) (ρ := [none, none, none, none, none, none, none, none, none, some (.int ch), some (.int (sN : Int)), none, none]) ?_ (en_n (en_n (en_n (en_n (en_n (en_n (en_n (en_n (en_n (en_s rfl (en_s rfl (en_n (en_n en_0))))))))))))) fun H8 s8 => ?_
            · exact dt_andT (dt_test (de_of (congrArg PyData.bool (decide_eq_true ck.1)) (de_eqI (de_var rfl) de_int))) (dt_test (de_of (congrArg PyData.bool (decide_eq_true (by omega))) (de_cmpI (p := fun i j => decide (j < i)) (de_var rfl) de_int)))
            have h8 := hs_same h7 s8
            refine ⟨_, rfl, _, rfl, _, rfl, M, _, (sN : Int), sN, rfl, rfl, h8.hd, ixN_nat (by rw [List.length_map, si.len]; exact sn), ?_⟩
            have h9 := hs_set (s := sN) (x := some x) h8 hM0 nMp nM
            rw [List.map_set] at h9
            obtain ⟨ys, eL, _⟩ := h9.lst
            refine ⟨_, rfl, .inl ⟨rfl, _, SqL.of eL⟩, _, rfl, two, fun t ht => ?_⟩
            obtain ⟨zs, _, e1, l1, h10⟩ := hs_app (a := .keep (sN : Int)) (vs := [.str "keep", .int (sN : Int)]) h9 hL nL nM ht (tv2 upd_same rfl rfl) (by omega)
            exact ⟨L, zs, _, rfl, rfl, e1, l1, _, _, _, _, _, _, some x, _, _, rfl, h10, si_keep si f0 sn (fun z => by omega), by rw [List.length_append]; show as.length + 1 ≤ _; omega⟩
          · refine ifs_F (K := K) (ρ := [none, none, none, none, none, none, none, none, none, some (.int ch), some (.int (sN : Int)), none, none]) ?_ (en_n (en_n (en_n (en_n (en_n (en_n (en_n (en_n (en_n (en_s rfl (en_s rfl (en_n (en_n en_0))))))))))))) fun H8 s8 => ?_
            · by_cases c1' : ch = 1
              · exact dt_andT (dt_test (de_of (congrArg PyData.bool (decide_eq_true c1')) (de_eqI (de_var rfl) de_int))) (dt_test (de_of (congrArg PyData.bool (decide_eq_false (fun z => ck ⟨c1', by omega⟩))) (de_cmpI (p := fun i j => decide (j < i)) (de_var rfl) de_int)))
              · exact dt_andF (dt_test (de_of (congrArg PyData.bool (decide_eq_false c1')) (de_eqI (de_var rfl) de_int)))
            have h8 := hs_same h7 s8
            obtain ⟨ys, eL, _⟩ := h8.lst
            refine ⟨_, rfl, _, rfl, _, _, rfl, rfl, rfl, _, rfl, ?_⟩
            by_cases ct : x + 1 = f
            · refine iteT' (decide_eq_true (congrArg V.int (by omega))) ?_
              subst ct
              refine ⟨_, rfl, .inl ⟨rfl, _, SqL.of eL⟩, one, fun t ht => ?_⟩
              obtain ⟨zs, _, e1, l1, h10⟩ := hs_app (a := .turn) (vs := [.str "turn"]) h8 hL nL nM ht (tv1 upd_same rfl) (by omega)
              refine ⟨L, zs, _, rfl, rfl, e1, l1, ?_⟩
              refine ⟨_, rfl, _, _, rfl, rfl, some (.int (0 + (i : Int))), some (.int ch), some (.int (sN : Int)), w11, w12, _, none, x, _, ?_, h10, si_turn si, by rw [List.length_append]; show as.length + 1 ≤ _; omega⟩
              have : ((x + 1 : Nat) : Int) - 1 = (x : Int) := by omega
              simp only [this]
              rfl
            · refine iteF' (decide_eq_false (fun z => ct (by have := V.int.inj z; omega))) ?_
              refine ⟨_, rfl, _, rfl, _, rfl, _, _, rfl, rfl, _, rfl, _, _, rfl, rfl, d, p, (f : Int) - 1 - (x : Int), rfl, D0.next h8.st h8.ctr, by omega, fun m H9 m0 m1 st9 ct9 => ?_⟩
              have h9 := hs_draw h8 nL nMp st9 ct9
              obtain ⟨mN, rfl⟩ : ∃ mN : Nat, m = (mN : Int) := ⟨m.toNat, by omega⟩
              have em : (1 : Int) + (mN : Int) = ((mN + 1 : Nat) : Int) := by omega
              obtain ⟨ys, eL, _⟩ := h9.lst
              refine ⟨_, _, rfl, rfl, ?_⟩
              refine ⟨_, rfl, .inl ⟨rfl, _, SqL.of eL⟩, _, rfl, two, fun t ht => ?_⟩
              obtain ⟨zs, _, e1, l1, h10⟩ := hs_app (a := .advance ((mN + 1 : Nat) : Int)) (vs := [.str "advance", .int (1 + (mN : Int))]) h9 hL nL nM ht (tv2 upd_same rfl (by show V.int _ = V.int _; rw [em])) (by omega)
              refine ⟨L, zs, _, rfl, rfl, e1, l1, ?_⟩
              refine ⟨_, rfl, _, rfl, _, _, rfl, rfl, some (.int (0 + (i : Int))), some (.int ch), some (.int (sN : Int)), some (.int (1 + (mN : Int))), w12, _, some (x + (mN + 1)), f, _, ?_, h10, si_adv si (by omega) (by omega), by rw [List.length_append]; show as.length + 1 ≤ _; omega⟩
              have : (x : Int) + (1 + (mN : Int)) = ((x + (mN + 1) : Nat) : Int) := by omega
              simp only [this]
              rfl
      · rintro σ H4 ⟨w5, w9, w10, w11, w12, held, pos, f, as, rfl, h4, si, len⟩
        exact k _ _ ⟨_, _, _, _, _, _, _, _, _, rfl, h4, si, by omega⟩
    rintro _ H3 ⟨w5, w9, w10, w11, w12, held, pos, f, as, rfl, h3, si, len⟩
    refine seq_k (InvF K H b n d p L M 200 0) (fun D' hD k => ?_) ?_
    · have ebn : ((b : Nat) : Int).toNat = b := by omega
      refine ⟨_, rfl, (b : Int), rfl, by omega, by omega, for_range (lo := 0) (n := ((b : Nat) : Int).toNat) (fun i σ H' => InvF K H b n d p L M (60 + 3 * i) (b - i) σ H')
        ⟨_, _, _, _, _, _, _, _, _, rfl, h3, si, len, si.le⟩ ?_ ?_⟩
      · rintro i _ H4 hi ⟨w5, w9, w10, w11, w12, held, pos, f, as, rfl, h4, si, len, fl⟩
        rw [ebn] at hi
        refine ⟨_, rfl, _, _, rfl, rfl, _, rfl, ?_⟩
        by_cases cf : f = 0
        · refine iteF' (decide_eq_false (by omega)) ?_
          exact ⟨some (.int (0 + (i : Int))), w9, w10, w11, w12, held, pos, f, as, rfl, h4, si, by omega, by omega⟩
        refine iteT' (decide_eq_true (by omega)) ?_
        have f0 : 0 < f := by omega
        refine seq_k (InvG K H b n d p L M (61 + 3 * i) f false) (fun D2 hD2 k2 => ?_) ?_
        · refine ⟨_, rfl, rfl, _, rfl, ?_⟩
          cases pos with
          | none =>
            refine iteT' rfl ?_
            have b1 : 1 < b := (si.no rfl).resolve_right cf
            have fst := si.first b1
            obtain ⟨bl, y, hy, yl⟩ := bestH_some fst f0 held.length
            have bn : bestH held f held.length < n := by
              rw [← si.len]
              rcases bl with z | z
              · rw [z, si.len]; omega
              · exact z
            have A := held_at (held := held) (i := bestH held f held.length) (Nat.lt_of_lt_of_eq bn si.len.symm)
            rw [hy] at A
            refine ⟨_, rfl, _, rfl, M, held, f, 0, rfl, SqL.of h4.hd, by rw [si.len]; omega, fst, f0, ?_⟩
            refine ⟨_, rfl, _, rfl, M, _, _, _, rfl, rfl, SqL.of h4.hd, A, ?_⟩
            obtain ⟨ys, eL, _⟩ := h4.lst
            refine ⟨_, rfl, .inl ⟨rfl, _, SqL.of eL⟩, _, rfl, two, fun t ht => ?_⟩
            obtain ⟨zs, _, e1, l1, h5⟩ := hs_app (a := .restore (bestH held f held.length : Int)) (vs := [.str "restore", .int (bestH held f held.length : Int)]) h4 hL nL nM ht (tv2 upd_same rfl rfl) (by omega)
            refine ⟨L, zs, _, rfl, rfl, e1, l1, ?_⟩
            exact k2 _ _ ⟨some (.int (0 + (i : Int))), w9, w10, w11, some (.int (bestH held f held.length : Int)), held, y, _, rfl, h5, si_restore si bn hy yl, by rw [List.length_append]; show as.length + 1 ≤ _; omega⟩
          | some x =>
            refine iteF' rfl ?_
            exact k2 _ _ ⟨some (.int (0 + (i : Int))), w9, w10, w11, w12, held, x, as, rfl, h4, si, by omega⟩
        rintro _ H5 ⟨w5, w9, w10, w11, w12, held, x, as, rfl, h5, si, len⟩
        have si' : SI b n held (some x) f as := si
        have xf : x < f := (si'.lt x rfl).resolve_right cf
        refine seq_k (InvG K H b n d p L M (62 + 3 * i) f true) (fun D2 hD2 k2 => ?_) ?_
        · refine ⟨_, rfl, _, rfl, _, _, rfl, rfl, _, _, rfl, rfl, _, rfl, ?_⟩
          by_cases cx : x + 1 < f
          · refine iteT' (decide_eq_true (by omega)) ?_
            obtain ⟨ys, eL, _⟩ := h5.lst
            refine ⟨_, rfl, .inl ⟨rfl, _, SqL.of eL⟩, _, rfl, _, _, rfl, rfl, _, rfl, _, _, rfl, rfl, two, fun t ht => ?_⟩
            obtain ⟨zs, _, e1, l1, h6⟩ := hs_app (a := .advance ((f - 1 - x : Nat) : Int)) (vs := [.str "advance", .int ((f : Int) - 1 - (x : Int))]) h5 hL nL nM ht (tv2 upd_same rfl (by show V.int _ = V.int _; rw [show (f : Int) - 1 - (x : Int) = ((f - 1 - x : Nat) : Int) by omega])) (by omega)
            refine ⟨L, zs, _, rfl, rfl, e1, l1, ?_⟩
            have sa := si_adv (m := f - 1 - x) si' (by omega) (by omega)
            rw [show x + (f - 1 - x) = f - 1 by omega] at sa
            exact k2 _ _ ⟨w5, w9, w10, w11, w12, held, x, _, rfl, h6, sa, by rw [List.length_append]; show as.length + 1 ≤ _; omega⟩
          · refine iteF' (decide_eq_false (by omega)) ?_
            have ex : x = f - 1 := by omega
            refine k2 _ _ ⟨w5, w9, w10, w11, w12, held, x, as, rfl, h5, ?_, by omega⟩
            show SI b n held (some (f - 1)) f as
            rw [← ex]
            exact si'
        rintro _ H6 ⟨w5, w9, w10, w11, w12, held, x, as, rfl, h6, si, len⟩
        have si2 : SI b n held (some (f - 1)) (f - 1 + 1) as := by
          rw [show f - 1 + 1 = f by omega]
          exact si
        obtain ⟨ys, eL, _⟩ := h6.lst
        refine ⟨_, rfl, .inl ⟨rfl, _, SqL.of eL⟩, one, fun t ht => ?_⟩
        obtain ⟨zs, _, e1, l1, h7⟩ := hs_app (a := .turn) (vs := [.str "turn"]) h6 hL nL nM ht (tv1 upd_same rfl) (by omega)
        refine ⟨L, zs, _, rfl, rfl, e1, l1, ?_⟩
        refine ⟨_, rfl, _, _, rfl, rfl, w5, w9, w10, w11, w12, held, none, f - 1, _, ?_, h7, si_turn si2, by rw [List.length_append]; show as.length + 1 ≤ _; omega, by omega⟩
        have : (f : Int) - 1 = ((f - 1 : Nat) : Int) := by omega
        simp only [this]
        rfl
      · rintro σ H4 ⟨w5, w9, w10, w11, w12, held, pos, f, as, rfl, h4, si, len, fl⟩
        rw [ebn] at len fl
        exact k _ _ ⟨_, _, _, _, _, _, _, _, _, rfl, h4, si, by omega, by omega⟩
    rintro _ H4 ⟨w5, w9, w10, w11, w12, held, pos, f, as, rfl, h4, si, len, fl⟩
    have f0 : f = 0 := by omega
    subst f0
    obtain ⟨ys, eL, tl⟩ := h4.lst
    refine ⟨_, rfl, L, ys, rfl, .inl ⟨SqL.of eL, fun l hl => ?_⟩⟩
    obtain ⟨j, r1, r2, _⟩ := si.run
    exact q _ as _ (h4.st.trans (stays_new hl)) ⟨l, ys, rfl, SqT.of upd_same, TvL.carry (carry_new hl) _ _ tl⟩ si.ok (by omega) ⟨j, r1, r2⟩
end
end Sd

namespace Sd
open PySem L2 Tr Pu PyProof.Rows
def f60 : Bool := (List.range 41).all fun b => (List.range 9).all fun s => s == 0 || (lc b s).map Int.ofNat == some (closedI b s)
theorem f60_ok : f60 = true := by decide +kernel
theorem lc_closed {b s : Nat} (hb : b < 41) (h1 : 1 ≤ s) (hs : s < 9) : ∃ c : Nat, lc b s = some c ∧ closedI b s = (c : Int) := by
  have e := List.all_eq_true.mp (List.all_eq_true.mp f60_ok b (List.mem_range.mpr hb)) s (List.mem_range.mpr hs)
  have n1 : ¬ s = 0 := by omega
  have e' : (lc b s).map Int.ofNat = some (closedI b s) := by simpa [n1] using e
  cases h : lc b s with
  | none => rw [h] at e'; cases e'
  | some c => rw [h] at e'; exact ⟨c, rfl, (Option.some.inj e').symm⟩
def spLaw (K : PySem.W.Frag) : Sp := fun vs H Q _ => ∃ (a : Addr) (ns : List Int), vs = [.ref a] ∧ SqL K H a (ns.map V.int) ∧ ns.length ≤ 63 ∧ ∀ H', Q (.bl true) H'
abbrev sLaw : Stmt := top 29
abbrev nLaw : List Str := ["script", "draws", "at", "beats", "slots", "schedule", "cost", "due", "told", "best"]
section
variable {P : Program} {w : World} {K : PySem.W.Frag} {mg : Str → Option Value} {base : Heap} {CS CA : Addr}
theorem set_k {te : TE} {i : Nat} {tu : TS} {D : Ends} {σ : L2.St} {H : Hp} (Pr : V → Hp → Prop) (h : ∀ Q' : VK, (∀ v H', Pr v H' → Q' v H') → te σ H Q') (k : ∀ v H', Pr v H' → tu D (σ.set i (some v)) H') : tSeq (tAsg te (gName i)) tu D σ H := h _ fun v H' p => k v H' p
theorem pick3 {v : Int} (h0 : 0 ≤ v) (h : v < 3) : ∃ m : Int, atI [V.int 6, .int 13, .int 41] v = some (.int m) ∧ 0 < m ∧ m ≤ 41 := by
  have : v = 0 ∨ v = 1 ∨ v = 2 := by omega
  rcases this with rfl | rfl | rfl
  · exact ⟨6, rfl, by decide, by decide⟩
  · exact ⟨13, rfl, by decide, by decide⟩
  · exact ⟨41, rfl, by decide, by decide⟩
theorem pick2 {v : Int} (h0 : 0 ≤ v) (h : v < 2) : ∃ m : Int, atI [V.int 3, .int 8] v = some (.int m) ∧ 0 < m ∧ m ≤ 8 := by
  have : v = 0 ∨ v = 1 := by omega
  rcases this with rfl | rfl
  · exact ⟨3, rfl, by decide, by decide⟩
  · exact ⟨8, rfl, by decide, by decide⟩
theorem nilP {σ : L2.St} {H : Hp} {Q : List V → Hp → Prop} (h : Q [] H) : tNil σ H Q := h
theorem scLaw : FnScope nLaw ["script"] (defScope sLaw) := ⟨rfl, rfl, rfl, by decide +kernel, rfl, by decide +kernel, by decide +kernel⟩
theorem ok_law {f : Addr} {fd : FuncData} (F : Fun K "law" "law" sLaw f fd) (T : Bi mg) (c_draws : Cal P w K mg base CX0 1 "_law_draws" ["script"] (spDraws K)) (c_take : Cal P w K mg base CX0 1 "_law_take" ["draws", "at", "many"] (spTake K))
    (c_sched : Cal P w K mg base CX0 2 "_law_schedule" ["beats", "slots", "draws", "at"] (spSch K)) (c_closed : Cal P w K mg base CX0 2 "_law_least" ["beats", "slots"] spClosed) (c_cost : Cal P w K mg base CX0 1 "_law_cost" ["schedule"] (spCost K))
    (c_lst : Cal P w K mg base (L2.CX P w) 5 "least" ["beats", "slots"] (spLst K)) (c_plan : Cal P w K mg base (L2.CX P w) 11 "plan" ["beats", "slots"] (spPlan K CS)) (c_judge : Cal P w K mg base (L2.CX P w) 5 "judge" ["schedule", "beats", "slots"] (spJudge K CS CA)) : FnOk P w K mg base CX0 12 f fd ["script"] (spLaw K) := by
  refine F.ok scLaw (fun vs H Q E h => ?_) (fun cdv A outer s H vs Q E hr h => ?_)
  · obtain ⟨a, ns, rfl, _⟩ := h
    rfl
  · obtain ⟨a, ns, rfl, hS, hl, q⟩ := h
    have nd := scLaw.nd
    have one : 1 ≤ sizeLine := by decide
    refine ⟨_, pss_cons (ps_set (i := 1) nd rfl (.inl rfl) (pe_call c_draws.ok (hr.mono (by first | decide | omega)) rfl c_draws.m c_draws.kp c_draws.b .nil pass0 (pa_cons (pv 0) pa_nil)))
      (pss_cons (ps_set (i := 2) nd rfl (.inl rfl) (pe_lst (pa_cons pe_int pa_nil)))
      (pss_cons (ps_set (i := 3) nd rfl (.inl rfl) (pe_call c_take.ok (hr.mono (by first | decide | omega)) rfl c_take.m c_take.kp c_take.b .nil pass0 (pa_cons (pv 1) (pa_cons (pv 2) (pa_cons (pe_ix ix_list (pe_lst (pa_cons pe_int (pa_cons pe_int (pa_cons pe_int pa_nil)))) (pe_call c_take.ok (hr.mono (by first | decide | omega)) rfl c_take.m c_take.kp c_take.b .nil pass0 (pa_cons (pv 1) (pa_cons (pv 2) (pa_cons pe_int pa_nil)))) (fun _ _ => rfl)) pa_nil)))))
      (pss_cons (ps_set (i := 4) nd rfl (.inl rfl) (pe_op op_add pe_int (pe_call c_take.ok (hr.mono (by first | decide | omega)) rfl c_take.m c_take.kp c_take.b .nil pass0 (pa_cons (pv 1) (pa_cons (pv 2) (pa_cons (pe_ix ix_list (pe_lst (pa_cons pe_int (pa_cons pe_int pa_nil))) (pe_call c_take.ok (hr.mono (by first | decide | omega)) rfl c_take.m c_take.kp c_take.b .nil pass0 (pa_cons (pv 1) (pa_cons (pv 2) (pa_cons pe_int pa_nil)))) (fun _ _ => rfl)) pa_nil))))))
      (pss_cons (ps_set (i := 5) nd rfl (.inl rfl) (pe_call c_sched.ok (hr.mono (by first | decide | omega)) rfl c_sched.m c_sched.kp c_sched.b .nil pass0 (pa_cons (pv 3) (pa_cons (pv 4) (pa_cons (pv 1) (pa_cons (pv 2) pa_nil))))))
      (pss_cons (ps_set (i := 6) nd rfl (.inl rfl) (pe_call c_judge.ok (hr.mono (by first | decide | omega)) rfl c_judge.m c_judge.kp c_judge.b .nil (passE0 rfl rfl) (pa_cons (pv 5) (pa_cons (pv 3) (pa_cons (pv 4) pa_nil)))))
      (pss_cons (ps_set (i := 7) nd rfl (.inl rfl) (pe_call c_closed.ok (hr.mono (by first | decide | omega)) rfl c_closed.m c_closed.kp c_closed.b .nil pass0 (pa_cons (pv 3) (pa_cons (pv 4) pa_nil))))
      (pss_cons (ps_if (PW.pt (pw_or (pt_val (pe_callB call_isi rfl T.isinstance PyProof.Rows.boot_isinstance (pa_cons (pv 6) (pa_cons (pe_bltn (v := .ty "bool") rfl T.bool PyProof.Rows.boot_bool rfl) pa_nil)))) (pw_or (pt_cmpR op_ne (pv 6) (pe_call c_cost.ok (hr.mono (by first | decide | omega)) rfl c_cost.m c_cost.kp c_cost.b .nil pass0 (pa_cons (pv 5) pa_nil)) (nomark _)) (pw_or1 (pt_cmpR op_lt (pv 6) (pv 7) (nomark _)))))) (pss_one (ps_ret pe_bl)) pss_nil)
      (pss_cons (ps_set (i := 8) nd rfl (.inl rfl) (pe_call c_lst.ok (hr.mono (by first | decide | omega)) rfl c_lst.m c_lst.kp c_lst.b .nil (passE0 rfl rfl) (pa_cons (pv 3) (pa_cons (pv 4) pa_nil))))
      (pss_cons (ps_if (PW.pt (pw_or (pt_val (pe_callB call_isi rfl T.isinstance PyProof.Rows.boot_isinstance (pa_cons (pv 8) (pa_cons (pe_bltn (v := .ty "bool") rfl T.bool PyProof.Rows.boot_bool rfl) pa_nil)))) (pw_or1 (pt_cmpR op_ne (pv 8) (pv 7) (nomark _))))) (pss_one (ps_ret pe_bl)) pss_nil)
      (pss_cons (ps_set (i := 9) nd rfl (.inl rfl) (pe_call c_plan.ok (hr.mono (by first | decide | omega)) rfl c_plan.m c_plan.kp c_plan.b .nil (passE0 rfl rfl) (pa_cons (pv 3) (pa_cons (pv 4) pa_nil))))
      (pss_one (ps_ret (pe_and (pe_cmpR op_eq (pe_call c_judge.ok (hr.mono (by first | decide | omega)) rfl c_judge.m c_judge.kp c_judge.b .nil (passE0 rfl rfl) (pa_cons (pv 9) (pa_cons (pv 3) (pa_cons (pv 4) pa_nil)))) (pv 7) (nomark _)) (pe_one (pe_cmpR op_eq (pe_call c_cost.ok (hr.mono (by first | decide | omega)) rfl c_cost.m c_cost.kp c_cost.b .nil pass0 (pa_cons (pv 9) pa_nil)) (pv 7) (nomark _)))))))))))))))), ?_⟩
    refine ⟨_, rfl, a, ns, rfl, hS, fun d ds H1 nd0 s1 ed => ?_⟩
    refine ⟨one, fun p hp => ?_⟩
    have dp : d ≠ p := ne_of_none ed hp
    have D2 : Dr K (upd H1 p (.lst [.int 0])) d p := ⟨dp, ⟨ds, SqL.of (by rw [upd_ne dp]; exact ed)⟩, ⟨0, Int.le_refl _, upd_same⟩⟩
    dsimp only
    have three : 3 ≤ sizeLine := by decide
    have two : 2 ≤ sizeLine := by decide
    refine set_k (fun v H' => ∃ b : Nat, v = .int (b : Int) ∧ b ≤ 40 ∧ Dr K H' d p) (fun Q' k => ?_) ?_
    · refine ⟨_, rfl, _, rfl, three, fun l hl => ?_⟩
      have lp : l ≠ p := (ne_of_none upd_same hl).symm
      refine ⟨_, rfl, _, rfl, d, p, 3, rfl, D2.new hl, by decide, fun v H3 v0 v1 st3 ct3 => ?_⟩
      have D3 := (D2.new hl).next st3 ct3
      obtain ⟨m, hm, m0, m1⟩ := pick3 v0 v1
      refine ⟨l, _, v, _, rfl, rfl, SqL.of (st3 _ _ lp upd_same), hm, nilP ⟨d, p, m, rfl, D3, m0, fun bv H4 b0 b1 st4 ct4 => ?_⟩⟩
      exact k _ _ ⟨bv.toNat, by rw [show ((bv.toNat : Nat) : Int) = bv by omega], by omega, D3.next st4 ct4⟩
    rintro _ H3 ⟨b, rfl, hb, D3⟩
    refine set_k (fun v H' => ∃ n : Nat, v = .int (n : Int) ∧ 1 ≤ n ∧ n ≤ 8 ∧ Dr K H' d p) (fun Q' k => ?_) ?_
    · refine ⟨_, rfl, _, rfl, two, fun l hl => ?_⟩
      have lp : l ≠ p := fun z => by
        obtain ⟨j, _, ej⟩ := D3.ctr
        rw [z, ej] at hl
        cases hl
      refine ⟨_, rfl, _, rfl, d, p, 2, rfl, D3.new hl, by decide, fun v H4 v0 v1 st4 ct4 => ?_⟩
      have D4 := (D3.new hl).next st4 ct4
      obtain ⟨m, hm, m0, m1⟩ := pick2 v0 v1
      refine ⟨l, _, v, _, rfl, rfl, SqL.of (st4 _ _ lp upd_same), hm, nilP ⟨d, p, m, rfl, D4, m0, fun nv H5 b0 b1 st5 ct5 => ?_⟩⟩
      exact ⟨_, _, rfl, rfl, k _ _ ⟨nv.toNat + 1, by rw [show ((nv.toNat + 1 : Nat) : Int) = 1 + nv by omega], by omega, by omega, D4.next st5 ct5⟩⟩
    rintro _ H4 ⟨n, rfl, n1, n8, D4⟩
    obtain ⟨c, hc, hcl⟩ := lc_closed (b := b) (s := n) (by omega) n1 (by omega)
    refine set_k (fun v H' => ∃ as : List Act, Tv K H' (.tuple (as.map Act.enc)) v ∧ as.all okA = true ∧ as.length ≤ 2000 ∧ ∃ j, runA (js0 b n) as = some j ∧ j.front = 0) (fun Q' k => ⟨_, rfl, _, rfl, _, rfl, _, rfl, b, n, d, p, rfl, hb, n1, n8, D4, fun v as H5 _ tv ok len r => k _ _ ⟨as, tv, ok, len, r⟩⟩) ?_
    rintro v H5 ⟨as, tv, ok, len, j, hrun, hf⟩
    -- judge what is right
    have jg : ∀ (as : List Act) (j : JS) (HA : Hp) (u : V) (Q' : VK) (E' : XK), as.all okA = true → as.length ≤ 2000 → runA (js0 b n) as = some j → j.front = 0 → Tv K HA (.tuple (as.map Act.enc)) u → (∀ H', Same HA H' → Q' (.int j.cost) H') → spJudge K CS CA [u, .int (b : Int), .int (n : Int)] HA Q' E' := by
      intro as j HA u Q' E' ok len hrun hf tu k
      have hrun' : runJ (js0 b n) (as.map Act.enc) = some j := by rw [run_enc _ _ ok]; exact hrun
      refine ⟨u, .tuple (as.map Act.enc), .int (b : Int), .int (n : Int), _, _, rfl, tu, rfl, rfl, (fun ds e => by cases e; exact ⟨fun x hx => by obtain ⟨a, _, rfl⟩ := List.mem_map.mp hx; exact flat_enc a, by rw [List.length_map]; exact len⟩), fun z => ?_, fun _ z => ?_, fun b' s' h1 h2 _ _ => ?_⟩
      · have e40 : btw (.int (b : Int)) 0 40 = true := btw_nat (m := 40) (by omega)
        rw [e40] at z
        cases z
      · have e8 : btw (.int (n : Int)) 0 8 = true := btw_nat (m := 8) (by omega)
        rw [e8] at z
        cases z
      · cases h1
        cases h2
        refine ⟨fun z => absurd rfl (z _), fun ds e => ?_⟩
        cases e
        refine ⟨fun j' H6 hr' hf' s6 => ?_, fun i x j' r' d H' hi hr' hre => (run_fine hrun' hi hr' hre).elim, fun j' d H' hr' hf' => ?_⟩
        · rw [hrun'] at hr'
          cases hr'
          exact k H6 s6
        · rw [hrun'] at hr'
          cases hr'
          exact absurd hf hf'
    have lb : (c : Int) ≤ j.cost := by
      have := low_bound (b := b) (c := n) (ds := as.map Act.enc) (j := j) hb n8 (by rw [run_enc _ _ ok]; exact hrun) hf
      have e : lcN b n = c := by unfold lcN; rw [hc]; rfl
      rw [e] at this
      exact this
    have jc : j.cost = (advs as).sum := by
      have := run_advs as _ j hrun
      have z : (js0 (b : Int) n).cost = 0 := rfl
      omega
    refine set_k (fun u H' => Same H5 H' ∧ u = .int j.cost) (fun Q' k => ⟨_, rfl, _, rfl, _, rfl, nilP (jg as j H5 v _ _ ok len hrun hf tv fun H' s => k _ _ ⟨s, rfl⟩)⟩) ?_
    rintro _ H6 ⟨s6, rfl⟩
    have tv6 := tv.carry (same_carry s6)
    refine ⟨_, rfl, _, rfl, b, n, rfl, hb, n8, ?_⟩
    rw [hcl]
    refine ⟨_, rfl, .int j.cost, .ty "bool", .type "int", .type "bool", false, rfl, .ty _, .base (.int _), kit_ty (by decide +kernel), false, rfl, iteF ?_⟩
    refine ⟨_, rfl, _, rfl, v, as, rfl, tv6, len, fun H7 s7 => ⟨rfl, _, rfl, iteF' ?_ ?_⟩⟩
    · show (!decide (V.int j.cost = V.int (advs as).sum)) = false
      rw [jc]
      simp
    refine ⟨_, rfl, _, rfl, _, _, rfl, rfl, _, rfl, iteF' (decide_eq_false (by omega)) ?_⟩
    refine ⟨_, rfl, _, rfl, b, n, rfl, hb, n8, fun H8 s8 => ?_⟩
    rw [Lc_lc (by omega) (by omega), hc]
    refine ⟨_, rfl, .int c, .ty "bool", .type "int", .type "bool", false, rfl, .ty _, .base (.int _), kit_ty (by decide +kernel), false, rfl, iteF ?_⟩
    refine ⟨_, rfl, _, rfl, rfl, _, rfl, iteF' (by simp [cV]) ?_⟩
    have hv : b < 2 ∨ 1 ≤ n := .inr n1
    obtain ⟨⟨j2, hr2, hf2, hl2, hc2⟩, ok2, sh2⟩ := chkP_at (t := b) (e := n) (by omega) (by omega) hv
    rw [Lc_lc (by omega) (by omega), hc] at hl2
    have ec : j2.cost = (c : Int) := by
      have := Option.some.inj hl2
      omega
    have jc2 : j2.cost = (advs (plA n n b)).sum := by
      have := run_advs _ _ j2 hr2
      have z : (js0 (b : Int) n).cost = 0 := rfl
      omega
    refine ⟨_, rfl, _, rfl, b, n, rfl, hb, n8, fun _ u H9 s9 tu => ?_, fun z => absurd hv z⟩
    refine ⟨_, rfl, _, rfl, _, rfl, nilP (jg (plA n n b) j2 H9 u _ _ ok2 (by omega) hr2 hf2 tu fun H10 s10 => ?_)⟩
    refine ⟨_, rfl, rfl, true, ?_, iteT ?_⟩
    · show V.bl (decide (V.int j2.cost = V.int (c : Int))) = V.bl true
      rw [ec]
      simp
    refine ⟨_, rfl, u, plA n n b, rfl, tu.carry (same_carry s10), by omega, fun H11 s11 => ⟨_, rfl, rfl, ?_⟩⟩
    have : decide (V.int (advs (plA n n b)).sum = V.int (c : Int)) = true := by rw [← jc2, ec]; exact decide_eq_true rfl
    show Q (.bl (decide (V.int (advs (plA n n b)).sum = V.int (c : Int)))) H11
    rw [this]
    exact q H11
end
end Sd

namespace Sd
open PySem L2 Tr Pu PyProof.Rows
section
theorem all_mk {l : PySem.W.OpenLaw} {w : World} {K : PySem.W.Frag} {h : Heap} {mg : Str → Option Value} {fa f1 f2 f3 f4 f5 f6 f7 f8 f9 f10 f11 f12 f13 f14 f15 f16 f17 f18 f19 : Addr} (X : K.In h) (G : h.Ns mainGlobals mg) (hfa : mg "law" = some (.ref fa))
    {od1 an1 od2 an2 od3 an3 od4 an4 od5 an5 od6 an6 od7 an7 od8 an8 od9 an9 od10 an10 od11 an11 od12 an12 od13 an13 od14 an14 od15 an15 od16 an16 od17 an17 od18 an18 od19 an19 : Option Addr} {sl1 sl2 sl3 sl4 sl5 sl6 sl7 sl8 sl9 sl10 sl11 sl12 sl13 sl14 sl15 sl16 sl17 sl18 sl19 : Array (Option Value)} {oc1 kV1 dc1 pm1 cd1 ct1 oc2 kV2 dc2 pm2 cd2 ct2 oc3 kV3 dc3 pm3 cd3 ct3 oc4 kV4 dc4 pm4 cd4 ct4 oc5 kV5 dc5 pm5 cd5 ct5 oc6 kV6 dc6 pm6 cd6 ct6 oc7 kV7 dc7 pm7 cd7 ct7 oc8 kV8 dc8 pm8 cd8 ct8 oc9 kV9 dc9 pm9 cd9 ct9 oc10 kV10 dc10 pm10 cd10 ct10 oc11 kV11 dc11 pm11 cd11 ct11 oc12 kV12 dc12 pm12 cd12 ct12 oc13 kV13 dc13 pm13 cd13 ct13 oc14 kV14 dc14 pm14 cd14 ct14 oc15 kV15 dc15 pm15 cd15 ct15 oc16 kV16 dc16 pm16 cd16 ct16 oc17 kV17 dc17 pm17 cd17 ct17 oc18 kV18 dc18 pm18 cd18 ct18 oc19 kV19 dc19 pm19 cd19 ct19 : Value}
    (a1 : PySem.W.nsIn K mainGlobals "is_integer" = some (some (.ref f1))) (l1 : K.lookup f1 = some ⟨oc1, od1, .func (PySem.W.fnOf "is_integer" "is_integer" (defArgs sIsi) (defBody sIsi) (defScope sIsi) .none kV1 dc1 pm1 an1 cd1 ct1), sl1⟩) (c1 : PySem.W.codeIn K cd1 "is_integer" = true) (k1 : PySem.W.keepIn K (.ref f1) = true)
    (a2 : PySem.W.nsIn K mainGlobals "is_between" = some (some (.ref f2))) (l2 : K.lookup f2 = some ⟨oc2, od2, .func (PySem.W.fnOf "is_between" "is_between" (defArgs sBtw) (defBody sBtw) (defScope sBtw) .none kV2 dc2 pm2 an2 cd2 ct2), sl2⟩) (c2 : PySem.W.codeIn K cd2 "is_between" = true) (k2 : PySem.W.keepIn K (.ref f2) = true)
    (a3 : PySem.W.nsIn K mainGlobals "check_beats" = some (some (.ref f3))) (l3 : K.lookup f3 = some ⟨oc3, od3, .func (PySem.W.fnOf "check_beats" "check_beats" (defArgs sCkb) (defBody sCkb) (defScope sCkb) .none kV3 dc3 pm3 an3 cd3 ct3), sl3⟩) (c3 : PySem.W.codeIn K cd3 "check_beats" = true) (k3 : PySem.W.keepIn K (.ref f3) = true)
    (a4 : PySem.W.nsIn K mainGlobals "judge" = some (some (.ref f4))) (l4 : K.lookup f4 = some ⟨oc4, od4, .func (PySem.W.fnOf "judge" "judge" (defArgs sJudge) (defBody sJudge) (defScope sJudge) .none kV4 dc4 pm4 an4 cd4 ct4), sl4⟩) (c4 : PySem.W.codeIn K cd4 "judge" = true) (k4 : PySem.W.keepIn K (.ref f4) = true)
    (a5 : PySem.W.nsIn K mainGlobals "least" = some (some (.ref f5))) (l5 : K.lookup f5 = some ⟨oc5, od5, .func (PySem.W.fnOf "least" "least" (defArgs sLst) (defBody sLst) (defScope sLst) .none kV5 dc5 pm5 an5 cd5 ct5), sl5⟩) (c5 : PySem.W.codeIn K cd5 "least" = true) (k5 : PySem.W.keepIn K (.ref f5) = true)
    (a6 : PySem.W.nsIn K mainGlobals "plan" = some (some (.ref f6))) (l6 : K.lookup f6 = some ⟨oc6, od6, .func (PySem.W.fnOf "plan" "plan" (defArgs sPlan) (defBody sPlan) (defScope sPlan) .none kV6 dc6 pm6 an6 cd6 ct6), sl6⟩) (c6 : PySem.W.codeIn K cd6 "plan" = true) (k6 : PySem.W.keepIn K (.ref f6) = true)
    (a7 : PySem.W.nsIn K mainGlobals "check_numbers" = some (some (.ref f7))) (l7 : K.lookup f7 = some ⟨oc7, od7, .func (PySem.W.fnOf "check_numbers" "check_numbers" (defArgs sCkn) (defBody sCkn) (defScope sCkn) .none kV7 dc7 pm7 an7 cd7 ct7), sl7⟩) (c7 : PySem.W.codeIn K cd7 "check_numbers" = true) (k7 : PySem.W.keepIn K (.ref f7) = true)
    (a8 : PySem.W.nsIn K mainGlobals "is_action" = some (some (.ref f8))) (l8 : K.lookup f8 = some ⟨oc8, od8, .func (PySem.W.fnOf "is_action" "is_action" (defArgs sAct) (defBody sAct) (defScope sAct) .none kV8 dc8 pm8 an8 cd8 ct8), sl8⟩) (c8 : PySem.W.codeIn K cd8 "is_action" = true) (k8 : PySem.W.keepIn K (.ref f8) = true)
    (a9 : PySem.W.nsIn K mainGlobals "plan_actions" = some (some (.ref f9))) (l9 : K.lookup f9 = some ⟨oc9, od9, .func (PySem.W.fnOf "plan_actions" "plan_actions" (defArgs sPa) (defBody sPa) (defScope sPa) .none kV9 dc9 pm9 an9 cd9 ct9), sl9⟩) (c9 : PySem.W.codeIn K cd9 "plan_actions" = true) (k9 : PySem.W.keepIn K (.ref f9) = true)
    (a10 : PySem.W.nsIn K mainGlobals "table_rows" = some (some (.ref f10))) (l10 : K.lookup f10 = some ⟨oc10, od10, .func (PySem.W.fnOf "table_rows" "table_rows" (defArgs sTr) (defBody sTr) (defScope sTr) .none kV10 dc10 pm10 an10 cd10 ct10), sl10⟩) (c10 : PySem.W.codeIn K cd10 "table_rows" = true) (k10 : PySem.W.keepIn K (.ref f10) = true)
    (a11 : PySem.W.nsIn K mainGlobals "right_entries" = some (some (.ref f11))) (l11 : K.lookup f11 = some ⟨oc11, od11, .func (PySem.W.fnOf "right_entries" "right_entries" (defArgs sRe) (defBody sRe) (defScope sRe) .none kV11 dc11 pm11 an11 cd11 ct11), sl11⟩) (c11 : PySem.W.codeIn K cd11 "right_entries" = true) (k11 : PySem.W.keepIn K (.ref f11) = true)
    (a12 : PySem.W.nsIn K mainGlobals "_law_draws" = some (some (.ref f12))) (l12 : K.lookup f12 = some ⟨oc12, od12, .func (PySem.W.fnOf "_law_draws" "_law_draws" (defArgs sDraws) (defBody sDraws) (defScope sDraws) .none kV12 dc12 pm12 an12 cd12 ct12), sl12⟩) (c12 : PySem.W.codeIn K cd12 "_law_draws" = true) (k12 : PySem.W.keepIn K (.ref f12) = true)
    (a13 : PySem.W.nsIn K mainGlobals "_law_take" = some (some (.ref f13))) (l13 : K.lookup f13 = some ⟨oc13, od13, .func (PySem.W.fnOf "_law_take" "_law_take" (defArgs sTake) (defBody sTake) (defScope sTake) .none kV13 dc13 pm13 an13 cd13 ct13), sl13⟩) (c13 : PySem.W.codeIn K cd13 "_law_take" = true) (k13 : PySem.W.keepIn K (.ref f13) = true)
    (a14 : PySem.W.nsIn K mainGlobals "_law_choose" = some (some (.ref f14))) (l14 : K.lookup f14 = some ⟨oc14, od14, .func (PySem.W.fnOf "_law_choose" "_law_choose" (defArgs sWays) (defBody sWays) (defScope sWays) .none kV14 dc14 pm14 an14 cd14 ct14), sl14⟩) (c14 : PySem.W.codeIn K cd14 "_law_choose" = true) (k14 : PySem.W.keepIn K (.ref f14) = true)
    (a15 : PySem.W.nsIn K mainGlobals "_law_least" = some (some (.ref f15))) (l15 : K.lookup f15 = some ⟨oc15, od15, .func (PySem.W.fnOf "_law_least" "_law_least" (defArgs sClosed) (defBody sClosed) (defScope sClosed) .none kV15 dc15 pm15 an15 cd15 ct15), sl15⟩) (c15 : PySem.W.codeIn K cd15 "_law_least" = true) (k15 : PySem.W.keepIn K (.ref f15) = true)
    (a16 : PySem.W.nsIn K mainGlobals "_law_best" = some (some (.ref f16))) (l16 : K.lookup f16 = some ⟨oc16, od16, .func (PySem.W.fnOf "_law_best" "_law_best" (defArgs sBest) (defBody sBest) (defScope sBest) .none kV16 dc16 pm16 an16 cd16 ct16), sl16⟩) (c16 : PySem.W.codeIn K cd16 "_law_best" = true) (k16 : PySem.W.keepIn K (.ref f16) = true)
    (a17 : PySem.W.nsIn K mainGlobals "_law_schedule" = some (some (.ref f17))) (l17 : K.lookup f17 = some ⟨oc17, od17, .func (PySem.W.fnOf "_law_schedule" "_law_schedule" (defArgs sSch) (defBody sSch) (defScope sSch) .none kV17 dc17 pm17 an17 cd17 ct17), sl17⟩) (c17 : PySem.W.codeIn K cd17 "_law_schedule" = true) (k17 : PySem.W.keepIn K (.ref f17) = true)
    (a18 : PySem.W.nsIn K mainGlobals "_law_cost" = some (some (.ref f18))) (l18 : K.lookup f18 = some ⟨oc18, od18, .func (PySem.W.fnOf "_law_cost" "_law_cost" (defArgs sCost) (defBody sCost) (defScope sCost) .none kV18 dc18 pm18 an18 cd18 ct18), sl18⟩) (c18 : PySem.W.codeIn K cd18 "_law_cost" = true) (k18 : PySem.W.keepIn K (.ref f18) = true)
    (a19 : PySem.W.nsIn K mainGlobals "law" = some (some (.ref f19))) (l19 : K.lookup f19 = some ⟨oc19, od19, .func (PySem.W.fnOf "law" "law" (defArgs sLaw) (defBody sLaw) (defScope sLaw) .none kV19 dc19 pm19 an19 cd19 ct19), sl19⟩) (c19 : PySem.W.codeIn K cd19 "law" = true) (k19 : PySem.W.keepIn K (.ref f19) = true)
    {B : Addr} (aB0 : PySem.W.nsIn K mainGlobals "CountermarchError" = some (some (.ref B)))
    {A : Addr} (aA : PySem.W.nsIn K mainGlobals "ArgumentError" = some (some (.ref A)))
    {nmA qA : Str} {NA : Addr} {bsA sbA : List Value} {snA : List Str} {abA : Bool} {clA : Option Bool} {ddA : Option Addr} {k0A k1A k2A k3A k5A : Option Value} (xA : K.lookup A = some (excClassObj nmA qA A NA bsA [.ref B, .type "ValueError", .type "Exception", .type "BaseException", .type "object"] true snA sbA abA clA ddA k0A k1A k2A k3A k5A "ValueError.__new__"))
    (saA : PySem.W.findIn K (.ref A) "__setattr__" = some (some (.builtin "object.__setattr__")))
    (bA : PySem.W.subIn K (.ref A) (.type "BaseException") = some true)
    (tA : PySem.W.typeIn K (.ref A) = some (.type "type"))
    (kA : PySem.W.keepIn K (.ref A) = true)
    {fA : Addr} (iA : PySem.W.findIn K (.ref A) "__init__" = some (some (.ref fA)))
    (jA : PySem.W.typeIn K (.ref fA) = some (.type "function"))
    {ocA kVA dcA pmA ctA : Value} {odA anA : Option Addr} {cdA ccA : Addr} {slA : Array (Option Value)} (lA : K.lookup fA = some ⟨ocA, odA, .func (PySem.W.ksFn "__init__" "ArgumentError.__init__" (defArgs Er.sAE) (defBody Er.sAE) (defScope Er.sAE) .none kVA dcA pmA anA (.ref cdA) ctA ccA), slA⟩)
    (cA : PySem.W.codeIn K (.ref cdA) "ArgumentError.__init__" = true)
    (uA : PySem.W.ks_superIn K A A "__init__" = some (some (.builtin "ValueError.__init__")))
    (yA : PySem.W.nsIn K cStatics "thirdparty.any" = some none)
    (vA : PySem.W.subIn K (.ref A) (.type "ValueError") = some true)
    {ceA : Value} {cgA : Option Addr} {chA : Array (Option Value)} (oA : K.lookup ccA = some ⟨ceA, cgA, .cell (some (.ref A)), chA⟩)
    (mA : PySem.W.mroIn K A (.ref A) = some true)
    (pA : PySem.W.nsIn K mainGlobals "super" = some none)
    {daA : Value} {dbA : Option Addr} {dvA : Array Value} {dwA : Array (Option Value)} (dA : K.lookup cdA = some ⟨daA, dbA, .fields dvA, dwA⟩)
    {flA : Str} {tfA : Tok} (eA : dvA[2]? = some (.str flA tfA))
    (wA : ((l.prog.main.file : Str) == flA) = true)
    (gA : (l.prog.main.scope.names.lookup ("super" : Str)).isSome = false)
    (nA_reason : PySem.W.findIn K (.ref A) "reason" = some none)
    {S : Addr} (aS : PySem.W.nsIn K mainGlobals "ScheduleError" = some (some (.ref S)))
    {nmS qS : Str} {NS : Addr} {bsS sbS : List Value} {snS : List Str} {abS : Bool} {clS : Option Bool} {ddS : Option Addr} {k0S k1S k2S k3S k5S : Option Value} (xS : K.lookup S = some (excClassObj nmS qS S NS bsS [.ref B, .type "ValueError", .type "Exception", .type "BaseException", .type "object"] true snS sbS abS clS ddS k0S k1S k2S k3S k5S "ValueError.__new__"))
    (saS : PySem.W.findIn K (.ref S) "__setattr__" = some (some (.builtin "object.__setattr__")))
    (bS : PySem.W.subIn K (.ref S) (.type "BaseException") = some true)
    (tS : PySem.W.typeIn K (.ref S) = some (.type "type"))
    (kS : PySem.W.keepIn K (.ref S) = true)
    {fS : Addr} (iS : PySem.W.findIn K (.ref S) "__init__" = some (some (.ref fS)))
    (jS : PySem.W.typeIn K (.ref fS) = some (.type "function"))
    {ocS kVS dcS pmS ctS : Value} {odS anS : Option Addr} {cdS ccS : Addr} {slS : Array (Option Value)} (lS : K.lookup fS = some ⟨ocS, odS, .func (PySem.W.ksFn "__init__" "ScheduleError.__init__" (defArgs Er.sSE) (defBody Er.sSE) (defScope Er.sSE) .none kVS dcS pmS anS (.ref cdS) ctS ccS), slS⟩)
    (cS : PySem.W.codeIn K (.ref cdS) "ScheduleError.__init__" = true)
    (uS : PySem.W.ks_superIn K S S "__init__" = some (some (.builtin "ValueError.__init__")))
    (yS : PySem.W.nsIn K cStatics "thirdparty.any" = some none)
    (vS : PySem.W.subIn K (.ref S) (.type "ValueError") = some true)
    {ceS : Value} {cgS : Option Addr} {chS : Array (Option Value)} (oS : K.lookup ccS = some ⟨ceS, cgS, .cell (some (.ref S)), chS⟩)
    (mS : PySem.W.mroIn K S (.ref S) = some true)
    (pS : PySem.W.nsIn K mainGlobals "super" = some none)
    {daS : Value} {dbS : Option Addr} {dvS : Array Value} {dwS : Array (Option Value)} (dS : K.lookup cdS = some ⟨daS, dbS, .fields dvS, dwS⟩)
    {flS : Str} {tfS : Tok} (eS : dvS[2]? = some (.str flS tfS))
    (wS : ((l.prog.main.file : Str) == flS) = true)
    (gS : (l.prog.main.scope.names.lookup ("super" : Str)).isSome = false)
    (nS_number : PySem.W.findIn K (.ref S) "number" = some none)
    (nS_reason : PySem.W.findIn K (.ref S) "reason" = some none)
    {J : Addr} (aJ : PySem.W.nsIn K mainGlobals "Judge" = some (some (.ref J)))
    {fJ0 : Addr} (aJ0 : PySem.W.findIn K (.ref J) "__init__" = some (some (.ref fJ0)))
    (iJ0 : PySem.W.isFn K (.ref fJ0) = true)
    {ocJ0 kVJ0 dcJ0 pmJ0 cdJ0 ctJ0 : Value} {odJ0 anJ0 : Option Addr} {slJ0 : Array (Option Value)} (lJ0 : K.lookup fJ0 = some ⟨ocJ0, odJ0, .func (PySem.W.fnOf "__init__" "Judge.__init__" (defArgs sJin) (defBody sJin) (defScope sJin) .none kVJ0 dcJ0 pmJ0 anJ0 cdJ0 ctJ0), slJ0⟩)
    (cJ0 : PySem.W.codeIn K cdJ0 "Judge.__init__" = true)
    (kJ0 : PySem.W.keepIn K (.ref fJ0) = true)
    {fJ1 : Addr} (aJ1 : PySem.W.findIn K (.ref J) "find_reason" = some (some (.ref fJ1)))
    (iJ1 : PySem.W.isFn K (.ref fJ1) = true)
    {ocJ1 kVJ1 dcJ1 pmJ1 cdJ1 ctJ1 : Value} {odJ1 anJ1 : Option Addr} {slJ1 : Array (Option Value)} (lJ1 : K.lookup fJ1 = some ⟨ocJ1, odJ1, .func (PySem.W.fnOf "find_reason" "Judge.find_reason" (defArgs sFind) (defBody sFind) (defScope sFind) .none kVJ1 dcJ1 pmJ1 anJ1 cdJ1 ctJ1), slJ1⟩)
    (cJ1 : PySem.W.codeIn K cdJ1 "Judge.find_reason" = true)
    (kJ1 : PySem.W.keepIn K (.ref fJ1) = true)
    {fJ2 : Addr} (aJ2 : PySem.W.findIn K (.ref J) "follow" = some (some (.ref fJ2)))
    (iJ2 : PySem.W.isFn K (.ref fJ2) = true)
    {ocJ2 kVJ2 dcJ2 pmJ2 cdJ2 ctJ2 : Value} {odJ2 anJ2 : Option Addr} {slJ2 : Array (Option Value)} (lJ2 : K.lookup fJ2 = some ⟨ocJ2, odJ2, .func (PySem.W.fnOf "follow" "Judge.follow" (defArgs sFol) (defBody sFol) (defScope sFol) .none kVJ2 dcJ2 pmJ2 anJ2 cdJ2 ctJ2), slJ2⟩)
    (cJ2 : PySem.W.codeIn K cdJ2 "Judge.follow" = true)
    (kJ2 : PySem.W.keepIn K (.ref fJ2) = true)
    (pgJ : PySem.W.plainGet K J Str.empty = true)
    (hdJ : PySem.W.hasDictIn K J = true)
    (poJ : PySem.W.plainOver K J = true)
    (saJ : PySem.W.findIn K (.ref J) "__setattr__" = some (some (.builtin "object.__setattr__")))
    (mkJ : PySem.W.makesIn K J = true)
    (kcJ : PySem.W.keepIn K (.ref J) = true)
    (nJ_front : PySem.W.findIn K (.ref J) "front" = some none)
    (nJ_slots : PySem.W.findIn K (.ref J) "slots" = some none)
    (nJ_position : PySem.W.findIn K (.ref J) "position" = some none)
    (nJ_kept : PySem.W.findIn K (.ref J) "kept" = some none)
    (nJ_cost : PySem.W.findIn K (.ref J) "cost" = some none)
    (z_len : PySem.W.nsIn K mainGlobals "len" = some none)
    (z_int : PySem.W.nsIn K mainGlobals "int" = some none)
    (z_range : PySem.W.nsIn K mainGlobals "range" = some none)
    (z_tuple : PySem.W.nsIn K mainGlobals "tuple" = some none)
    (z_list : PySem.W.nsIn K mainGlobals "list" = some none)
    (z_str : PySem.W.nsIn K mainGlobals "str" = some none)
    (z_isinstance : PySem.W.nsIn K mainGlobals "isinstance" = some none)
    (z_bool : PySem.W.nsIn K mainGlobals "bool" = some none)
    (z_abs : PySem.W.nsIn K mainGlobals "abs" = some none)
    (z_max : PySem.W.nsIn K mainGlobals "max" = some none)
    (z_min : PySem.W.nsIn K mainGlobals "min" = some none)
    (z_enumerate : PySem.W.nsIn K mainGlobals "enumerate" = some none)
    (z_sum : PySem.W.nsIn K mainGlobals "sum" = some none)
    {t_MAX_BEATS : Tok} (g_MAX_BEATS : PySem.W.nsIn K mainGlobals "MAX_BEATS" = some (some (.int 40 t_MAX_BEATS)))
    {t_MAX_KEPT : Tok} (g_MAX_KEPT : PySem.W.nsIn K mainGlobals "MAX_KEPT" = some (some (.int 8 t_MAX_KEPT))) :
    ∃ fd : FuncData, (∀ (s : Shared) (v : Value), BindsTo s fd ⟨[v], []⟩ [("script", v)]) ∧ ∀ base : Heap, K.In base → base.Ns mainGlobals mg → FnOk l.prog w K mg base CX0 12 fa fd ["script"] (spLaw K) := by
  have e := hfa.symm.trans (PySem.W.mg_of X G a19)
  cases e
  have F1 := fun_mk (st := sIsi) l1 c1 k1
  have b1 := F1.binds (ps := ["value"]) fun _ _ _ _ _ _ us hl => match us, hl with | [_], _ => rfl
  have m1 := PySem.W.mg_of X G a1
  have F2 := fun_mk (st := sBtw) l2 c2 k2
  have b2 := F2.binds (ps := ["value", "least", "most"]) fun _ _ _ _ _ _ us hl => match us, hl with | [_, _, _], _ => rfl
  have m2 := PySem.W.mg_of X G a2
  have F3 := fun_mk (st := sCkb) l3 c3 k3
  have b3 := F3.binds (ps := ["beats"]) fun _ _ _ _ _ _ us hl => match us, hl with | [_], _ => rfl
  have m3 := PySem.W.mg_of X G a3
  have F4 := fun_mk (st := sJudge) l4 c4 k4
  have b4 := F4.binds (ps := ["schedule", "beats", "slots"]) fun _ _ _ _ _ _ us hl => match us, hl with | [_, _, _], _ => rfl
  have m4 := PySem.W.mg_of X G a4
  have F5 := fun_mk (st := sLst) l5 c5 k5
  have b5 := F5.binds (ps := ["beats", "slots"]) fun _ _ _ _ _ _ us hl => match us, hl with | [_, _], _ => rfl
  have m5 := PySem.W.mg_of X G a5
  have F6 := fun_mk (st := sPlan) l6 c6 k6
  have b6 := F6.binds (ps := ["beats", "slots"]) fun _ _ _ _ _ _ us hl => match us, hl with | [_, _], _ => rfl
  have m6 := PySem.W.mg_of X G a6
  have F7 := fun_mk (st := sCkn) l7 c7 k7
  have b7 := F7.binds (ps := ["beats", "slots"]) fun _ _ _ _ _ _ us hl => match us, hl with | [_, _], _ => rfl
  have m7 := PySem.W.mg_of X G a7
  have F8 := fun_mk (st := sAct) l8 c8 k8
  have b8 := F8.binds (ps := ["value"]) fun _ _ _ _ _ _ us hl => match us, hl with | [_], _ => rfl
  have m8 := PySem.W.mg_of X G a8
  have F9 := fun_mk (st := sPa) l9 c9 k9
  have b9 := F9.binds (ps := ["rows", "beats", "empty", "slots"]) fun _ _ _ _ _ _ us hl => match us, hl with | [_, _, _, _], _ => rfl
  have m9 := PySem.W.mg_of X G a9
  have F10 := fun_mk (st := sTr) l10 c10 k10
  have b10 := F10.binds (ps := ["beats", "slots"]) fun _ _ _ _ _ _ us hl => match us, hl with | [_, _], _ => rfl
  have m10 := PySem.W.mg_of X G a10
  have F11 := fun_mk (st := sRe) l11 c11 k11
  have b11 := F11.binds (ps := ["rows", "beats", "empty"]) fun _ _ _ _ _ _ us hl => match us, hl with | [_, _, _], _ => rfl
  have m11 := PySem.W.mg_of X G a11
  have F12 := fun_mk (st := sDraws) l12 c12 k12
  have b12 := F12.binds (ps := ["script"]) fun _ _ _ _ _ _ us hl => match us, hl with | [_], _ => rfl
  have m12 := PySem.W.mg_of X G a12
  have F13 := fun_mk (st := sTake) l13 c13 k13
  have b13 := F13.binds (ps := ["draws", "at", "many"]) fun _ _ _ _ _ _ us hl => match us, hl with | [_, _, _], _ => rfl
  have m13 := PySem.W.mg_of X G a13
  have F14 := fun_mk (st := sWays) l14 c14 k14
  have b14 := F14.binds (ps := ["a", "b"]) fun _ _ _ _ _ _ us hl => match us, hl with | [_, _], _ => rfl
  have m14 := PySem.W.mg_of X G a14
  have F15 := fun_mk (st := sClosed) l15 c15 k15
  have b15 := F15.binds (ps := ["beats", "slots"]) fun _ _ _ _ _ _ us hl => match us, hl with | [_, _], _ => rfl
  have m15 := PySem.W.mg_of X G a15
  have F16 := fun_mk (st := sBest) l16 c16 k16
  have b16 := F16.binds (ps := ["held", "front"]) fun _ _ _ _ _ _ us hl => match us, hl with | [_, _], _ => rfl
  have m16 := PySem.W.mg_of X G a16
  have F17 := fun_mk (st := sSch) l17 c17 k17
  have b17 := F17.binds (ps := ["beats", "slots", "draws", "at"]) fun _ _ _ _ _ _ us hl => match us, hl with | [_, _, _, _], _ => rfl
  have m17 := PySem.W.mg_of X G a17
  have F18 := fun_mk (st := sCost) l18 c18 k18
  have b18 := F18.binds (ps := ["schedule"]) fun _ _ _ _ _ _ us hl => match us, hl with | [_], _ => rfl
  have m18 := PySem.W.mg_of X G a18
  have F19 := fun_mk (st := sLaw) l19 c19 k19
  refine ⟨PySem.W.fnOf "law" "law" (defArgs sLaw) (defBody sLaw) (defScope sLaw) .none kV19 dc19 pm19 an19 cd19 ct19, fun s v => .of_eq rfl, fun base _ _ => ?_⟩
  have SuA : Su.Sup l.prog K A ccA cdA := ⟨⟨⟨_, _, _, _, _, _, _, _, _, _, _, _, _, _, _, xA, rfl⟩, saA, bA, tA, kA⟩, uA, yA, vA, ⟨_, _, _, oA⟩, mA, pA, ⟨_, _, _, _, _, _, dA, eA, wA⟩, gA⟩
  have SuS : Su.Sup l.prog K S ccS cdS := ⟨⟨⟨_, _, _, _, _, _, _, _, _, _, _, _, _, _, _, xS, rfl⟩, saS, bS, tS, kS⟩, uS, yS, vS, ⟨_, _, _, oS⟩, mS, pS, ⟨_, _, _, _, _, _, dS, eS, wS⟩, gS⟩
  have FJ0 := fun_mk (st := sJin) lJ0 cJ0 kJ0
  have bJ0 := FJ0.binds (ps := ["self", "beats", "slots"]) fun _ _ _ _ _ _ us hl => match us, hl with | [_, _, _], _ => rfl
  have FJ1 := fun_mk (st := sFind) lJ1 cJ1 kJ1
  have bJ1 := FJ1.binds (ps := ["self", "action"]) fun _ _ _ _ _ _ us hl => match us, hl with | [_, _], _ => rfl
  have FJ2 := fun_mk (st := sFol) lJ2 cJ2 kJ2
  have bJ2 := FJ2.binds (ps := ["self", "action"]) fun _ _ _ _ _ _ us hl => match us, hl with | [_, _], _ => rfl
  have T : Bi mg := ⟨PySem.W.mg_none_of X G z_len, PySem.W.mg_none_of X G z_int, PySem.W.mg_none_of X G z_range, PySem.W.mg_none_of X G z_tuple, PySem.W.mg_none_of X G z_list, PySem.W.mg_none_of X G z_str, PySem.W.mg_none_of X G z_isinstance, PySem.W.mg_none_of X G z_bool, PySem.W.mg_none_of X G z_abs, PySem.W.mg_none_of X G z_max⟩
  have mkA : Mk l.prog w K mg base "ArgumentError" A ["self", "reason"] (Er.spAE K A) := ⟨fA, _, Er.ok_ae lA cA SuA nA_reason, .all (fun us hl => match us, hl with | [_, _], _ => rfl), SuA.ex, iA, jA, PySem.W.mg_of X G aA⟩
  have mkS : Mk l.prog w K mg base "ScheduleError" S ["self", "number", "reason"] (Er.spSE K S) := ⟨fS, _, Er.ok_se lS cS SuS nS_number nS_reason, .all (fun us hl => match us, hl with | [_, _, _], _ => rfl), SuS.ex, iS, jS, PySem.W.mg_of X G aS⟩
  have cIsi : Cal l.prog w K mg base CX0 1 "is_integer" ["value"] (spP K 1 dIsi) := ⟨f1, _, ok_isi F1 T, b1, k1, m1⟩
  have cBtw : Cal l.prog w K mg base CX0 2 "is_between" ["value", "least", "most"] (spP K 3 dBtw) := ⟨f2, _, ok_btw F2 cIsi, b2, k2, m2⟩
  have cCkb : Cal l.prog w K mg base (L2.CX l.prog w) 3 "check_beats" ["beats"] (spCkb K A) := ⟨f3, _, ok_ckb F3 (PySem.W.mg_of X G g_MAX_BEATS) cBtw mkA, b3, k3, m3⟩
  have cCkn : Cal l.prog w K mg base (L2.CX l.prog w) 4 "check_numbers" ["beats", "slots"] (spCkn K A) := ⟨f7, _, ok_ckn F7 (PySem.W.mg_of X G g_MAX_KEPT) cBtw cCkb mkA, b7, k7, m7⟩
  have cRe : Cal l.prog w K mg base CX0 1 "right_entries" ["rows", "beats", "empty"] (spRe K) := ⟨f11, _, ok_re F11 T (PySem.W.mg_none_of X G z_min), b11, k11, m11⟩
  have cTr : Cal l.prog w K mg base CX0 2 "table_rows" ["beats", "slots"] (spTr K) := ⟨f10, _, ok_tr F10 T cRe, b10, k10, m10⟩
  have cLst : Cal l.prog w K mg base (L2.CX l.prog w) 5 "least" ["beats", "slots"] (spLst K) := ⟨f5, _, ok_lst F5 cCkn cTr, b5, k5, m5⟩
  have cAct : Cal l.prog w K mg base CX0 2 "is_action" ["value"] (spP K 1 dAct) := ⟨f8, _, ok_act F8 T cIsi, b8, k8, m8⟩
  have JT : JTxt K J := ⟨⟨pgJ, hdJ, poJ, saJ⟩, nJ_front, nJ_slots, nJ_position, nJ_kept, nJ_cost⟩
  have cJ : Mkr l.prog w K mg base "Judge" J 1 ["self", "beats", "slots"] (spJin J) := ⟨fJ0, _, ok_jin FJ0 JT, bJ0, ⟨mkJ, aJ0, iJ0, kcJ⟩, PySem.W.mg_of X G aJ⟩
  have cFr : Mth l.prog w K mg base J 3 "find_reason" ["self", "action"] (spFind K J) := ⟨fJ1, _, ok_find FJ1 JT cAct, bJ1, ⟨pgJ, hdJ, poJ, saJ⟩, ⟨aJ1, iJ1, kJ1⟩⟩
  have cFo : Mth l.prog w K mg base J 1 "follow" ["self", "action"] (spFol K J) := ⟨fJ2, _, ok_fol FJ2 JT, bJ2, ⟨pgJ, hdJ, poJ, saJ⟩, ⟨aJ2, iJ2, kJ2⟩⟩
  have cJudge : Cal l.prog w K mg base (L2.CX l.prog w) 5 "judge" ["schedule", "beats", "slots"] (spJudge K S A) := ⟨f4, _, ok_judge F4 T JT (PySem.W.mg_none_of X G z_enumerate) cCkn cJ cFr cFo mkS, b4, k4, m4⟩
  have cPa : Cal l.prog w K mg base CX0 10 "plan_actions" ["rows", "beats", "empty", "slots"] (spPa K 9) := ⟨f9, _, ok_pa F9 b9 m9 9, b9, k9, m9⟩
  have cPlan : Cal l.prog w K mg base (L2.CX l.prog w) 11 "plan" ["beats", "slots"] (spPlan K S) := ⟨f6, _, ok_plan F6 T cCkn cTr cPa mkS, b6, k6, m6⟩
  have cDraws : Cal l.prog w K mg base CX0 1 "_law_draws" ["script"] (spDraws K) := ⟨f12, _, ok_draws F12 T, b12, k12, m12⟩
  have cTake : Cal l.prog w K mg base CX0 1 "_law_take" ["draws", "at", "many"] (spTake K) := ⟨f13, _, ok_take F13 T, b13, k13, m13⟩
  have cWays : Cal l.prog w K mg base CX0 1 "_law_choose" ["a", "b"] spWays := ⟨f14, _, ok_ways F14 T, b14, k14, m14⟩
  have cClosed : Cal l.prog w K mg base CX0 2 "_law_least" ["beats", "slots"] spClosed := ⟨f15, _, ok_closed F15 T cWays, b15, k15, m15⟩
  have cBest : Cal l.prog w K mg base CX0 1 "_law_best" ["held", "front"] (spBest K) := ⟨f16, _, ok_best F16 T, b16, k16, m16⟩
  have cSch : Cal l.prog w K mg base CX0 2 "_law_schedule" ["beats", "slots", "draws", "at"] (spSch K) := ⟨f17, _, ok_sch F17 T cTake cBest, b17, k17, m17⟩
  have cCost : Cal l.prog w K mg base CX0 1 "_law_cost" ["schedule"] (spCost K) := ⟨f18, _, ok_cost F18 T (PySem.W.mg_none_of X G z_sum), b18, k18, m18⟩
  exact ok_law F19 T cDraws cTake cSch cClosed cCost cLst cPlan cJudge
end
theorem walk {l : PySem.W.OpenLaw} {q : Program} {loose : List Str} {XP : (Str → Option Value) → Heap → Prop} {YP : World → Heap → Prop} {d : DefRec} {K : Params → PySem.W.Frag} (hn : l.most = some 63) (hdf : d.params.defaults = [])
    (hY : ∀ (w : World) (h : Heap), YP w h → (K w.params).In h)
    (F : ∀ (w : World) (mg : Str → Option Value) (fa : Addr) (h : Heap), (K w.params).In h → h.Ns mainGlobals mg → mg d.name = some (.ref fa) →
      ∃ fd : FuncData, (∀ (s : Shared) (u : Value), BindsTo s fd ⟨[u], []⟩ [("script", u)]) ∧ ∀ base : Heap, (K w.params).In base → base.Ns mainGlobals mg → FnOk l.prog w (K w.params) mg base CX0 12 fa fd ["script"] (spLaw (K w.params))) :
    PySem.W.WalkO q loose XP YP l.row.toRowW d [] (fun f vs => PySem.call f vs) :=
  L2.walk_of (n := 63) (k := 12) (x := "script") (CX := fun _ => CX0) (sp := fun w => spLaw (K w.params)) hn (by decide) hdf ⟨rfl, by decide, by decide⟩ hY F (fun _ _ a ns hl _ hS => ⟨a, ns, rfl, hS, hl, fun _ => rfl⟩) fun _ _ _ _ _ z => z
end Sd
open PySem PySem.W PyProof.Rows
set_option maxRecDepth 100000 in
set_option maxHeartbeats 0 in
theorem PySem.Challenge.cw_countermarch_k60_whole_no_schedule_is_ch_holds : PySem.Challenge.rw_countermarch_k60_whole_no_schedule_is_ch.Holds := by
  w_on; o_law; k_head; (case hw => w_witness2)
  k_fill
  refine Sd.walk (l := PySem.Challenge.rw_countermarch_k60_whole_no_schedule_is_ch) rfl rfl (fun w h Y => PySem.W.kIn_of Y) ?F
  case F =>
    intro w mg fa h KX G hmg
    refine' Sd.all_mk KX G hmg ?a1 ?l1 ?c1 ?k1 ?a2 ?l2 ?c2 ?k2 ?a3 ?l3 ?c3 ?k3 ?a4 ?l4 ?c4 ?k4 ?a5 ?l5 ?c5 ?k5 ?a6 ?l6 ?c6 ?k6 ?a7 ?l7 ?c7 ?k7 ?a8 ?l8 ?c8 ?k8 ?a9 ?l9 ?c9 ?k9 ?a10 ?l10 ?c10 ?k10 ?a11 ?l11 ?c11 ?k11 ?a12 ?l12 ?c12 ?k12 ?a13 ?l13 ?c13 ?k13 ?a14 ?l14 ?c14 ?k14 ?a15 ?l15 ?c15 ?k15 ?a16 ?l16 ?c16 ?k16 ?a17 ?l17 ?c17 ?k17 ?a18 ?l18 ?c18 ?k18 ?a19 ?l19 ?c19 ?k19 ?aB0 ?aA ?xA ?saA ?bA ?tA ?kA ?iA ?jA ?lA ?cA ?uA ?yA ?vA ?oA ?mA ?pA ?dA ?eA ?wA ?gA ?nA_reason ?aS ?xS ?saS ?bS ?tS ?kS ?iS ?jS ?lS ?cS ?uS ?yS ?vS ?oS ?mS ?pS ?dS ?eS ?wS ?gS ?nS_number ?nS_reason ?aJ ?aJ0 ?iJ0 ?lJ0 ?cJ0 ?kJ0 ?aJ1 ?iJ1 ?lJ1 ?cJ1 ?kJ1 ?aJ2 ?iJ2 ?lJ2 ?cJ2 ?kJ2 ?pgJ ?hdJ ?poJ ?saJ ?mkJ ?kcJ ?nJ_front ?nJ_slots ?nJ_position ?nJ_kept ?nJ_cost ?z_len ?z_int ?z_range ?z_tuple ?z_list ?z_str ?z_isinstance ?z_bool ?z_abs ?z_max ?z_min ?z_enumerate ?z_sum ?g_MAX_BEATS ?g_MAX_KEPT
    (case a1 => k_is)
    (case l1 => k_is)
    (case c1 => k_is)
    (case k1 => k_is)
    (case a2 => k_is)
    (case l2 => k_is)
    (case c2 => k_is)
    (case k2 => k_is)
    (case a3 => k_is)
    (case l3 => k_is)
    (case c3 => k_is)
    (case k3 => k_is)
    (case a4 => k_is)
    (case l4 => k_is)
    (case c4 => k_is)
    (case k4 => k_is)
    (case a5 => k_is)
    (case l5 => k_is)
    (case c5 => k_is)
    (case k5 => k_is)
    (case a6 => k_is)
    (case l6 => k_is)
    (case c6 => k_is)
    (case k6 => k_is)
    (case a7 => k_is)
    (case l7 => k_is)
    (case c7 => k_is)
    (case k7 => k_is)
    (case a8 => k_is)
    (case l8 => k_is)
    (case c8 => k_is)
    (case k8 => k_is)
    (case a9 => k_is)
    (case l9 => k_is)
    (case c9 => k_is)
    (case k9 => k_is)
    (case a10 => k_is)
    (case l10 => k_is)
    (case c10 => k_is)
    (case k10 => k_is)
    (case a11 => k_is)
    (case l11 => k_is)
    (case c11 => k_is)
    (case k11 => k_is)
    (case a12 => k_is)
    (case l12 => k_is)
    (case c12 => k_is)
    (case k12 => k_is)
    (case a13 => k_is)
    (case l13 => k_is)
    (case c13 => k_is)
    (case k13 => k_is)
    (case a14 => k_is)
    (case l14 => k_is)
    (case c14 => k_is)
    (case k14 => k_is)
    (case a15 => k_is)
    (case l15 => k_is)
    (case c15 => k_is)
    (case k15 => k_is)
    (case a16 => k_is)
    (case l16 => k_is)
    (case c16 => k_is)
    (case k16 => k_is)
    (case a17 => k_is)
    (case l17 => k_is)
    (case c17 => k_is)
    (case k17 => k_is)
    (case a18 => k_is)
    (case l18 => k_is)
    (case c18 => k_is)
    (case k18 => k_is)
    (case a19 => k_is)
    (case l19 => k_is)
    (case c19 => k_is)
    (case k19 => k_is)
    (case aB0 => k_is)
    (case aA => k_is)
    (case xA => k_is)
    (case saA => k_is)
    (case bA => k_is)
    (case tA => k_is)
    (case kA => k_is)
    (case iA => k_is)
    (case jA => k_is)
    (case lA => k_is)
    (case cA => k_is)
    (case uA => first | ks_is | k_is)
    (case yA => k_is)
    (case vA => k_is)
    (case oA => k_is)
    (case mA => k_is)
    (case pA => k_is)
    (case dA => k_is)
    (case eA => rfl)
    (case wA => first | rfl | decide +kernel)
    (case gA => first | rfl | decide +kernel)
    (case nA_reason => k_is)
    (case aS => k_is)
    (case xS => k_is)
    (case saS => k_is)
    (case bS => k_is)
    (case tS => k_is)
    (case kS => k_is)
    (case iS => k_is)
    (case jS => k_is)
    (case lS => k_is)
    (case cS => k_is)
    (case uS => first | ks_is | k_is)
    (case yS => k_is)
    (case vS => k_is)
    (case oS => k_is)
    (case mS => k_is)
    (case pS => k_is)
    (case dS => k_is)
    (case eS => rfl)
    (case wS => first | rfl | decide +kernel)
    (case gS => first | rfl | decide +kernel)
    (case nS_number => k_is)
    (case nS_reason => k_is)
    (case aJ => k_is)
    (case aJ0 => k_is)
    (case iJ0 => k_is)
    (case lJ0 => k_is)
    (case cJ0 => k_is)
    (case kJ0 => k_is)
    (case aJ1 => k_is)
    (case iJ1 => k_is)
    (case lJ1 => k_is)
    (case cJ1 => k_is)
    (case kJ1 => k_is)
    (case aJ2 => k_is)
    (case iJ2 => k_is)
    (case lJ2 => k_is)
    (case cJ2 => k_is)
    (case kJ2 => k_is)
    (case pgJ => k_is)
    (case hdJ => k_is)
    (case poJ => k_is)
    (case saJ => k_is)
    (case mkJ => k_is)
    (case kcJ => k_is)
    (case nJ_front => k_is)
    (case nJ_slots => k_is)
    (case nJ_position => k_is)
    (case nJ_kept => k_is)
    (case nJ_cost => k_is)
    (case z_len => k_is)
    (case z_int => k_is)
    (case z_range => k_is)
    (case z_tuple => k_is)
    (case z_list => k_is)
    (case z_str => k_is)
    (case z_isinstance => k_is)
    (case z_bool => k_is)
    (case z_abs => k_is)
    (case z_max => k_is)
    (case z_min => k_is)
    (case z_enumerate => k_is)
    (case z_sum => k_is)
    (case g_MAX_BEATS => k_is)
    (case g_MAX_KEPT => k_is)
#print axioms PySem.Challenge.cw_countermarch_k60_whole_no_schedule_is_ch_holds

