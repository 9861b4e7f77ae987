import PyProof.Rows.All
import Wide.All
import OpenK.AllK
import Wide.FinOn
import HandS.Base
import HandS.Call
import HandS.List
import HandS.Comp
import HandS.Ends
import HandS.Exc
import HandS.TryOnly
import HandS.ExcOwn
import HandS.Words
import HandS.WordsList
import HandS.WordsExc
import HandS.Flow
import HandS.Wide
import HandS.Style
import HandS.IsInst
import HandS.ExcIs
import KE.RegKIsAll
import HandS.Walk
import HandS.ExcInit
import HandS.ExcField
import HandS.FStr
import HandS.FStrTup
import KE.KExcSuper
import KE.KExcIs
import HandS.Text
import HandS.TupAny
import HandS.Evl
import HandS.Dict
import HandS.DictSub
import HandS.WordsDict
import KE.DatumOrd
import KE.GoesEnum
import HandS.Zip0
import HandS.Zip
import HandS.Conv
import HandS.Deep
import PySem.Challenge.RW_countermarch_k53_whole_any_table_is_judg
set_option Elab.async false
set_option linter.all false
set_option maxRecDepth 100000
set_option maxHeartbeats 4000000
/-! ## The drawn trees: data, what carries it, the draws -/
namespace Tr
open PySem L2
def top (i : Nat) : Stmt := PySem.Challenge.pw_countermarch_k53_whole_any_table_is_judg.main.body.getD i (.Pass ⟨0, 0, 0, 0⟩)
/-! ### tuples of tuples, None, truth values, whole numbers and texts, at any depth -/
mutual
def Tv (K : PySem.W.Frag) (H : Hp) : PyData → V → Prop
  | .none, v => v = .non
  | .bool b, v => v = .bl b
  | .int i, v => v = .int i
  | .str s, v => v = .str s
  | .tuple ds, v => ∃ a xs, v = .ref a ∧ SqT K H a xs ∧ TvL K H ds xs
  | .list _, _ => False
  | .dict _, v => ∃ p ys, v = .ref p ∧ H p = some (.lst ys)
def TvL (K : PySem.W.Frag) (H : Hp) : List PyData → List V → Prop
  | [], vs => vs = []
  | d :: ds, vs => ∃ x xs, vs = x :: xs ∧ Tv K H d x ∧ TvL K H ds xs
end
/-- no tuple is lost -/
structure Carry (K : PySem.W.Frag) (H H' : Hp) : Prop where
  t : ∀ a xs, SqT K H a xs → SqT K H' a xs
  l : ∀ a ys, H a = some (.lst ys) → ∃ zs, H' a = some (.lst zs)
instance {K : PySem.W.Frag} {H H' : Hp} : CoeFun (Carry K H H') (fun _ => ∀ a xs, SqT K H a xs → SqT K H' a xs) := ⟨fun c => c.t⟩
section
variable {K : PySem.W.Frag} {H H' H2 : Hp}
theorem Carry.trans (c : Carry K H H') (e : Carry K H' H2) : Carry K H H2 := ⟨fun a xs h => e.t a xs (c.t a xs h), fun a ys h => by obtain ⟨zs, hz⟩ := c.l a ys h; exact e.l a zs hz⟩
mutual
theorem Tv.carry (c : Carry K H H') : ∀ (d : PyData) (v : V), Tv K H d v → Tv K H' d v
  | .none, _, h => h
  | .bool _, _, h => h
  | .int _, _, h => h
  | .str _, _, h => h
  | .tuple ds, _, h => by
    obtain ⟨a, xs, e, s, l⟩ := h
    exact ⟨a, xs, e, c.t a xs s, TvL.carry c ds xs l⟩
  | .list _, _, h => False.elim h
  | .dict _, _, h => by
    obtain ⟨p, ys, e, hl⟩ := h
    obtain ⟨zs, hz⟩ := c.l p ys hl
    exact ⟨p, zs, e, hz⟩
theorem TvL.carry (c : Carry K H H') : ∀ (ds : List PyData) (vs : List V), TvL K H ds vs → TvL K H' ds vs
  | [], _, h => h
  | d :: ds, _, h => by
    obtain ⟨x, xs, e, t, l⟩ := h
    exact ⟨x, xs, e, Tv.carry c d x t, TvL.carry c ds xs l⟩
end
/-- all but the object at p stands as it stood -/
def Stays (p : Addr) (H H' : Hp) : Prop := ∀ b o, b ≠ p → H b = some o → H' b = some o
theorem Stays.refl (p : Addr) (H : Hp) : Stays p H H := fun _ _ _ h => h
theorem Stays.trans {p : Addr} (s : Stays p H H') (t : Stays p H' H2) : Stays p H H2 := fun b o n h => t b o n (s b o n h)
theorem same_stays {p : Addr} (s : Same H H') : Stays p H H' := fun b o _ h => s b o h
theorem stays_upd {p : Addr} {o : HO} : Stays p H (upd H p o) := fun b u n h => by rw [upd_ne n]; exact h
theorem stays_new {p q : Addr} {o : HO} (h : H q = none) : Stays p H (upd H q o) := fun b u _ e => by rw [upd_ne (ne_of_none e h)]; exact e
/-- the counter of the draws -/
def AtL (H : Hp) (p : Addr) : Prop := ∃ j : Int, 0 ≤ j ∧ H p = some (.lst [.int j])
theorem AtL.new {p q : Addr} {o : HO} (h : AtL H p) (n : H q = none) : AtL (upd H q o) p := by
  obtain ⟨j, h0, e⟩ := h
  exact ⟨j, h0, by rw [upd_ne (ne_of_none e n)]; exact e⟩
theorem Stays.carryL {p : Addr} {xs zs : List V} (s : Stays p H H') (e : H p = some (.lst xs)) (e2 : H' p = some (.lst zs)) : Carry K H H' := by
  refine ⟨fun a xs q => ?_, fun a ys h => ?_⟩
  · rcases q with (q | ⟨o, q⟩) | q
    · exact .inl (.inl (s a _ (fun z => by rw [z, e] at q; cases q) q))
    · exact .inl (.inr ⟨o, s a _ (fun z => by rw [z, e] at q; cases q) q⟩)
    · exact .inr q
  · by_cases c : a = p
    · subst c; exact ⟨_, e2⟩
    · exact ⟨ys, s a _ c h⟩
theorem Stays.list {p a : Addr} {xs : List V} (s : Stays p H H') (n : a ≠ p) (h : SqL K H a xs) : SqL K H' a xs := by
  rcases h with (q | ⟨o, q⟩) | q
  · exact .inl (.inl (s a _ n q))
  · exact .inl (.inr ⟨o, s a _ n q⟩)
  · exact .inr q
theorem same_carry (s : Same H H') : Carry K H H' := by
  refine ⟨fun a xs q => ?_, fun a ys h => ⟨ys, s _ _ h⟩⟩
  rcases q with (q | ⟨o, q⟩) | q
  · exact .inl (.inl (s a _ q))
  · exact .inl (.inr ⟨o, s a _ q⟩)
  · exact .inr q
theorem carry_new {q : Addr} {o : HO} (h : H q = none) : Carry K H (upd H q o) := same_carry fun b u e => by rw [upd_ne (ne_of_none e h)]; exact e
theorem carry_lst {E : Addr} {ys zs : List V} (h : H E = some (.lst ys)) : Carry K H (upd H E (.lst zs)) := Stays.carryL (p := E) stays_upd h upd_same
end
theorem iteT' {c : Bool} {A B : Prop} (h : c = true) (a : A) : if c = true then A else B := by
  rw [if_pos h]
  exact a
theorem iteF' {c : Bool} {A B : Prop} (h : c = false) (b : B) : if c = true then A else B := by
  rw [h, if_neg Bool.false_ne_true]
  exact b
/-- the built-in names that no text of the program's stands before -/
structure Bi (mg : Str → Option Value) : Prop where
  len : mg "len" = none
  int : mg "int" = none
  range : mg "range" = none
  tuple : mg "tuple" = none
  list : mg "list" = none
  str : mg "str" = none
  isinstance : mg "isinstance" = none
  bool : mg "bool" = none
  abs : mg "abs" = none
  max : mg "max" = none
/-- a def of the text as its callers want it -/
structure Cal (P : Program) (w : World) (K : PySem.W.Frag) (mg : Str → Option Value) (base : Heap) (CX : CXT) (k : Nat) (x : Str) (ps : List Str) (sp : Sp) where
  f : Addr
  fd : FuncData
  ok : FnOk P w K mg base CX k f fd ps sp
  b : Binds K fd ps []
  kp : PySem.W.keepIn K (.ref f) = true
  m : mg x = some (.ref f)

end Tr

namespace Tr
open PySem L2
theorem ixT {X : Cx} {K' : PySem.W.Frag} (h : X.K = K') : IxR X (rIxT K') := by
  subst h
  exact ix_tup
theorem notInK {X : Cx} {K' : PySem.W.Frag} (h : X.K = K') : OpR X (compareOp .NotIn) (rIn K' true) := by
  subst h
  exact op_notIn_seq
theorem inK {X : Cx} {K' : PySem.W.Frag} (h : X.K = K') : OpR X (compareOp .In) (rIn K' false) := by
  subst h
  exact op_in_seq
theorem ixL {X : Cx} {K' : PySem.W.Frag} (h : X.K = K') : IxR X (rIxL K') := by
  subst h
  exact ix_list
end Tr

/-! ## Pure code over nested tuples: what an expression, a statement is worth, whatever the heap -/
namespace Pu
open PySem L2 Tr PyProof.Rows
theorem same_refl (H : Hp) : Same H H := fun _ _ h => h
/-- the slots hold these data -/
abbrev Rho := List (Option PyData)
def En (K : PySem.W.Frag) (H : Hp) (σ : L2.St) (ρ : List (Option PyData)) : Prop := σ.length = ρ.length ∧ ∀ (i : Nat) (d : PyData), ρ[i]? = some (some d) → ∃ v, σ[i]? = some (some v) ∧ Tv K H d v

def DE (K : PySem.W.Frag) (te : TE) (ρ : Rho) (d : PyData) : Prop := ∀ σ H (Q : VK), En K H σ ρ → (∀ v H2, Same H H2 → Tv K H2 d v → Q v H2) → te σ H Q
def DA (K : PySem.W.Frag) (ta : TA) (ρ : Rho) (ds : List PyData) : Prop := ∀ σ H (Q : List V → Hp → Prop), En K H σ ρ → (∀ vs H2, Same H H2 → TvL K H2 ds vs → Q vs H2) → ta σ H Q
def DT (K : PySem.W.Frag) (tt : TT) (ρ : Rho) (b : Bool) : Prop := ∀ σ H (Q : Bool → Hp → Prop), En K H σ ρ → (∀ H2, Same H H2 → Q b H2) → tt σ H Q
def DO (K : PySem.W.Frag) (to : TO) (ρ : Rho) (o : Option Int) : Prop := ∀ σ H (Q : Option Int → Hp → Prop), En K H σ ρ → (∀ H2, Same H H2 → Q o H2) → to σ H Q
/-- a block that returns; one that goes on -/
def DR (K : PySem.W.Frag) (ts : TS) (ρ : Rho) (d : PyData) : Prop := ∀ (D : Ends) σ H, En K H σ ρ → (∀ v H2, Same H H2 → Tv K H2 d v → D.rt v H2) → ts D σ H
def DN (K : PySem.W.Frag) (ts : TS) (ρ ρ' : Rho) : Prop := ∀ (D : Ends) σ H, En K H σ ρ → (∀ σ' H2, Same H H2 → En K H2 σ' ρ' → D.nx σ' H2) → ts D σ H
/-- what a call of a def with this promise is worth -/
def PV (K : PySem.W.Frag) (sp : Sp) (ds : List PyData) (d : PyData) : Prop := ∀ vs H (Q : VK) (E : XK), TvL K H ds vs → (∀ v H2, Same H H2 → Tv K H2 d v → Q v H2) → sp vs H Q E
theorem le_ble {a b : Nat} (h : Nat.ble a b = true) : a ≤ b := Nat.le_of_ble_eq_true h
section
variable {K : PySem.W.Frag} {H H' : Hp} {σ : L2.St} {ρ ρ' ρ2 : Rho} {te ta tb : TE} {tl tr : TA} {t u : TT} {x y d e : PyData} {ds es : List PyData} {b c : Bool} {ts tu tz : TS}
theorem En.next (h : En K H σ ρ) (s : Same H H') : En K H' σ ρ := ⟨h.1, fun i d q => by
  obtain ⟨v, h1, h2⟩ := h.2 i d q
  exact ⟨v, h1, h2.carry (same_carry s)⟩⟩
theorem En.put {i : Nat} {v : V} (h : En K H σ ρ) (hv : Tv K H d v) : En K H (σ.set i (some v)) (ρ.set i (some d)) := ⟨by rw [List.length_set, List.length_set]; exact h.1, fun j e q => by
  rw [List.getElem?_set] at q
  rw [List.getElem?_set]
  by_cases c : i = j
  · rw [if_pos c] at q ⊢
    by_cases c2 : i < ρ.length
    · rw [if_pos c2] at q
      cases q
      rw [if_pos (by rw [h.1]; exact c2)]
      exact ⟨v, rfl, hv⟩
    · rw [if_neg c2] at q
      cases q
  · rw [if_neg c] at q ⊢
    exact h.2 j e q⟩
theorem same_put {p : Addr} {o : HO} (h : H p = none) : Same H (upd H p o) := fun b u e => by rw [upd_ne (ne_of_none e h)]; exact e
theorem tvl_len : ∀ {ds : List PyData} {xs : List V}, TvL K H ds xs → xs.length = ds.length
  | [], _, h => by subst h; rfl
  | d :: ds, _, h => by
    obtain ⟨x, xs, rfl, _, l⟩ := h
    rw [List.length_cons, List.length_cons, tvl_len l]
theorem tvl_get : ∀ {ds : List PyData} {xs : List V} {j : Nat} {d : PyData}, TvL K H ds xs → ds[j]? = some d → ∃ x, xs[j]? = some x ∧ Tv K H d x
  | [], _, _, _, _, e => by simp at e
  | d :: ds, _, 0, _, h, e => by
    obtain ⟨x, xs, rfl, t, l⟩ := h
    simp at e
    subst e
    exact ⟨x, rfl, t⟩
  | d :: ds, _, j + 1, e', h, e => by
    obtain ⟨x, xs, rfl, t, l⟩ := h
    obtain ⟨y, h1, h2⟩ := tvl_get (j := j) l (by simpa using e)
    exact ⟨y, by simpa using h1, h2⟩
theorem tvl_drop : ∀ {ds : List PyData} {xs : List V} (n : Nat), TvL K H ds xs → TvL K H (ds.drop n) (xs.drop n)
  | _, _, 0, h => h
  | [], _, n + 1, h => by subst h; rfl
  | d :: ds, _, n + 1, h => by
    obtain ⟨x, xs, rfl, _, l⟩ := h
    exact tvl_drop n l
theorem tvl_take : ∀ {ds : List PyData} {xs : List V} (n : Nat), TvL K H ds xs → TvL K H (ds.take n) (xs.take n)
  | _, _, 0, h => rfl
  | [], _, n + 1, h => by subst h; rfl
  | d :: ds, _, n + 1, h => by
    obtain ⟨x, xs, rfl, t, l⟩ := h
    exact ⟨x, _, rfl, t, tvl_take n l⟩
theorem tvl_app : ∀ {ds es : List PyData} {xs ys : List V}, TvL K H ds xs → TvL K H es ys → TvL K H (ds ++ es) (xs ++ ys)
  | [], _, _, _, h, g => by subst h; exact g
  | d :: ds, _, _, _, h, g => by
    obtain ⟨x, xs, rfl, t, l⟩ := h
    exact ⟨x, _, rfl, t, tvl_app l g⟩
theorem tvl_atI {xs : List V} {i : Int} (l : TvL K H ds xs) (h : atI ds i = some d) : ∃ x, atI xs i = some x ∧ Tv K H d x := by
  unfold atI at h ⊢
  rw [tvl_len l]
  cases e : ixN ds.length i with
  | none => rw [e] at h; cases h
  | some j => rw [e] at h; exact tvl_get l h
/-! ### expressions -/
theorem de_var {i : Nat} (h : ρ[i]? = some (some d)) : DE K (tVar i) ρ d := fun σ H Q en q => by
  obtain ⟨v, h1, h2⟩ := en.2 i d h
  exact ⟨v, h1, q v H (same_refl H) h2⟩
theorem de_int {i : Int} : DE K (tC (.int i)) ρ (.int i) := fun σ H Q en q => q _ H (same_refl H) rfl
theorem de_str {z : Str} : DE K (tC (.str z)) ρ (.str z) := fun σ H Q en q => q _ H (same_refl H) rfl
theorem de_bl : DE K (tC (.bl b)) ρ (.bool b) := fun σ H Q en q => q _ H (same_refl H) rfl
theorem de_non : DE K (tC .non) ρ .none := fun σ H Q en q => q _ H (same_refl H) rfl
theorem da_nil : DA K tNil ρ [] := fun σ H Q en q => q _ H (same_refl H) rfl
theorem da_cons (h : DE K ta ρ d) (hr : DA K tr ρ ds) : DA K (tCons ta tr) ρ (d :: ds) := fun σ H Q en q =>
  h σ H _ en fun v H1 s1 tv => hr σ H1 _ (en.next s1) fun vs H2 s2 tl => q _ H2 (s1.trans s2) ⟨v, vs, rfl, tv.carry (same_carry s2), tl⟩
theorem da_one (h : DE K ta ρ d) : DA K (tCons ta tNil) ρ [d] := da_cons h da_nil
theorem de_tup (h : DA K tl ρ ds) (hl : ds.length ≤ 1000 := by decide) : DE K (tTup tl) ρ (.tuple ds) := fun σ H Q en q =>
  h σ H _ en fun vs H1 s1 tv => ⟨by rw [tvl_len tv]; exact Nat.le_of_lt (small1000 hl), fun p hp => q _ _ (s1.trans (same_put hp)) ⟨p, vs, rfl, SqT.of upd_same, TvL.carry (carry_new hp) _ _ tv⟩⟩
theorem de_ix {i : Int} (ha : DE K ta ρ (.tuple ds)) (hb : DE K tb ρ (.int i)) (h : atI ds i = some d := by rfl) : DE K (tOp (rIxT K) ta tb) ρ d := fun σ H Q en q =>
  ha σ H _ en fun v H1 s1 tv => hb σ H1 _ (en.next s1) fun w H2 s2 tw => by
    obtain ⟨a, xs, rfl, sq, l⟩ := tv.carry (same_carry s2)
    obtain ⟨x, hx, tx⟩ := tvl_atI l h
    have e : w = .int i := tw
    subst e
    exact ⟨a, xs, i, x, rfl, rfl, sq, hx, q x H2 (s1.trans s2) tx⟩
theorem de_cat {fs : List PyData} (ha : DE K ta ρ (.tuple ds)) (hb : DE K tb ρ (.tuple es)) (he : ds ++ es = fs := by rfl) (hl : ds.length + es.length ≤ 1000 := by decide) : DE K (tOp (rCatA K) ta tb) ρ (.tuple fs) := by
  subst he
  exact fun σ H Q en q => ha σ H _ en fun v H1 s1 tv => hb σ H1 _ (en.next s1) fun w H2 s2 tw => by
    obtain ⟨a, xs, rfl, sq, l⟩ := tv.carry (same_carry s2)
    obtain ⟨a2, ys, rfl, sq2, l2⟩ := tw
    refine ⟨a, a2, xs, ys, rfl, rfl, sq, sq2, by rw [tvl_len l, tvl_len l2]; exact Nat.le_of_lt (small1000 hl), fun z => ?_, fun z1 z2 => ?_, fun z1 z2 p hp => ?_⟩
    · refine q _ H2 (s1.trans s2) ⟨a2, ys, rfl, sq2, ?_⟩
      subst z
      have e : ds = [] := by
        have := tvl_len l
        cases ds with
        | nil => rfl
        | cons d r => simp at this
      rw [e]
      exact l2
    · refine q _ H2 (s1.trans s2) ⟨a, xs, rfl, sq, ?_⟩
      subst z2
      have e : es = [] := by
        have := tvl_len l2
        cases es with
        | nil => rfl
        | cons d r => simp at this
      rw [e, List.append_nil]
      exact l
    · exact q _ _ ((s1.trans s2).trans (same_put hp)) ⟨p, _, rfl, SqT.of upd_same, TvL.carry (carry_new hp) _ _ (tvl_app l l2)⟩
theorem do_none : DO K tNoPart ρ none := fun σ H Q en q => q H (same_refl H)
theorem do_some {i : Int} (h : DE K te ρ (.int i)) : DO K (tPart te) ρ (some i) := fun σ H Q en q => h σ H _ en fun v H1 s1 tv => ⟨i, tv, q H1 s1⟩
/-- t[lo:hi] of data -/
def cutD (ds : List PyData) (lo hi : Option Int) : List PyData := (ds.drop (HT.sIx ds.length 0 lo)).take (HT.sIx ds.length ds.length hi - HT.sIx ds.length 0 lo)
theorem de_sl {t1 t2 : TO} {lo hi : Option Int} (h : DE K te ρ (.tuple ds)) (h1 : DO K t1 ρ lo) (h2 : DO K t2 ρ hi) (he : cutD ds lo hi = es := by rfl) : DE K (tSl (rSlA K) te t1 t2) ρ (.tuple es) := fun σ H Q en q =>
  h σ H _ en fun v H1 s1 tv => h1 σ H1 _ (en.next s1) fun H2 s2 => h2 σ H2 _ (en.next (s1.trans s2)) fun H3 s3 => by
    obtain ⟨a, xs, rfl, sq, l⟩ := tv.carry (same_carry (s2.trans s3))
    have e := tvl_len l
    refine ⟨a, xs, rfl, sq, fun z => ?_, fun z p hp => ?_⟩
    · refine q _ H3 ((s1.trans s2).trans s3) ⟨a, xs, rfl, sq, ?_⟩
      rw [← he]
      unfold cutD
      rw [← e, z.1, z.2, List.drop_zero, Nat.sub_zero, e, List.take_length]
      exact l
    · refine q _ _ (((s1.trans s2).trans s3).trans (same_put hp)) ⟨p, _, rfl, SqT.of upd_same, TvL.carry (carry_new hp) _ _ ?_⟩
      rw [← he]
      unfold cutD cutV
      rw [← e]
      exact tvl_take _ (tvl_drop _ l)
/-! ### equality of texts, whole numbers; is None; in a tuple of texts -/
theorem de_eqS {p q : Str} (ha : DE K ta ρ (.str p)) (hb : DE K tb ρ (.str q)) (h : decide (p = q) = b := by first | rfl | decide) : DE K (tOp rEq ta tb) ρ (.bool b) := fun σ H Q en k =>
  ha σ H _ en fun v H1 s1 tv => hb σ H1 _ (en.next s1) fun w H2 s2 tw => by
    have e1 : v = .str p := tv
    have e2 : w = .str q := tw
    subst e1 e2
    refine ⟨rfl, k _ H2 (s1.trans s2) ?_⟩
    show V.bl (decide (V.str p = V.str q)) = .bl b
    rw [← h]
    congr 1
    simp
theorem de_neS {p q : Str} (ha : DE K ta ρ (.str p)) (hb : DE K tb ρ (.str q)) (h : (!decide (p = q)) = b := by first | rfl | decide) : DE K (tOp rNe ta tb) ρ (.bool b) := fun σ H Q en k =>
  ha σ H _ en fun v H1 s1 tv => hb σ H1 _ (en.next s1) fun w H2 s2 tw => by
    have e1 : v = .str p := tv
    have e2 : w = .str q := tw
    subst e1 e2
    refine ⟨rfl, k _ H2 (s1.trans s2) ?_⟩
    show V.bl (!decide (V.str p = V.str q)) = .bl b
    rw [← h]
    congr 2
    simp
theorem dec_V {i j : Int} : decide (V.int i = V.int j) = decide (i = j) := by simp
theorem de_eqI {i j : Int} (ha : DE K ta ρ (.int i)) (hb : DE K tb ρ (.int j)) : DE K (tOp rEq ta tb) ρ (.bool (decide (i = j))) := fun σ H Q en k =>
  ha σ H _ en fun v H1 s1 tv => hb σ H1 _ (en.next s1) fun w H2 s2 tw => by
    have e1 : v = .int i := tv
    have e2 : w = .int j := tw
    subst e1 e2
    exact ⟨rfl, k _ H2 (s1.trans s2) (by rw [dec_V]; rfl)⟩
def isNo : PyData → Bool
  | .none => true
  | _ => false
theorem isNo_tv {v : V} (h : Tv K H d v) : decide (v = .non) = isNo d := by
  cases d with
  | none => cases h; rfl
  | bool b => cases h; rfl
  | int i => cases h; rfl
  | str s => cases h; rfl
  | tuple ds => obtain ⟨a, xs, rfl, _⟩ := h; rfl
  | list ds => exact False.elim h
  | dict ds => obtain ⟨p, ys, rfl, _⟩ := h; rfl
theorem de_isN {r : R2} (hr : ∀ x H Q, Q (V.bl (decide (x = .non))) H → r x .non H Q) (ha : DE K ta ρ d) (h : isNo d = b := by rfl) : DE K (tOp r ta (tC .non)) ρ (.bool b) := fun σ H Q en k =>
  ha σ H _ en fun v H1 s1 tv => hr _ _ _ (k _ H1 s1 (by rw [isNo_tv tv, h]; rfl))
theorem de_notN {r : R2} (hr : ∀ x H Q, Q (V.bl (!decide (x = .non))) H → r x .non H Q) (ha : DE K ta ρ d) (h : (!isNo d) = b := by rfl) : DE K (tOp r ta (tC .non)) ρ (.bool b) := fun σ H Q en k =>
  ha σ H _ en fun v H1 s1 tv => hr _ _ _ (k _ H1 s1 (by rw [isNo_tv tv, h]; rfl))
def strsOf : List PyData → Option (List Str)
  | [] => some []
  | .str z :: r => (strsOf r).map (z :: ·)
  | _ :: _ => none
theorem strs_tv : ∀ {ds : List PyData} {zs : List Str} {xs : List V}, strsOf ds = some zs → TvL K H ds xs → xs = zs.map V.str
  | [], zs, xs, h, l => by
    simp only [strsOf] at h
    cases h
    exact l
  | d :: r, zs, xs, h, l => by
    obtain ⟨x, ys, rfl, tx, l2⟩ := l
    cases d with
    | str z =>
      simp only [strsOf] at h
      cases e : strsOf r with
      | none => rw [e] at h; cases h
      | some ws =>
        rw [e] at h
        cases h
        rw [List.map_cons, ← strs_tv e l2]
        rw [show x = V.str z from tx]
    | none => simp [strsOf] at h
    | bool b => simp [strsOf] at h
    | int i => simp [strsOf] at h
    | tuple ds => simp [strsOf] at h
    | list ds => simp [strsOf] at h
    | dict ds => simp [strsOf] at h
theorem all_flat (zs : List Str) : (zs.map V.str).all flatV = true := by
  induction zs with
  | nil => rfl
  | cons z r ih => rw [List.map_cons, List.all_cons, ih]; rfl
theorem in_strs (z : Str) (zs : List Str) : inV (.str z) (zs.map V.str) = decide (z ∈ zs) := by
  unfold inV
  rw [List.any_map]
  induction zs with
  | nil => rfl
  | cons y r ih =>
    rw [List.any_cons, ih]
    show (eqV (V.str y) (V.str z) || decide (z ∈ r)) = decide (z ∈ y :: r)
    have e : eqV (V.str y) (V.str z) = decide (z = y) := by
      show decide (y = z) = decide (z = y)
      by_cases c : y = z
      · rw [decide_eq_true c, decide_eq_true c.symm]
      · rw [decide_eq_false c, decide_eq_false (fun q => c q.symm)]
    rw [e, ← Bool.decide_or]
    congr 1
    rw [List.mem_cons]
theorem de_in {z : Str} {zs : List Str} (ha : DE K ta ρ (.str z)) (hb : DE K tb ρ (.tuple ds)) (hs : strsOf ds = some zs := by rfl) (h : decide (z ∈ zs) = b := by first | rfl | decide) : DE K (tOp (rIn K false) ta tb) ρ (.bool b) := fun σ H Q en k =>
  ha σ H _ en fun v H1 s1 tv => hb σ H1 _ (en.next s1) fun w H2 s2 tw => by
    have e1 : v = .str z := tv
    subst e1
    obtain ⟨a, xs, rfl, sq, l⟩ := tw
    have e2 := strs_tv hs l
    subst e2
    refine ⟨a, _, rfl, .inr sq, rfl, all_flat zs, ?_⟩
    rw [in_strs, h]
    exact k _ H2 (s1.trans s2) rfl
/-! ### truth -/
theorem dt_test (h : DE K te ρ (.bool b)) : DT K (tTest te) ρ b := fun σ H Q en q => h σ H _ en fun v H1 s1 tv => ⟨b, tv, q H1 s1⟩
theorem dt_B (h : DE K te ρ (.bool b)) : DT K (tB te) ρ b := fun σ H Q en q => h σ H _ en fun v H1 s1 tv => ⟨b, tv, q H1 s1⟩
theorem dt_not (h : DT K t ρ b) : DT K (tNot t) ρ (!b) := fun σ H Q en q => h σ H _ en fun H1 s1 => q H1 s1
theorem dt_notT (h : DT K t ρ false) : DT K (tNot t) ρ true := dt_not h
theorem dt_notF (h : DT K t ρ true) : DT K (tNot t) ρ false := dt_not h
theorem dt_andT (h : DT K t ρ true) (g : DT K u ρ b) : DT K (tAnd t u) ρ b := fun σ H Q en q => h σ H _ en fun H1 s1 => by
  show u σ H1 Q
  exact g σ H1 _ (en.next s1) fun H2 s2 => q H2 (s1.trans s2)
theorem dt_andF (h : DT K t ρ false) : DT K (tAnd t u) ρ false := fun σ H Q en q => h σ H _ en fun H1 s1 => by
  show Q false H1
  exact q H1 s1
theorem dt_orT (h : DT K t ρ true) : DT K (tOr t u) ρ true := fun σ H Q en q => h σ H _ en fun H1 s1 => by
  show Q true H1
  exact q H1 s1
theorem dt_orF (h : DT K t ρ false) (g : DT K u ρ b) : DT K (tOr t u) ρ b := fun σ H Q en q => h σ H _ en fun H1 s1 => by
  show u σ H1 Q
  exact g σ H1 _ (en.next s1) fun H2 s2 => q H2 (s1.trans s2)
theorem de_not (h : DE K ta ρ (.bool b)) : DE K (tNotV ta) ρ (.bool (!b)) := fun σ H Q en q => h σ H _ en fun v H1 s1 tv => ⟨b, tv, q _ H1 s1 rfl⟩
theorem de_andT (h : DE K ta ρ (.bool true)) (g : DE K tb ρ d) : DE K (tAndV ta tb) ρ d := fun σ H Q en q => h σ H _ en fun v H1 s1 tv => ⟨true, tv, by
  show tb σ H1 Q
  exact g σ H1 _ (en.next s1) fun v2 H2 s2 t2 => q v2 H2 (s1.trans s2) t2⟩
theorem de_andF (h : DE K ta ρ (.bool false)) : DE K (tAndV ta tb) ρ (.bool false) := fun σ H Q en q => h σ H _ en fun v H1 s1 tv => ⟨false, tv, by
  show Q (.bl false) H1
  exact q _ H1 s1 rfl⟩
theorem de_orT (h : DE K ta ρ (.bool true)) : DE K (tOrV ta tb) ρ (.bool true) := fun σ H Q en q => h σ H _ en fun v H1 s1 tv => ⟨true, tv, by
  show Q (.bl true) H1
  exact q _ H1 s1 rfl⟩
theorem de_orF (h : DE K ta ρ (.bool false)) (g : DE K tb ρ d) : DE K (tOrV ta tb) ρ d := fun σ H Q en q => h σ H _ en fun v H1 s1 tv => ⟨false, tv, by
  show tb σ H1 Q
  exact g σ H1 _ (en.next s1) fun v2 H2 s2 t2 => q v2 H2 (s1.trans s2) t2⟩
theorem de_ifT (h : DT K t ρ true) (g : DE K ta ρ d) : DE K (tIf t ta tb) ρ d := fun σ H Q en q => h σ H _ en fun H1 s1 => by
  show ta σ H1 Q
  exact g σ H1 _ (en.next s1) fun v2 H2 s2 t2 => q v2 H2 (s1.trans s2) t2
theorem de_ifF (h : DT K t ρ false) (g : DE K tb ρ d) : DE K (tIf t ta tb) ρ d := fun σ H Q en q => h σ H _ en fun H1 s1 => by
  show tb σ H1 Q
  exact g σ H1 _ (en.next s1) fun v2 H2 s2 t2 => q v2 H2 (s1.trans s2) t2
/-! ### calls -/
theorem de_call {sp : Sp} {E : XK} (h : DA K tl ρ ds) (g : PV K sp ds d) : DE K (tCall sp [] E tl) ρ d := fun σ H Q en q => h σ H _ en fun vs H1 s1 tv => by
  show sp (vs ++ []) H1 Q E
  rw [List.append_nil]
  exact g vs H1 Q E tv fun v H2 s2 t2 => q v H2 (s1.trans s2) t2
/-! ### statements -/
theorem dr_ret (h : DE K te ρ d) : DR K (tRet te) ρ d := fun D σ H en q => h σ H _ en q
theorem dr_seq (h : DN K ts ρ ρ') (g : DR K tu ρ' d) : DR K (tSeq ts tu) ρ d := fun D σ H en q => h { D with nx := tu D } σ H en fun σ' H1 s1 en1 => g D σ' H1 en1 fun v H2 s2 t2 => q v H2 (s1.trans s2) t2
theorem dr_stop (h : DR K ts ρ d) : DR K (tSeq ts tu) ρ d := fun D σ H en q => h { D with nx := tu D } σ H en q
theorem dn_seq (h : DN K ts ρ ρ') (g : DN K tu ρ' ρ2) : DN K (tSeq ts tu) ρ ρ2 := fun D σ H en q => h { D with nx := tu D } σ H en fun σ' H1 s1 en1 => g D σ' H1 en1 fun σ2 H2 s2 t2 => q σ2 H2 (s1.trans s2) t2
theorem dn_next : DN K tNext ρ ρ := fun D σ H en q => q σ H (same_refl H) en
theorem dr_ifT (h : DT K t ρ true) (g : DR K ts ρ d) : DR K (tIfS t ts tu) ρ d := fun D σ H en q => h σ H _ en fun H1 s1 => by
  show ts D σ H1
  exact g D σ H1 (en.next s1) fun v H2 s2 t2 => q v H2 (s1.trans s2) t2
theorem dr_ifF (h : DT K t ρ false) (g : DR K tu ρ d) : DR K (tIfS t ts tu) ρ d := fun D σ H en q => h σ H _ en fun H1 s1 => by
  show tu D σ H1
  exact g D σ H1 (en.next s1) fun v H2 s2 t2 => q v H2 (s1.trans s2) t2
theorem dn_ifT (h : DT K t ρ true) (g : DN K ts ρ ρ') : DN K (tIfS t ts tu) ρ ρ' := fun D σ H en q => h σ H _ en fun H1 s1 => by
  show ts D σ H1
  exact g D σ H1 (en.next s1) fun v H2 s2 t2 => q v H2 (s1.trans s2) t2
theorem dn_ifF (h : DT K t ρ false) (g : DN K tu ρ ρ') : DN K (tIfS t ts tu) ρ ρ' := fun D σ H en q => h σ H _ en fun H1 s1 => by
  show tu D σ H1
  exact g D σ H1 (en.next s1) fun v H2 s2 t2 => q v H2 (s1.trans s2) t2
theorem dn_set {i : Nat} (h : DE K te ρ d) : DN K (tAsg te (gName i)) ρ (ρ.set i (some d)) := fun D σ H en q => h σ H _ en fun v H1 s1 tv => q _ H1 s1 ((en.next s1).put tv)
theorem dn_un2 {i j : Nat} (h : DE K te ρ (.tuple [x, y])) : DN K (tAsg te (gTup K 2 (gCons (gName i) (gCons (gName j) gNil)))) ρ ((ρ.set i (some x)).set j (some y)) := fun D σ H en q => h σ H _ en fun v H1 s1 tv => by
  obtain ⟨a, xs, rfl, sq, v1, r1, rfl, t1, v2, r2, rfl, t2, rfl⟩ := tv
  exact ⟨a, _, rfl, sq, rfl, v1, _, rfl, v2, _, rfl, rfl, q _ H1 s1 (((en.next s1).put t1).put t2)⟩
theorem dn_un3 {i j l : Nat} (h : DE K te ρ (.tuple [x, y, d])) : DN K (tAsg te (gTup K 3 (gCons (gName i) (gCons (gName j) (gCons (gName l) gNil))))) ρ (((ρ.set i (some x)).set j (some y)).set l (some d)) := fun D σ H en q => h σ H _ en fun v H1 s1 tv => by
  obtain ⟨a, xs, rfl, sq, v1, r1, rfl, t1, v2, r2, rfl, t2, v3, r3, rfl, t3, rfl⟩ := tv
  exact ⟨a, _, rfl, sq, rfl, v1, _, rfl, v2, _, rfl, v3, _, rfl, rfl, q _ H1 s1 ((((en.next s1).put t1).put t2).put t3)⟩
theorem dr_set {i : Nat} (h : DE K te ρ d) (g : DR K tu (ρ.set i (some d)) e) : DR K (tSeq (tAsg te (gName i)) tu) ρ e := dr_seq (dn_set h) g
theorem dr_un2 {i j : Nat} (h : DE K te ρ (.tuple [x, y])) (g : DR K tu ((ρ.set i (some x)).set j (some y)) e) : DR K (tSeq (tAsg te (gTup K 2 (gCons (gName i) (gCons (gName j) gNil)))) tu) ρ e := dr_seq (dn_un2 h) g
theorem dr_un3 {i j l : Nat} (h : DE K te ρ (.tuple [x, y, d])) (g : DR K tu (((ρ.set i (some x)).set j (some y)).set l (some d)) e) : DR K (tSeq (tAsg te (gTup K 3 (gCons (gName i) (gCons (gName j) (gCons (gName l) gNil))))) tu) ρ e := dr_seq (dn_un3 h) g
theorem dr_whenF (h : DT K t ρ false) (g : DR K tu ρ d) : DR K (tSeq (tIfS t ts tNext) tu) ρ d := dr_seq (dn_ifF h dn_next) g
theorem dr_whenT (h : DT K t ρ true) (g : DR K ts ρ d) : DR K (tSeq (tIfS t ts tz) tu) ρ d := dr_stop (dr_ifT h g)
end
/-- the promise of a def that hands back data: f of the arguments, where dom holds -/
def spP (K : PySem.W.Frag) (n : Nat) (dom : List PyData → PyData → Prop) : Sp := fun vs H Q _ => ∃ (ds : List PyData) (d : PyData), ds.length = n ∧ TvL K H ds vs ∧ dom ds d ∧ ∀ v H2, Same H H2 → Tv K H2 d v → Q v H2
theorem pv_P {K : PySem.W.Frag} {n : Nat} {dom : List PyData → PyData → Prop} {ds : List PyData} {d : PyData} (h : dom ds d) (hn : ds.length = n := by rfl) : PV K (spP K n dom) ds d := fun vs H Q E tv q => ⟨ds, d, hn, tv, h, q⟩
theorem en_start {K : PySem.W.Frag} {H : Hp} : ∀ {ds : List PyData} {vs : List V} {N : List Str}, TvL K H ds vs → ds.length ≤ N.length → En K H (start N vs) (ds.map some ++ List.replicate (N.length - ds.length) none) := by
  intro ds vs N l hl
  have e := tvl_len l
  refine ⟨?_, fun i d q => ?_⟩
  · show (vs.map some ++ List.replicate (N.length - vs.length) none).length = _
    simp [e]
  · show ∃ v, (vs.map some ++ List.replicate (N.length - vs.length) none)[i]? = some (some v) ∧ Tv K H d v
    rw [List.getElem?_append] at q
    rw [List.getElem?_append, List.length_map]
    rw [List.length_map] at q
    by_cases c : i < ds.length
    · rw [if_pos c, List.getElem?_map] at q
      rw [if_pos (by rw [e]; exact c), List.getElem?_map]
      cases e2 : ds[i]? with
      | none => rw [e2] at q; cases q
      | some d' =>
        rw [e2] at q
        cases q
        obtain ⟨x, h1, h2⟩ := tvl_get l e2
        exact ⟨x, by rw [h1]; rfl, h2⟩
    · rw [if_neg c] at q
      rw [List.getElem?_replicate] at q
      split at q <;> cases q
section
variable {P : Program} {w : World} {K : PySem.W.Frag} {mg : Str → Option Value} {base : Heap}
/-- a def whose body is worth what dom says -/
theorem ok_P {x qual : Str} {st : Stmt} {f : Addr} {fd : FuncData} {N ps : List Str} {k : Nat} {dom : List PyData → PyData → Prop} (F : Fun K x qual st f fd) (S : FnScope N ps (defScope st))
    (hN : ps.length ≤ N.length) 
    (body : ∀ (cdv : Value) (A : Around) (outer : List Env) (s : Shared) (H : Hp) (E : XK), Room k (A.deeper (envOfC qual (defScope st) s.heap.objs.size f cdv)) →
      ∃ t, PSs (cxOf CX0 P w K mg base N qual (defScope st) f cdv A outer s H E).nox (defBody st) t ∧ ∀ ds d, ds.length = ps.length → dom ds d → DR K t (ds.map some ++ List.replicate (N.length - ds.length) none) d) :
    FnOk P w K mg base CX0 (k + 1) f fd ps (spP K ps.length dom) := by
  refine F.ok S (fun vs H Q E h => ?_) (fun cdv A outer s H vs Q E hr h => ?_)
  · obtain ⟨ds, d, hl, tl, _⟩ := h
    rw [tvl_len tl, hl]
  · obtain ⟨ds, d, hl, tl, hd, q⟩ := h
    obtain ⟨t, ht, hb⟩ := body cdv A outer s H E hr
    exact ⟨t, ht, hb ds d hl hd _ _ H (en_start tl (by rw [hl]; exact hN)) q⟩
end
end Pu

/-! ### pure data: isinstance, deep equality -/
namespace Pu
open PySem L2 Tr PyProof.Rows
def tyD : PyData → String
  | .none => "NoneType" | .bool _ => "bool" | .int _ => "int" | .str _ => "str" | .tuple _ => "tuple" | .list _ => "list" | .dict _ => "list"
section
variable {K : PySem.W.Frag} {H H' : Hp} {σ : L2.St} {ρ : Rho} {te ta tb : TE} {tl : TA} {d e : PyData} {ds : List PyData} {b : Bool}
theorem tyx_tup {a : Addr} {xs : List V} (h : SqT K H a xs) : TyX K H (.ref a) (.type "tuple") := by
  rcases h with (h | ⟨o, h⟩) | ⟨o, its, n, h, c, _⟩
  · exact .base (.tup h)
  · exact .fTuple h
  · exact .kTuple h c
theorem tyx_tv {v : V} (h : Tv K H d v) : TyX K H v (.type (tyD d)) := by
  cases d with
  | none => cases h; exact .base .non
  | bool b => cases h; exact .base (.bl b)
  | int i => cases h; exact .base (.int i)
  | str s => cases h; exact .base (.str s)
  | tuple ds => obtain ⟨a, xs, rfl, s, _⟩ := h; exact tyx_tup s
  | list ds => exact False.elim h
  | dict ds => obtain ⟨p, ys, rfl, e⟩ := h; exact .base (.lst e)
theorem de_isi {n : String} (ha : DE K ta ρ d) (h : kitB (tyD d) n = some b := by decide +kernel) : DE K (tCB (rIsi K) (tCons ta (tCons (tC (.ty n)) tNil))) ρ (.bool b) := fun σ H Q en k =>
  ha σ H _ en fun v H1 s1 tv => ⟨v, .ty n, .type (tyD d), .type n, b, rfl, .ty n, tyx_tv tv, kit_ty h, k _ H1 s1 rfl⟩
mutual
theorem dp_tv : ∀ (d : PyData) (v : V), PyData.canLay0 d = true → Tv K H d v → Dp K H v d
  | .none, v, _, h => by cases h; exact .non
  | .bool b, v, _, h => by cases h; exact .bl b
  | .int i, v, _, h => by cases h; exact .int i
  | .str s, v, _, h => by cases h; exact .str s
  | .tuple ds, v, c, h => by
    obtain ⟨a, xs, rfl, s, l⟩ := h
    exact .tup s (dps_tv ds xs c l)
  | .list ds, v, _, h => False.elim h
  | .dict ds, v, c, h => by cases c
theorem dps_tv : ∀ (ds : List PyData) (vs : List V), PyData.canLayAll0 ds = true → TvL K H ds vs → DpAll K H vs ds
  | [], vs, _, h => by cases h; exact .nil
  | d :: ds, vs, c, h => by
    obtain ⟨x, xs, rfl, t, l⟩ := h
    have c' : (PyData.canLay0 d && PyData.canLayAll0 ds) = true := c
    rw [Bool.and_eq_true] at c'
    exact .cons (dp_tv d x c'.1 t) (dps_tv ds xs c'.2 l)
end
/-- shaped data: no dict, texts are texts, of this depth at most -/
def Sh (n : Nat) (d : PyData) : Prop := d.canLay0 = true ∧ d.depth ≤ n
def ShL (n : Nat) (ds : List PyData) : Prop := PyData.canLayAll0 ds = true ∧ PyData.depthAll ds ≤ n
theorem Sh.mono {n m : Nat} (h : Sh n d) (l : n ≤ m) : Sh m d := ⟨h.1, Nat.le_trans h.2 l⟩
theorem sh_nil {n : Nat} : ShL n [] := ⟨rfl, Nat.zero_le _⟩
theorem sh_cons {n : Nat} (h : Sh n d) (g : ShL n ds) : ShL n (d :: ds) := ⟨by show (d.canLay0 && PyData.canLayAll0 ds) = true; rw [h.1, g.1]; rfl, Nat.max_le.mpr ⟨h.2, g.2⟩⟩
theorem sh_tup {n : Nat} (h : ShL n ds) : Sh (n + 1) (.tuple ds) := ⟨h.1, Nat.succ_le_succ h.2⟩
theorem sh_int {n : Nat} {i : Int} : Sh n (.int i) := ⟨rfl, Nat.zero_le _⟩
theorem sh_non {n : Nat} : Sh n .none := ⟨rfl, Nat.zero_le _⟩
theorem sh_bl {n : Nat} : Sh n (.bool b) := ⟨rfl, Nat.zero_le _⟩
theorem sh_str {n : Nat} {s : Str} (h : PyData.strOk s = true) : Sh n (.str s) := ⟨h, Nat.zero_le _⟩
theorem Sh.shaped {n : Nat} (h : Sh n d) (l : n ≤ 64) : SeqAt.shaped d = true := by
  unfold SeqAt.shaped
  rw [h.1, decide_eq_true (Nat.le_trans h.2 l)]
  rfl
/-- two reads of one shaped value are equal -/
theorem same_data {x y : V} {n : Nat} {Q : VK} (hx : Tv K H d x) (hy : Tv K H d y) (h : Sh n d) (l : n ≤ 64) (q : Q (.bl true) H) : rEqD K x y H Q :=
  ⟨d, d, dp_tv d x h.1 hx, dp_tv d y h.1 hy, h.shaped l, h.shaped l, by rw [SeqAt.eqv_refl d h.1]; exact q⟩
theorem same_dataN {x y : V} {n : Nat} {Q : VK} (hx : Tv K H d x) (hy : Tv K H d y) (h : Sh n d) (l : n ≤ 64) (q : Q (.bl false) H) : rNeD K x y H Q :=
  ⟨d, d, dp_tv d x h.1 hx, dp_tv d y h.1 hy, h.shaped l, h.shaped l, by rw [SeqAt.eqv_refl d h.1]; exact q⟩
end
end Pu

/-! ### pure data: whole numbers, lengths, truth -/
namespace Pu
open PySem L2 Tr PyProof.Rows
section
variable {K : PySem.W.Frag} {H H' : Hp} {σ : L2.St} {ρ : Rho} {te ta tb tc : TE} {tl : TA} {t u : TT} {d e : PyData} {ds : List PyData} {b c : Bool} {ts tu : TS}
theorem de_cmpI {p : Int → Int → Bool} {i j : Int} (ha : DE K ta ρ (.int i)) (hb : DE K tb ρ (.int j)) : DE K (tOp (rI0 fun i j => .bl (p i j)) ta tb) ρ (.bool (p i j)) := fun σ H Q en k =>
  ha σ H _ en fun v H1 s1 tv => hb σ H1 _ (en.next s1) fun w H2 s2 tw => ⟨i, j, tv, tw, k _ H2 (s1.trans s2) rfl⟩
theorem de_opI {g : Int → Int → Int} {i j : Int} (ha : DE K ta ρ (.int i)) (hb : DE K tb ρ (.int j)) : DE K (tOp (rI0 fun i j => .int (g i j)) ta tb) ρ (.int (g i j)) := fun σ H Q en k =>
  ha σ H _ en fun v H1 s1 tv => hb σ H1 _ (en.next s1) fun w H2 s2 tw => ⟨i, j, tv, tw, k _ H2 (s1.trans s2) rfl⟩
theorem de_chain {p q : Int → Int → Bool} {i j l : Int} (ha : DE K ta ρ (.int i)) (hb : DE K tb ρ (.int j)) (hc : DE K tc ρ (.int l)) :
    DE K (tChain (rI0 fun i j => .bl (p i j)) (rI0 fun i j => .bl (q i j)) ta tb tc) ρ (.bool (p i j && q j l)) := fun σ H Q en k =>
  ha σ H _ en fun v H1 s1 tv => hb σ H1 _ (en.next s1) fun w H2 s2 tw => ⟨i, j, tv, tw, p i j, rfl, by
    cases hp : p i j with
    | true =>
      show tc σ H2 _
      exact hc σ H2 _ (en.next (s1.trans s2)) fun z H3 s3 tz => ⟨j, l, tw, tz, k _ H3 ((s1.trans s2).trans s3) (by rw [hp]; rfl)⟩
    | false =>
      show Q (.bl false) H2
      exact k _ H2 (s1.trans s2) (by rw [hp]; rfl)⟩
/-- and, or: the second part where it is asked for -/
theorem de_and {x y : Bool} (h : DE K ta ρ (.bool x)) (g : x = true → DE K tb ρ (.bool y)) : DE K (tAndV ta tb) ρ (.bool (x && y)) := by
  cases x with
  | true => exact de_andT h (g rfl)
  | false => exact de_andF h
theorem de_or {x y : Bool} (h : DE K ta ρ (.bool x)) (g : x = false → DE K tb ρ (.bool y)) : DE K (tOrV ta tb) ρ (.bool (x || y)) := by
  cases x with
  | true => exact de_orT h
  | false => exact de_orF h (g rfl)
theorem dt_and {x y : Bool} (h : DT K t ρ x) (g : x = true → DT K u ρ y) : DT K (tAnd t u) ρ (x && y) := by
  cases x with
  | true => exact dt_andT h (g rfl)
  | false => exact dt_andF h
theorem dt_or {x y : Bool} (h : DT K t ρ x) (g : x = false → DT K u ρ y) : DT K (tOr t u) ρ (x || y) := by
  cases x with
  | true => exact dt_orT h
  | false => exact dt_orF h (g rfl)
theorem de_lenT {r : List V → Hp → VK → Prop} (hr : ∀ p ys H (Q : VK), SqT K H p ys → Q (.int ys.length) H → r [.ref p] H Q) (ha : DE K ta ρ (.tuple ds)) : DE K (tCB r (tCons ta tNil)) ρ (.int ds.length) := fun σ H Q en k =>
  ha σ H _ en fun v H1 s1 tv => by
    obtain ⟨a, xs, rfl, sq, l⟩ := tv
    refine hr a xs H1 Q sq ?_
    rw [tvl_len l]
    exact k _ H1 s1 rfl
/-- what a value counts for in a test -/
def truD : PyData → Bool
  | .none => false | .bool b => b | .int i => i != 0 | .str z => z.length != 0 | .tuple ds => ds.length != 0 | _ => false
theorem dt_truT (ha : DE K ta ρ (.tuple ds)) : DT K (fun σ H Q => ta σ H fun x H' => ∃ k, TruV K x H' k ∧ Q k H') ρ (!ds.isEmpty) := fun σ H Q en q =>
  ha σ H _ en fun v H1 s1 tv => by
    obtain ⟨a, xs, rfl, sq, l⟩ := tv
    refine ⟨!xs.isEmpty, .inr (.inl ⟨xs, sq, rfl⟩), ?_⟩
    have e : xs.isEmpty = ds.isEmpty := by
      have := tvl_len l
      cases xs <;> cases ds <;> first | rfl | simp at this
    rw [e]
    exact q H1 s1
theorem dr_when {x : Bool} (h : DT K t ρ x) (g1 : x = true → DR K ts ρ d) (g2 : x = false → DR K tu ρ d) : DR K (tSeq (tIfS t ts tNext) tu) ρ d := by
  cases x with
  | true => exact dr_whenT h (g1 rfl)
  | false => exact dr_whenF h (g2 rfl)
end
section
variable {X : Cx}
theorem ps_dead {st : Stmt} : PS X st (fun _ _ _ => False) := ⟨fun _ _ _ _ _ _ h => h.elim⟩
theorem pss_dead {sts : List Stmt} : PSs X sts (fun _ _ _ => False) := ⟨fun _ _ _ _ _ _ h => h.elim⟩
theorem passE0 {P : Program} {w : World} (h : X.prog = P) (h2 : X.w = w) : Passes (L2.CX P w) X (fun _ _ _ => False) := fun pins σ H s e s' I h => by
  obtain ⟨_, _, _, _, _, _, _, _, _, _, _, _, hE⟩ := h
  exact hE.elim
end
end Pu

/-! ### pure data: equality and membership of flat values -/
namespace Pu
open PySem L2 Tr PyProof.Rows
def flatD : PyData → Bool
  | .none | .bool _ | .int _ | .str _ => true
  | _ => false
def isStr (x : PyData) (q : Str) : Bool :=
  match x with
  | .str z => decide (z = q)
  | _ => false
def inStr (x : PyData) (zs : List Str) : Bool :=
  match x with
  | .str z => decide (z ∈ zs)
  | _ => false
section
variable {K : PySem.W.Frag} {H H' : Hp} {σ : L2.St} {ρ : Rho} {te ta tb tc : TE} {tl : TA} {t u : TT} {d e x : PyData} {ds : List PyData} {b c : Bool} {ts tu : TS}
theorem flat_tv {v : V} (h : Tv K H x v) (f : flatD x = true) (q : Str) : flatV v = true ∧ scal v (.str q) = true ∧ decide (v = V.str q) = isStr x q ∧ ∀ zs : List Str, inV v (zs.map V.str) = inStr x zs := by
  cases x with
  | none =>
    cases h
    refine ⟨rfl, rfl, rfl, fun zs => ?_⟩
    induction zs with
    | nil => rfl
    | cons z r ih => exact ih
  | bool b =>
    cases h
    refine ⟨rfl, rfl, rfl, fun zs => ?_⟩
    induction zs with
    | nil => rfl
    | cons z r ih => exact ih
  | int i =>
    cases h
    refine ⟨rfl, rfl, rfl, fun zs => ?_⟩
    induction zs with
    | nil => rfl
    | cons z r ih => exact ih
  | str s =>
    cases h
    refine ⟨rfl, rfl, ?_, fun zs => in_strs s zs⟩
    show decide (V.str s = V.str q) = decide (s = q)
    simp
  | tuple l => cases f
  | list l => cases f
  | dict l => cases f
theorem de_of (h : d = e) (g : DE K te ρ d) : DE K te ρ e := h ▸ g
theorem de_neI {i j : Int} (ha : DE K ta ρ (.int i)) (hb : DE K tb ρ (.int j)) : DE K (tOp rNe ta tb) ρ (.bool (!decide (i = j))) := fun σ H Q en k =>
  ha σ H _ en fun v H1 s1 tv => hb σ H1 _ (en.next s1) fun w H2 s2 tw => by
    have e1 : v = .int i := tv
    have e2 : w = .int j := tw
    subst e1 e2
    exact ⟨rfl, k _ H2 (s1.trans s2) (by rw [dec_V]; rfl)⟩
theorem de_eqX {q : Str} (ha : DE K ta ρ x) (hb : DE K tb ρ (.str q)) (f : flatD x = true) : DE K (tOp rEq ta tb) ρ (.bool (isStr x q)) := fun σ H Q en k =>
  ha σ H _ en fun v H1 s1 tv => hb σ H1 _ (en.next s1) fun w H2 s2 tw => by
    have e2 : w = .str q := tw
    subst e2
    obtain ⟨_, h2, h3, _⟩ := flat_tv (tv.carry (same_carry s2)) f q
    refine ⟨h2, k _ H2 (s1.trans s2) ?_⟩
    rw [h3]
    rfl
theorem de_inX {zs : List Str} (ha : DE K ta ρ x) (hb : DE K tb ρ (.tuple ds)) (hs : strsOf ds = some zs) (f : flatD x = true) : DE K (tOp (rIn K false) ta tb) ρ (.bool (inStr x zs)) := fun σ H Q en k =>
  ha σ H _ en fun v H1 s1 tv => hb σ H1 _ (en.next s1) fun w H2 s2 tw => by
    obtain ⟨a, xs, rfl, sq, l⟩ := tw
    have e2 := strs_tv hs l
    subst e2
    obtain ⟨h1, _, _, h4⟩ := flat_tv (tv.carry (same_carry s2)) f ""
    refine ⟨a, _, rfl, .inr sq, h1, all_flat zs, ?_⟩
    show Q (.bl (inV v (zs.map V.str))) H2
    rw [h4]
    exact k _ H2 (s1.trans s2) rfl
theorem de_ninX {zs : List Str} (ha : DE K ta ρ x) (hb : DE K tb ρ (.tuple ds)) (hs : strsOf ds = some zs) (f : flatD x = true) : DE K (tOp (rIn K true) ta tb) ρ (.bool (!inStr x zs)) := fun σ H Q en k =>
  ha σ H _ en fun v H1 s1 tv => hb σ H1 _ (en.next s1) fun w H2 s2 tw => by
    obtain ⟨a, xs, rfl, sq, l⟩ := tw
    have e2 := strs_tv hs l
    subst e2
    obtain ⟨h1, _, _, h4⟩ := flat_tv (tv.carry (same_carry s2)) f ""
    refine ⟨a, _, rfl, .inr sq, h1, all_flat zs, ?_⟩
    show Q (.bl (!inV v (zs.map V.str))) H2
    rw [h4]
    exact k _ H2 (s1.trans s2) rfl
end
end Pu

/-! ## enumerate of a tuple -/
namespace Et
open PySem PySem.Spec PyProof.Rows L2
set_option maxHeartbeats 1000000 in
theorem meets_new1 {v : Value} {o : Obj} {H : Heap → Prop} (B : Begins v o H) :
    Meets (Builtin.«enumerate.__new__» ⟨[.type "enumerate", v], []⟩) (fun _ R s => H s.heap ∧
      R (.ok (.ret (.ref (s.heap.push o).objs.size))) { s with heap := (s.heap.push o).push { cls := .type "enumerate", data := .fields #[.none, .bool false, .ref s.heap.objs.size, rawInt 0, .none, .none] } }) :=
  .of_wp fun prog w A R s h => by
    obtain ⟨hp, g, d, tk, os⟩ := s; obtain ⟨h1, h⟩ := h
    have hsub := sub_enumerate
    have q1 : ∀ {A' : Around} {E : Value → Shared → Prop} {Q : Value → Shared → Prop}, Q (.ref hp.objs.size) ⟨hp.push o, g, d, tk, os⟩ → wpAny (model prog w) A' (pyIter v) Q E ⟨hp, g, d, tk, os⟩ :=
      fun q => B.iter prog w _ _ ⟨hp, g, d, tk, os⟩ _ h1 q
    wp_walk using q1
    refine wpAny_stack_any fun st => wpAny_pure ?_
    split
    · rename_i c _ _ _ _ _
      cases (c == Value.type "enumerate")
      · wp_walk using q1
        exact ⟨_, rfl, h⟩
      · wp_walk using q1
        exact ⟨_, rfl, h⟩
    · wp_walk using q1
      exact ⟨_, rfl, h⟩
section
variable {prog : Program} {w : World} {A : Around} {E : Value → Shared → Prop} {s : Shared}
theorem call_enum1 {v : Value} {o : Obj} {H : Heap → Prop} {Q : Value → Shared → Prop} (B : Begins v o H) (h1 : H s.heap)
    (h : ∀ h', IsEnum h' (s.heap.objs.size + 1) s.heap.objs.size 0 .none → h'.get? s.heap.objs.size = some o → h'.objs.size = s.heap.objs.size + 2 →
      (∀ b o, s.heap.get? b = some o → h'.get? b = some o) → Q (.ref (s.heap.objs.size + 1)) { s with heap := h' }) :
    wpAny (model prog w) A (call (.type "enumerate") [v]) Q E s := by
  refine callType_new F.called_enumerate (by decide) (F.typeCall_enumerate_1 _) (F.newCall_enumerate_1 _) (fun obj => F.args_object_init_2 obj _) F.entry_enumerate_new
    (meets_new1 B) ⟨h1, ?_⟩
  have hz : (s.heap.push o).objs.size = s.heap.objs.size + 1 := Heap.size_push ..
  show _ ∧ _
  rw [hz]
  have he : IsEnum ((s.heap.push o).push { cls := .type "enumerate", data := .fields #[.none, .bool false, .ref s.heap.objs.size, rawInt 0, .none, .none] }) (s.heap.objs.size + 1) s.heap.objs.size 0 .none := by
    have := Heap.get?_push_size (s.heap.push o) (o := { cls := .type "enumerate", data := .fields #[.none, .bool false, .ref s.heap.objs.size, rawInt 0, .none, .none] }) rfl
    rw [hz] at this; exact this
  refine ⟨⟨_, he, rfl⟩, h _ he (Heap.get?_push_of_some _ (Heap.get?_push_size _ B.free)) (by rw [Heap.size_push, hz]) fun b o x => Heap.get?_push_of_some _ (Heap.get?_push_of_some _ x)⟩
theorem draws_tup (hh : A.handled = none) (it l : Addr) (hne : l ≠ it) (items : Array Value) :
    Draws prog w A it [it, l] items.size (fun i v => items[i]? = some v) (fun i h => h.IsTupleIter it l i ∧ h.IsTuple l items) where
  live := fun _ _ x => let ⟨o, ho, _⟩ := x.1; ⟨o, ho⟩
  frame := fun _ _ _ x k => ⟨x.1.at fun o e => k it (List.mem_cons_self ..) o e, x.2.at fun o e => k l (List.mem_cons_of_mem _ (List.mem_cons_self ..)) o e⟩
  item := fun i s Q E hi x k => RZ.nextOf_tuple_item x.1 x.2 (x := items[i]) (by simp [hi]) fun h' y c => k _ h' s.toks (by simp [hi]) ⟨y, x.2.extBut c.extBut hne⟩ c
  done := fun s Q E x k => RZ.nextOf_tuple_end hh x.1 x.2 (by simp) k
end
def Iut (K : PySem.W.Frag) (a : Addr) (xs : List V) : It :=
  ⟨fun i H => SqT K H a xs ∧ i < xs.length, fun i H v H' => ∃ T x, v = .ref T ∧ H T = none ∧ H' = upd H T (.tup [.int (i : Nat), x]) ∧ xs[i]? = some x, fun i H => SqT K H a xs ∧ xs.length ≤ i⟩
theorem tup_is {h : Heap} {a : Addr} {its : Array Value} (t : IsTup h a its) : h.IsTuple a its := let ⟨o, e, c, n, d⟩ := t; ⟨o, e, c, n, d⟩
theorem turn_enumT {P : Program} {w : World} {K : PySem.W.Frag} {elts : List Expr} {kk : Nat} {tpos : Pos} (a e it : Addr) (xs : List V) :
    Turn P w K (.Tuple elts kk tpos) (Iut K a xs) [e, it] e (fun i h => (∃ old, IsEnum h e it ((i : Nat) : Int) old) ∧ h.IsTupleIter it a i ∧ e ≠ it ∧ e ≠ a ∧ a ≠ it ∧ i ≤ xs.length) where
  mem := by simp
  obj := fun i h st b hb => by
    obtain ⟨⟨old, he⟩, ⟨o, ho, hc, hd⟩, _⟩ := st
    have e' : b = e ∨ b = it := by simpa using hb
    rcases e' with z | z
    · rw [z]; exact ⟨_, he, fun v q => nomatch q⟩
    · rw [z]; exact ⟨o, ho, fun v q => by rw [hd] at q; cases q⟩
  keep := fun i h h' st k => let ⟨⟨old, he⟩, hi, r⟩ := st; ⟨⟨old, k e (by simp) _ he⟩, hi.at fun o q => k it (by simp) o q, r⟩
  item := by
    intro X hP hw hK hc i pins s σ H E I hf st hg
    subst hP hw hK
    obtain ⟨⟨old, he⟩, hit, hne, hea, hai, _⟩ := st
    obtain ⟨hq, hlt⟩ := hg
    obtain ⟨its, rv, p, hz⟩ := I.tuple hq
    have hel : e < s.heap.objs.size := Heap.lt_size he
    have hil : it < s.heap.objs.size := by obtain ⟨_, q, _⟩ := hit; exact Heap.lt_size q
    have hn : its.toArray.size = xs.length := by simp [rv.length]
    refine wpAny_pyNext_enum_itemD (D := draws_tup (A := X.A.in1) (I.ok.hd hc) it a hai its.toArray) he ⟨hit, tup_is p⟩ (by omega) hne (by simp [hne, hea]) fun v h' tk hv ho hit' hT hsz hk => ?_
    obtain ⟨x, hx, ru⟩ : ∃ x, xs[i]? = some x ∧ RelV x v := by
      obtain ⟨u, h1, h2⟩ := rv.get (List.getElem?_eq_getElem hlt)
      have : u = v := by
        have hv' : its[i]? = some v := by simpa using hv
        rw [h1] at hv'
        exact Option.some.inj hv'
      subst this
      exact ⟨_, List.getElem?_eq_getElem hlt, h2⟩
    refine ⟨_, rfl, wpAny_letOwnedTupleGo_enum (s := { s with heap := h', toks := tk + 1 }) ho fun h'' he' sb => ?_⟩
    have hT2 : h''.get? s.heap.objs.size = some { cls := .type "tuple", data := .seq #[.int i tk, v] } := (sb.2 _ (Nat.ne_of_gt hel)).trans hT
    have new : ObjOk X.prog X.w (upd H s.heap.objs.size (.tup [.int (i : Nat), x])) h'' s.heap.objs.size (.tup [.int (i : Nat), x]) :=
      ⟨by show 2 ≤ sizeLine; decide, [.int i tk, v], .cons ⟨_, rfl⟩ (.cons ru .nil), ⟨_, hT2, rfl, _, rfl⟩⟩
    have I1 : Inv X pins σ (upd H s.heap.objs.size (.tup [.int (i : Nat), x])) { s with heap := h'', toks := tk + 1 } :=
      I.turnedNew (ch := [e, it]) (fun b ob hb q => (sb.2 b (fun z => hb (by simp [z]))).trans (hk b ob (fun z => hb (by simp [z])) (fun z => hb (by simp [z])) q)) hf (Nat.le_refl _) new
    refine ⟨.ref s.heap.objs.size, _, I1, rfl, ⟨_, x, rfl, I.hok.fresh (Nat.le_refl _), rfl, hx⟩, ⟨⟨v, ?_⟩, hit'.1.at fun o q => (sb.2 it (Ne.symm hne)).trans q, hne, hea, hai, hlt⟩, fun b hb => ?_⟩
    · have e1 : ((i + 1 : Nat) : Int) = (i : Int) + 1 := by omega
      rw [e1]; exact he'
    · have hb' : b < s.heap.objs.size := by
        have e' : b = e ∨ b = it := by simpa using hb
        rcases e' with z | z
        · rw [z]; exact hel
        · rw [z]; exact hil
      rw [upd_ne (Nat.ne_of_lt hb')]
      exact (hf b hb).1
  done := by
    intro X hP hw hK hc i pins s σ H E I hf st hg
    subst hP hw hK
    obtain ⟨⟨old, he⟩, hit, hne, hea, hai, hi⟩ := st
    obtain ⟨hq, hle⟩ := hg
    obtain ⟨its, rv, p, hz⟩ := I.tuple hq
    have hn : its.toArray.size = xs.length := by simp [rv.length]
    have ei : i = its.toArray.size := by omega
    obtain ⟨f0, f1, f2, f3, f4, f5⟩ := hf it (by simp)
    rw [ei] at hit he
    exact wpAny_pyNext_enum_endD (D := draws_tup (A := X.A.in1) (I.ok.hd hc) it a hai its.toArray) he ⟨hit, tup_is p⟩ fun h' eb => ⟨rfl, I.turned (t' := s.toks) (fun b o hb q => eb b o hb q) f0 f1 f3 f4 f5⟩
  self := fun A i s Q E st h => let ⟨⟨_, he⟩, _⟩ := st; wpAny_pyIter_enum he h
def iEnumT (K : PySem.W.Frag) (ta : TA) : TI := fun σ H R => ta σ H fun vs H1 => ∃ a xs, vs = [.ref a] ∧ SqT K H1 a xs ∧ R (Iut K a xs) H1
theorem pi_enumT {X : Cx} {e : Expr} {ta : TA} {p pos tpos : Pos} {elts : List Expr} {kk : Nat} (hg : Gl X "enumerate") (hm : X.mg "enumerate" = none) (ha : PA X [e] ta) (hs : starEach [e] X.env = [(false, eval e X.env)] := by rfl) :
    PI X (.Tuple elts kk tpos) (.Call (.Name "enumerate" p) [e] [] pos) (iEnumT X.K ta) := by
  refine ⟨fun pins s σ H R I h => ?_⟩
  refine Call_ (ld_blt I hg hm boot_enumerate (PyProof.Rows.callWith_type1 (thn (ha.run pos pins s σ H _ I h) fun us s1 ⟨vs, H1, I1, r1, q1⟩ => ?_) hs rfl))
  obtain ⟨a, xs, ex, hq, q⟩ := q1
  subst ex
  cases r1 with
  | cons r rr =>
    cases rr
    cases r
    obtain ⟨its, rv, p', hz⟩ := I1.tuple hq
    have la : a < s1.heap.objs.size := by obtain ⟨o, e, _⟩ := p'; exact Heap.lt_size e
    refine call_enum1 (begins_tuple a its.toArray) (tup_is p') fun h' he hit hsz hk => wpAny_pyIter_enum he ?_
    have I2 : Inv X pins σ H1 { s1 with heap := h' } := I1.kept (t' := s1.toks) hk
    refine ⟨s1.heap.objs.size + 1, [s1.heap.objs.size + 1, s1.heap.objs.size], _, _, H1, rfl, I2, turn_enumT a (s1.heap.objs.size + 1) s1.heap.objs.size xs, ⟨⟨.none, he⟩, ⟨_, hit, rfl, rfl⟩, Nat.succ_ne_self _, Nat.ne_of_gt (Nat.lt_succ_of_lt la), Nat.ne_of_lt la, Nat.zero_le _⟩, fun b hb => ?_, q⟩
    have e' : b = s1.heap.objs.size + 1 ∨ b = s1.heap.objs.size := by simpa using hb
    have hle : s1.heap.objs.size ≤ b := by
      rcases e' with z | z
      · rw [z]; exact Nat.le_add_right _ _
      · rw [z]; exact Nat.le_refl _
    exact I1.fpOk hle (I1.hok.fresh hle)
/-- a loop over the places and items of a tuple -/
theorem for_enumT {K : PySem.W.Frag} {a : Addr} {xs : List V} {g : TG} {tb : TS} {D : Ends} {σ : L2.St} {H : Hp} (Pv : Nat → L2.St → Hp → Prop) (h0 : Pv 0 σ H) (hl : ∀ i σ H, i ≤ xs.length → Pv i σ H → SqT K H a xs)
    (hb : ∀ (i : Nat) (x : V) (σ : L2.St) (H : Hp) (T : Addr), xs[i]? = some x → H T = none → Pv i σ H → g (.ref T) σ (upd H T (.tup [.int (i : Nat), x])) fun σ2 H2 => tb { D with nx := Pv (i + 1), ct := Pv (i + 1), bk := D.nx } σ2 H2)
    (hd : ∀ σ H, Pv xs.length σ H → D.nx σ H) :
    ∃ W : Nat → Nat → L2.St → Hp → Prop, (∃ m, W 0 m σ H) ∧ ∀ i m σ H, W i m σ H →
      ((Iut K a xs).stop i H ∧ D.nx σ H) ∨ ((Iut K a xs).go i H ∧ ∃ N : L2.St → Hp → Prop, (∀ σ' H', N σ' H' → ∃ m', m' < m ∧ W (i + 1) m' σ' H') ∧ ∀ v H', (Iut K a xs).yld i H v H' → g v σ H' fun σ2 H2 => tb { D with nx := N, ct := N, bk := D.nx } σ2 H2) := by
  refine ⟨fun i m σ H => m = xs.length - i ∧ i ≤ xs.length ∧ Pv i σ H, ⟨xs.length, by simp, Nat.zero_le _, h0⟩, ?_⟩
  rintro i m σ H ⟨rfl, hi, p⟩
  by_cases hlt : i < xs.length
  · refine .inr ⟨⟨hl i σ H hi p, hlt⟩, Pv (i + 1), fun σ' H' p' => ⟨xs.length - (i + 1), by omega, rfl, hlt, p'⟩, fun v H' y => ?_⟩
    obtain ⟨T, x, rfl, hT, rfl, hx⟩ := y
    exact hb i x σ H T hx hT p
  · have e : i = xs.length := by omega
    subst e
    exact .inl ⟨⟨hl _ σ H hi p, Nat.le_refl _⟩, hd σ H p⟩
end Et

/-! ## An own error's __init__ that begins with super().__init__(..), as a def of the hand layer -/
namespace Su
open PySem PySem.Spec PyProof.Rows L2
section
variable {P : Program} {w : World} {K : PySem.W.Frag} {mg : Str → Option Value} {base : Heap}
/-- the written part's word on the class at C, whose __init__ at f closes over the cell cc; its code at cda -/
structure Sup (P : Program) (K : PySem.W.Frag) (C cc cda : Addr) : Prop where
  ex : OexC K C
  up : PySem.W.ks_superIn K C C "__init__" = some (some (.builtin "ValueError.__init__"))
  noAny : PySem.W.nsIn K cStatics "thirdparty.any" = some none
  isV : PySem.W.subIn K (.ref C) (.type "ValueError") = some true
  cell : ∃ (cl : Value) (cld : Option Addr) (csl : Array (Option Value)), K.lookup cc = some ⟨cl, cld, .cell (some (.ref C)), csl⟩
  own : PySem.W.mroIn K C (.ref C) = some true
  plain : PySem.W.nsIn K mainGlobals "super" = some none
  code : ∃ (ccl : Value) (cdd : Option Addr) (vs : Array Value) (ccs : Array (Option Value)) (file : Str) (tf : Tok), K.lookup cda = some ⟨ccl, cdd, .fields vs, ccs⟩ ∧ vs[2]? = some (.str file tf) ∧ ((P.main.file : Str) == file) = true
  top : (P.main.scope.names.lookup ("super" : Str)).isSome = false
structure Scp (ps : List Str) (sc : Scope) : Prop where
  kind : sc.kind = .function
  co : sc.isCoroutine = false
  gen : sc.isGenerator = false
  nd : ps.Nodup
  par : ∀ x ∈ ps, sc.names.lookup x = some .local
  free : ∀ y ∈ sc.names, y.2 = .free → y.1 = "__class__"
  nocell : ∀ y ∈ sc.names, y.2 ≠ .cell
  sup : sc.names.lookup ("super" : Str) = some .globalImplicit
  kc : sc.names.lookup ("__class__" : Str) = some .free
def envS (qual : Str) (scope : Scope) (L f cda cc : Addr) : Env := PySem.W.ksEnv qual scope L f (.ref cda) cc
def cxS (P : Program) (w : World) (K : PySem.W.Frag) (mg : Str → Option Value) (base : Heap) (ps : List Str) (qual : Str) (scope : Scope) (f cda cc : Addr) (A : Around) (outer : List Env) (s : Shared) (H : Hp) : Cx where
  prog := P
  w := w
  K := K
  mg := mg
  base := base
  A := A.deeper (envS qual scope s.heap.objs.size f cda cc)
  N := ps
  s_0 := s
  H_0 := H
  env := envS qual scope s.heap.objs.size f cda cc
  outer := outer
  stack := envS qual scope s.heap.objs.size f cda cc :: outer
  ex := []
  fn := fun x => x != "__class__"
  calm := true
  pn := []
  xe := fun e s' => wpAny (model P w) (A.deeper (envS qual scope s.heap.objs.size f cda cc)) (leaving (envS qual scope s.heap.objs.size f cda cc) e) (fun _ _ => False) (fun _ _ => False) s'
theorem look_zip : ∀ {ps : List Str} {us : List Value} {i : Nat} {x : Str} {u : Value}, ps.Nodup → ps[i]? = some x → us[i]? = some u → (ps.zip us).reverse.lookup x = some u := by
  intro ps us i x u nd hp hu
  have key : ∀ (l : List (Str × Value)), (∀ p ∈ l, p.1 = x → p.2 = u) → (x, u) ∈ l → l.lookup x = some u := by
    intro l
    induction l with
    | nil => intro _ h; cases h
    | cons p l ih =>
      intro h1 h2
      obtain ⟨a, b⟩ := p
      by_cases e : x = a
      · subst e
        have := h1 (x, b) List.mem_cons_self rfl
        simp only at this
        rw [this]
        simp [List.lookup]
      · have e' : (x == a) = false := by simpa using e
        rw [show ((a, b) :: l).lookup x = l.lookup x by simp [List.lookup, e']]
        refine ih (fun p hp' => h1 p (List.mem_cons_of_mem _ hp')) ?_
        rcases List.mem_cons.mp h2 with z | z
        · cases z
          exact absurd rfl e
        · exact z
  refine key _ (fun p hp' hx => ?_) ?_
  · have hm := List.mem_reverse.mp hp'
    obtain ⟨j, hj⟩ := List.getElem?_of_mem hm
    obtain ⟨a, b⟩ := p
    have h1 := List.getElem?_zip_eq_some.mp hj
    simp only at h1 hx
    subst hx
    have hi : i < ps.length := (List.getElem?_eq_some_iff.mp hp).1
    have ij : j = i := by
      exact nodup_ix nd h1.1 hp
    subst ij
    rw [hu] at h1
    exact (Option.some.inj h1.2).symm
  · refine List.mem_reverse.mpr (List.mem_of_getElem? (i := i) ?_)
    exact List.getElem?_zip_eq_some.mpr ⟨hp, hu⟩
theorem inv_sup {ps : List Str} {qual : Str} {scope : Scope} {f cda cc C : Addr} {A : Around} {outer : List Env} {s : Shared} {H : Hp} {h1 : Heap} {us : List Value} {vs : List V} {tk : Nat} (S : Scp ps scope) (T : Sup P K C cc cda) (hd : A.handled = none)
    (e0 : Env0 P w K mg base A outer s H) (hl : vs.length = ps.length) (r : Vals vs us) (hns : h1.Ns s.heap.objs.size (fun x => (ps.zip us).reverse.lookup x)) (hk : ∀ b o, s.heap.get? b = some o → h1.get? b = some o) :
    Inv (cxS P w K mg base ps qual scope f cda cc A outer s H) [] (vs.map some) H { s with heap := h1, toks := tk } := by
  have none_in : ∀ b : Addr, b ∉ (cxS P w K mg base ps qual scope f cda cc A outer s H).ex := fun b z => by
    have z' : b ∈ ([] : List Addr) := z
    cases z'
  have one : ∀ {x : Str} {c : Addr}, (envS qual scope s.heap.objs.size f cda cc).cells.lookup x = some c → x = "__class__" ∧ c = cc := by
    intro x c h
    have h' : ([("__class__", cc)] : List (Str × Addr)).lookup x = some c := h
    by_cases e : x = "__class__"
    · subst e
      have : (some cc : Option Addr) = some c := by simpa [List.lookup] using h'
      exact ⟨rfl, (Option.some.inj this).symm⟩
    · have e' : (x == ("__class__" : Str)) = false := by simpa using e
      rw [show ([("__class__", cc)] : List (Str × Addr)).lookup x = none by simp [List.lookup, e']] at h'
      cases h'
  obtain ⟨cl, cld, csl, lcc⟩ := T.cell
  have kcc := e0.mod.kin cc _ lcc
  have hcc := e0.bs cc _ kcc
  have ltc : cc < s.heap.objs.size := Heap.lt_size hcc.1
  refine { ok := ?_, os := rfl, bare := e0.bare, base := Un.kept hk, loc := ⟨_, hns, fun i x v a b c => ?_⟩, cell := fun x c h => ?_, free := e0.hok.fresh (Nat.le_refl _), freeC := fun x c h => ?_, pin := fun p hp => ?_, hok := e0.hok.kept hk, len := ?_ }
  · refine { mod := e0.mod, kind := S.kind, glob := rfl, blt := rfl, above := Nat.le_refl _, inj := fun x y c a b => ?_, has := fun x h => ?_, cab := fun x c a b => ?_, hd := fun _ => hd, frames := Around.frames_deeper e0.frames, stk := .inr ⟨rfl, rfl⟩, exf := fun b z => absurd z (none_in b), bs := e0.bs, bsz := e0.bsz, noex := fun b _ _ => none_in b, exfs := fun b z => absurd z (none_in b), funs := e0.funs, frf := e0.frf }
    · rw [(one a).1, (one b).1]
    · have h' : scope.names.lookup x = some .cell ∨ scope.names.lookup x = some .free := h
      rcases h' with q | q
      · exact absurd rfl (S.nocell _ (PySem.mem_of_lookup q))
      · have : x = "__class__" := S.free _ (PySem.mem_of_lookup q) rfl
        subst this
        exact ⟨cc, by show ([(("__class__" : Str), cc)] : List (Str × Addr)).lookup ("__class__" : Str) = some cc; simp [List.lookup]⟩
    · have a' : (x != "__class__") = true := a
      rw [(one b).1] at a'
      simp at a'
  · have hi : ps[i]? = some x := a
    rw [List.getElem?_map] at b
    cases q : vs[i]? with
    | none => rw [q] at b; cases b
    | some y =>
      rw [q] at b
      cases b
      obtain ⟨u, hu, rv⟩ := r.get q
      exact ⟨u, rv, .inl ⟨S.par x (List.mem_of_getElem? hi), look_zip S.nd hi hu⟩⟩
  · rw [(one h).2]
    exact ⟨some (.ref C), _, hk _ _ hcc.1, rfl⟩
  · rw [(one h).2]
    exact hcc.2
  · have hp' : p ∈ ([] : List (Addr × Obj)) := hp
    cases hp'
  · rw [List.length_map]
    exact hl
/-- ValueError.__init__ bound to an error that is being made -/
theorem init_bound {X : Cx} {pins : List (Addr × Obj)} {σ : L2.St} {H : Hp} {s : Shared} {a u C : Addr} {us : List Value} {Q : Value → Shared → Prop} {E : Value → Shared → Prop} {A : Around} (T : OexC X.K C) (I : Inv X pins σ H s) (ea : H a = some (exo a C none))
    (hu : s.heap.get? u = some (PySem.W.kxs_mw "ValueError.__init__" a)) (fit : us.length ≤ sizeLine) (q : ∀ s', Inv X pins σ H s' → Q .none s') : wpAny (model X.prog X.w) A (call (.ref u) us) Q E s := by
  obtain ⟨nm, qn, N, bs, bm, sn, sub, ab, col, dd, k0, k1, k2, k3, k5, hC, hbm⟩ := T.cls
  have hC' := I.kIn _ _ hC
  obtain ⟨t1, ho⟩ := exo_at I.hok ea
  obtain ⟨hp, g, d, tk, os⟩ := s
  apply wpAny_call
  apply codeAny_of_tree
  change wpAny _ A.in1 (callAny (.ref u) ⟨us, []⟩) _ _ _
  unfold callAny
  apply wpAny_bind
  refine wpAny_load hu ?_
  have is1 : (Value.type "method-wrapper" == Value.type "method" || (Value.type "method-wrapper" == Value.type "builtin_function_or_method" || Value.type "method-wrapper" == Value.type "method-wrapper")) = true := by decide
  simp only [PySem.W.kxs_mw, Bool.or_assoc, is1, if_true]
  refine PySem.W.KFB.if_so (by decide) ?_
  apply wpAny_bind
  refine PySem.W.check_bound_init F.excBase_ValueError.toExcCallFacts hC' ho rfl ?_
  refine wpAny_bind (wpAny_pure (wpAny_pure ⟨plainId_quiet F.excBase_ValueError.init.plain _, codeAny_builtin F.excBase_ValueError.initEntry ?_⟩))
  refine PySem.W.exc_init_tree (cls := .ref C) (t0 := t1) (dv := none) (c2 := .none) (c3 := .none) (b4 := .bool false) ho fit fun h' k e' _ => ?_
  have J := I.write (t' := tk) (x := a) (e := a) (o := exo a C none) (by rw [ea]; exact True.intro) (.inl rfl) k ⟨_, e'⟩ (exo_ok e')
  have same : upd H a (exo a C none) = H := by
    funext b
    by_cases hb : b = a
    · subst hb
      rw [upd_same, ea]
    · exact upd_ne hb
  rw [same] at J
  exact q _ J
/-- super().__init__(..) and what follows -/
theorem fn_sup {ps : List Str} {name qual : Str} {params : Arguments} {scope : Scope} {f cda cc C : Addr} {k : Nat} {sp : Sp} {oc dV kV doc pm ct : Value} {od an : Option Addr} {osl : Array (Option Value)} {p0 p1 p2 p3 p4 : Pos} {e : Expr} {es : List Expr} {rest : List Stmt} {ar : Arg}
    (look : K.lookup f = some ⟨oc, od, .func (PySem.W.ksFn name qual params (.Expr (.Call (.Attribute (.Call (.Name "super" p0) [] [] p1) "__init__" p2) (e :: es) [] p3) p4 :: rest) scope dV kV doc pm an (.ref cda) ct cc), osl⟩)
    (code : PySem.W.codeIn K (.ref cda) qual = true) (S : Scp ps scope) (T : Sup P K C cc cda) (first : (params.posonlyargs ++ params.args).head? = some ar) (first' : ps[0]? = some ar.arg)
    (len : ∀ vs H Q E, sp vs H Q E → vs.length = ps.length)
    (inner : ∀ (A : Around) (outer : List Env) (s : Shared) (H : Hp) (vs : List V) (Q : VK) (E : XK), Room k (A.deeper (envS qual scope s.heap.objs.size f cda cc)) → sp vs H Q E →
      ∃ (a : Addr) (ta : TA) (tb : TS), vs[0]? = some (.ref a) ∧ H a = some (exo a C none) ∧ PA (cxS P w K mg base ps qual scope f cda cc A outer s H) (e :: es) ta ∧ PSs (cxS P w K mg base ps qual scope f cda cc A outer s H) rest tb ∧
        ta (vs.map some) H fun ws H1 => ws.length ≤ 1000 ∧ H1 a = some (exo a C none) ∧ tb { rt := Q, nx := fun _ => Q V.non } (vs.map some) H1)
    (he : ∀ env, starEach (e :: es) env = (false, eval e env) :: starEach es env := by intro; rfl) (hpl : ∀ (pos : Pos) (env : Env), (backTo pos (starEach es env)).any (·.1) = false := by intros; rfl)
    (hev : ∀ env, ∃ pl, eval (.Call (.Attribute (.Call (.Name "super" p0) [] [] p1) "__init__" p2) (e :: es) [] p3) env = (do
      let ov ← attributeBase (.Call (.Name "super" p0) [] [] p1) "__init__" env (eval (.Call (.Name "super" p0) [] [] p1) env)
      standAt p2.atName
      let (f, first) ← holding [ov] (getMethod ov "__init__" pl)
      callWith p3 f first (backTo p3 (starEach (e :: es) env)) []) := by intro; exact ⟨_, rfl⟩)
    (hsw : ∀ env, swapsWith (.Call (.Attribute (.Call (.Name "super" p0) [] [] p1) "__init__" p2) (e :: es) [] p3) none p4.line env = pure false := by intro; rfl) :
    FnOk P w K mg base CX0 (k + 1) f (PySem.W.ksFn name qual params (.Expr (.Call (.Attribute (.Call (.Name "super" p0) [] [] p1) "__init__" p2) (e :: es) [] p3) p4 :: rest) scope dV kV doc pm an (.ref cda) ct cc) ps sp := by
  refine ⟨len, fun A outer s H args us vs Q E room e0 bd rel told => ?_⟩
  have cnt := len _ _ _ _ told
  have isK : K.In s.heap := e0.mod.kin.keeps fun b o q => (e0.bs b o q).1
  refine PySem.ks_codeAny_call_defAt room.depth (isK _ _ look) rfl (e0.mod.nolimit.keeps fun b o q => (e0.bs b o q).1) (PySem.W.codeRec_of isK code) rfl bd S.nocell (fun y hy => ?_) (fun h1 hns hk1 => ?_) S.co S.gen S.kind
  · obtain ⟨n, v⟩ := y
    exact S.par n (List.of_mem_zip hy).1
  have I : Inv (cxS P w K mg base ps qual scope f cda cc A outer s H) [] (vs.map some) H { s with heap := h1, toks := s.toks + (ps.zip us).length } := inv_sup S T room.hd e0 cnt rel hns hk1
  obtain ⟨a, ta, tb, v0, ea, pa, pb, q⟩ := inner A outer s H vs Q E (room.deeper _) told
  have quietX := I.quiet
  obtain ⟨pl, ev⟩ := hev (envS qual scope s.heap.objs.size f cda cc)
  obtain ⟨ccl, cdd, vv, ccs, file, tf, hcode, hvs, hfile⟩ := T.code
  obtain ⟨cl, cld, csl, hcell⟩ := T.cell
  obtain ⟨nm, qn, N, bs, bm, sn, sub, ab, col, dd, k0, k1, k2, k3, k5, hC, hbm⟩ := T.ex.cls
  have isD : PySem.W.clsIn K C = some { name := nm, bases := bs, mro := .ref C :: bm, ns := N, qualname := qn, hasDict := true, slotNames := sn, subclasses := sub, abstract := ab, collection := col, hasDel := false } := by
    unfold PySem.W.clsIn
    rw [hC] <;> rfl
  obtain ⟨t1, ho⟩ := exo_at I.hok ea
  obtain ⟨mb, nsb, boots⟩ := e0.mod.blt
  have kp : ∀ {b : Addr} {o : Obj}, base.get? b = some o → h1.get? b = some o := fun {b o} z => hk1 _ _ (e0.bs _ _ z).1
  have us0 : us[0]? = some (.ref a) := by
    obtain ⟨u, hu, rv⟩ := rel.get v0
    cases rv
    exact hu
  have self := look_zip (us := us) S.nd first' us0
  refine PySem.ks_wpAt_execs_cons (PySem.ks_wpAt_Expr_any (PySem.ks_wpAt_MethodCall (pl := pl) ?_ ev) quietX (hsw _))
  refine PySem.ks_wpAt_super_base (env := envS qual scope s.heap.objs.size f cda cc) S.sup S.kc rfl rfl (hk1 _ _ (isK _ _ look)) rfl first rfl (hk1 _ _ (isK _ _ hcode)) rfl hvs hfile T.top ?_
  refine PySem.W.ks_loadName_global S.kind S.sup (PySem.Calls.loadGlobal_builtin (env := envS qual scope s.heap.objs.size f cda cc) (e0.mod.glob.keeps fun b o z => kp z) (PySem.W.mg_none_of e0.mod.kin e0.mod.glob T.plain) (nsb.keeps fun b o z => kp z) ((boots _ (by decide +kernel)).trans PyProof.Rows.Boot.«super») ⟨rfl, ?_⟩)
  refine wpAny_loadName_free (c := cc) (v := .ref C) S.kind S.kc (by show ([(("__class__" : Str), cc)] : List (Str × Addr)).lookup ("__class__" : Str) = some cc; simp [List.lookup]) ⟨_, hk1 _ _ (isK _ _ hcell), rfl⟩ ?_
  refine wpAny_loadName_local (m := fun x => (ps.zip us).reverse.lookup x) S.kind (S.par _ (List.mem_of_getElem? first')) hns self ?_
  refine PySem.ks_wpAny_isType_cls (hk1 _ _ (isK _ _ hC)) rfl ⟨rfl, ?_⟩
  refine PySem.ks_wpAny_call_super (hk1 _ _ (isK _ _ hC)) rfl ho rfl (fun c z => by cases z) (PySem.W.looks_mroIn (isK.keeps hk1) T.own) (fun h2 e2 kk2 => ?_)
  have I2 := I.kept (h' := h2) (t' := s.toks + (ps.zip us).length) kk2
  obtain ⟨t2, ho2⟩ := exo_at I2.hok ea
  have isK2 : K.In h2 := I2.kIn
  have up := T.up
  unfold PySem.W.ks_superIn at up
  rw [isD] at up
  have aC : a ≠ C := fun z => by
    have h3 := isK2 _ _ hC
    rw [← z, ho2] at h3
    cases h3
  have looksV : PySem.W.Looks (model P w) h2 (isInstance (.ref a) (.type "ValueError")) true :=
    (show PySem.W.InstAt h2 a _ C none from ⟨ho2, rfl, rfl, trivial⟩).type.andThen (PySem.W.looks_subIn isK2 T.isV)
  refine PySem.W.kxs_getMethod PySem.W.kxs_ValueError e2 (PySem.W.looks_opaque isK2 T.noAny) (l₀ := .ref C :: bm) (fun A Q E s k q => wpAny_bind ((PySem.W.looks_clsIn isK2 isD) A _ E s k (wpAny_pure q))) rfl isK2 up looksV aC rfl ?_
  have I3 := I2.kept (h' := h2.push (PySem.W.kxs_mw "ValueError.__init__" a)) (t' := s.toks + (ps.zip us).length + 1) (fun b o z => Heap.get?_push_of_some _ z)
  have eu : (h2.push (PySem.W.kxs_mw "ValueError.__init__" a)).get? h2.objs.size = some (PySem.W.kxs_mw "ValueError.__init__" a) := Heap.get?_push_at rfl rfl
  have I4 : Inv (cxS P w K mg base ps qual scope f cda cc A outer s H) [(h2.objs.size, PySem.W.kxs_mw "ValueError.__init__" a)] (vs.map some) H { s with heap := h2.push (PySem.W.kxs_mw "ValueError.__init__" a), toks := s.toks + (ps.zip us).length + 1 } := by
    refine I3.pins_of fun p hp => ?_
    cases List.mem_singleton.mp hp
    refine ⟨eu, I2.hok.fresh (Nat.le_refl _), fun z => ?_, I2.nofs (Nat.le_refl _), fun v z => by cases z⟩
    have := I2.lt
    rw [← z] at this
    exact absurd this (Nat.lt_irrefl _)
  refine PySem.W.kxs_callWith (i := "ValueError.__init__") (x := a) ?_ ?_
  · rw [he]
    exact hpl _ _
  have args : ∀ (R : Args → Shared → Prop) (Z : Value → Shared → Prop) (s4 : Shared), wpAny (model P w) (A.deeper (envS qual scope s.heap.objs.size f cda cc)) (spliced (backTo p3 (starEach (e :: es) (envS qual scope s.heap.objs.size f cda cc)))) (fun vs s' => R ⟨vs, []⟩ s') Z s4 →
      wpAny (model P w) (A.deeper (envS qual scope s.heap.objs.size f cda cc)) (evalArgs (.ref h2.objs.size) true (backTo p3 (starEach (e :: es) (envS qual scope s.heap.objs.size f cda cc))) []) R Z s4 := by
    intro R Z s4 h4
    rw [he] at h4 ⊢
    exact PySem.Calls.evalArgs_plain h4
  refine args _ _ _ (wpAny_mono (pa.run p3 _ _ _ _ _ I4 q) (fun ws s5 h5 => ?_) (fun _ _ z => z))
  obtain ⟨wv, H1, I5, r5, lw, ea5, q5⟩ := h5
  have pu := I5.pin (h2.objs.size, PySem.W.kxs_mw "ValueError.__init__" a) (List.mem_append_right _ (List.mem_singleton.mpr rfl))
  refine ⟨pu.1, ?_⟩
  refine init_bound T.ex I5 ea5 pu.1 ?_ (fun s6 I6 => ?_)
  · rw [List.nil_append, ← Paired.length r5, sizeLine_eq]
    omega
  have I7 : Inv (cxS P w K mg base ps qual scope f cda cc A outer s H) [] (vs.map some) H1 s6 := I6.pins_of fun p hp => by cases hp
  refine wpAt_of_wpAny (wpAny_mono (pb.run _ _ _ _ _ I7 q5) (fun fl s' hs => ?_) (fun _ _ z => z))
  cases fl with
  | ret u =>
    obtain ⟨v, _, H', J, rv, qq⟩ := hs
    exact ⟨v, H', J.os, J.bare, J.base, J.hok, rv, qq⟩
  | next =>
    obtain ⟨_, H', J, qq⟩ := hs
    exact ⟨V.non, H', J.os, J.bare, J.base, J.hok, rfl, qq⟩
  | brk =>
    obtain ⟨_, _, _, qq⟩ := hs
    exact qq.elim
  | cont =>
    obtain ⟨_, _, _, qq⟩ := hs
    exact qq.elim
end
end Su

/-! ## ArgumentError(reason), ScheduleError(number, reason) being made -/
namespace Er
open PySem PySem.Spec PyProof.Rows L2
section
variable {P : Program} {w : World} {K : PySem.W.Frag} {mg : Str → Option Value} {base : Heap}
abbrev sAE : Stmt := inClass (Tr.top 2) 0
def spAE (K : PySem.W.Frag) (C : Addr) : Sp := fun vs H Q _ => ∃ (a : Addr) (r : Str), vs = [.ref a, .str r] ∧ r.length ≤ 1000 ∧ H a = some (exo a C none) ∧ ∀ dx, H dx = none → dx ≠ a → Q .non (upd (upd H dx (exd dx [("reason", .str r)])) a (exo a C (some dx)))
theorem scAE : Su.Scp ["self", "reason"] (defScope sAE) := ⟨rfl, rfl, rfl, by decide +kernel, by decide +kernel, by decide +kernel, by decide +kernel, by decide +kernel, by decide +kernel⟩
theorem ok_ae {f cda cc C : Addr} {oc kV doc pm ct : Value} {od an : Option Addr} {osl : Array (Option Value)}
    (look : K.lookup f = some ⟨oc, od, .func (PySem.W.ksFn "__init__" "ArgumentError.__init__" (defArgs sAE) (defBody sAE) (defScope sAE) .none kV doc pm an (.ref cda) ct cc), osl⟩)
    (code : PySem.W.codeIn K (.ref cda) "ArgumentError.__init__" = true) (T : Su.Sup P K C cc cda) (n1 : PySem.W.findIn K (.ref C) "reason" = some none) :
    FnOk P w K mg base CX0 1 f (PySem.W.ksFn "__init__" "ArgumentError.__init__" (defArgs sAE) (defBody sAE) (defScope sAE) .none kV doc pm an (.ref cda) ct cc) ["self", "reason"] (spAE K C) := by
  refine Su.fn_sup look code scAE T rfl rfl (fun vs H Q E h => ?_) (fun A outer s H vs Q E hr h => ?_)
  · obtain ⟨a, r, rfl, _⟩ := h
    rfl
  · obtain ⟨a, r, rfl, hl2, ea, q⟩ := h
    refine ⟨a, _, _, rfl, ea, pa_cons (pe_joined (.cons pe_str (.cons (pe_fmt (pv 1)) .nil))) pa_nil, pss_one (ps_ost (pv 0) (pv 1)), ?_⟩
    refine ⟨_, rfl, ?_, _, rfl, .inl ⟨r, rfl, Nat.le_trans hl2 (by decide), _, rfl, ?_, ?_⟩⟩
    · exact Nat.le_trans (show (Str.empty ++ ("an argument is wrong: " : Str)).length ≤ 100 by decide +kernel) (by decide)
    · rw [strLen_append]
      exact Nat.le_trans (Nat.add_le_add (show (Str.empty ++ ("an argument is wrong: " : Str)).length ≤ 100 by decide +kernel) hl2) (by decide)
    refine ⟨(show 1 ≤ 1000 by decide), ea, ?_⟩
    exact ⟨_, rfl, _, rfl, a, C, rfl, T.ex, n1, .inl ⟨ea, fun dx hdx ne => q dx hdx ne⟩⟩
end
end Er

/-! ## PaperError(reason), ScheduleError(number, reason) being made -/
namespace Er
open PySem PySem.Spec PyProof.Rows L2
section
variable {P : Program} {w : World} {K : PySem.W.Frag} {mg : Str → Option Value} {base : Heap}
abbrev sQE : Stmt := inClass (Tr.top 4) 0
def spQE (K : PySem.W.Frag) (C : Addr) : Sp := fun vs H Q _ => ∃ (a : Addr) (r : Str), vs = [.ref a, .str r] ∧ r.length ≤ 1000 ∧ H a = some (exo a C none) ∧ ∀ dx, H dx = none → dx ≠ a → Q .non (upd (upd H dx (exd dx [("reason", .str r)])) a (exo a C (some dx)))
theorem scQE : Su.Scp ["self", "reason"] (defScope sQE) := ⟨rfl, rfl, rfl, by decide +kernel, by decide +kernel, by decide +kernel, by decide +kernel, by decide +kernel, by decide +kernel⟩
theorem ok_qe {f cda cc C : Addr} {oc kV doc pm ct : Value} {od an : Option Addr} {osl : Array (Option Value)}
    (look : K.lookup f = some ⟨oc, od, .func (PySem.W.ksFn "__init__" "PaperError.__init__" (defArgs sQE) (defBody sQE) (defScope sQE) .none kV doc pm an (.ref cda) ct cc), osl⟩)
    (code : PySem.W.codeIn K (.ref cda) "PaperError.__init__" = true) (T : Su.Sup P K C cc cda) (n1 : PySem.W.findIn K (.ref C) "reason" = some none) :
    FnOk P w K mg base CX0 1 f (PySem.W.ksFn "__init__" "PaperError.__init__" (defArgs sQE) (defBody sQE) (defScope sQE) .none kV doc pm an (.ref cda) ct cc) ["self", "reason"] (spQE K C) := by
  refine Su.fn_sup look code scQE T rfl rfl (fun vs H Q E h => ?_) (fun A outer s H vs Q E hr h => ?_)
  · obtain ⟨a, r, rfl, _⟩ := h
    rfl
  · obtain ⟨a, r, rfl, hl2, ea, q⟩ := h
    refine ⟨a, _, _, rfl, ea, pa_cons (pe_joined (.cons pe_str (.cons (pe_fmt (pv 1)) .nil))) pa_nil, pss_one (ps_ost (pv 0) (pv 1)), ?_⟩
    refine ⟨_, rfl, ?_, _, rfl, .inl ⟨r, rfl, Nat.le_trans hl2 (by decide), _, rfl, ?_, ?_⟩⟩
    · exact Nat.le_trans (show (Str.empty ++ ("the paper is wrong: " : Str)).length ≤ 100 by decide +kernel) (by decide)
    · rw [strLen_append]
      exact Nat.le_trans (Nat.add_le_add (show (Str.empty ++ ("the paper is wrong: " : Str)).length ≤ 100 by decide +kernel) hl2) (by decide)
    refine ⟨(show 1 ≤ 1000 by decide), ea, ?_⟩
    exact ⟨_, rfl, _, rfl, a, C, rfl, T.ex, n1, .inl ⟨ea, fun dx hdx ne => q dx hdx ne⟩⟩
end
end Er

namespace Tr
open PySem L2

section
variable {K : PySem.W.Frag}
theorem tv1 {H : Hp} {a : Addr} {x : V} {d : PyData} (h : H a = some (.tup [x])) (hx : Tv K H d x) : Tv K H (.tuple [d]) (.ref a) := ⟨a, _, rfl, SqT.of h, x, _, rfl, hx, rfl⟩
theorem tv2 {H : Hp} {a : Addr} {x y : V} {d e : PyData} (h : H a = some (.tup [x, y])) (hx : Tv K H d x) (hy : Tv K H e y) : Tv K H (.tuple [d, e]) (.ref a) := ⟨a, _, rfl, SqT.of h, x, _, rfl, hx, y, _, rfl, hy, rfl⟩
theorem tv3 {H : Hp} {a : Addr} {x y z : V} {d e g : PyData} (h : H a = some (.tup [x, y, z])) (hx : Tv K H d x) (hy : Tv K H e y) (hz : Tv K H g z) : Tv K H (.tuple [d, e, g]) (.ref a) := ⟨a, _, rfl, SqT.of h, x, _, rfl, hx, y, _, rfl, hy, z, _, rfl, hz, rfl⟩
theorem tv4 {H : Hp} {a : Addr} {x y z u : V} {d e g i : PyData} (h : H a = some (.tup [x, y, z, u])) (hx : Tv K H d x) (hy : Tv K H e y) (hz : Tv K H g z) (hu : Tv K H i u) : Tv K H (.tuple [d, e, g, i]) (.ref a) :=
  ⟨a, _, rfl, SqT.of h, x, _, rfl, hx, y, _, rfl, hy, z, _, rfl, hz, u, _, rfl, hu, rfl⟩
end

theorem cut_hi {xs : List V} {u : Int} (h0 : 0 ≤ u) : cutV xs none (some u) = xs.take u.toNat := by
  obtain ⟨k, rfl⟩ : ∃ k : Nat, u = (k : Int) := ⟨u.toNat, by omega⟩
  unfold cutV
  rw [HT.sIx_nat, HT.sIx_none, Nat.sub_zero, List.drop_zero]
  have e : ((k : Nat) : Int).toNat = k := by omega
  rw [e]
  rcases Nat.le_total k xs.length with h | h
  · rw [Nat.min_eq_left h]
  · rw [Nat.min_eq_right h, List.take_of_length_le h, List.take_of_length_le (Nat.le_refl _)]
theorem same_alloc {H : Hp} {q : Addr} {o : HO} (h : H q = none) : Same H (upd H q o) := fun b u e => by rw [upd_ne (ne_of_none e h)]; exact e
theorem same_put {H H' : Hp} {q : Addr} {o : HO} (s : Same H H') (h : H q = none) : Same H (upd H' q o) := fun b u e => by rw [upd_ne (ne_of_none e h)]; exact s b u e

/-! ## A caught error that has fields -/
namespace Ca
open PySem PySem.Spec PyProof.Rows L2
/-- isinstance of it -/
theorem call_isEr {X : Cx} {a D : Addr} {oe : Obj} {cls : Value} {d : Option Addr} {pn : List (Addr × Obj)} (C : ExcC X.K D) (hz : Zc cls d oe) (hf : ∃ vs, oe.data = .fields vs) :
    CallR (X.suite a ((a, oe) :: pn)) (.builtin "isinstance") (fun xs H Q => cls = .ref D ∧ (∃ (dd : Addr) (fs : List (Str × V)), d = some dd ∧ H dd = some (.xd fs)) ∧ rIsE X.K D a xs H Q) := by
  intro pins s σ H xs us Q I r h
  obtain ⟨rfl, ⟨dd, fs, rfl, ed⟩, c, cv, b, rfl, hcv, e, q⟩ := h
  cases r with
  | cons rx rr =>
    cases rr with
    | cons rt rr =>
      cases rr
      cases rx
      cases hcv _ rt
      have hget := (I.pin (a, oe) (List.mem_append.mpr (.inl List.mem_cons_self))).1
      obtain ⟨vs, hv⟩ := hf
      have hx : ObjOk X.prog X.w H s.heap dd (.xd fs) := I.hok dd _ ed
      obtain ⟨mA, hns, _⟩ := hx
      obtain ⟨od, ho, _⟩ := lookIn_ns hns
      have J : PySem.W.InstAt s.heap a oe D (some od) := ⟨hget, hz.1, by unfold PySem.W.notCls; rw [hv] <;> rfl, by rw [hz.2]; exact ho⟩
      have isc : (PySem.W.clsIn X.K D).isSome = true := by
        obtain ⟨cd, hc, _⟩ := PySem.W.any_some C.hd
        rw [hc]
        rfl
      exact PySem.W.kia_one (PySem.W.kitx_exc isc C.hg C.hk C.hs C.ha C.hn C.ht C.hm) I.kIn J e (fun z => nomatch z) fun tk => ⟨.bl b, H, I.kept (t' := tk) fun _ _ z => z, rfl, q⟩
end Ca

end Tr

/-! ## Tables of least costs: the mirror -/
namespace Sd
open PySem L2 Tr Pu PyProof.Rows
abbrev Ent := Option Nat × Nat
abbrev Tab := List (List Ent)
def cD : Option Nat → PyData
  | none => .none
  | some c => .int c
def cV : Option Nat → V
  | none => .non
  | some c => .int c
def entD (e : Ent) : PyData := .tuple [cD e.1, .int e.2]
def rowD (r : List Ent) : PyData := .tuple (r.map entD)
def cst (T : Tab) (t s : Nat) : Option Nat := ((T.getD (t - 1) []).getD s (none, 0)).1
def cand (T : Tab) (t s i : Nat) : Option (Nat × Nat) :=
  match cst T (t - (i + 1)) (s - 1), cst T (i + 1) s with
  | some b, some f => some (i + 1 + b + f, i + 1)
  | _, _ => none
def cands (T : Tab) (t s n : Nat) : List (Nat × Nat) := (List.range n).filterMap (cand T t s)
def minC : List (Nat × Nat) → Nat
  | [] => 0
  | e :: r => r.foldl (fun m x => if x.1 < m then x.1 else m) e.1
def right (T : Tab) (t s : Nat) : List Ent :=
  if t = 1 then [(some 0, 0)] else if s = 0 then [(none, 0)] else ((cands T t s (t - 1)).filter fun e => e.1 == minC (cands T t s (t - 1))).map fun e => (some e.1, e.2)
def rowN (T : Tab) (t n : Nat) : List Ent := (List.range n).map fun s => (right T t s).headD (none, 0)
def tabN (n : Nat) : Nat → Tab
  | 0 => []
  | k + 1 => tabN n k ++ [rowN (tabN n k) (k + 1) n]
theorem minC_le : ∀ {l : List (Nat × Nat)} {e : Nat × Nat}, e ∈ l → minC l ≤ e.1 := by
  have g : ∀ (r : List (Nat × Nat)) (m : Nat), r.foldl (fun m x => if x.1 < m then x.1 else m) m ≤ m ∧ ∀ x ∈ r, r.foldl (fun m x => if x.1 < m then x.1 else m) m ≤ x.1 := by
    intro r
    induction r with
    | nil => intro m; exact ⟨Nat.le_refl _, fun x h => by cases h⟩
    | cons y r ih =>
      intro m
      obtain ⟨h1, h2⟩ := ih (if y.1 < m then y.1 else m)
      rw [List.foldl_cons]
      refine ⟨Nat.le_trans h1 (by split <;> omega), fun x hx => ?_⟩
      rcases List.mem_cons.mp hx with rfl | hx
      · exact Nat.le_trans h1 (by split <;> omega)
      · exact h2 x hx
  intro l e h
  cases l with
  | nil => cases h
  | cons a r =>
    rcases List.mem_cons.mp h with rfl | h
    · exact (g r _).1
    · exact (g r _).2 e h
theorem minC_mem : ∀ {l : List (Nat × Nat)}, l ≠ [] → ∃ e ∈ l, e.1 = minC l := by
  have g : ∀ (r : List (Nat × Nat)) (m : Nat), r.foldl (fun m x => if x.1 < m then x.1 else m) m = m ∨ ∃ x ∈ r, x.1 = r.foldl (fun m x => if x.1 < m then x.1 else m) m := by
    intro r
    induction r with
    | nil => intro m; exact .inl rfl
    | cons y r ih =>
      intro m
      rw [List.foldl_cons]
      rcases ih (if y.1 < m then y.1 else m) with h | ⟨x, hx, h⟩
      · by_cases c : y.1 < m
        · rw [if_pos c] at h ⊢
          exact .inr ⟨y, List.mem_cons_self, h.symm⟩
        · rw [if_neg c] at h ⊢
          exact .inl h
      · exact .inr ⟨x, List.mem_cons_of_mem _ hx, h⟩
  intro l h
  cases l with
  | nil => exact absurd rfl h
  | cons a r =>
    rcases g r a.1 with h | ⟨x, hx, h⟩
    · exact ⟨a, List.mem_cons_self, h.symm⟩
    · exact ⟨x, List.mem_cons_of_mem _ hx, h⟩
/-- a table of m rows of n entries in which only entries without slots may have no cost -/
structure Okk (T : Tab) (n m : Nat) : Prop where
  len : m ≤ T.length
  row : ∀ j < m, (T.getD j []).length = n
  one : 0 < m → ∀ s < n, cst T 1 s = some 0
  cost : ∀ j < m, ∀ s, 1 ≤ s → s < n → ∃ c, cst T (j + 1) s = some c
theorem cands_succ (T : Tab) (t s i : Nat) : cands T t s (i + 1) = cands T t s i ++ (match cand T t s i with | some e => [e] | none => []) := by
  unfold cands
  rw [List.range_succ, List.filterMap_append]
  cases h : cand T t s i <;> simp [h]
theorem cands_ne {T : Tab} {n t s : Nat} (h : Okk T n (t - 1)) (ht : 2 ≤ t) (h1 : 1 ≤ s) (h2 : s < n) : cands T t s (t - 1) ≠ [] := by
  obtain ⟨k, rfl⟩ : ∃ k, t = k + 2 := ⟨t - 2, by omega⟩
  intro z
  have e1 : k + 2 - 1 = k + 1 := by omega
  rw [e1] at z h
  rw [cands_succ] at z
  obtain ⟨c, hc⟩ := h.cost k (by omega) s h1 h2
  have e : cand T (k + 2) s k = some (k + 1 + 0 + c, k + 1) := by
    unfold cand
    rw [show k + 2 - (k + 1) = 1 by omega, h.one (by omega) (s - 1) (by omega), hc]
  rw [e] at z
  simp at z
theorem right_head {T : Tab} {n t s : Nat} (h : Okk T n (t - 1)) (ht : 1 ≤ t) (h2 : s < n) : ∃ e r, right T t s = e :: r ∧ (1 ≤ s → ∃ c, e.1 = some c) ∧ (t = 1 → e = (some 0, 0)) := by
  unfold right
  by_cases c1 : t = 1
  · rw [if_pos c1]
    exact ⟨_, _, rfl, fun _ => ⟨0, rfl⟩, fun _ => rfl⟩
  · rw [if_neg c1]
    by_cases c2 : s = 0
    · rw [if_pos c2]
      exact ⟨_, _, rfl, fun z => absurd z (by omega), fun z => absurd z c1⟩
    · rw [if_neg c2]
      obtain ⟨e, he, hm⟩ := minC_mem (cands_ne h (by omega) (by omega) h2)
      cases q : (cands T t s (t - 1)).filter fun e => e.1 == minC (cands T t s (t - 1)) with
      | nil =>
        have : e ∈ (cands T t s (t - 1)).filter fun e => e.1 == minC (cands T t s (t - 1)) := List.mem_filter.mpr ⟨he, by simp [hm]⟩
        rw [q] at this
        cases this
      | cons a r => exact ⟨_, _, rfl, fun _ => ⟨a.1, rfl⟩, fun z => absurd z c1⟩
theorem tabN_len (n : Nat) : ∀ k, (tabN n k).length = k
  | 0 => rfl
  | k + 1 => by rw [tabN, List.length_append, tabN_len n k]; rfl
theorem okk_tab (n : Nat) : ∀ k, Okk (tabN n k) n k
  | 0 => ⟨Nat.zero_le _, fun j h => absurd h (Nat.not_lt_zero _), fun h => absurd h (Nat.lt_irrefl _), fun j h => absurd h (Nat.not_lt_zero _)⟩
  | k + 1 => by
    have ih := okk_tab n k
    have hl := tabN_len n k
    have lo : ∀ j, j < k → (tabN n (k + 1)).getD j [] = (tabN n k).getD j [] := fun j hj => by
      rw [tabN, List.getD_eq_getElem?_getD, List.getD_eq_getElem?_getD, List.getElem?_append_left (by omega)]
    have hi : (tabN n (k + 1)).getD k [] = rowN (tabN n k) (k + 1) n := by
      rw [tabN, List.getD_eq_getElem?_getD, List.getElem?_append_right (by omega), hl, Nat.sub_self]
      rfl
    have cl : ∀ j, j < k → ∀ s, cst (tabN n (k + 1)) (j + 1) s = cst (tabN n k) (j + 1) s := fun j hj s => by
      unfold cst
      rw [Nat.add_sub_cancel, lo j hj]
    have ch : ∀ s, s < n → cst (tabN n (k + 1)) (k + 1) s = ((right (tabN n k) (k + 1) s).headD (none, 0)).1 := fun s hs => by
      unfold cst
      rw [Nat.add_sub_cancel, hi]
      unfold rowN
      rw [List.getD_eq_getElem?_getD, List.getElem?_map, List.getElem?_range hs]
      rfl
    refine ⟨by rw [tabN_len]; exact Nat.le_refl _, fun j hj => ?_, fun _ s hs => ?_, fun j hj s h1 h2 => ?_⟩
    · by_cases c : j < k
      · rw [lo j c]
        exact ih.row j c
      · have : j = k := by omega
        subst this
        rw [hi]
        simp [rowN]
    · by_cases c : 0 < k
      · rw [cl 0 c]
        exact ih.one c s hs
      · have : k = 0 := by omega
        subst this
        rw [ch s hs]
        rfl
    · by_cases c : j < k
      · rw [cl j c]
        exact ih.cost j c s h1 h2
      · have : j = k := by omega
        subst this
        rw [ch s h2]
        obtain ⟨e, r, q, g, _⟩ := right_head (t := j + 1) ih (by omega) h2
        rw [q]
        exact g h1
end Sd

/-! ## min of pairs; the entries of a table -/
namespace Sd
open PySem L2 Tr Pu PyProof.Rows
section
variable {X : Cx}
def entC (e : Nat × Nat) : PyData := .tuple [.int e.1, .int e.2]
def rMinP (K : PySem.W.Frag) : List V → Hp → VK → Prop := fun vs H Q => ∃ (a : Addr) (x : Nat × Nat) (es : List (Nat × Nat)) (xs : List V), vs = [.ref a] ∧ SqL K H a xs ∧ TvL K H ((x :: es).map entC) xs ∧
  ∀ (i : Nat) (e : Nat × Nat) v, (x :: es)[i]? = some e → e.1 = minC (x :: es) → xs[i]? = some v → Q v H
theorem lt_pair (a b : Nat × Nat) : PySem.W.dataLt (entC a) (entC b) = (if a.1 = b.1 then decide (a.2 < b.2) else decide (a.1 < b.1)) := by
  have h := PySem.W.DatumOrd.lt_eq (α := Int × Int) ((a.1 : Int), (a.2 : Int)) ((b.1 : Int), (b.2 : Int))
  have e : PySem.W.dataLt (entC a) (entC b) = PySem.W.DatumOrd.lt (α := Int × Int) ((a.1 : Int), (a.2 : Int)) ((b.1 : Int), (b.2 : Int)) := h
  rw [e]
  show (if (a.1 : Int) = (b.1 : Int) then decide ((a.2 : Int) < (b.2 : Int)) else decide ((a.1 : Int) < (b.1 : Int))) = _
  by_cases c : a.1 = b.1
  · rw [if_pos c, if_pos (by omega)]
    congr 1
    exact propext (by omega)
  · rw [if_neg c, if_neg (by omega)]
    congr 1
    exact propext (by omega)
/-- the item that min picks has the least first part -/
theorem pick_min (x : Nat × Nat) (es : List (Nat × Nat)) : ∀ k, k ≤ es.length →
    argBest (fun i j => PySem.W.dataLt (((x :: es).map entC).getD i .none) (((x :: es).map entC).getD j .none)) k ≤ k ∧
      ∀ e, (x :: es)[argBest (fun i j => PySem.W.dataLt (((x :: es).map entC).getD i .none) (((x :: es).map entC).getD j .none)) k]? = some e → e.1 = minC (x :: es.take k) := by
  have gd : ∀ (i : Nat) (e : Nat × Nat), (x :: es)[i]? = some e → ((x :: es).map entC).getD i .none = entC e := fun i e h => by
    rw [List.getD_eq_getElem?_getD, List.getElem?_map, h]
    rfl
  intro k
  induction k with
  | zero =>
    intro _
    refine ⟨Nat.le_refl _, fun e h => ?_⟩
    have : x = e := Option.some.inj h
    subst this
    rfl
  | succ k ih =>
    intro hk
    obtain ⟨i1, i2⟩ := ih (by omega)
    obtain ⟨y, hy⟩ : ∃ y, es[k]? = some y := ⟨es[k], List.getElem?_eq_getElem hk⟩
    have hy2 : (x :: es)[k + 1]? = some y := by rw [List.getElem?_cons_succ]; exact hy
    obtain ⟨z, hz⟩ : ∃ z, (x :: es)[argBest (fun i j => PySem.W.dataLt (((x :: es).map entC).getD i .none) (((x :: es).map entC).getD j .none)) k]? = some z :=
      ⟨_, List.getElem?_eq_getElem (by rw [List.length_cons]; omega)⟩
    have hm := i2 z hz
    have et : es.take (k + 1) = es.take k ++ [y] := by rw [List.take_add_one, hy]; rfl
    have em : minC (x :: es.take (k + 1)) = if y.1 < z.1 then y.1 else z.1 := by
      rw [et, hm]
      show (es.take k ++ [y]).foldl _ x.1 = _
      rw [List.foldl_append]
      rfl
    have hstep : argBest (fun i j => PySem.W.dataLt (((x :: es).map entC).getD i .none) (((x :: es).map entC).getD j .none)) (k + 1) =
        if PySem.W.dataLt (entC y) (entC z) = true then k + 1 else argBest (fun i j => PySem.W.dataLt (((x :: es).map entC).getD i .none) (((x :: es).map entC).getD j .none)) k := by
      show (if PySem.W.dataLt (((x :: es).map entC).getD (k + 1) .none) (((x :: es).map entC).getD (argBest _ k) .none) = true then k + 1 else argBest _ k) = _
      rw [gd _ _ hy2, gd _ _ hz]
    rw [hstep, lt_pair]
    by_cases c : y.1 = z.1
    · rw [if_pos c]
      by_cases c2 : y.2 < z.2
      · rw [if_pos (decide_eq_true c2)]
        refine ⟨Nat.le_refl _, fun e h => ?_⟩
        rw [hy2] at h
        cases h
        rw [em, if_neg (by omega), c]
      · rw [if_neg (by simpa using c2)]
        refine ⟨Nat.le_succ_of_le i1, fun e h => ?_⟩
        rw [hz] at h
        cases h
        rw [em, if_neg (by omega)]
    · rw [if_neg c]
      by_cases c2 : y.1 < z.1
      · rw [if_pos (decide_eq_true c2)]
        refine ⟨Nat.le_refl _, fun e h => ?_⟩
        rw [hy2] at h
        cases h
        rw [em, if_pos c2]
      · rw [if_neg (by simpa using c2)]
        refine ⟨Nat.le_succ_of_le i1, fun e h => ?_⟩
        rw [hz] at h
        cases h
        rw [em, if_neg c2]
theorem alike_ents (es : List (Nat × Nat)) : PySem.W.AlikeAll (es.map entC) := by
  refine ⟨fun x hx y hy => ?_, fun x hx => ?_⟩
  · obtain ⟨a, _, rfl⟩ := List.mem_map.mp hx
    obtain ⟨b, _, rfl⟩ := List.mem_map.mp hy
    exact PySem.W.DatumOrd.alike (α := Int × Int) ((a.1 : Int), (a.2 : Int)) ((b.1 : Int), (b.2 : Int))
  · obtain ⟨a, _, rfl⟩ := List.mem_map.mp hx
    intro z
    cases z
theorem depth_ents (es : List (Nat × Nat)) : PyData.depthAll (es.map entC) ≤ 1 := by
  induction es with
  | nil => exact Nat.zero_le _
  | cons e r ih =>
    show max (PyData.depth (entC e)) (PyData.depthAll (r.map entC)) ≤ 1
    exact Nat.max_le.mpr ⟨by show max 0 (max 0 0) + 1 ≤ 1; decide, ih⟩
theorem lay_ents : ∀ es : List (Nat × Nat), PyData.canLayAll0 (es.map entC) = true
  | [] => rfl
  | e :: r => by
    show (PyData.canLay0 (entC e) && PyData.canLayAll0 (r.map entC)) = true
    rw [lay_ents r]
    rfl
theorem cr_minD (hc : X.calm = true) (hu : X.A.units + 64 < cLine) : CallR X (.builtin "min") (rMinP X.K) := by
  intro pins s σ H vs us Q I r h
  obtain ⟨a, x, es, xs, rfl, hs, tv, q⟩ := h
  obtain ⟨its, rv, hl, _⟩ := I.list hs
  rw [Vals.ref1 r]
  obtain ⟨as, ra⟩ := Dp.readsAll I _ xs its (dps_tv _ xs (lay_ents _) tv) rv
  have hr : ReadsAll s.heap its.toArray.toList ((x :: es).map entC) as := ra
  have hn : its.toArray.size = es.length + 1 := by
    have := PySem.W.readsAll_len hr
    rw [List.length_map] at this
    exact this
  refine PySem.call_min_walkH (PySem.W.iter_listW (A := X.A.in1) (I.ok.hd hc) hl.isList fun s₂ e W st hfp hw hk => ?_)
  have hd := depth_ents (x :: es)
  refine ⟨_, _, _, _, _, _, _, s.heap, _, rfl, W, st, hfp, by omega, hw, hk, PySem.W.cmpIn_lt (A := X.A.in1) hr (alike_ents _) (by show X.A.units + 1 + _ < _; omega), fun v s' hP m => ?_⟩
  obtain ⟨h', tk, rfl, hk'⟩ := PySem.W.moved_old e rfl m
  have e1 : its.toArray.size - 1 = es.length := by omega
  rw [e1] at hP
  obtain ⟨p1, p2⟩ := pick_min x es es.length (Nat.le_refl _)
  obtain ⟨z, hz⟩ : ∃ z, (x :: es)[argBest (fun i j => PySem.W.dataLt (((x :: es).map entC).getD i .none) (((x :: es).map entC).getD j .none)) es.length]? = some z :=
    ⟨_, List.getElem?_eq_getElem (by rw [List.length_cons]; omega)⟩
  have hm := p2 z hz
  rw [List.take_length] at hm
  have hv : its[argBest (fun i j => PySem.W.dataLt (((x :: es).map entC).getD i .none) (((x :: es).map entC).getD j .none)) es.length]? = some v := by simpa using hP
  have hx : argBest (fun i j => PySem.W.dataLt (((x :: es).map entC).getD i .none) (((x :: es).map entC).getD j .none)) es.length < xs.length := by
    rw [rv.length]
    exact (List.getElem?_eq_some_iff.mp hv).1
  obtain ⟨u, h1, h2⟩ := Vals.get rv (List.getElem?_eq_getElem hx)
  rw [hv] at h1
  cases h1
  exact ⟨_, H, I.kept hk', h2, q _ z _ hz hm (List.getElem?_eq_getElem hx)⟩
end
end Sd

/-! ## right_entries, table_rows, least -/
namespace Sd
open PySem L2 Tr Pu PyProof.Rows
section
variable {K : PySem.W.Frag} {H H' : Hp}
theorem tvl_snoc {ds : List PyData} {xs : List V} {d : PyData} {x : V} (h : TvL K H ds xs) (hx : Tv K H d x) : TvL K H (ds ++ [d]) (xs ++ [x]) := tvl_app h ⟨x, [], rfl, hx, rfl⟩
/-- a row of a table that is at hand -/
theorem row_at {ds : List PyData} {xs : List V} {T : Tab} {j n s : Nat} (tv : TvL K H ds xs) (hj : ds[j]? = some (rowD (T.getD j []))) (hn : (T.getD j []).length = n) (hs : s < n) :
    ∃ ra es ya k, atI xs (j : Int) = some (.ref ra) ∧ SqT K H ra es ∧ atI es (s : Int) = some (.ref ya) ∧ SqT K H ya [cV (cst T (j + 1) s), .int k] := by
  obtain ⟨x, hx, tx⟩ := tvl_get tv hj
  obtain ⟨ra, es, rfl, sq, l⟩ := tx
  obtain ⟨e, he⟩ : ∃ e, (T.getD j [])[s]? = some e := ⟨_, List.getElem?_eq_getElem (by omega)⟩
  obtain ⟨y, hy, ty⟩ := tvl_get (j := s) (d := entD e) l (by rw [List.getElem?_map, he]; rfl)
  obtain ⟨ya, zs, rfl, sq2, l2⟩ := ty
  obtain ⟨u, r, rfl, t1, k, r2, rfl, t2, rfl⟩ := l2
  have ec : cst T (j + 1) s = e.1 := by
    unfold cst
    rw [Nat.add_sub_cancel, List.getD_eq_getElem?_getD, he]
    rfl
  have eu : u = cV e.1 := by
    cases h : e.1 with
    | none => rw [h] at t1; exact t1
    | some c => rw [h] at t1; exact t1
  have ek : k = .int (e.2 : Int) := t2
  refine ⟨ra, es, ya, (e.2 : Int), atI_nat hx, sq, atI_nat hy, ?_⟩
  rw [ec, ← eu, ← ek]
  exact sq2
theorem ix_any {p : Addr} {xs : List V} {i : Int} {v : V} {Q : VK} (h : SqL K H p xs ∨ SqT K H p xs) (ha : atI xs i = some v) (q : Q v H) : rIxL K (.ref p) (.int i) H Q ∨ rIxT K (.ref p) (.int i) H Q := by
  rcases h with h | h
  · exact .inl ⟨p, xs, i, v, rfl, rfl, h, ha, q⟩
  · exact .inr ⟨p, xs, i, v, rfl, rfl, h, ha, q⟩
theorem sq_any {p : Addr} {xs : List V} (s : Same H H') (h : SqL K H p xs ∨ SqT K H p xs) : SqL K H' p xs ∨ SqT K H' p xs := by
  rcases h with h | h
  · exact .inl (s.seq h)
  · exact .inr (same_carry s _ _ h)
end
/-- what right_entries promises -/
def spRe (K : PySem.W.Frag) : Sp := fun vs H Q _ => ∃ (r : Addr) (ds : List PyData) (xs : List V) (T : Tab) (t s n : Nat), vs = [.ref r, .int (t : Int), .int (s : Int)] ∧ (SqL K H r xs ∨ SqT K H r xs) ∧ TvL K H ds xs ∧
  (∀ j < t - 1, ds[j]? = some (rowD (T.getD j []))) ∧ Okk T n (t - 1) ∧ 1 ≤ t ∧ t ≤ 41 ∧ s < n ∧ n ≤ 10 ∧
  ∀ p ys H', H p = none → Same H H' → H' p = some (.lst ys) → TvL K H' ((right T t s).map entD) ys → Q (.ref p) H'
abbrev sRe : Stmt := top 17
abbrev nRe : List Str := ["rows", "beats", "empty", "entries", "split", "behind", "before", "cost", "entry"]
section
variable {P : Program} {w : World} {K : PySem.W.Frag} {mg : Str → Option Value} {base : Heap}
theorem scRe : FnScope nRe ["rows", "beats", "empty"] (defScope sRe) := ⟨rfl, rfl, rfl, by decide +kernel, rfl, by decide +kernel, by decide +kernel⟩
theorem ok_re {f : Addr} {fd : FuncData} (F : Fun K "right_entries" "right_entries" sRe f fd) (T : Bi mg) (zMin : mg "min" = none) : FnOk P w K mg base CX0 1 f fd ["rows", "beats", "empty"] (spRe K) := by
  refine F.ok scRe (fun vs H Q E h => ?_) (fun cdv A outer s H vs Q E hr h => ?_)
  · obtain ⟨r, ds, xs, T, t, s, n, rfl, _⟩ := h
    rfl
  · obtain ⟨r, ds, xs, TT, t, s, n, rfl, hS, tv, hrow, ok, t1, t41, hs, n10, q⟩ := h
    have nd := scRe.nd
    have one : 1 ≤ sizeLine := by decide
    have two : 2 ≤ sizeLine := by decide
    refine ⟨_, pss_cons (ps_if (pt_cmpR op_eq (pv 1) pe_int (nomark _)) (pss_one (ps_ret (pe_lst (pa_cons (pe_tup (pa_cons pe_int (pa_cons pe_int pa_nil))) pa_nil)))) pss_nil)
      (pss_cons (ps_if (pt_cmpR op_eq (pv 2) pe_int (nomark _)) (pss_one (ps_ret (pe_lst (pa_cons (pe_tup (pa_cons pe_non (pa_cons pe_int pa_nil))) pa_nil)))) pss_nil)
      (pss_cons (ps_set (i := 3) nd rfl (.inl rfl) (pe_lst pa_nil))
      (pss_cons (ps_for PassesOwn.never rfl (pi_range2 rfl T.range (pa_cons pe_int (pa_cons (pv 1) pa_nil))) (pg_name (i := 4) nd rfl (.inl rfl)) (pss_cons (ps_par (i := 5) (j := 6) rfl nd rfl rfl (by decide) rfl rfl (pa_cons (pe_ix ix_tup (pe_ix ix_tup (pe_ix (IxR.or ix_list ix_tup) (pv 0) (pe_op op_sub (pe_op op_sub (pv 1) (pv 4)) pe_int) (fun _ _ => rfl)) (pe_op op_sub (pv 2) pe_int) (fun _ _ => rfl)) pe_int (fun _ _ => rfl)) (pa_cons (pe_ix ix_tup (pe_ix ix_tup (pe_ix (IxR.or ix_list ix_tup) (pv 0) (pe_op op_sub (pv 4) pe_int) (fun _ _ => rfl)) (pv 2) (fun _ _ => rfl)) pe_int (fun _ _ => rfl)) pa_nil)) (by rfl))
      (pss_one (ps_if (pt_cmpR op_notN (pv 5) pe_non (nomark _)) (pss_one (ps_expr (pe_bm PySem.F.plainAttrs_list PySem.F.slot_list_append PySem.F.type_list_append mt_append (pv 3) (pa_cons (pe_tup (pa_cons (pe_op op_add (pe_op op_add (pv 4) (pv 5)) (pv 6)) (pa_cons (pv 4) pa_nil))) pa_nil)))) pss_nil))))
      (pss_cons (ps_set (i := 7) nd rfl (.inr rfl) (pe_ix ix_tup (pe_callB (cr_minD rfl hr.units) rfl zMin (by decide +kernel) (pa_cons (pv 3) pa_nil)) pe_int (fun _ _ => rfl)))
      (pss_one (ps_ret (pe_lc (own := [("entry", 8)]) (g := gName 8) rfl nd (pi_list (pv 3)) (blkOk_by (N := nRe) (sc := defScope sRe) (by decide +kernel)) (fun _ _ _ _ _ => pg_name (i := 8) nd rfl (.inl rfl)) (fun _ _ _ _ _ => pts_one (pt_cmpR op_eq (pe_ix (ixT (K' := K) rfl) (pv 8) pe_int (fun _ _ => rfl)) (pv 7) (nomark _))) (fun _ _ _ _ _ => (pv 8))))))))), ?_⟩
    refine ⟨_, rfl, rfl, _, rfl, ?_⟩
    by_cases c1 : t = 1
    · refine iteT' (by subst c1; rfl) ?_
      refine ⟨two, fun a ha => ⟨one, fun p hp => ?_⟩⟩
      have ra : right TT t s = [(some 0, 0)] := by unfold right; rw [if_pos c1]
      have np : H p = none := by
        rw [upd_ne (ne_of_none upd_same hp).symm] at hp
        exact hp
      refine q p _ _ np ((same_alloc ha).trans (same_alloc hp)) upd_same ?_
      rw [ra]
      exact ⟨_, _, rfl, Tv.carry (carry_new hp) _ _ (tv2 upd_same rfl rfl), rfl⟩
    refine iteF' (by
      have : ¬ ((t : Int) = 1) := by omega
      simp [this]) ?_
    refine ⟨_, rfl, rfl, _, rfl, ?_⟩
    by_cases c2 : s = 0
    · refine iteT' (by subst c2; rfl) ?_
      refine ⟨two, fun a ha => ⟨one, fun p hp => ?_⟩⟩
      have ra : right TT t s = [(none, 0)] := by unfold right; rw [if_neg c1, if_pos c2]
      have np : H p = none := by
        rw [upd_ne (ne_of_none upd_same hp).symm] at hp
        exact hp
      refine q p _ _ np ((same_alloc ha).trans (same_alloc hp)) upd_same ?_
      rw [ra]
      exact ⟨_, _, rfl, Tv.carry (carry_new hp) _ _ (tv2 upd_same rfl rfl), rfl⟩
    refine iteF' (by
      have : ¬ (s = 0) := c2
      simp [this]) ?_
    refine ⟨Nat.zero_le _, fun E hE => ?_⟩
    have etn : ((t : Int) - 1).toNat = t - 1 := by omega
    refine ⟨_, rfl, 1, (t : Int), rfl, ⟨by decide, by decide, by omega, by omega⟩, for_range (lo := 1) (n := ((t : Int) - 1).toNat)
      (fun i σ H' => Same H H' ∧ (∃ ys, H' E = some (.lst ys) ∧ TvL K H' ((cands TT t s i).map entC) ys) ∧ ∃ w4 w5 w6 w7 w8 : Option V, σ = [some (.ref r), some (.int (t : Int)), some (.int (s : Int)), some (.ref E), w4, w5, w6, w7, w8])
      ⟨same_alloc hE, ⟨[], upd_same, rfl⟩, _, _, _, _, _, rfl⟩ ?_ ?_⟩
    · rintro i σ H1 hi ⟨sm, ⟨ys, eE, tys⟩, w4, w5, w6, w7, w8, rfl⟩
      rw [etn] at hi
      have tv1 := TvL.carry (same_carry sm) _ _ tv
      have hS1 := sq_any sm hS
      obtain ⟨ra, es, ya, k, h1, h2, h3, h4⟩ := row_at (s := s - 1) tv1 (hrow (t - (i + 1) - 1) (by omega)) (ok.row _ (by omega)) (by omega)
      obtain ⟨ra', es', ya', k', h1', h2', h3', h4'⟩ := row_at (s := s) tv1 (hrow i (by omega)) (ok.row _ (by omega)) hs
      have i1 : (t : Int) - (1 + (i : Int)) - 1 = ((t - (i + 1) - 1 : Nat) : Int) := by omega
      have i2 : (s : Int) - 1 = ((s - 1 : Nat) : Int) := by omega
      have i3 : 1 + (i : Int) - 1 = (i : Int) := by omega
      rw [← i1] at h1
      rw [← i2] at h3
      rw [← i3] at h1'
      rw [show t - (i + 1) - 1 + 1 = t - (i + 1) by omega] at h4
      obtain ⟨cf, hcf⟩ := ok.cost i (by omega) s (by omega) hs
      rw [hcf] at h4'
      refine ⟨_, rfl, _, rfl, _, rfl, _, _, rfl, rfl, _, _, rfl, rfl, ix_any hS1 h1 ?_⟩
      refine ⟨_, rfl, _, _, rfl, rfl, ra, es, _, _, rfl, rfl, h2, h3, ya, _, 0, _, rfl, rfl, h4, rfl, ?_⟩
      refine ⟨_, rfl, _, rfl, _, _, rfl, rfl, ix_any hS1 h1' ?_⟩
      refine ⟨_, rfl, ra', es', _, _, rfl, rfl, h2', h3', ya', _, 0, _, rfl, rfl, h4', rfl, _, _, rfl, ?_⟩
      cases hb : cst TT (t - (i + 1)) (s - 1) with
      | none =>
        refine ⟨_, rfl, rfl, _, rfl, iteF' rfl ?_⟩
        refine ⟨sm, ⟨ys, eE, ?_⟩, _, _, _, _, _, rfl⟩
        have ec : cands TT t s (i + 1) = cands TT t s i := by
          rw [cands_succ]
          have : cand TT t s i = none := by unfold cand; rw [hb]
          rw [this]
          exact List.append_nil _
        rw [ec]
        exact tys
      | some b =>
        refine ⟨_, rfl, rfl, _, rfl, iteT' rfl ?_⟩
        have sz : ys.length < sizeLine := by
          rw [tvl_len tys, List.length_map]
          have : (cands TT t s i).length ≤ i := by
            have := List.length_filterMap_le (cand TT t s) (List.range i)
            rw [List.length_range] at this
            exact this
          exact Nat.lt_of_le_of_lt (show _ ≤ 41 by omega) (by decide)
        refine ⟨_, rfl, .inl ⟨rfl, _, SqL.of eE⟩, _, rfl, _, rfl, _, _, rfl, rfl, _, rfl, _, _, rfl, rfl, ?_⟩
        refine ⟨_, rfl, two, fun a ha => ?_⟩
        have nE : E ≠ a := ne_of_none eE ha
        refine ⟨E, ys, _, rfl, rfl, by rw [upd_ne nE]; exact eE, sz, ?_⟩
        refine ⟨same_put (sm.trans (same_alloc ha)) hE, ⟨_, upd_same, ?_⟩, _, _, _, _, _, rfl⟩
        have ec : cands TT t s (i + 1) = cands TT t s i ++ [(i + 1 + b + cf, i + 1)] := by
          rw [cands_succ]
          have : cand TT t s i = some (i + 1 + b + cf, i + 1) := by unfold cand; rw [hb, hcf]
          rw [this]
        rw [ec, List.map_append]
        refine TvL.carry (carry_lst (ys := ys) (by rw [upd_ne nE]; exact eE)) _ _ (tvl_snoc (TvL.carry (carry_new ha) _ _ tys) ?_)
        have e1 : 1 + (i : Int) + (b : Int) + (cf : Int) = ((i + 1 + b + cf : Nat) : Int) := by omega
        have e2 : 1 + (i : Int) = ((i + 1 : Nat) : Int) := by omega
        exact tv2 upd_same (by show V.int _ = V.int _; rw [e1]) (by show V.int _ = V.int _; rw [e2])
    · rintro σ H1 ⟨sm, ⟨ys, eE, tys⟩, w4, w5, w6, w7, w8, rfl⟩
      rw [etn] at tys
      have ne := cands_ne (s := s) ok (by omega) (by omega) hs
      cases hc : cands TT t s (t - 1) with
      | nil => exact absurd hc ne
      | cons x es =>
        rw [hc] at tys
        refine ⟨_, rfl, E, x, es, ys, rfl, SqL.of eE, tys, fun i e v he hm hv => ?_⟩
        obtain ⟨d', hd', tv'⟩ : ∃ d', ((x :: es).map entC)[i]? = some d' ∧ Tv K H1 d' v := by
          obtain ⟨v', h1, h2⟩ := tvl_get (j := i) (d := entC e) tys (by rw [List.getElem?_map, he]; rfl)
          rw [hv] at h1
          cases h1
          exact ⟨_, by rw [List.getElem?_map, he]; rfl, h2⟩
        have : d' = entC e := by
          rw [List.getElem?_map, he] at hd'
          exact (Option.some.inj hd').symm
        subst this
        obtain ⟨va, vs, rfl, sq, u1, r1, rfl, tu1, u2, r2, rfl, tu2, rfl⟩ := tv'
        have eu : u1 = .int (e.1 : Int) := tu1
        subst eu
        refine ⟨va, _, 0, _, rfl, rfl, sq, rfl, ?_⟩
        have em : e.1 = minC (cands TT t s (t - 1)) := by rw [hc]; exact hm
        refine ⟨_, rfl, E, rfl, ⟨_, SqL.of eE⟩, fun D hD => ?_⟩
        refine lc_list (K := K) (a := E) (xs := ys) (fun j H' => Same H1 H' ∧ ∃ zs, H' D = some (.lst zs) ∧ zs.length ≤ j ∧ TvL K H' ((((x :: es).take j).filter fun a => a.1 == e.1).map entC) zs)
          ⟨same_alloc hD, [], upd_same, Nat.le_refl _, rfl⟩ (fun j H' _ h => SqL.of (h.1 _ _ eE)) ?_ ?_
        · rintro j y H2 hj ⟨s2, zs, eD, lz, tz⟩
          obtain ⟨a, ha⟩ : ∃ a, (x :: es)[j]? = some a := by
            have hl : j < ys.length := (List.getElem?_eq_some_iff.mp hj).1
            have := tvl_len tys
            rw [List.length_map] at this
            exact ⟨_, List.getElem?_eq_getElem (by omega)⟩
          obtain ⟨y', h1, h2⟩ := tvl_get (j := j) (d := entC a) tys (by rw [List.getElem?_map, ha]; rfl)
          rw [hj] at h1
          cases h1
          have ty2 := Tv.carry (same_carry s2) _ _ h2
          obtain ⟨yb, vs, rfl, sq2, u3, r3, rfl, tu3, u4, r4, rfl, tu4, rfl⟩ := id ty2
          have eu3 : u3 = .int (a.1 : Int) := tu3
          subst eu3
          have tk : (x :: es).take (j + 1) = (x :: es).take j ++ [a] := by rw [List.take_add_one, ha]; rfl
          refine ⟨rfl, _, rfl, yb, _, 0, _, rfl, rfl, sq2, rfl, _, rfl, rfl, _, rfl, ?_⟩
          by_cases c : a.1 = e.1
          · refine iteT' (by simp [c]) ?_
            refine ⟨_, rfl, zs, eD, ?_, same_put s2 hD, _, upd_same, ?_, ?_⟩
            · have hl : j < ys.length := (List.getElem?_eq_some_iff.mp hj).1
              have := tvl_len tys
              rw [List.length_map, ← hc] at this
              have l2 : (cands TT t s (t - 1)).length ≤ t - 1 := by
                have := List.length_filterMap_le (cand TT t s) (List.range (t - 1))
                rw [List.length_range] at this
                exact this
              exact Nat.lt_of_le_of_lt (show _ ≤ 41 by omega) (by decide)
            · rw [List.length_append]
              exact Nat.succ_le_succ lz
            · rw [tk, List.filter_append, List.map_append]
              have : [a].filter (fun a => a.1 == e.1) = [a] := by simp [c]
              rw [this]
              exact TvL.carry (carry_lst eD) _ _ (tvl_snoc tz ty2)
          · refine iteF' (by
              have : ¬ ((a.1 : Int) = (e.1 : Int)) := by omega
              simp [this]) ?_
            refine ⟨s2, zs, eD, Nat.le_succ_of_le lz, ?_⟩
            rw [tk, List.filter_append]
            have : [a].filter (fun a => a.1 == e.1) = [] := by simp [c]
            rw [this, List.append_nil]
            exact tz
        · rintro H2 ⟨s2, zs, eD, lz, tz⟩
          have ll : ys.length = (x :: es).length := by
            have := tvl_len tys
            rw [List.length_map] at this
            exact this
          rw [ll, List.take_length] at tz
          have np : H D = none := by
            cases q2 : H D with
            | none => rfl
            | some o =>
              have := sm _ _ q2
              rw [hD] at this
              cases this
          refine q D zs H2 np (sm.trans s2) eD ?_
          have er : (right TT t s).map entD = (((x :: es).filter fun a => a.1 == e.1).map entC) := by
            unfold right
            rw [if_neg c1, if_neg c2, List.map_map, em, hc]
            rfl
          rw [er]
          exact tz
end
end Sd

namespace Sd
open PySem L2 Tr Pu PyProof.Rows
/-- what table_rows promises -/
def spTr (K : PySem.W.Frag) : Sp := fun vs H Q _ => ∃ (b s : Nat), vs = [.int (b : Int), .int (s : Int)] ∧ b ≤ 40 ∧ s ≤ 8 ∧
  ∀ p xs H', H p = none → Same H H' → H' p = some (.lst xs) → TvL K H' ((tabN (s + 1) b).map rowD) xs → Q (.ref p) H'
abbrev sTr : Stmt := top 16
abbrev nTr : List Str := ["beats", "slots", "rows", "number", "empty"]
theorem none_back {H H' : Hp} {p : Addr} (s : Same H H') (h : H' p = none) : H p = none := by
  cases q : H p with
  | none => rfl
  | some o =>
    have := s _ _ q
    rw [h] at this
    cases this
theorem at0 (y : V) (ys : List V) : atI (y :: ys) 0 = some y := atI_nat (xs := y :: ys) (j := 0) rfl
section
variable {P : Program} {w : World} {K : PySem.W.Frag} {mg : Str → Option Value} {base : Heap}
theorem scTr : FnScope nTr ["beats", "slots"] (defScope sTr) := ⟨rfl, rfl, rfl, by decide +kernel, rfl, by decide +kernel, by decide +kernel⟩
theorem ok_tr {f : Addr} {fd : FuncData} (F : Fun K "table_rows" "table_rows" sTr f fd) (T : Bi mg) (c_re : Cal P w K mg base CX0 1 "right_entries" ["rows", "beats", "empty"] (spRe K)) : FnOk P w K mg base CX0 2 f fd ["beats", "slots"] (spTr K) := by
  refine F.ok scTr (fun vs H Q E h => ?_) (fun cdv A outer s H vs Q E hr h => ?_)
  · obtain ⟨b, s, rfl, _⟩ := h
    rfl
  · obtain ⟨b, s, rfl, hb, hs, q⟩ := h
    have nd := scTr.nd
    refine ⟨_, pss_cons (ps_set (i := 2) nd rfl (.inr rfl) (pe_lst pa_nil))
      (pss_cons (ps_for PassesOwn.never rfl (pi_range2 rfl T.range (pa_cons pe_int (pa_cons (pe_op op_add (pv 0) pe_int) pa_nil))) (pg_name (i := 3) nd rfl (.inr rfl)) (pss_one (ps_expr (pe_bm PySem.F.plainAttrs_list PySem.F.slot_list_append PySem.F.type_list_append mt_append (pv 2) (pa_cons (pe_callTy call_tuple_of rfl T.tuple PyProof.Rows.boot_tuple (pa_cons (pe_lc (own := [("empty", 4)]) (g := gName 4) (tt := tYes) rfl nd (pi_range1 rfl T.range (pa_cons (pe_op op_add (pv 1) pe_int) pa_nil)) (blkOk_by (N := nTr) (sc := defScope sTr) (by decide +kernel)) (fun _ _ _ _ _ => pg_name (i := 4) nd rfl (.inl rfl)) (fun _ _ _ _ _ => pts_nil) (fun _ _ _ _ _ => (pe_ix (ixL (K' := K) rfl) (pe_call c_re.ok (hr.mono (by first | decide | omega)) rfl c_re.m c_re.kp c_re.b .nil pass0 (pa_cons (pv 2) (pa_cons (pv 3) (pa_cons (pv 4) pa_nil)))) pe_int (fun _ _ => rfl)))) pa_nil)) pa_nil)))))
      (pss_one (ps_ret (pv 2)))), ?_⟩
    refine ⟨Nat.zero_le _, fun E hE => ?_⟩
    have etn : ((b : Int) + 1 - 1).toNat = b := by omega
    refine ⟨_, rfl, _, _, rfl, rfl, 1, (b : Int) + 1, rfl, ⟨by decide, by decide, by omega, by omega⟩, for_range (lo := 1) (n := ((b : Int) + 1 - 1).toNat)
      (fun i σ H' => Same H H' ∧ (∃ xs, H' E = some (.lst xs) ∧ TvL K H' ((tabN (s + 1) i).map rowD) xs) ∧ ∃ w3 w4 : Option V, σ = [some (.int (b : Int)), some (.int (s : Int)), some (.ref E), w3, w4])
      ⟨same_alloc hE, ⟨[], upd_same, rfl⟩, _, _, rfl⟩ ?_ ?_⟩
    · rintro i σ H1 hi ⟨sm, ⟨xs, eE, txs⟩, w3, w4, rfl⟩
      rw [etn] at hi
      have esn : ((s : Int) + 1).toNat = s + 1 := by omega
      refine ⟨_, rfl, .inl ⟨rfl, _, SqL.of eE⟩, _, rfl, _, _, rfl, rfl, (s : Int) + 1, rfl, by omega, by omega, fun D hD => ?_⟩
      refine lc_range (lo := 0) (n := ((s : Int) + 1).toNat) (fun j H' => Same H1 H' ∧ ∃ zs, H' D = some (.lst zs) ∧ TvL K H' ((List.range j).map fun e => entD ((right (tabN (s + 1) i) (i + 1) e).headD (none, 0))) zs)
        ⟨same_alloc hD, [], upd_same, rfl⟩ ?_ ?_
      · rintro j H2 hj ⟨s2, zs, eD, tz⟩
        rw [esn] at hj
        have ok := okk_tab (s + 1) i
        refine ⟨rfl, _, rfl, _, rfl, _, rfl, E, _, xs, tabN (s + 1) i, i + 1, j, s + 1, ?_, .inl (SqL.of (s2 _ _ eE)), TvL.carry (same_carry s2) _ _ txs, fun l hl => ?_, ok, by omega, by omega, hj, by omega, fun p ys H3 np s3 ep tp => ?_⟩
        · show [V.ref E, V.int (1 + (i : Int)), V.int (0 + (j : Int))] = _
          rw [show 1 + (i : Int) = ((i + 1 : Nat) : Int) by omega, show 0 + (j : Int) = (j : Int) by omega]
        · rw [List.getElem?_map, List.getD_eq_getElem?_getD]
          have : l < (tabN (s + 1) i).length := by rw [tabN_len]; omega
          rw [List.getElem?_eq_getElem this]
          rfl
        · obtain ⟨e, r, hR, _, _⟩ := right_head (t := i + 1) ok (by omega) hj
          rw [hR] at tp
          obtain ⟨y, ys', rfl, ty, tr'⟩ := tp
          have hd : (right (tabN (s + 1) i) (i + 1) j).headD (none, 0) = e := by rw [hR]; rfl
          refine ⟨p, _, 0, y, rfl, rfl, SqL.of ep, at0 y ys', zs, s3 _ _ eD, ?_, same_put (s2.trans s3) hD, _, upd_same, ?_⟩
          · rw [tvl_len tz, List.length_map, List.length_range]
            exact Nat.lt_of_le_of_lt (show j ≤ 41 by omega) (by decide)
          · rw [List.range_succ, List.map_append]
            refine TvL.carry (carry_lst (s3 _ _ eD)) _ _ (tvl_snoc (TvL.carry (same_carry s3) _ _ tz) ?_)
            show Tv K H3 (entD ((right (tabN (s + 1) i) (i + 1) j).headD (none, 0))) y
            rw [hd]
            exact ty
      · rintro H2 ⟨s2, zs, eD, tz⟩
        rw [esn] at tz
        refine ⟨D, zs, rfl, .inl ⟨SqL.of eD, fun l hl => ?_⟩⟩
        have nEl : E ≠ l := ne_of_none (s2 _ _ eE) hl
        refine ⟨E, xs, _, rfl, rfl, by rw [upd_ne nEl]; exact s2 _ _ eE, ?_, same_put ((sm.trans s2).trans (same_alloc hl)) hE, ⟨_, upd_same, ?_⟩, _, _, rfl⟩
        · rw [tvl_len txs, List.length_map, tabN_len]
          exact Nat.lt_of_le_of_lt (show i ≤ 41 by omega) (by decide)
        · rw [tabN, List.map_append]
          refine TvL.carry (carry_lst (ys := xs) (by rw [upd_ne nEl]; exact s2 _ _ eE)) _ _ (tvl_snoc (TvL.carry (carry_new hl) _ _ (TvL.carry (same_carry s2) _ _ txs)) ?_)
          refine ⟨l, zs, rfl, SqT.of upd_same, TvL.carry (carry_new hl) _ _ ?_⟩
          unfold rowN
          rw [List.map_map]
          exact tz
    · rintro σ H1 ⟨sm, ⟨xs, eE, txs⟩, w3, w4, rfl⟩
      rw [etn] at txs
      exact ⟨_, rfl, q E xs H1 hE sm eE txs⟩
end
end Sd

/-! ## the numbers of beats and of slots -/
namespace Sd
open PySem L2 Tr Pu PyProof.Rows
def isI : PyData → Bool
  | .int _ => true
  | _ => false
def dIsi (ds : List PyData) (d : PyData) : Prop := ∃ x, ds = [x] ∧ d = .bool (isI x)
def btw (x : PyData) (a b : Int) : Bool :=
  match x with
  | .int i => decide (a ≤ i) && decide (i ≤ b)
  | _ => false
def dBtw (ds : List PyData) (d : PyData) : Prop := ∃ (x : PyData) (a b : Int), ds = [x, .int a, .int b] ∧ d = .bool (btw x a b)
abbrev sIsi : Stmt := top 8
abbrev sBtw : Stmt := top 9
abbrev sCkb : Stmt := top 11
abbrev sCkn : Stmt := top 15
section
variable {P : Program} {w : World} {K : PySem.W.Frag} {mg : Str → Option Value} {base : Heap}
/-- how an own error is made: its class's __init__ -/
structure Mk (P : Program) (w : World) (K : PySem.W.Frag) (mg : Str → Option Value) (base : Heap) (x : Str) (C : Addr) (ps : List Str) (sp : Sp) where
  fI : Addr
  fd : FuncData
  ok : FnOk P w K mg base CX0 1 fI fd ps sp
  b : Binds K fd ps []
  ex : OexC K C
  iC : PySem.W.findIn K (.ref C) "__init__" = some (some (.ref fI))
  tI : PySem.W.typeIn K (.ref fI) = some (.type "function")
  m : mg x = some (.ref C)
theorem scIsi : FnScope ["value"] ["value"] (defScope sIsi) := ⟨rfl, rfl, rfl, by decide +kernel, rfl, by decide +kernel, by decide +kernel⟩
theorem ok_isi {f : Addr} {fd : FuncData} (F : Fun K "is_integer" "is_integer" sIsi f fd) (T : Bi mg) : FnOk P w K mg base CX0 1 f fd ["value"] (spP K 1 dIsi) := by
  refine ok_P F scIsi (by decide) (fun cdv A outer s H E hr => ⟨_, pss_one (ps_ret (pe_and (pe_callB call_isi rfl T.isinstance PyProof.Rows.boot_isinstance (pa_cons (pv 0) (pa_cons (pe_bltn (v := .ty "int") rfl T.int PyProof.Rows.boot_int rfl) pa_nil))) (pe_one (pe_not (pe_callB call_isi rfl T.isinstance PyProof.Rows.boot_isinstance (pa_cons (pv 0) (pa_cons (pe_bltn (v := .ty "bool") rfl T.bool PyProof.Rows.boot_bool rfl) pa_nil))))))), ?_⟩)
  rintro ds d - ⟨x, rfl, rfl⟩
  cases x with
  | none => exact dr_ret (de_andF (de_isi (de_var rfl) (show kitB "NoneType" "int" = some false by decide +kernel)))
  | bool b => exact dr_ret (de_andT (de_isi (de_var rfl) (show kitB "bool" "int" = some true by decide +kernel)) (de_not (de_isi (d := .bool b) (n := "bool") (b := true) (de_var rfl) (show kitB "bool" "bool" = some true by decide +kernel))))
  | int i => exact dr_ret (de_andT (de_isi (de_var rfl) (show kitB "int" "int" = some true by decide +kernel)) (de_not (de_isi (d := .int i) (n := "bool") (b := false) (de_var rfl) (show kitB "int" "bool" = some false by decide +kernel))))
  | str z => exact dr_ret (de_andF (de_isi (de_var rfl) (show kitB "str" "int" = some false by decide +kernel)))
  | tuple l => exact dr_ret (de_andF (de_isi (de_var rfl) (show kitB "tuple" "int" = some false by decide +kernel)))
  | list l => exact dr_ret (de_andF (de_isi (de_var rfl) (show kitB "list" "int" = some false by decide +kernel)))
  | dict l => exact dr_ret (de_andF (de_isi (de_var rfl) (show kitB "list" "int" = some false by decide +kernel)))
theorem pv_isi {x : PyData} : PV K (spP K 1 dIsi) [x] (.bool (isI x)) := pv_P ⟨x, rfl, rfl⟩
theorem scBtw : FnScope ["value", "least", "most"] ["value", "least", "most"] (defScope sBtw) := ⟨rfl, rfl, rfl, by decide +kernel, rfl, by decide +kernel, by decide +kernel⟩
theorem ok_btw {f : Addr} {fd : FuncData} (F : Fun K "is_between" "is_between" sBtw f fd) (c_isi : Cal P w K mg base CX0 1 "is_integer" ["value"] (spP K 1 dIsi)) : FnOk P w K mg base CX0 2 f fd ["value", "least", "most"] (spP K 3 dBtw) := by
  refine ok_P F scBtw (by decide) (fun cdv A outer s H E hr => ⟨_, pss_one (ps_ret (pe_and (pe_call c_isi.ok (hr.mono (by first | decide | omega)) rfl c_isi.m c_isi.kp c_isi.b .nil pass0 (pa_cons (pv 0) pa_nil)) (pe_one (pe_chain op_le op_le (pv 1) (pv 0) (pv 2))))), ?_⟩)
  rintro ds d - ⟨x, a, b, rfl, rfl⟩
  have arg : DA K (tCons (tVar 0) tNil) (List.map some [x, .int a, .int b] ++ List.replicate (3 - 3) none) [x] := da_one (de_var rfl)
  cases x with
  | int i =>
    apply dr_ret
    apply de_andT
    · exact de_call arg pv_isi
    · exact de_chain (de_var rfl) (de_var rfl) (de_var rfl)
  | none => exact dr_ret (de_andF (de_call arg pv_isi))
  | bool b => exact dr_ret (de_andF (de_call arg pv_isi))
  | str z => exact dr_ret (de_andF (de_call arg pv_isi))
  | tuple l => exact dr_ret (de_andF (de_call arg pv_isi))
  | list l => exact dr_ret (de_andF (de_call arg pv_isi))
  | dict l => exact dr_ret (de_andF (de_call arg pv_isi))
theorem pv_btw {x : PyData} {a b : Int} : PV K (spP K 3 dBtw) [x, .int a, .int b] (.bool (btw x a b)) := pv_P ⟨x, a, b, rfl, rfl⟩
/-- the error of an argument being raised -/
theorem err_A {C : Addr} {H H1 : Hp} {W : XK} {r : Str} (sm : Same H H1) (hr : r.length ≤ 1000) (k : ∀ d H', Same H H' → H' d = some (.xd [("reason", .str r)]) → W (.ref C) (some d) H') :
    [V.str r].length ≤ 1000 ∧ ∀ a, H1 a = none → Er.spAE K C (.ref a :: ([V.str r] ++ [])) (upd H1 a (exo a C none))
      (fun v H2 => v = .non ∧ ∃ (d : Addr) (fs : List (Str × V)), H2 a = some (exo a C (some d)) ∧ H2 d = some (exd d fs) ∧ H1 d = none ∧ W (.ref C) (some d) (upd (del H2 a) d (.xd fs))) (fun _ _ _ => False) := by
  refine ⟨(show 1 ≤ 1000 by decide), fun a ha => ⟨a, r, rfl, hr, upd_same, fun dx hdx ne => ⟨rfl, dx, _, upd_same, (by rw [upd_ne ne]; exact upd_same), (by rw [upd_ne ne] at hdx; exact hdx), ?_⟩⟩⟩
  rw [upd_ne ne] at hdx
  refine k dx _ (fun b u e => ?_) upd_same
  have e1 := sm _ _ e
  have nb : b ≠ a := ne_of_none e1 ha
  have nb2 : b ≠ dx := ne_of_none e1 hdx
  rw [upd_ne nb2, del_ne nb, upd_ne nb, upd_ne nb2, upd_ne nb]
  exact e1
/-- what check_beats promises -/
def spCkb (K : PySem.W.Frag) (CA : Addr) : Sp := fun vs H Q E => ∃ (v : V) (x : PyData), vs = [v] ∧ Tv K H x v ∧ (btw x 0 40 = true → ∀ H', Same H H' → Q .non H') ∧
  (btw x 0 40 = false → ∀ d H', Same H H' → H' d = some (.xd [("reason", .str "beats")]) → E (.ref CA) (some d) H')
def spCkn (K : PySem.W.Frag) (CA : Addr) : Sp := fun vs H Q E => ∃ (v u : V) (x y : PyData), vs = [v, u] ∧ Tv K H x v ∧ Tv K H y u ∧ (btw x 0 40 = true → btw y 0 8 = true → ∀ H', Same H H' → Q .non H') ∧
  (btw x 0 40 = false → ∀ d H', Same H H' → H' d = some (.xd [("reason", .str "beats")]) → E (.ref CA) (some d) H') ∧
  (btw x 0 40 = true → btw y 0 8 = false → ∀ d H', Same H H' → H' d = some (.xd [("reason", .str "slots")]) → E (.ref CA) (some d) H')
theorem scCkb : FnScope ["beats"] ["beats"] (defScope sCkb) := ⟨rfl, rfl, rfl, by decide +kernel, rfl, by decide +kernel, by decide +kernel⟩
theorem ok_ckb {f CA : Addr} {fd : FuncData} (F : Fun K "check_beats" "check_beats" sCkb f fd) {tB : Tok} (gB : mg "MAX_BEATS" = some (.int 40 tB)) (c_btw : Cal P w K mg base CX0 2 "is_between" ["value", "least", "most"] (spP K 3 dBtw))
    (c_mkA : Mk P w K mg base "ArgumentError" CA ["self", "reason"] (Er.spAE K CA)) : FnOk P w K mg base (L2.CX P w) 3 f fd ["beats"] (spCkb K CA) := by
  refine F.okX scCkb (fun vs H Q E h => ?_) (fun cdv A outer s H vs Q E hr h => ?_)
  · obtain ⟨v, x, rfl, _⟩ := h
    rfl
  · obtain ⟨v, x, rfl, tx, q1, q2⟩ := h
    refine ⟨_, pss_one (ps_if (pt_not (pt_val (pe_call c_btw.ok (hr.mono (by first | decide | omega)) rfl c_btw.m c_btw.kp c_btw.b .nil pass0 (pa_cons (pv 0) (pa_cons pe_int (pa_cons (pe_glob (v := .int 40) rfl gB ⟨_, rfl⟩) pa_nil)))))) (pss_one (ps_raise rfl (takes_of rfl rfl rfl rfl) (pmk_oex c_mkA.ex c_mkA.iC c_mkA.tI c_mkA.ok (hr.mono (by first | decide | omega)) c_mkA.b .nil pass0 rfl c_mkA.m (pa_cons pe_str pa_nil)))) pss_nil), ?_⟩
    refine ⟨_, rfl, [x, .int 0, .int 40], _, rfl, ⟨_, _, rfl, tx, _, _, rfl, rfl, _, _, rfl, rfl, rfl⟩, ⟨x, 0, 40, rfl, rfl⟩, fun u H1 s1 tu => ?_⟩
    cases tu
    refine ⟨_, rfl, ?_⟩
    cases c : btw x 0 40 with
    | true => exact iteF' rfl (q1 c H1 s1)
    | false =>
      refine iteT' rfl ?_
      exact err_A s1 (by decide +kernel) fun d H' s2 e => q2 c d H' s2 e
theorem scCkn : FnScope ["beats", "slots"] ["beats", "slots"] (defScope sCkn) := ⟨rfl, rfl, rfl, by decide +kernel, rfl, by decide +kernel, by decide +kernel⟩
theorem ok_ckn {f CA : Addr} {fd : FuncData} (F : Fun K "check_numbers" "check_numbers" sCkn f fd) {tK : Tok} (gK : mg "MAX_KEPT" = some (.int 8 tK)) (c_btw : Cal P w K mg base CX0 2 "is_between" ["value", "least", "most"] (spP K 3 dBtw))
    (c_ckb : Cal P w K mg base (L2.CX P w) 3 "check_beats" ["beats"] (spCkb K CA))
    (c_mkA : Mk P w K mg base "ArgumentError" CA ["self", "reason"] (Er.spAE K CA)) : FnOk P w K mg base (L2.CX P w) 4 f fd ["beats", "slots"] (spCkn K CA) := by
  refine F.okX scCkn (fun vs H Q E h => ?_) (fun cdv A outer s H vs Q E hr h => ?_)
  · obtain ⟨v, u, x, y, rfl, _⟩ := h
    rfl
  · obtain ⟨v, u, x, y, rfl, tx, ty, q1, q2, q3⟩ := h
    refine ⟨_, pss_cons (ps_expr (pe_call c_ckb.ok (hr.mono (by first | decide | omega)) rfl c_ckb.m c_ckb.kp c_ckb.b .nil (passes_call (takes_of rfl rfl rfl rfl) (fun _ _ _ _ h => h)) (pa_cons (pv 0) pa_nil)))
      (pss_one (ps_if (pt_not (pt_val (pe_call c_btw.ok (hr.mono (by first | decide | omega)) rfl c_btw.m c_btw.kp c_btw.b .nil pass0 (pa_cons (pv 1) (pa_cons pe_int (pa_cons (pe_glob (v := .int 8) rfl gK ⟨_, rfl⟩) pa_nil)))))) (pss_one (ps_raise rfl (takes_of rfl rfl rfl rfl) (pmk_oex c_mkA.ex c_mkA.iC c_mkA.tI c_mkA.ok (hr.mono (by first | decide | omega)) c_mkA.b .nil pass0 rfl c_mkA.m (pa_cons pe_str pa_nil)))) pss_nil)), ?_⟩
    refine ⟨_, rfl, v, x, rfl, tx, fun c1 H1 s1 => ?_, fun c1 d H' s1 e => q2 c1 d H' s1 e⟩
    have ty1 := ty.carry (same_carry s1)
    refine ⟨_, rfl, [y, .int 0, .int 8], _, rfl, ⟨_, _, rfl, ty1, _, _, rfl, rfl, _, _, rfl, rfl, rfl⟩, ⟨y, 0, 8, rfl, rfl⟩, fun u H2 s2 tu => ?_⟩
    cases tu
    refine ⟨_, rfl, ?_⟩
    cases c : btw y 0 8 with
    | true => exact iteF' rfl (q1 c1 c H2 (s1.trans s2))
    | false =>
      refine iteT' rfl ?_
      exact err_A (s1.trans s2) (by decide +kernel) fun d H' s2 e => q3 c1 c d H' s2 e
/-- the least cost -/
def Lc (b s : Nat) : Option Nat := if b = 0 then some 0 else cst (tabN (s + 1) b) b s
theorem btw_nat {n m : Nat} (h : n ≤ m) : btw (.int (n : Int)) 0 (m : Int) = true := by
  show (decide ((0 : Int) ≤ (n : Int)) && decide ((n : Int) ≤ (m : Int))) = true
  rw [decide_eq_true (by omega), decide_eq_true (by omega)]
  rfl
end
end Sd

/-! ## The least costs and their splits, written out -/
namespace Sd
open PySem L2 Tr Pu PyProof.Rows
def TL : Tab := [[(some 0, 0), (some 0, 0), (some 0, 0), (some 0, 0), (some 0, 0), (some 0, 0), (some 0, 0), (some 0, 0), (some 0, 0)],
  [(none, 0), (some 1, 1), (some 1, 1), (some 1, 1), (some 1, 1), (some 1, 1), (some 1, 1), (some 1, 1), (some 1, 1)],
  [(none, 0), (some 3, 2), (some 2, 1), (some 2, 1), (some 2, 1), (some 2, 1), (some 2, 1), (some 2, 1), (some 2, 1)],
  [(none, 0), (some 6, 3), (some 4, 1), (some 3, 1), (some 3, 1), (some 3, 1), (some 3, 1), (some 3, 1), (some 3, 1)],
  [(none, 0), (some 10, 4), (some 6, 2), (some 5, 1), (some 4, 1), (some 4, 1), (some 4, 1), (some 4, 1), (some 4, 1)],
  [(none, 0), (some 15, 5), (some 8, 3), (some 7, 1), (some 6, 1), (some 5, 1), (some 5, 1), (some 5, 1), (some 5, 1)],
  [(none, 0), (some 21, 6), (some 11, 3), (some 9, 1), (some 8, 1), (some 7, 1), (some 6, 1), (some 6, 1), (some 6, 1)],
  [(none, 0), (some 28, 7), (some 14, 4), (some 11, 2), (some 10, 1), (some 9, 1), (some 8, 1), (some 7, 1), (some 7, 1)],
  [(none, 0), (some 36, 8), (some 17, 5), (some 13, 3), (some 12, 1), (some 11, 1), (some 10, 1), (some 9, 1), (some 8, 1)],
  [(none, 0), (some 45, 9), (some 20, 6), (some 15, 4), (some 14, 1), (some 13, 1), (some 12, 1), (some 11, 1), (some 10, 1)],
  [(none, 0), (some 55, 10), (some 24, 6), (some 18, 4), (some 16, 1), (some 15, 1), (some 14, 1), (some 13, 1), (some 12, 1)],
  [(none, 0), (some 66, 11), (some 28, 7), (some 21, 4), (some 18, 2), (some 17, 1), (some 16, 1), (some 15, 1), (some 14, 1)],
  [(none, 0), (some 78, 12), (some 32, 8), (some 24, 4), (some 20, 3), (some 19, 1), (some 18, 1), (some 17, 1), (some 16, 1)],
  [(none, 0), (some 91, 13), (some 36, 9), (some 27, 4), (some 22, 4), (some 21, 1), (some 20, 1), (some 19, 1), (some 18, 1)],
  [(none, 0), (some 105, 14), (some 40, 10), (some 30, 5), (some 24, 5), (some 23, 1), (some 22, 1), (some 21, 1), (some 20, 1)],
  [(none, 0), (some 120, 15), (some 45, 10), (some 33, 6), (some 27, 5), (some 25, 1), (some 24, 1), (some 23, 1), (some 22, 1)],
  [(none, 0), (some 136, 16), (some 50, 11), (some 36, 7), (some 30, 5), (some 27, 2), (some 26, 1), (some 25, 1), (some 24, 1)],
  [(none, 0), (some 153, 17), (some 55, 12), (some 39, 8), (some 33, 5), (some 29, 3), (some 28, 1), (some 27, 1), (some 26, 1)],
  [(none, 0), (some 171, 18), (some 60, 13), (some 42, 9), (some 36, 5), (some 31, 4), (some 30, 1), (some 29, 1), (some 28, 1)],
  [(none, 0), (some 190, 19), (some 65, 14), (some 45, 10), (some 39, 5), (some 33, 5), (some 32, 1), (some 31, 1), (some 30, 1)],
  [(none, 0), (some 210, 20), (some 70, 15), (some 49, 10), (some 42, 5), (some 35, 6), (some 34, 1), (some 33, 1), (some 32, 1)],
  [(none, 0), (some 231, 21), (some 76, 15), (some 53, 10), (some 45, 5), (some 38, 6), (some 36, 1), (some 35, 1), (some 34, 1)],
  [(none, 0), (some 253, 22), (some 82, 16), (some 57, 10), (some 48, 5), (some 41, 6), (some 38, 2), (some 37, 1), (some 36, 1)],
  [(none, 0), (some 276, 23), (some 88, 17), (some 61, 10), (some 51, 5), (some 44, 6), (some 40, 3), (some 39, 1), (some 38, 1)],
  [(none, 0), (some 300, 24), (some 94, 18), (some 65, 10), (some 54, 5), (some 47, 6), (some 42, 4), (some 41, 1), (some 40, 1)],
  [(none, 0), (some 325, 25), (some 100, 19), (some 69, 11), (some 57, 6), (some 50, 6), (some 44, 5), (some 43, 1), (some 42, 1)],
  [(none, 0), (some 351, 26), (some 106, 20), (some 73, 12), (some 60, 7), (some 53, 6), (some 46, 6), (some 45, 1), (some 44, 1)],
  [(none, 0), (some 378, 27), (some 112, 21), (some 77, 13), (some 63, 8), (some 56, 6), (some 48, 7), (some 47, 1), (some 46, 1)],
  [(none, 0), (some 406, 28), (some 119, 21), (some 81, 14), (some 66, 9), (some 59, 6), (some 51, 7), (some 49, 1), (some 48, 1)],
  [(none, 0), (some 435, 29), (some 126, 22), (some 85, 15), (some 69, 10), (some 62, 6), (some 54, 7), (some 51, 2), (some 50, 1)],
  [(none, 0), (some 465, 30), (some 133, 23), (some 89, 16), (some 72, 11), (some 65, 6), (some 57, 7), (some 53, 3), (some 52, 1)],
  [(none, 0), (some 496, 31), (some 140, 24), (some 93, 17), (some 75, 12), (some 68, 6), (some 60, 7), (some 55, 4), (some 54, 1)],
  [(none, 0), (some 528, 32), (some 147, 25), (some 97, 18), (some 78, 13), (some 71, 6), (some 63, 7), (some 57, 5), (some 56, 1)],
  [(none, 0), (some 561, 33), (some 154, 26), (some 101, 19), (some 81, 14), (some 74, 6), (some 66, 7), (some 59, 6), (some 58, 1)],
  [(none, 0), (some 595, 34), (some 161, 27), (some 105, 20), (some 84, 15), (some 77, 6), (some 69, 7), (some 61, 7), (some 60, 1)],
  [(none, 0), (some 630, 35), (some 168, 28), (some 110, 20), (some 88, 15), (some 80, 6), (some 72, 7), (some 63, 8), (some 62, 1)],
  [(none, 0), (some 666, 36), (some 176, 28), (some 115, 20), (some 92, 15), (some 83, 6), (some 75, 7), (some 66, 8), (some 64, 1)],
  [(none, 0), (some 703, 37), (some 184, 29), (some 120, 20), (some 96, 15), (some 86, 6), (some 78, 7), (some 69, 8), (some 66, 2)],
  [(none, 0), (some 741, 38), (some 192, 30), (some 125, 20), (some 100, 15), (some 89, 6), (some 81, 7), (some 72, 8), (some 68, 3)],
  [(none, 0), (some 780, 39), (some 200, 31), (some 130, 20), (some 104, 15), (some 92, 6), (some 84, 7), (some 75, 8), (some 70, 4)]]
/-- the entry for t beats and s slots -/
def ent (T : Tab) (t s : Nat) : Ent := (T.getD (t - 1) []).getD s (none, 0)
theorem cst_ent (T : Tab) (t s : Nat) : cst T t s = (ent T t s).1 := rfl
def chkT : Bool := (List.range 41).all fun t => t == 0 || (List.range 9).all fun s => (right TL t s).headD (none, 0) == ent TL t s
theorem chkT_ok : chkT = true := by decide +kernel
theorem chkT_at {t s : Nat} (h1 : 1 ≤ t) (h : t < 41) (hs : s < 9) : (right TL t s).headD (none, 0) = ent TL t s := by
  have a := List.all_eq_true.mp chkT_ok t (List.mem_range.mpr h)
  have n1 : ¬ t = 0 := by omega
  have a' : ((List.range 9).all fun s => (right TL t s).headD (none, 0) == ent TL t s) = true := by
    rw [Bool.or_eq_true] at a
    rcases a with a | a
    · exact absurd (eq_of_beq a) n1
    · exact a
  exact eq_of_beq (List.all_eq_true.mp a' s (List.mem_range.mpr hs))
theorem cands_congr {T T' : Tab} {t s : Nat} (h : ∀ t' s', 1 ≤ t' → t' < t → (s' = s ∨ s' = s - 1) → cst T t' s' = cst T' t' s') : ∀ n, n ≤ t - 1 → cands T t s n = cands T' t s n
  | 0, _ => rfl
  | n + 1, hn => by
    rw [cands_succ, cands_succ, cands_congr h n (by omega)]
    have e : cand T t s n = cand T' t s n := by
      unfold cand
      rw [h (t - (n + 1)) (s - 1) (by omega) (by omega) (.inr rfl), h (n + 1) s (by omega) (by omega) (.inl rfl)]
    rw [e]
theorem right_congr {T T' : Tab} {t s : Nat} (h : ∀ t' s', 1 ≤ t' → t' < t → (s' = s ∨ s' = s - 1) → cst T t' s' = cst T' t' s') : right T t s = right T' t s := by
  unfold right
  rw [cands_congr h (t - 1) (Nat.le_refl _)]
theorem tab_low (n : Nat) : ∀ (k j : Nat) (s : Nat), 1 ≤ j → j ≤ k → ent (tabN n k) j s = ent (tabN n j) j s
  | 0, j, s, h1, h2 => by omega
  | k + 1, j, s, h1, h2 => by
    by_cases c : j = k + 1
    · rw [c]
    · rw [← tab_low n k j s h1 (by omega)]
      have hl := tabN_len n k
      have e : (tabN n (k + 1)).getD (j - 1) [] = (tabN n k).getD (j - 1) [] := by
        rw [tabN, List.getD_eq_getElem?_getD, List.getD_eq_getElem?_getD, List.getElem?_append_left (by omega)]
      unfold ent
      rw [e]
theorem tab_top (n k s : Nat) (hs : s < n) : ent (tabN n (k + 1)) (k + 1) s = (right (tabN n k) (k + 1) s).headD (none, 0) := by
  have hl := tabN_len n k
  have e : (tabN n (k + 1)).getD k [] = rowN (tabN n k) (k + 1) n := by
    rw [tabN, List.getD_eq_getElem?_getD, List.getElem?_append_right (by omega), hl, Nat.sub_self]
    rfl
  unfold ent
  rw [Nat.add_sub_cancel, e]
  unfold rowN
  rw [List.getD_eq_getElem?_getD, List.getElem?_map, List.getElem?_range hs]
  rfl
theorem tab_is (n : Nat) (hn : n ≤ 9) : ∀ (t : Nat), 1 ≤ t → t < 41 → ∀ s, s < n → ent (tabN n t) t s = ent TL t s := by
  intro t
  induction t using Nat.strongRecOn with
  | ind t ih =>
    intro h1 h40 s hs
    obtain ⟨k, rfl⟩ : ∃ k, t = k + 1 := ⟨t - 1, by omega⟩
    rw [tab_top n k s hs, ← chkT_at h1 h40 (by omega)]
    rw [right_congr (T' := TL) fun t' s' a b d => by
      rw [cst_ent, cst_ent, tab_low n k t' s' a (by omega), ih t' b a (by omega) s' (by rcases d with d | d <;> omega)]]
/-- an entry of the table that the program makes -/
theorem tab_ent {n k t s : Nat} (hn : n ≤ 9) (h1 : 1 ≤ t) (hk : t ≤ k) (h : t < 41) (hs : s < n) : ent (tabN n k) t s = ent TL t s := by
  rw [tab_low n k t s h1 hk, tab_is n hn t h1 h s hs]
/-- the least cost, by the table -/
theorem Lc_is {b s : Nat} (hb : b < 41) (hs : s < 9) : Lc b s = if b = 0 then some 0 else cst TL b s := by
  unfold Lc
  by_cases c : b = 0
  · rw [if_pos c, if_pos c]
  · rw [if_neg c, if_neg c, cst_ent, cst_ent, tab_is (s + 1) (by omega) b (by omega) hb s (by omega)]
end Sd

namespace Sd
open PySem L2 Tr Pu PyProof.Rows
def lc (t u : Nat) : Option Nat := if t = 0 then some 0 else cst TL t u
def chkZ : Bool := (List.range 2).all fun t => (List.range 9).all fun u => lc t u == some 0
theorem chkZ_ok : chkZ = true := by decide +kernel
theorem lc_low {t u : Nat} (h : t < 2) (hu : u < 9) : lc t u = some 0 :=
  eq_of_beq (List.all_eq_true.mp (List.all_eq_true.mp chkZ_ok t (List.mem_range.mpr h)) u (List.mem_range.mpr hu))
theorem Lc_lc {b s : Nat} (hb : b < 41) (hs : s < 9) : Lc b s = lc b s := Lc_is hb hs
end Sd

/-! ## the law's own table -/
namespace Sd
open PySem L2 Tr Pu PyProof.Rows
/-- the best of the first splits -/
def bst (t u : Nat) : Nat → Option Nat
  | 0 => none
  | i + 1 => if 0 < u then
      match lc (t - (i + 1)) (u - 1), lc (i + 1) u with
      | some b, some f => match bst t u i with
        | none => some (i + 1 + b + f)
        | some m => some (if i + 1 + b + f < m then i + 1 + b + f else m)
      | _, _ => bst t u i
    else bst t u i
def chkB : Bool := (List.range 41).all fun t => decide (t < 2) || (List.range 9).all fun u => bst t u (t - 1) == lc t u
theorem chkB_ok : chkB = true := by decide +kernel
theorem bst_is {t u : Nat} (h2 : 2 ≤ t) (h : t < 41) (hu : u < 9) : bst t u (t - 1) = lc t u := by
  have a := List.all_eq_true.mp chkB_ok t (List.mem_range.mpr h)
  rw [decide_eq_false (show ¬ t < 2 by omega), Bool.false_or] at a
  exact eq_of_beq (List.all_eq_true.mp a u (List.mem_range.mpr hu))
def rL (t n : Nat) : List V := (List.range n).map fun u => cV (lc t u)
theorem rL_at {t n u : Nat} (h : u < n) : atI (rL t n) (u : Int) = some (cV (lc t u)) := atI_nat (by unfold rL; rw [List.getElem?_map, List.getElem?_range h]; rfl)
theorem rL_len (t n : Nat) : (rL t n).length = n := by unfold rL; rw [List.length_map, List.length_range]
theorem rL_succ (t n : Nat) : rL t (n + 1) = rL t n ++ [cV (lc t n)] := by unfold rL; rw [List.range_succ, List.map_append]; rfl
/-- n rows of the table stand there -/
def TbR (H : Hp) (p : Addr) (s n : Nat) (xs : List V) : Prop := xs.length = n ∧ ∀ t < n, ∃ r, xs[t]? = some (.ref r) ∧ r ≠ p ∧ H r = some (.lst (rL t (s + 1)))
theorem TbR.next {H H' : Hp} {p : Addr} {s n : Nat} {xs : List V} (h : TbR H p s n xs) (sm : Same H H') : TbR H' p s n xs := ⟨h.1, fun t ht => by
  obtain ⟨r, h1, h2, h3⟩ := h.2 t ht
  exact ⟨r, h1, h2, sm _ _ h3⟩⟩
def spLtb (K : PySem.W.Frag) : Sp := fun vs H Q _ => ∃ (b s : Nat), vs = [.int (b : Int), .int (s : Int)] ∧ b ≤ 40 ∧ s ≤ 8 ∧ ∀ p xs H', H p = none → Same H H' → H' p = some (.lst xs) → TbR H' p s (b + 1) xs → Q (.ref p) H'
abbrev sLtb : Stmt := top 23
section
variable {P : Program} {w : World} {K : PySem.W.Frag} {mg : Str → Option Value} {base : Heap}
theorem scLtb : FnScope ["beats", "slots", "table", "t", "row", "s", "best", "k", "cost"] ["beats", "slots"] (defScope sLtb) := ⟨rfl, rfl, rfl, by decide +kernel, rfl, by decide +kernel, by decide +kernel⟩
theorem ok_ltb {f : Addr} {fd : FuncData} (F : Fun K "_law_table" "_law_table" sLtb f fd) (T : Bi mg) (zMin : mg "min" = none) : FnOk P w K mg base CX0 1 f fd ["beats", "slots"] (spLtb K) := by
  refine F.ok scLtb (fun vs H Q E h => ?_) (fun cdv A outer s H vs Q E hr h => ?_)
  · obtain ⟨b, sl, rfl, _⟩ := h
    rfl
  · obtain ⟨b, sl, rfl, hb, hs, q⟩ := h
    have nd := scLtb.nd
    refine ⟨_, pss_cons (ps_set (i := 2) nd rfl (.inl rfl) (pe_lst pa_nil))
      (pss_cons (ps_for PassesOwn.never rfl (pi_range1 rfl T.range (pa_cons (pe_op op_add (pv 0) pe_int) pa_nil)) (pg_name (i := 3) nd rfl (.inl rfl)) (pss_cons (ps_set (i := 4) nd rfl (.inl rfl) (pe_lst pa_nil))
      (pss_cons (ps_for PassesOwn.never rfl (pi_range1 rfl T.range (pa_cons (pe_op op_add (pv 1) pe_int) pa_nil)) (pg_name (i := 5) nd rfl (.inl rfl)) (pss_cons (ps_set (i := 6) nd rfl (.inl rfl) pe_int)
      (pss_cons (ps_if (pt_cmpR op_gt (pv 3) pe_int (nomark _)) (pss_cons (ps_set (i := 6) nd rfl (.inl rfl) pe_non)
      (pss_one (ps_for PassesOwn.never rfl (pi_range2 rfl T.range (pa_cons pe_int (pa_cons (pv 3) pa_nil))) (pg_name (i := 7) nd rfl (.inl rfl)) (pss_one (ps_if (PW.pt (pw_and (pt_cmpR op_gt (pv 5) pe_int (nomark _)) (pw_and (pt_cmpR op_notN (pe_ix ix_list (pe_ix ix_list (pv 2) (pe_op op_sub (pv 3) (pv 7)) (fun _ _ => rfl)) (pe_op op_sub (pv 5) pe_int) (fun _ _ => rfl)) pe_non (nomark _)) (pw_and1 (pt_cmpR op_notN (pe_ix ix_list (pe_ix ix_list (pv 2) (pv 7) (fun _ _ => rfl)) (pv 5) (fun _ _ => rfl)) pe_non (nomark _)))))) (pss_cons (ps_set (i := 8) nd rfl (.inl rfl) (pe_op op_add (pe_op op_add (pv 7) (pe_ix ix_list (pe_ix ix_list (pv 2) (pe_op op_sub (pv 3) (pv 7)) (fun _ _ => rfl)) (pe_op op_sub (pv 5) pe_int) (fun _ _ => rfl))) (pe_ix ix_list (pe_ix ix_list (pv 2) (pv 7) (fun _ _ => rfl)) (pv 5) (fun _ _ => rfl))))
      (pss_one (ps_set (i := 6) nd rfl (.inl rfl) (pe_ifExp (pt_cmpR op_isN (pv 6) pe_non (nomark _)) (pv 8) (pe_callB (call_min2 rfl) rfl zMin (by decide +kernel) (pa_cons (pv 6) (pa_cons (pv 8) pa_nil))))))) pss_nil))))) pss_nil)
      (pss_one (ps_expr (pe_bm PySem.F.plainAttrs_list PySem.F.slot_list_append PySem.F.type_list_append mt_append (pv 4) (pa_cons (pv 6) pa_nil)))))))
      (pss_one (ps_expr (pe_bm PySem.F.plainAttrs_list PySem.F.slot_list_append PySem.F.type_list_append mt_append (pv 2) (pa_cons (pv 4) pa_nil)))))))
      (pss_one (ps_ret (pv 2)))), ?_⟩
    refine ⟨Nat.zero_le _, fun p hp => ?_⟩
    have eb : ((b : Int) + 1).toNat = b + 1 := by omega
    have es : ((sl : Int) + 1).toNat = sl + 1 := by omega
    refine ⟨_, rfl, _, _, rfl, rfl, (b : Int) + 1, rfl, by omega, by omega, for_range (lo := 0) (n := ((b : Int) + 1).toNat)
      (fun t σ H' => Same H H' ∧ (∃ xs, H' p = some (.lst xs) ∧ TbR H' p sl t xs) ∧ ∃ w3 w4 w5 w6 w7 w8 : Option V, σ = [some (.int (b : Int)), some (.int (sl : Int)), some (.ref p), w3, w4, w5, w6, w7, w8])
      ⟨same_alloc hp, ⟨[], upd_same, rfl, fun t h => absurd h (Nat.not_lt_zero _)⟩, _, _, _, _, _, _, rfl⟩ ?_ ?_⟩
    · rintro t σ H1 ht ⟨sm, ⟨xs, eP, tb⟩, w3, w4, w5, w6, w7, w8, rfl⟩
      rw [eb] at ht
      refine ⟨Nat.zero_le _, fun R hR => ?_⟩
      have hRp : R ≠ p := fun z => by rw [z] at hR; rw [eP] at hR; cases hR
      refine ⟨_, rfl, _, _, rfl, rfl, (sl : Int) + 1, rfl, by omega, by omega, for_range (lo := 0) (n := ((sl : Int) + 1).toNat)
        (fun u σ H' => Same H1 H' ∧ H' R = some (.lst (rL t u)) ∧ ∃ w5 w6 w7 w8 : Option V, σ = [some (.int (b : Int)), some (.int (sl : Int)), some (.ref p), some (.int (0 + (t : Int))), some (.ref R), w5, w6, w7, w8])
        ⟨same_alloc hR, upd_same, _, _, _, _, rfl⟩ ?_ ?_⟩
      · rintro u σ H2 hu ⟨s2, eR, w5, w6, w7, w8, rfl⟩
        rw [es] at hu
        have e0t : (0 : Int) + (t : Int) = (t : Int) := by omega
        have e0u : (0 : Int) + (u : Int) = (u : Int) := by omega
        refine ⟨_, rfl, _, _, rfl, rfl, _, rfl, ?_⟩
        by_cases c : t < 2
        · refine iteF' (decide_eq_false (by omega)) ?_
          refine ⟨_, rfl, .inl ⟨rfl, _, SqL.of eR⟩, _, rfl, R, _, _, rfl, rfl, eR, by rw [rL_len]; exact Nat.lt_of_lt_of_le hu (Nat.le_trans (show _ ≤ 9 by omega) (by decide)), ?_⟩
          refine ⟨same_put s2 hR, ?_, _, _, _, _, rfl⟩
          rw [upd_same, rL_succ, lc_low c (by omega)]
          rfl
        · refine iteT' (decide_eq_true (by omega)) ?_
          have et : ((0 : Int) + (t : Int) - 1).toNat = t - 1 := by omega
          refine ⟨_, rfl, 1, 0 + (t : Int), rfl, ⟨by decide, by decide, by omega, by omega⟩, for_range (lo := 1) (n := ((0 : Int) + (t : Int) - 1).toNat)
            (fun i σ H' => H' = H2 ∧ ∃ w7 w8 : Option V, σ = [some (.int (b : Int)), some (.int (sl : Int)), some (.ref p), some (.int (0 + (t : Int))), some (.ref R), some (.int (0 + (u : Int))), some (cV (bst t u i)), w7, w8])
            ⟨rfl, _, _, rfl⟩ ?_ ?_⟩
          · rintro i σ H3 hi ⟨rfl, w7, w8, rfl⟩
            rw [et] at hi
            have tb2 := tb.next s2
            have eP2 := s2 _ _ eP
            obtain ⟨r1, a1, _, a3⟩ := tb2.2 (t - (i + 1)) (by omega)
            obtain ⟨r2, b1, _, b3⟩ := tb2.2 (i + 1) (by omega)
            have i1 : (0 : Int) + (t : Int) - (1 + (i : Int)) = ((t - (i + 1) : Nat) : Int) := by omega
            have i2 : (1 : Int) + (i : Int) = ((i + 1 : Nat) : Int) := by omega
            have A1 : atI xs ((0 : Int) + (t : Int) - (1 + (i : Int))) = some (.ref r1) := by rw [i1]; exact atI_nat a1
            have B1 : atI xs ((1 : Int) + (i : Int)) = some (.ref r2) := by rw [i2]; exact atI_nat b1
            refine ⟨_, rfl, _, _, rfl, rfl, _, rfl, ?_⟩
            by_cases cu : 0 < u
            · refine iteT' (decide_eq_true (by omega)) ?_
              have A2 : atI (rL (t - (i + 1)) (sl + 1)) ((0 : Int) + (u : Int) - 1) = some (cV (lc (t - (i + 1)) (u - 1))) := by
                rw [show (0 : Int) + (u : Int) - 1 = ((u - 1 : Nat) : Int) by omega]
                exact rL_at (by omega)
              have B2 : atI (rL (i + 1) (sl + 1)) ((0 : Int) + (u : Int)) = some (cV (lc (i + 1) u)) := by
                rw [e0u]
                exact rL_at hu
              refine ⟨_, rfl, _, rfl, _, rfl, _, _, rfl, rfl, p, xs, _, _, rfl, rfl, SqL.of eP2, A1, _, rfl, _, _, rfl, rfl, r1, _, _, _, rfl, rfl, SqL.of a3, A2, rfl, _, rfl, ?_⟩
              have nx : bst t u (i + 1) = match lc (t - (i + 1)) (u - 1), lc (i + 1) u with
                | some b, some f => match bst t u i with
                  | none => some (i + 1 + b + f)
                  | some m => some (if i + 1 + b + f < m then i + 1 + b + f else m)
                | _, _ => bst t u i := if_pos cu
              cases h1 : lc (t - (i + 1)) (u - 1) with
              | none =>
                rw [h1] at nx
                refine iteF' rfl ?_
                refine iteF ?_
                refine ⟨rfl, some (.int (1 + (i : Int))), w8, ?_⟩
                simp only [nx]
                rfl
              | some c1 =>
                rw [h1] at nx A2
                refine iteT' rfl ?_
                refine ⟨_, rfl, _, rfl, p, xs, _, _, rfl, rfl, SqL.of eP2, B1, _, rfl, r2, _, _, _, rfl, rfl, SqL.of b3, B2, rfl, _, rfl, ?_⟩
                cases h2 : lc (i + 1) u with
                | none =>
                  rw [h2] at nx
                  refine iteF' rfl ?_
                  refine ⟨rfl, some (.int (1 + (i : Int))), w8, ?_⟩
                  simp only [nx]
                  rfl
                | some c2 =>
                  rw [h2] at nx B2
                  refine iteT' rfl ?_
                  refine ⟨_, rfl, _, rfl, _, rfl, _, rfl, _, _, rfl, rfl, p, xs, _, _, rfl, rfl, SqL.of eP2, A1, _, rfl, _, _, rfl, rfl, r1, _, _, _, rfl, rfl, SqL.of a3, A2, _, _, rfl, rfl, ?_⟩
                  refine ⟨_, rfl, _, rfl, p, xs, _, _, rfl, rfl, SqL.of eP2, B1, _, rfl, r2, _, _, _, rfl, rfl, SqL.of b3, B2, _, _, rfl, rfl, ?_⟩
                  have ec : 1 + (i : Int) + (c1 : Int) + (c2 : Int) = ((i + 1 + c1 + c2 : Nat) : Int) := by omega
                  refine ⟨_, rfl, rfl, _, rfl, ?_⟩
                  cases h3 : bst t u i with
                  | none =>
                    rw [h3] at nx
                    refine iteT' rfl ?_
                    refine ⟨_, rfl, rfl, some (.int (1 + (i : Int))), some (.int (1 + (i : Int) + (c1 : Int) + (c2 : Int))), ?_⟩
                    rw [nx]
                    show List.set _ _ _ = _
                    simp only [ec]
                    rfl
                  | some m =>
                    rw [h3] at nx
                    refine iteF' rfl ?_
                    refine ⟨_, rfl, _, rfl, _, _, rfl, rfl, some (.int (1 + (i : Int))), some (.int (1 + (i : Int) + (c1 : Int) + (c2 : Int))), ?_⟩
                    rw [nx]
                    have em : (if 1 + (i : Int) + (c1 : Int) + (c2 : Int) < (m : Int) then 1 + (i : Int) + (c1 : Int) + (c2 : Int) else (m : Int)) = (((if i + 1 + c1 + c2 < m then i + 1 + c1 + c2 else m) : Nat) : Int) := by
                      split <;> split <;> omega
                    show List.set _ _ _ = _
                    simp only [em]
                    rfl
            · refine iteF' (decide_eq_false (by omega)) ?_
              refine iteF ?_
              refine ⟨rfl, some (.int (1 + (i : Int))), w8, ?_⟩
              have nx : bst t u (i + 1) = bst t u i := if_neg cu
              simp only [nx]
              rfl
          · rintro σ H3 ⟨rfl, w7, w8, rfl⟩
            rw [et, bst_is (by omega) (by omega) (by omega)]
            refine ⟨_, rfl, .inl ⟨rfl, _, SqL.of eR⟩, _, rfl, R, _, _, rfl, rfl, eR, by rw [rL_len]; exact Nat.lt_of_lt_of_le hu (Nat.le_trans (show _ ≤ 9 by omega) (by decide)), ?_⟩
            refine ⟨same_put s2 hR, ?_, _, _, _, _, rfl⟩
            rw [upd_same, rL_succ]
      · rintro σ H2 ⟨s2, eR, w5, w6, w7, w8, rfl⟩
        rw [es] at eR
        have eP2 := s2 _ _ eP
        have l := tb.1
        refine ⟨_, rfl, .inl ⟨rfl, _, SqL.of eP2⟩, _, rfl, p, xs, _, rfl, rfl, eP2, by rw [l]; exact Nat.lt_of_lt_of_le ht (Nat.le_trans (show _ ≤ 41 by omega) (by decide)), ?_⟩
        refine ⟨same_put (sm.trans s2) hp, ⟨_, upd_same, ?_, fun t' ht' => ?_⟩, _, _, _, _, _, _, rfl⟩
        · rw [List.length_append, l]
          rfl
        · by_cases c : t' < t
          · obtain ⟨r, h1, h2, h3⟩ := tb.2 t' c
            refine ⟨r, ?_, h2, ?_⟩
            · rw [List.getElem?_append_left (by omega)]
              exact h1
            · rw [upd_ne h2]
              exact s2 _ _ h3
          · have : t' = t := by omega
            subst this
            refine ⟨R, ?_, hRp, ?_⟩
            · rw [List.getElem?_append_right (by omega), l, Nat.sub_self]
              rfl
            · rw [upd_ne hRp]
              exact eR
    · rintro σ H1 ⟨sm, ⟨xs, eP, tb⟩, w3, w4, w5, w6, w7, w8, rfl⟩
      rw [eb] at tb
      exact ⟨_, rfl, q p xs H1 hp sm eP tb⟩
end
end Sd

namespace Sd
open PySem L2 Tr Pu PyProof.Rows
/-! ### numbers drawn from a script, kept in a list of four -/
section
variable {K : PySem.W.Frag} {H H' : Hp}
/-- the state of the draws: a list of the script's numbers, the rest of one, the next one's place, the seed -/
structure Dw (K : PySem.W.Frag) (H : Hp) (p l : Addr) : Prop where
  it : ∃ (ns : List Int) (r j s : Int), H p = some (.lst [.ref l, .int r, .int j, .int s]) ∧ H l = some (.lst (ns.map V.int)) ∧ 0 ≤ j ∧ l ≠ p
theorem Dw.at_ {p l : Addr} (h : Dw K H p l) : ∃ xs, H p = some (.lst xs) := by
  obtain ⟨ns, r, j, s, e, _⟩ := h.it
  exact ⟨_, e⟩
theorem Dw.at2 {p l : Addr} (h : Dw K H p l) : ∃ xs, H l = some (.lst xs) := by
  obtain ⟨ns, r, j, s, _, e, _⟩ := h.it
  exact ⟨_, e⟩
/-- all but the list at p stands, and p is a state of draws -/
theorem Dw.same {p l : Addr} (h : Dw K H p l) (s : Same H H') : Dw K H' p l := by
  obtain ⟨ns, r, j, t, e, f, g, n⟩ := h.it
  exact ⟨ns, r, j, t, s _ _ e, s _ _ f, g, n⟩
theorem Dw.upd {p l q : Addr} {o : HO} (h : Dw K H p l) (np : q ≠ p) (nl : q ≠ l) : Dw K (L2.upd H q o) p l := by
  obtain ⟨ns, r, j, t, e, f, g, n⟩ := h.it
  exact ⟨ns, r, j, t, by rw [upd_ne np.symm]; exact e, by rw [upd_ne nl.symm]; exact f, g, n⟩
theorem Dw.new {p l q : Addr} {o : HO} (h : Dw K H p l) (n : H q = none) : Dw K (L2.upd H q o) p l := h.same fun b u e => by rw [upd_ne (ne_of_none e n)]; exact e
def spDrw (K : PySem.W.Frag) : Sp := fun vs H Q _ => ∃ (p l : Addr) (m : Int), vs = [.ref p, .int m] ∧ Dw K H p l ∧ 0 < m ∧ m < 1000000 ∧ ∀ v H', 0 ≤ v → v < m → Stays p H H' → Dw K H' p l → Q (.int v) H'
def spStart (K : PySem.W.Frag) : Sp := fun vs H Q _ => ∃ (a : Addr) (ns : List Int), vs = [.ref a] ∧ SqL K H a (ns.map V.int) ∧ ns.length ≤ 1000 ∧ ∀ p l H', Same H H' → H p = none → Dw K H' p l → Q (.ref p) H'
end
abbrev sStart : Stmt := top 21
abbrev sDrw : Stmt := top 22
section
variable {P : Program} {w : World} {K : PySem.W.Frag} {mg : Str → Option Value} {base : Heap}
theorem at_in {α : Type} {xs : List α} {j : Int} (h0 : 0 ≤ j) (h : j < (xs.length : Int)) : ∃ x, atI xs j = some x ∧ xs[j.toNat]? = some x := by
  have e : j = ((j.toNat : Nat) : Int) := by omega
  have hk : j.toNat < xs.length := by omega
  have q : atI xs ((j.toNat : Nat) : Int) = some xs[j.toNat] := atI_nat (List.getElem?_eq_getElem hk)
  rw [← e] at q
  exact ⟨_, q, List.getElem?_eq_getElem hk⟩
theorem at_int {ns : List Int} {j : Int} (h0 : 0 ≤ j) (h : j < (ns.length : Int)) : ∃ n, atI (ns.map V.int) j = some (.int n) := by
  obtain ⟨x, hx, hx2⟩ := at_in (xs := ns.map V.int) h0 (by rw [List.length_map]; exact h)
  rw [List.getElem?_map] at hx2
  cases e : ns[j.toNat]? with
  | none => rw [e] at hx2; cases hx2
  | some n => rw [e] at hx2; cases Option.some.inj hx2; exact ⟨n, hx⟩
theorem scStart : FnScope ["script", "seed", "cell"] ["script"] (defScope sStart) := ⟨rfl, rfl, rfl, by decide +kernel, rfl, by decide +kernel, by decide +kernel⟩
theorem scDrw : FnScope ["state", "many", "value"] ["state", "many"] (defScope sDrw) := ⟨rfl, rfl, rfl, by decide +kernel, rfl, by decide +kernel, by decide +kernel⟩
theorem ok_start {f : Addr} {fd : FuncData} (F : Fun K "_law_start" "_law_start" sStart f fd) (T : Bi mg) : FnOk P w K mg base CX0 1 f fd ["script"] (spStart K) := by
  refine F.ok scStart (fun vs H Q E h => ?_) (fun cdv A outer s H vs Q E hr h => ?_)
  · obtain ⟨a, ns, rfl, _⟩ := h
    rfl
  · obtain ⟨a, ns, rfl, hS, hl, q⟩ := h
    have nd := scStart.nd
    refine ⟨_, pss_cons (ps_set (i := 1) nd rfl (.inl rfl) pe_int)
      (pss_cons (ps_for PassesOwn.never rfl (pi_list (pv 0)) (pg_name (i := 2) nd rfl (.inl rfl)) (pss_one (ps_set (i := 1) nd rfl (.inl rfl) (pe_op op_add (pe_op op_mod (pe_callTy call_int1 rfl T.int PyProof.Rows.boot_int (pa_cons (pe_op op_add (pe_op op_mul (pv 1) pe_int) (pv 2)) pa_nil)) pe_int) pe_int))))
      (pss_one (ps_ret (pe_lst (pa_cons (pe_callTy call_list_of rfl T.list PyProof.Rows.boot_list (pa_cons (pv 0) pa_nil)) (pa_cons pe_int (pa_cons pe_int (pa_cons (pv 1) pa_nil)))))))), ?_⟩
    refine ⟨_, rfl, a, rfl, ⟨_, hS⟩, for_list (K := K) (a := a) (xs := ns.map V.int) (fun i σ H' => H' = H ∧ ∃ (z : Int) (c : Option V), σ = [some (.ref a), some (.int z), c]) ⟨rfl, 7, none, rfl⟩ (fun i σ H' _ h => by rw [h.1]; exact hS) ?_ ?_⟩
    · rintro i x σ H' hi ⟨hH, z, c, rfl⟩
      cases hH
      rw [List.getElem?_map] at hi
      obtain ⟨n, rfl⟩ : ∃ n, x = V.int n := by
        cases e : ns[i]? with
        | none => rw [e] at hi; cases hi
        | some n => rw [e] at hi; exact ⟨n, (Option.some.inj hi).symm⟩
      refine ⟨_, rfl, _, _, rfl, rfl, .inr ⟨by decide, by decide⟩, _, rfl, _, _, rfl, rfl, .inl ⟨_, rfl, _, _, rfl, rfl, (show (0:Int) < 2147483629 by decide), _, _, rfl, rfl, rfl, _, _, rfl⟩⟩
    · rintro σ H' ⟨hH, z, c, rfl⟩
      cases hH
      refine ⟨_, rfl, a, _, rfl, .inl hS, fun l hl2 => ⟨_, rfl, (show 4 ≤ sizeLine by decide), fun p hp => ?_⟩⟩
      have sm : Same H (upd (upd H l (.lst (ns.map V.int))) p (.lst [V.ref l, V.int 0, V.int 0, V.int z])) := fun b u e => by rw [upd_ne (ne_of_none (by rw [upd_ne (ne_of_none e hl2)]; exact e) hp), upd_ne (ne_of_none e hl2)]; exact e
      have hp0 : H p = none := by
        by_cases z : p = l
        · rw [z]; exact hl2
        · rw [upd_ne z] at hp; exact hp
      refine q p l _ sm hp0 ⟨ns, 0, 0, z, upd_same, ?_, Int.le_refl _, ne_of_none upd_same hp⟩
      rw [upd_ne (ne_of_none upd_same hp)]
      exact upd_same
theorem ok_drw {f : Addr} {fd : FuncData} (F : Fun K "_law_draw" "_law_draw" sDrw f fd) (T : Bi mg) : FnOk P w K mg base CX0 1 f fd ["state", "many"] (spDrw K) := by
  refine F.ok scDrw (fun vs H Q E h => ?_) (fun cdv A outer s H vs Q E hr h => ?_)
  · obtain ⟨p, l, m, rfl, _⟩ := h
    rfl
  · obtain ⟨p, l, m, rfl, D, m0, m1, q⟩ := h
    have nd := scDrw.nd
    obtain ⟨ns, r, j, t, e, f', j0, n⟩ := D.it
    have hp : SqL K H p [.ref l, .int r, .int j, .int t] := SqL.of e
    refine ⟨_, pss_cons (ps_if (PW.pt (pw_and (pt_cmpR op_eq (pe_ix ix_list (pv 0) pe_int (fun _ _ => rfl)) pe_int (nomark _)) (pw_and1 (pt_cmpR op_ge (pe_ix ix_list (pv 0) pe_int (fun _ _ => rfl)) (pe_callB call_len_seq rfl T.len PySem.boot_len (pa_cons (pe_ix ix_list (pv 0) pe_int (fun _ _ => rfl)) pa_nil)) (nomark _))))) (pss_cons (ps_asg (pe_op op_mod (pe_callTy call_int1 rfl T.int PyProof.Rows.boot_int (pa_cons (pe_op op_add (pe_op op_mul (pe_ix ix_list (pv 0) pe_int (fun _ _ => rfl)) pe_int) pe_int) pa_nil)) pe_int) (pg_sub (pv 0) pe_int set_list))
      (pss_one (ps_ret (pe_op op_mod (pe_callTy call_int1 rfl T.int PyProof.Rows.boot_int (pa_cons (pe_op op_fdiv (pe_ix ix_list (pv 0) pe_int (fun _ _ => rfl)) pe_int) pa_nil)) (pv 1))))) pss_nil)
      (pss_cons (ps_if (pt_cmpR op_eq (pe_ix ix_list (pv 0) pe_int (fun _ _ => rfl)) pe_int (nomark _)) (pss_cons (ps_asg (pe_callB call_abs rfl T.abs PyProof.Rows.boot_abs (pa_cons (pe_ix ix_list (pe_ix ix_list (pv 0) pe_int (fun _ _ => rfl)) (pe_ix ix_list (pv 0) pe_int (fun _ _ => rfl)) (fun _ _ => rfl)) pa_nil)) (pg_sub (pv 0) pe_int set_list))
      (pss_one (ps_asg (pe_op op_add (pe_ix ix_list (pv 0) pe_int (fun _ _ => rfl)) pe_int) (pg_sub (pv 0) pe_int set_list)))) pss_nil)
      (pss_cons (ps_set (i := 2) nd rfl (.inl rfl) (pe_op op_mod (pe_callTy call_int1 rfl T.int PyProof.Rows.boot_int (pa_cons (pe_ix ix_list (pv 0) pe_int (fun _ _ => rfl)) pa_nil)) (pv 1)))
      (pss_cons (ps_asg (pe_op op_fdiv (pe_ix ix_list (pv 0) pe_int (fun _ _ => rfl)) (pv 1)) (pg_sub (pv 0) pe_int set_list))
      (pss_one (ps_ret (pv 2)))))), ?_⟩
    -- the last three rows
    have tail : ∀ (H2 : Hp) (r2 j2 t2 : Int) (w : Option V), Stays p H H2 → H2 p = some (.lst [.ref l, .int r2, .int j2, .int t2]) → 0 ≤ j2 → ∃ v, 0 ≤ v ∧ v < m ∧ r2 % m = v ∧
        Stays p H (upd H2 p (.lst [.ref l, .int (r2 / m), .int j2, .int t2])) ∧ Dw K (upd H2 p (.lst [.ref l, .int (r2 / m), .int j2, .int t2])) p l := by
      intro H2 r2 j2 t2 w s2 e2 j2'
      refine ⟨r2 % m, Int.emod_nonneg _ (by omega), Int.emod_lt_of_pos _ m0, rfl, s2.trans stays_upd, ns, _, _, _, upd_same, ?_, j2', n⟩
      rw [upd_ne n]
      exact s2 _ _ n f'
    have m0' : (fun _ j : Int => 0 < j) r m := m0
    refine ⟨_, rfl, p, _, _, _, rfl, rfl, hp, rfl, rfl, _, rfl, ?_⟩
    by_cases r0 : r = 0
    · refine iteT' (decide_eq_true (congrArg V.int r0)) ⟨_, rfl, p, _, _, _, rfl, rfl, hp, rfl, _, rfl, p, _, _, _, rfl, rfl, hp, rfl, l, _, rfl, .inl (SqL.of f'), _, _, rfl, rfl, _, rfl, ?_⟩
      rw [List.length_map]
      by_cases c : j ≥ (ns.length : Int)
      · refine iteT' (decide_eq_true c) ?_
        refine ⟨_, rfl, p, _, _, _, rfl, rfl, hp, rfl, _, _, rfl, rfl, .inr ⟨by decide, by decide⟩, _, _, rfl, rfl, .inl ⟨_, rfl, _, _, rfl, rfl, (show (0:Int) < 2147483629 by decide), _, rfl, p, _, _, _, rfl, rfl, e, rfl, ?_⟩⟩
        refine ⟨_, rfl, p, _, _, _, rfl, rfl, SqL.of upd_same, rfl, _, _, rfl, rfl, ⟨by decide, by decide⟩, .inl ⟨_, rfl, _, rfl, _, _, rfl, rfl, m0, ?_⟩⟩
        refine q _ _ (Int.emod_nonneg _ (by omega)) (Int.emod_lt_of_pos _ m0) stays_upd ⟨ns, _, _, _, upd_same, ?_, j0, n⟩
        rw [upd_ne n]
        exact f'
      · refine iteF' (decide_eq_false c) ?_
        refine ⟨_, rfl, p, _, _, _, rfl, rfl, hp, rfl, rfl, _, rfl, iteT' (decide_eq_true (congrArg V.int r0)) ?_⟩
        obtain ⟨x, hx⟩ := at_int (ns := ns) j0 (by omega)
        refine ⟨_, rfl, p, _, _, _, rfl, rfl, hp, rfl, _, rfl, p, _, _, _, rfl, rfl, hp, rfl, l, _, _, _, rfl, rfl, SqL.of f', hx, x, rfl, _, rfl, p, _, _, _, rfl, rfl, e, rfl, ?_⟩
        refine ⟨_, rfl, p, _, _, _, rfl, rfl, SqL.of upd_same, rfl, _, _, rfl, rfl, _, rfl, p, _, _, _, rfl, rfl, upd_same, rfl, ?_⟩
        obtain ⟨v, v0, v1, ev, s3, d3⟩ := tail _ (if x < 0 then -x else x) (j + 1) t none (stays_upd.trans stays_upd) upd_same (by omega)
        refine ⟨_, rfl, p, _, _, _, rfl, rfl, SqL.of upd_same, rfl, .inl ⟨_, rfl, _, rfl, _, _, rfl, rfl, m0, ?_⟩⟩
        refine ⟨_, rfl, p, _, _, _, rfl, rfl, SqL.of upd_same, rfl, _, rfl, _, _, rfl, rfl, ⟨m0, by omega⟩, _, rfl, p, _, _, _, rfl, rfl, upd_same, rfl, _, rfl, ?_⟩
        subst ev
        exact q _ _ v0 v1 s3 d3
    · refine iteF' (decide_eq_false (fun y => r0 (V.int.inj y))) ?_
      refine ⟨_, rfl, p, _, _, _, rfl, rfl, hp, rfl, rfl, _, rfl, iteF' (decide_eq_false (fun y => r0 (V.int.inj y))) ?_⟩
      obtain ⟨v, v0, v1, ev, s3, d3⟩ := tail _ r j t none (Stays.refl _ _) e j0
      refine ⟨_, rfl, p, _, _, _, rfl, rfl, hp, rfl, .inl ⟨_, rfl, _, rfl, _, _, rfl, rfl, m0, ?_⟩⟩
      refine ⟨_, rfl, p, _, _, _, rfl, rfl, hp, rfl, _, rfl, _, _, rfl, rfl, ⟨m0, by omega⟩, _, rfl, p, _, _, _, rfl, rfl, e, rfl, _, rfl, ?_⟩
      subst ev
      exact q _ _ v0 v1 s3 d3
end

end Sd

namespace Sd
open PySem L2 Tr Pu PyProof.Rows
section
variable {K : PySem.W.Frag} {H H' : Hp}
theorem dw_carry {p dl : Addr} (D : Dw K H p dl) (s : Stays p H H') (D' : Dw K H' p dl) : Carry K H H' := by
  obtain ⟨xs, e⟩ := D.at_
  obtain ⟨zs, e2⟩ := D'.at_
  exact s.carryL e e2
theorem noP {σ : L2.St} {Q : Option Int → Hp → Prop} (h : Q none H) : tNoPart σ H Q := h
end
theorem set_k {te : TE} {i : Nat} {tu : TS} {D : Ends} {σ : L2.St} {H : Hp} (Pr : V → Hp → Prop) (h : ∀ Q' : VK, (∀ v H', Pr v H' → Q' v H') → te σ H Q') (k : ∀ v H', Pr v H' → tu D (σ.set i (some v)) H') : tSeq (tAsg te (gName i)) tu D σ H := h _ fun v H' p => k v H' p
theorem if_k {t : TT} {ts tu : TS} {D : Ends} {σ : L2.St} {H : Hp} (Pr : L2.St → Hp → Prop) (h : ∀ D' : Ends, D'.rt = D.rt → (∀ σ' H', Pr σ' H' → D'.nx σ' H') → tIfS t ts tNext D' σ H) (k : ∀ σ' H', Pr σ' H' → tu D σ' H') : tSeq (tIfS t ts tNext) tu D σ H := h { D with nx := tu D } rfl k
theorem seq_k {ts tu : TS} {D : Ends} {σ : L2.St} {H : Hp} (Pr : L2.St → Hp → Prop) (h : ∀ D' : Ends, D'.rt = D.rt → (∀ σ' H', Pr σ' H' → D'.nx σ' H') → ts D' σ H) (k : ∀ σ' H', Pr σ' H' → tu D σ' H') : tSeq ts tu D σ H := h { D with nx := tu D } rfl k
end Sd
namespace Sd
open PySem L2 Tr Pu PyProof.Rows
theorem stays_put {p q : Addr} {o : HO} {H H' : Hp} (s : Stays p H H') (h : H q = none) : Stays p H (upd H' q o) := fun b u n e => by rw [upd_ne (ne_of_none e h)]; exact s b u n e
end Sd
namespace Sd
open PySem L2 Tr Pu PyProof.Rows
theorem ifs_T {K : PySem.W.Frag} {H : Hp} {σ : L2.St} {ρ : Rho} {D : Ends} {t : TT} {ts tu : TS} (h : DT K t ρ true) (en : En K H σ ρ) (k : ∀ H2, Same H H2 → ts D σ H2) : tIfS t ts tu D σ H := h σ H _ en fun H1 s1 => k H1 s1
theorem ifs_F {K : PySem.W.Frag} {H : Hp} {σ : L2.St} {ρ : Rho} {D : Ends} {t : TT} {ts tu : TS} (h : DT K t ρ false) (en : En K H σ ρ) (k : ∀ H2, Same H H2 → tu D σ H2) : tIfS t ts tu D σ H := h σ H _ en fun H1 s1 => k H1 s1
theorem en_0 {K : PySem.W.Frag} {H : Hp} : En K H [] [] := ⟨rfl, fun i d h => by simp at h⟩
theorem en_s {K : PySem.W.Frag} {H : Hp} {σ : L2.St} {ρ : Rho} {d : PyData} {v : V} (t : Tv K H d v) (h : En K H σ ρ) : En K H (some v :: σ) (some d :: ρ) := ⟨congrArg (· + 1) h.1, fun i e q => by
  cases i with
  | zero => cases q; exact ⟨v, rfl, t⟩
  | succ i => exact h.2 i e q⟩
theorem en_n {K : PySem.W.Frag} {H : Hp} {σ : L2.St} {ρ : Rho} {x : Option V} (h : En K H σ ρ) : En K H (x :: σ) (none :: ρ) := ⟨congrArg (· + 1) h.1, fun i e q => by
  cases i with
  | zero => cases q
  | succ i => exact h.2 i e q⟩
end Sd

namespace Sd
open PySem L2 Tr Pu PyProof.Rows
/-! ### what is right in a table -/
def spl1 (t s i : Nat) : List Nat :=
  if 0 < s then match lc (t - (i + 1)) (s - 1), lc (i + 1) s with
    | some a, some b => if some (i + 1 + a + b) = lc t s then [i + 1] else []
    | _, _ => []
  else []
/-- the splits that reach the cost, of the first n -/
def splN (t s : Nat) : Nat → List Nat
  | 0 => []
  | i + 1 => splN t s i ++ spl1 t s i
def spl (t s : Nat) : List Nat := splN t s (t - 1)
def rgt (t s : Nat) : List Ent := if (spl t s).isEmpty then [(lc t s, 0)] else (spl t s).map fun k => (lc t s, k)
def chkS : Bool := (List.range 41).all fun t => t == 0 || (List.range 9).all fun s => right TL t s == rgt t s && ((1 ≤ s || t == 1) == (lc t s).isSome)
theorem chkS_ok : chkS = true := by decide +kernel
theorem chkS_at {t s : Nat} (h1 : 1 ≤ t) (h : t < 41) (hs : s < 9) : right TL t s = rgt t s ∧ (1 ≤ s ∨ t = 1 → ∃ c, lc t s = some c) := by
  have a := List.all_eq_true.mp chkS_ok t (List.mem_range.mpr h)
  rw [show (t == 0) = false from beq_false_of_ne (by omega), Bool.false_or] at a
  have b := List.all_eq_true.mp a s (List.mem_range.mpr hs)
  rw [Bool.and_eq_true] at b
  refine ⟨eq_of_beq b.1, fun z => ?_⟩
  have e := eq_of_beq b.2
  have : (decide (1 ≤ s) || t == 1) = true := by
    rcases z with z | z
    · rw [decide_eq_true z]; rfl
    · rw [z]; simp
  rw [this] at e
  exact Option.isSome_iff_exists.mp e.symm
theorem lc_cst {t s : Nat} (h : 1 ≤ t) : lc t s = cst TL t s := if_neg (by omega)
/-- a pair of a cost, or none, and a split -/
def entF : PyData → Bool
  | .tuple [.none, .int _] => true
  | .tuple [.int _, .int _] => true
  | _ => false
def rowF (s : Nat) : PyData → Bool
  | .tuple es => es.length == s + 1 && es.all entF
  | _ => false
def tabF (b s : Nat) : PyData → Bool
  | .tuple ds => ds.length == b && ds.all (rowF s)
  | _ => false
def okK (t s : Nat) (k : Int) : Bool := (spl t s).any (fun m => (m : Int) == k) || ((spl t s).isEmpty && k == 0)
def okC : Option Nat → PyData → Bool
  | none, .none => true
  | some c, .int i => (c : Int) == i
  | _, _ => false
def okD (t s : Nat) : PyData → Bool
  | .tuple [c, .int k] => okC (lc t s) c && okK t s k
  | _ => false
theorem okD_ent {t s : Nat} {d : PyData} (h : okD t s d = true) : ∃ e : Ent, d = entD e ∧ e.1 = lc t s := by
  unfold okD at h
  split at h
  · rename_i c k
    rw [Bool.and_eq_true] at h
    obtain ⟨h1, h2⟩ := h
    have hk : ∃ m : Nat, k = (m : Int) := by
      unfold okK at h2
      rw [Bool.or_eq_true] at h2
      rcases h2 with h2 | h2
      · obtain ⟨m, _, hm⟩ := List.any_eq_true.mp h2
        exact ⟨m, (eq_of_beq hm).symm⟩
      · rw [Bool.and_eq_true] at h2
        exact ⟨0, eq_of_beq h2.2⟩
    obtain ⟨m, rfl⟩ := hk
    refine ⟨(lc t s, m), ?_, rfl⟩
    unfold okC at h1
    split at h1
    · rename_i e
      show PyData.tuple [.none, .int (m : Int)] = .tuple [cD (lc t s), .int (m : Int)]
      rw [e]
      rfl
    · rename_i c' i e
      show PyData.tuple [.int i, .int (m : Int)] = .tuple [cD (lc t s), .int (m : Int)]
      rw [e, ← eq_of_beq h1]
      rfl
    · cases h1
  · cases h
theorem eqv_ent {t s : Nat} {c : PyData} {k : Int} {m : Nat} (hc : c = .none ∨ ∃ i, c = .int i) : PyData.eqv (entD (lc t s, m)) (.tuple [c, .int k]) = (okC (lc t s) c && ((m : Int) == k)) := by
  have e : PyData.eqv (entD (lc t s, m)) (.tuple [c, .int k]) = (PyData.eqv (cD (lc t s)) c && (((m : Int) == k) && true)) := by
    show PyData.eqv (.tuple [cD (lc t s), .int (m : Int)]) (.tuple [c, .int k]) = _
    simp only [PyData.eqv, PyData.eqvAll]
  rw [e, Bool.and_true]
  congr 1
  rcases hc with rfl | ⟨i, rfl⟩
  · cases lc t s with
    | none => simp only [cD, PyData.eqv, okC]
    | some a => simp only [cD, PyData.eqv, okC]
  · cases lc t s with
    | none => simp only [cD, PyData.eqv, okC]
    | some a => simp only [cD, PyData.eqv, okC]
theorem entF_is {d : PyData} (h : entF d = true) : ∃ c k, d = .tuple [c, .int k] ∧ (c = .none ∨ ∃ i, c = .int i) := by
  unfold entF at h
  split at h
  · exact ⟨_, _, rfl, .inl rfl⟩
  · exact ⟨_, _, rfl, .inr ⟨_, rfl⟩⟩
  · cases h
theorem right_any {t s : Nat} {d : PyData} (h1 : 1 ≤ t) (h : t < 41) (hs : s < 9) (hd : entF d = true) : ((right TL t s).map entD).any (fun z => PyData.eqv z d) = okD t s d := by
  obtain ⟨c, k, rfl, hc⟩ := entF_is hd
  rw [(chkS_at h1 h hs).1]
  unfold rgt
  show _ = (okC (lc t s) c && okK t s k)
  cases e : (spl t s).isEmpty with
  | true =>
    rw [if_pos rfl]
    show (PyData.eqv (entD (lc t s, 0)) (.tuple [c, .int k]) || false) = _
    rw [eqv_ent hc, Bool.or_false]
    have : spl t s = [] := List.isEmpty_iff.mp e
    unfold okK
    rw [this]
    show (okC (lc t s) c && ((0 : Int) == k)) = (okC (lc t s) c && (k == 0))
    rw [show ((0 : Int) == k) = (k == 0) from BEq.comm]
  | false =>
    rw [if_neg Bool.false_ne_true]
    unfold okK
    rw [e, Bool.false_and, Bool.or_false]
    induction spl t s with
    | nil => simp
    | cons m r ih =>
      rw [List.map_cons, List.map_cons, List.any_cons, List.any_cons, eqv_ent hc, ih]
      cases okC (lc t s) c <;> simp
/-- every entry is right -/
def okRow (t : Nat) (es : List PyData) : Bool := (List.range es.length).all fun u => okD t u (es.getD u .none)
def itemsD : PyData → List PyData
  | .tuple es => es
  | _ => []
def okTab (ds : List PyData) : Bool := (List.range ds.length).all fun i => okRow (i + 1) (itemsD (ds.getD i .none))
/-- what is wrong with a table -/
def rsn (b s : Nat) (d : PyData) : Option Str := if tabF b s d = true then (if okTab (itemsD d) = true then none else some "entry") else some "form"
end Sd

namespace Sd
open PySem L2 Tr Pu PyProof.Rows
abbrev sWhole : Stmt := top 26
abbrev sPair : Stmt := top 27
abbrev sHef : Stmt := top 19
def dEf (ds : List PyData) (d : PyData) : Prop := ∃ x, ds = [x] ∧ d = .bool (entF x)
theorem entF_2 (c k : PyData) : entF (.tuple [c, k]) = ((match c with | .none => true | c => isI c) && isI k) := by
  cases c <;> cases k <;> rfl
section
variable {P : Program} {w : World} {K : PySem.W.Frag} {mg : Str → Option Value} {base : Heap}
theorem scWhole : FnScope ["value"] ["value"] (defScope sWhole) := ⟨rfl, rfl, rfl, by decide +kernel, rfl, by decide +kernel, by decide +kernel⟩
theorem ok_whole {f : Addr} {fd : FuncData} (F : Fun K "_law_whole" "_law_whole" sWhole f fd) (T : Bi mg) : FnOk P w K mg base CX0 1 f fd ["value"] (spP K 1 dIsi) := by
  refine ok_P F scWhole (by decide) (fun cdv A outer s H E hr => ⟨_, pss_one (ps_ret (pe_and (pe_callB call_isi rfl T.isinstance PyProof.Rows.boot_isinstance (pa_cons (pv 0) (pa_cons (pe_bltn (v := .ty "int") rfl T.int PyProof.Rows.boot_int rfl) pa_nil))) (pe_one (pe_not (pe_callB call_isi rfl T.isinstance PyProof.Rows.boot_isinstance (pa_cons (pv 0) (pa_cons (pe_bltn (v := .ty "bool") rfl T.bool PyProof.Rows.boot_bool rfl) pa_nil))))))), ?_⟩)
  rintro ds d - ⟨x, rfl, rfl⟩
  cases x with
  | none => exact dr_ret (de_andF (de_isi (de_var rfl) (show kitB "NoneType" "int" = some false by decide +kernel)))
  | bool b => exact dr_ret (de_andT (de_isi (de_var rfl) (show kitB "bool" "int" = some true by decide +kernel)) (de_not (de_isi (d := .bool b) (n := "bool") (b := true) (de_var rfl) (show kitB "bool" "bool" = some true by decide +kernel))))
  | int i => exact dr_ret (de_andT (de_isi (de_var rfl) (show kitB "int" "int" = some true by decide +kernel)) (de_not (de_isi (d := .int i) (n := "bool") (b := false) (de_var rfl) (show kitB "int" "bool" = some false by decide +kernel))))
  | str z => exact dr_ret (de_andF (de_isi (de_var rfl) (show kitB "str" "int" = some false by decide +kernel)))
  | tuple l => exact dr_ret (de_andF (de_isi (de_var rfl) (show kitB "tuple" "int" = some false by decide +kernel)))
  | list l => exact dr_ret (de_andF (de_isi (de_var rfl) (show kitB "list" "int" = some false by decide +kernel)))
  | dict l => exact dr_ret (de_andF (de_isi (de_var rfl) (show kitB "list" "int" = some false by decide +kernel)))
theorem scPair : FnScope ["pair"] ["pair"] (defScope sPair) := ⟨rfl, rfl, rfl, by decide +kernel, rfl, by decide +kernel, by decide +kernel⟩
theorem ok_pair {f : Addr} {fd : FuncData} (F : Fun K "_law_pair" "_law_pair" sPair f fd) (T : Bi mg) (c_whole : Cal P w K mg base CX0 1 "_law_whole" ["value"] (spP K 1 dIsi)) : FnOk P w K mg base CX0 2 f fd ["pair"] (spP K 1 dEf) := by
  refine ok_P F scPair (by decide) (fun cdv A outer s H E hr => ⟨_, pss_cons (ps_if (PW.pt (pw_or (pt_not (pt_val (pe_callB call_isi rfl T.isinstance PyProof.Rows.boot_isinstance (pa_cons (pv 0) (pa_cons (pe_bltn (v := .ty "tuple") rfl T.tuple PyProof.Rows.boot_tuple rfl) pa_nil))))) (pw_or (pt_cmpR op_ne (pe_callB call_len_seq rfl T.len PySem.boot_len (pa_cons (pv 0) pa_nil)) pe_int (nomark _)) (pw_or1 (pt_not (pt_val (pe_call c_whole.ok (hr.mono (by first | decide | omega)) rfl c_whole.m c_whole.kp c_whole.b .nil pass0 (pa_cons (pe_ix ix_tup (pv 0) pe_int (fun _ _ => rfl)) pa_nil)))))))) (pss_one (ps_ret pe_bl)) pss_nil)
      (pss_one (ps_ret (pe_or (pe_cmpR op_isN (pe_ix ix_tup (pv 0) pe_int (fun _ _ => rfl)) pe_non (nomark _)) (pe_one (pe_call c_whole.ok (hr.mono (by first | decide | omega)) rfl c_whole.m c_whole.kp c_whole.b .nil pass0 (pa_cons (pe_ix ix_tup (pv 0) pe_int (fun _ _ => rfl)) pa_nil)))))), ?_⟩)
  rintro ds d - ⟨x, rfl, rfl⟩
  have no : ∀ n : String, tyD x = n → kitB n "tuple" = some false → entF x = false → DT K (tNot (tB (tCB (rIsi K) (tCons (tVar 0) (tCons (tC (.ty "tuple")) tNil))))) (List.map some [x] ++ List.replicate (1 - 1) none) true := fun n hn hk _ => dt_notT (dt_B (de_isi (de_var (d := x) rfl) (by rw [hn]; exact hk)))
  cases x with
  | none => exact dr_whenT (dt_orT (no "NoneType" rfl (by decide +kernel) rfl)) (dr_ret de_bl)
  | bool b => exact dr_whenT (dt_orT (no "bool" rfl (by decide +kernel) rfl)) (dr_ret de_bl)
  | int i => exact dr_whenT (dt_orT (no "int" rfl (by decide +kernel) rfl)) (dr_ret de_bl)
  | str z => exact dr_whenT (dt_orT (no "str" rfl (by decide +kernel) rfl)) (dr_ret de_bl)
  | list l => exact dr_whenT (dt_orT (no "list" rfl (by decide +kernel) rfl)) (dr_ret de_bl)
  | dict l => exact dr_whenT (dt_orT (no "list" rfl (by decide +kernel) rfl)) (dr_ret de_bl)
  | tuple l =>
    have isT : DT K (tNot (tB (tCB (rIsi K) (tCons (tVar 0) (tCons (tC (.ty "tuple")) tNil))))) (List.map some [.tuple l] ++ List.replicate (1 - 1) none) false := dt_notF (dt_B (de_isi (de_var (d := .tuple l) rfl) (show kitB "tuple" "tuple" = some true by decide +kernel)))
    have LEN : ∀ {q : List V → Hp → VK → Prop}, (∀ p ys H (Q : VK), SqT K H p ys → Q (.int ys.length) H → q [.ref p] H Q) → DE K (tCB q (tCons (tVar 0) tNil)) (List.map some [PyData.tuple l] ++ List.replicate (1 - 1) none) (.int (l.length : Int)) := fun hq => de_lenT hq (de_var rfl)
    by_cases h2 : l.length = 2
    · obtain ⟨c, k, rfl⟩ : ∃ c k, l = [c, k] := by
        match l, h2 with
        | [c, k], _ => exact ⟨c, k, rfl⟩
      have H0 : DE K (tOp (rIxT K) (tVar 0) (tC (.int 0))) (List.map some [PyData.tuple [c, k]] ++ List.replicate (1 - 1) none) c := de_ix (de_var rfl) de_int rfl
      have H1 : DE K (tOp (rIxT K) (tVar 0) (tC (.int 1))) (List.map some [PyData.tuple [c, k]] ++ List.replicate (1 - 1) none) k := de_ix (de_var rfl) de_int rfl
      have W1 := de_call (K := K) (E := fun _ _ _ => False) (da_one H1) pv_isi
      have W0 := de_call (K := K) (E := fun _ _ _ => False) (da_one H0) pv_isi
      rw [entF_2]
      cases hk : isI k with
      | false =>
        rw [hk] at W1
        rw [Bool.and_false]
        exact dr_whenT (dt_orF isT (dt_orF (dt_test (b := false) (de_neI (K := K) (LEN (fun p ys H Q h q => ⟨p, ys, rfl, .inr h, q⟩)) (de_int (i := 2)))) (dt_notT (dt_B W1)))) (dr_ret de_bl)
      | true =>
        rw [hk] at W1
        rw [Bool.and_true]
        refine dr_whenF (dt_orF isT (dt_orF (dt_test (b := false) (de_neI (K := K) (LEN (fun p ys H Q h q => ⟨p, ys, rfl, .inr h, q⟩)) (de_int (i := 2)))) (dt_notF (dt_B W1)))) (dr_ret ?_)
        cases c with
        | none => exact de_orT (de_isN (fun _ _ _ q => ⟨rfl, q⟩) H0)
        | bool b => exact de_orF (de_isN (fun _ _ _ q => ⟨rfl, q⟩) H0) W0
        | int b => exact de_orF (de_isN (fun _ _ _ q => ⟨rfl, q⟩) H0) W0
        | str b => exact de_orF (de_isN (fun _ _ _ q => ⟨rfl, q⟩) H0) W0
        | tuple b => exact de_orF (de_isN (fun _ _ _ q => ⟨rfl, q⟩) H0) W0
        | list b => exact de_orF (de_isN (fun _ _ _ q => ⟨rfl, q⟩) H0) W0
        | dict b => exact de_orF (de_isN (fun _ _ _ q => ⟨rfl, q⟩) H0) W0
    · have e : entF (.tuple l) = false := by
        match l, h2 with
        | [], _ => rfl
        | [c], _ => cases c <;> rfl
        | [c, k], h => exact absurd rfl h
        | c :: k :: m :: r, _ => cases c <;> cases k <;> rfl
      rw [e]
      refine dr_whenT (dt_orF isT (dt_orT (dt_test (b := true) ?_))) (dr_ret de_bl)
      refine de_of ?_ (de_neI (K := K) (LEN (fun p ys H Q h q => ⟨p, ys, rfl, .inr h, q⟩)) (de_int (i := 2)))
      rw [decide_eq_false (show ¬ ((l.length : Int) = 2) by omega)]
      rfl
theorem scHef : FnScope ["entry", "cost", "split"] ["entry"] (defScope sHef) := ⟨rfl, rfl, rfl, by decide +kernel, rfl, by decide +kernel, by decide +kernel⟩
theorem ok_hef {f : Addr} {fd : FuncData} (F : Fun K "has_entry_form" "has_entry_form" sHef f fd) (T : Bi mg) (c_isi : Cal P w K mg base CX0 1 "is_integer" ["value"] (spP K 1 dIsi)) : FnOk P w K mg base CX0 2 f fd ["entry"] (spP K 1 dEf) := by
  have nd := scHef.nd
  refine ok_P F scHef (by decide) (fun cdv A outer s H E hr => ⟨_, pss_cons (ps_if (PW.pt (pw_or (pt_not (pt_val (pe_callB call_isi rfl T.isinstance PyProof.Rows.boot_isinstance (pa_cons (pv 0) (pa_cons (pe_bltn (v := .ty "tuple") rfl T.tuple PyProof.Rows.boot_tuple rfl) pa_nil))))) (pw_or1 (pt_cmpR op_ne (pe_callB call_len_seq rfl T.len PySem.boot_len (pa_cons (pv 0) pa_nil)) pe_int (nomark _))))) (pss_one (ps_ret pe_bl)) pss_nil)
      (pss_cons (ps_asg (pv 0) (pg_tup (by rfl) (pgs_cons (pg_name (i := 1) nd rfl (.inl rfl)) (pgs_cons (pg_name (i := 2) nd rfl (.inl rfl)) pgs_nil))))
      (pss_one (ps_ret (pe_and (pe_or (pe_cmpR op_isN (pv 1) pe_non (nomark _)) (pe_one (pe_call c_isi.ok (hr.mono (by first | decide | omega)) rfl c_isi.m c_isi.kp c_isi.b .nil pass0 (pa_cons (pv 1) pa_nil)))) (pe_one (pe_call c_isi.ok (hr.mono (by first | decide | omega)) rfl c_isi.m c_isi.kp c_isi.b .nil pass0 (pa_cons (pv 2) pa_nil))))))), ?_⟩)
  rintro ds d - ⟨x, rfl, rfl⟩
  have no : ∀ n : String, tyD x = n → kitB n "tuple" = some false → DT K (tNot (tB (tCB (rIsi K) (tCons (tVar 0) (tCons (tC (.ty "tuple")) tNil))))) (List.map some [x] ++ List.replicate (3 - 1) none) true := fun n hn hk => dt_notT (dt_B (de_isi (de_var (d := x) rfl) (by rw [hn]; exact hk)))
  cases x with
  | none => exact dr_whenT (dt_orT (no "NoneType" rfl (by decide +kernel))) (dr_ret de_bl)
  | bool b => exact dr_whenT (dt_orT (no "bool" rfl (by decide +kernel))) (dr_ret de_bl)
  | int i => exact dr_whenT (dt_orT (no "int" rfl (by decide +kernel))) (dr_ret de_bl)
  | str z => exact dr_whenT (dt_orT (no "str" rfl (by decide +kernel))) (dr_ret de_bl)
  | list l => exact dr_whenT (dt_orT (no "list" rfl (by decide +kernel))) (dr_ret de_bl)
  | dict l => exact dr_whenT (dt_orT (no "list" rfl (by decide +kernel))) (dr_ret de_bl)
  | tuple l =>
    have isT : DT K (tNot (tB (tCB (rIsi K) (tCons (tVar 0) (tCons (tC (.ty "tuple")) tNil))))) (List.map some [.tuple l] ++ List.replicate (3 - 1) none) false := dt_notF (dt_B (de_isi (de_var (d := .tuple l) rfl) (show kitB "tuple" "tuple" = some true by decide +kernel)))
    have LEN : ∀ {q : List V → Hp → VK → Prop}, (∀ p ys H (Q : VK), SqT K H p ys → Q (.int ys.length) H → q [.ref p] H Q) → DE K (tCB q (tCons (tVar 0) tNil)) (List.map some [PyData.tuple l] ++ List.replicate (3 - 1) none) (.int (l.length : Int)) := fun hq => de_lenT hq (de_var rfl)
    by_cases h2 : l.length = 2
    · obtain ⟨c, k, rfl⟩ : ∃ c k, l = [c, k] := by
        match l, h2 with
        | [c, k], _ => exact ⟨c, k, rfl⟩
      refine dr_whenF (dt_orF isT (dt_test (b := false) (de_neI (K := K) (LEN (fun p ys H Q h q => ⟨p, ys, rfl, .inr h, q⟩)) (de_int (i := 2))))) ?_
      refine dr_un2 (x := c) (y := k) (de_var rfl) (dr_ret ?_)
      have W1 : DE K (tCall (spP K 1 dIsi) [] (fun _ _ _ => False) (tCons (tVar 2) tNil)) [some (.tuple [c, k]), some c, some k] (.bool (isI k)) := de_call (da_one (de_var rfl)) pv_isi
      have W0 : DE K (tCall (spP K 1 dIsi) [] (fun _ _ _ => False) (tCons (tVar 1) tNil)) [some (.tuple [c, k]), some c, some k] (.bool (isI c)) := de_call (da_one (de_var rfl)) pv_isi
      have H0 : DE K (tVar 1) [some (.tuple [c, k]), some c, some k] c := de_var rfl
      rw [entF_2]
      refine de_and ?_ (fun _ => W1)
      cases c with
      | none => exact de_orT (de_isN (fun _ _ _ q => ⟨rfl, q⟩) H0)
      | bool b => exact de_orF (de_isN (fun _ _ _ q => ⟨rfl, q⟩) H0) W0
      | int b => exact de_orF (de_isN (fun _ _ _ q => ⟨rfl, q⟩) H0) W0
      | str b => exact de_orF (de_isN (fun _ _ _ q => ⟨rfl, q⟩) H0) W0
      | tuple b => exact de_orF (de_isN (fun _ _ _ q => ⟨rfl, q⟩) H0) W0
      | list b => exact de_orF (de_isN (fun _ _ _ q => ⟨rfl, q⟩) H0) W0
      | dict b => exact de_orF (de_isN (fun _ _ _ q => ⟨rfl, q⟩) H0) W0
    · have e : entF (.tuple l) = false := by
        match l, h2 with
        | [], _ => rfl
        | [c], _ => cases c <;> rfl
        | [c, k], h => exact absurd rfl h
        | c :: k :: m :: r, _ => cases c <;> cases k <;> rfl
      rw [e]
      refine dr_whenT (dt_orF isT (dt_test (b := true) ?_)) (dr_ret de_bl)
      refine de_of ?_ (de_neI (K := K) (LEN (fun p ys H Q h q => ⟨p, ys, rfl, .inr h, q⟩)) (de_int (i := 2)))
      rw [decide_eq_false (show ¬ ((l.length : Int) = 2) by omega)]
      rfl
end
end Sd

namespace Sd
open PySem L2 Tr Pu PyProof.Rows
def isTup : PyData → Bool
  | .tuple _ => true
  | _ => false
section
variable {K : PySem.W.Frag} {H : Hp} {σ : L2.St} {ρ : Rho}
theorem when_k {t : TT} {ts tu : TS} {D : Ends} {b : Bool} (h : DT K t ρ b) (en : En K H σ ρ) (g1 : b = true → ∀ H2, Same H H2 → ts { D with nx := tu D } σ H2) (g2 : b = false → ∀ H2, Same H H2 → tu D σ H2) : tSeq (tIfS t ts tNext) tu D σ H :=
  h σ H _ en fun H1 s1 => by
    cases b with
    | true => exact iteT' rfl (g1 rfl H1 s1)
    | false => exact iteF' rfl (g2 rfl H1 s1)
theorem bn {b : Bool} (h : (!b) = true) : b = false := by cases b <;> first | rfl | cases h
theorem bp {b : Bool} (h : (!b) = false) : b = true := by cases b <;> first | rfl | cases h
theorem or_k {t u : TT} {b : Bool} {Q : Bool → Hp → Prop} (h : DT K t ρ b) (en : En K H σ ρ) (g1 : b = true → ∀ H2, Same H H2 → Q true H2) (g2 : b = false → ∀ H2, Same H H2 → u σ H2 Q) : tOr t u σ H Q :=
  h σ H _ en fun H1 s1 => by
    cases b with
    | true => exact iteT' rfl (g1 rfl H1 s1)
    | false => exact iteF' rfl (g2 rfl H1 s1)
theorem de_isT {i : Nat} {d : PyData} (hd : ρ[i]? = some (some d)) : DE K (tCB (rIsi K) (tCons (tVar i) (tCons (tC (.ty "tuple")) tNil))) ρ (.bool (isTup d)) := by
  cases d with
  | none => exact de_isi (de_var hd) (show kitB "NoneType" "tuple" = some false by decide +kernel)
  | bool b => exact de_isi (de_var hd) (show kitB "bool" "tuple" = some false by decide +kernel)
  | int b => exact de_isi (de_var hd) (show kitB "int" "tuple" = some false by decide +kernel)
  | str b => exact de_isi (de_var hd) (show kitB "str" "tuple" = some false by decide +kernel)
  | tuple b => exact de_isi (de_var hd) (show kitB "tuple" "tuple" = some true by decide +kernel)
  | list b => exact de_isi (de_var hd) (show kitB "list" "tuple" = some false by decide +kernel)
  | dict b => exact de_isi (de_var hd) (show kitB "list" "tuple" = some false by decide +kernel)
theorem tup_len {i : Nat} {d : PyData} {n : Int} {tb : TE} {q : List V → Hp → VK → Prop} (hq : ∀ p ys H (Q : VK), SqT K H p ys → Q (.int ys.length) H → q [.ref p] H Q) (hd : ρ[i]? = some (some d)) (hn : DE K tb ρ (.int n)) :
    DT K (tOr (tNot (tB (tCB (rIsi K) (tCons (tVar i) (tCons (tC (.ty "tuple")) tNil))))) (tTest (tOp rNe (tCB q (tCons (tVar i) tNil)) tb))) ρ (!(isTup d && decide (((itemsD d).length : Int) = n))) := by
  have h1 := dt_not (dt_B (de_isT (K := K) hd))
  cases e : isTup d with
  | false =>
    rw [e] at h1
    exact dt_orT h1
  | true =>
    rw [e] at h1
    obtain ⟨l, rfl⟩ : ∃ l, d = .tuple l := by
      cases d with
      | tuple l => exact ⟨l, rfl⟩
      | none => cases e
      | bool b => cases e
      | int b => cases e
      | str b => cases e
      | list b => cases e
      | dict b => cases e
    rw [Bool.true_and]
    exact dt_orF h1 (dt_test (de_neI (de_lenT hq (de_var hd)) hn))
end
def spLfo (K : PySem.W.Frag) : Sp := fun vs H Q _ => ∃ (v : V) (d : PyData) (b s : Nat), vs = [v, .int (b : Int), .int (s : Int)] ∧ Tv K H d v ∧ b ≤ 40 ∧ s ≤ 8 ∧ ∀ H', Same H H' → Q (.bl (tabF b s d)) H'
def spHtf (K : PySem.W.Frag) : Sp := fun vs H Q _ => ∃ (v : V) (d : PyData) (b s : Nat), vs = [.int (b : Int), .int (s : Int), v] ∧ Tv K H d v ∧ b ≤ 40 ∧ s ≤ 8 ∧ ∀ H', Same H H' → Q (.bl (tabF b s d)) H'
abbrev sLfo : Stmt := top 28
abbrev nLfo : List Str := ["table", "beats", "slots", "row", "pair"]
abbrev sHtf : Stmt := top 18
abbrev nHtf : List Str := ["beats", "slots", "table", "row", "entry"]
theorem tabF_no {b s : Nat} {d : PyData} (h : (isTup d && decide (((itemsD d).length : Int) = (b : Int))) = false) : tabF b s d = false := by
  cases d with
  | tuple l =>
    have : ¬ (l.length : Int) = (b : Int) := by
      have h' : decide ((l.length : Int) = (b : Int)) = false := by rw [← h]; rfl
      exact of_decide_eq_false h'
    show (l.length == b && l.all (rowF s)) = false
    rw [show (l.length == b) = false from beq_false_of_ne (by omega), Bool.false_and]
  | none => rfl
  | bool b => rfl
  | int b => rfl
  | str b => rfl
  | list b => rfl
  | dict b => rfl
theorem rowF_no {s : Nat} {d : PyData} (h : (isTup d && decide (((itemsD d).length : Int) = (s : Int) + 1)) = false) : rowF s d = false := by
  cases d with
  | tuple l =>
    have : ¬ (l.length : Int) = (s : Int) + 1 := by
      have h' : decide ((l.length : Int) = (s : Int) + 1) = false := by rw [← h]; rfl
      exact of_decide_eq_false h'
    show (l.length == s + 1 && l.all entF) = false
    rw [show (l.length == s + 1) = false from beq_false_of_ne (by omega), Bool.false_and]
  | none => rfl
  | bool b => rfl
  | int b => rfl
  | str b => rfl
  | list b => rfl
  | dict b => rfl
theorem tup_yes {n : Int} {d : PyData} (h : (isTup d && decide (((itemsD d).length : Int) = n)) = true) : ∃ l, d = .tuple l ∧ (l.length : Int) = n := by
  rw [Bool.and_eq_true] at h
  cases d with
  | tuple l => exact ⟨l, rfl, of_decide_eq_true h.2⟩
  | none => cases h.1
  | bool b => cases h.1
  | int b => cases h.1
  | str b => cases h.1
  | list b => cases h.1
  | dict b => cases h.1
section
variable {P : Program} {w : World} {K : PySem.W.Frag} {mg : Str → Option Value} {base : Heap}
theorem scLfo : FnScope nLfo ["table", "beats", "slots"] (defScope sLfo) := ⟨rfl, rfl, rfl, by decide +kernel, rfl, by decide +kernel, by decide +kernel⟩
theorem ok_lfo {f : Addr} {fd : FuncData} (F : Fun K "_law_form" "_law_form" sLfo f fd) (T : Bi mg) (c_pair : Cal P w K mg base CX0 2 "_law_pair" ["pair"] (spP K 1 dEf)) : FnOk P w K mg base CX0 3 f fd ["table", "beats", "slots"] (spLfo K) := by
  refine F.ok scLfo (fun vs H Q E h => ?_) (fun cdv A outer s H vs Q E hr h => ?_)
  · obtain ⟨v, d, b, s, rfl, _⟩ := h
    rfl
  · obtain ⟨v, d, b, s, rfl, tv, b40, s8, q⟩ := h
    have nd := scLfo.nd
    have en : En K H [some v, some (.int (b : Int)), some (.int (s : Int)), none, none] [some d, some (.int (b : Int)), some (.int (s : Int)), none, none] := en_s tv (en_s rfl (en_s rfl (en_n (en_n en_0))))
    refine ⟨_, pss_cons (ps_if (PW.pt (pw_or (pt_not (pt_val (pe_callB call_isi rfl T.isinstance PyProof.Rows.boot_isinstance (pa_cons (pv 0) (pa_cons (pe_bltn (v := .ty "tuple") rfl T.tuple PyProof.Rows.boot_tuple rfl) pa_nil))))) (pw_or1 (pt_cmpR op_ne (pe_callB call_len_seq rfl T.len PySem.boot_len (pa_cons (pv 0) pa_nil)) (pv 1) (nomark _))))) (pss_one (ps_ret pe_bl)) pss_nil)
      (pss_cons (ps_for PassesOwn.never rfl (pi_tup (pv 0)) (pg_name (i := 3) nd rfl (.inl rfl)) (pss_one (ps_if (PW.pt (pw_or (pt_not (pt_val (pe_callB call_isi rfl T.isinstance PyProof.Rows.boot_isinstance (pa_cons (pv 3) (pa_cons (pe_bltn (v := .ty "tuple") rfl T.tuple PyProof.Rows.boot_tuple rfl) pa_nil))))) (pw_or (pt_cmpR op_ne (pe_callB call_len_seq rfl T.len PySem.boot_len (pa_cons (pv 3) pa_nil)) (pe_op op_add (pv 2) pe_int) (nomark _)) (pw_or1 (pt_truth (pe_lc (own := [("pair", 4)]) (g := gName 4) rfl nd (pi_tup (pv 3)) (blkOk_by (N := nLfo) (sc := defScope sLfo) (by decide +kernel)) (fun _ _ _ _ _ => pg_name (i := 4) nd rfl (.inl rfl)) (fun _ _ _ _ _ => pts_one (pt_not (pt_val (pe_call c_pair.ok (hr.mono (by first | decide | omega)) rfl c_pair.m c_pair.kp c_pair.b .nil pass0 (pa_cons (pv 4) pa_nil))))) (fun _ _ _ _ _ => (pv 4))) (by intro _; rfl)))))) (pss_one (ps_ret pe_bl)) pss_nil)))
      (pss_one (ps_ret pe_bl))), ?_⟩
    refine when_k (tup_len (fun p ys H Q h q => ⟨p, ys, rfl, .inr h, q⟩) rfl (de_var (d := .int (b : Int)) rfl)) en (fun c H1 s1 => ?_) (fun c H1 s1 => ?_)
    · rw [tabF_no (bn c)] at q
      exact q H1 s1
    · obtain ⟨l, rfl, ll⟩ := tup_yes (bp c)
      have eT : tabF b s (.tuple l) = l.all (rowF s) := by
        show (l.length == b && l.all (rowF s)) = _
        rw [show (l.length == b) = true from beq_iff_eq.mpr (by omega), Bool.true_and]
      rw [eT] at q
      obtain ⟨a, xs, rfl, sq, tl⟩ := tv.carry (same_carry s1)
      have lx := tvl_len tl
      refine ⟨_, rfl, a, rfl, ⟨_, sq⟩, for_tup (K := K) (a := a) (xs := xs) (fun i σ H' => Same H1 H' ∧ (l.take i).all (rowF s) = true ∧ ∃ w3 w4 : Option V, σ = [some (.ref a), some (.int (b : Int)), some (.int (s : Int)), w3, w4]) ⟨same_refl H1, rfl, none, none, rfl⟩ (fun i σ H' _ h => same_carry h.1 _ _ sq) ?_ ?_⟩
      · rintro i x σ H2 hi ⟨s2, pre, w3, w4, rfl⟩
        have il : i < l.length := by rw [← lx]; exact (List.getElem?_eq_some_iff.mp hi).1
        obtain ⟨y, hy⟩ : ∃ y, l[i]? = some y := ⟨_, List.getElem?_eq_getElem il⟩
        obtain ⟨x', hx', tx⟩ := tvl_get (TvL.carry (same_carry s2) _ _ tl) hy
        rw [hi] at hx'
        cases hx'
        have tk : l.take (i + 1) = l.take i ++ [y] := by rw [List.take_add_one, hy]; rfl
        have no : rowF s y = false → l.all (rowF s) = false := fun h => by
          rw [List.all_eq_false]
          exact ⟨y, List.mem_of_getElem? hy, by rw [h]; exact Bool.false_ne_true⟩
        have en2 : En K H2 [some (.ref a), some (.int (b : Int)), some (.int (s : Int)), some x, w4] [none, some (.int (b : Int)), some (.int (s : Int)), some y, none] := en_n (en_s rfl (en_s rfl (en_s tx (en_n en_0))))
        refine or_k (dt_not (dt_B (de_isT (i := 3) rfl))) en2 (fun c H3 s3 => ?_) (fun c H3 s3 => ?_)
        · refine iteT' rfl ?_
          rw [no (rowF_no (by rw [bn c]; rfl))] at q
          exact q H3 ((s1.trans s2).trans s3)
        have it := bp c
        obtain ⟨es, rfl⟩ : ∃ es, y = .tuple es := by
          cases y with
          | tuple l => exact ⟨l, rfl⟩
          | none => cases it
          | bool b => cases it
          | int b => cases it
          | str b => cases it
          | list b => cases it
          | dict b => cases it
        refine or_k (dt_test (de_neI (K := K) (de_lenT (fun p ys H Q h q => ⟨p, ys, rfl, .inr h, q⟩) (de_var (d := .tuple es) rfl)) (de_opI (de_var (d := .int (s : Int)) rfl) de_int))) (en2.next s3) (fun c H4 s4 => ?_) (fun c H4 s4 => ?_)
        · refine iteT' rfl ?_
          rw [no (rowF_no (d := .tuple es) (bn c))] at q
          exact q H4 (((s1.trans s2).trans s3).trans s4)
        have le : (es.length : Int) = (s : Int) + 1 := of_decide_eq_true (bp c)
        have eR : rowF s (.tuple es) = es.all entF := by
          show (es.length == s + 1 && es.all entF) = _
          rw [show (es.length == s + 1) = true from beq_iff_eq.mpr (by omega), Bool.true_and]
        obtain ⟨ra, ys, rfl, sqr, tlr⟩ := (tx.carry (same_carry s3)).carry (same_carry s4)
        have ly := tvl_len tlr
        refine ⟨_, rfl, ra, rfl, ⟨_, sqr⟩, fun D hD => ?_⟩
        refine lc_tup (K := K) (a := ra) (xs := ys) (fun j H' => Same H4 H' ∧ ∃ acc, H' D = some (.lst acc) ∧ acc.length ≤ j ∧ acc.isEmpty = (es.take j).all entF) ⟨same_alloc hD, [], upd_same, Nat.le_refl _, rfl⟩ (fun j H' _ h => same_carry h.1 _ _ sqr) ?_ ?_
        · rintro j z H5 hj ⟨s5, acc, eD, la, ea⟩
          obtain ⟨e, he⟩ : ∃ e, es[j]? = some e := ⟨_, List.getElem?_eq_getElem (by rw [← ly]; exact (List.getElem?_eq_some_iff.mp hj).1)⟩
          obtain ⟨z', hz', tz⟩ := tvl_get (TvL.carry (same_carry s5) _ _ tlr) he
          rw [hj] at hz'
          cases hz'
          have je : j < es.length := (List.getElem?_eq_some_iff.mp he).1
          have tke : es.take (j + 1) = es.take j ++ [e] := by rw [List.take_add_one, he]; rfl
          refine ⟨rfl, _, rfl, [e], _, rfl, ⟨_, _, rfl, tz, rfl⟩, ⟨e, rfl, rfl⟩, fun u H6 s6 tu => ?_⟩
          cases tu
          refine ⟨_, rfl, ?_⟩
          have nD : H4 D = none := hD
          cases ce : entF e with
          | true =>
            refine iteF' rfl ?_
            refine ⟨s5.trans s6, acc, s6 _ _ eD, Nat.le_succ_of_le la, ?_⟩
            rw [tke, List.all_append, ea]
            simp [ce]
          | false =>
            refine iteT' rfl ?_
            refine ⟨_, rfl, acc, s6 _ _ eD, Nat.lt_of_le_of_lt (show acc.length ≤ 9 by omega) (by decide), same_put (s5.trans s6) hD, _, upd_same, ?_, ?_⟩
            · rw [List.length_append]
              exact Nat.succ_le_succ la
            · rw [tke, List.all_append]
              simp [ce]
        · rintro H5 ⟨s5, acc, eD, la, ea⟩
          rw [ly, List.take_length] at ea
          have sm := (((s1.trans s2).trans s3).trans s4).trans s5
          refine ⟨_, .inl ⟨acc, SqL.of eD, rfl⟩, ?_⟩
          cases ce : es.all entF with
          | true =>
            rw [ea, ce]
            refine iteF' rfl ?_
            refine ⟨((s2.trans s3).trans s4).trans s5, ?_, _, _, rfl⟩
            rw [tk, List.all_append, pre]
            show (true && (rowF s (.tuple es) && true)) = true
            rw [eR, ce]
            rfl
          | false =>
            rw [ea, ce]
            refine iteT' rfl ?_
            rw [no (by rw [eR]; exact ce)] at q
            exact q H5 sm
      · rintro σ H2 ⟨s2, pre, w3, w4, rfl⟩
        rw [lx, List.take_length] at pre
        rw [pre] at q
        exact q H2 (s1.trans s2)
theorem scHtf : FnScope nHtf ["beats", "slots", "table"] (defScope sHtf) := ⟨rfl, rfl, rfl, by decide +kernel, rfl, by decide +kernel, by decide +kernel⟩
theorem ok_htf {f : Addr} {fd : FuncData} (F : Fun K "has_table_form" "has_table_form" sHtf f fd) (T : Bi mg) (zAll : mg "all" = none) (c_hef : Cal P w K mg base CX0 2 "has_entry_form" ["entry"] (spP K 1 dEf)) : FnOk P w K mg base CX0 3 f fd ["beats", "slots", "table"] (spHtf K) := by
  refine F.ok scHtf (fun vs H Q E h => ?_) (fun cdv A outer s H vs Q E hr h => ?_)
  · obtain ⟨v, d, b, s, rfl, _⟩ := h
    rfl
  · obtain ⟨v, d, b, s, rfl, tv, b40, s8, q⟩ := h
    have nd := scHtf.nd
    have en : En K H [some (.int (b : Int)), some (.int (s : Int)), some v, none, none] [some (.int (b : Int)), some (.int (s : Int)), some d, none, none] := en_s rfl (en_s rfl (en_s tv (en_n (en_n en_0))))
    refine ⟨_, pss_cons (ps_if (PW.pt (pw_or (pt_not (pt_val (pe_callB call_isi rfl T.isinstance PyProof.Rows.boot_isinstance (pa_cons (pv 2) (pa_cons (pe_bltn (v := .ty "tuple") rfl T.tuple PyProof.Rows.boot_tuple rfl) pa_nil))))) (pw_or1 (pt_cmpR op_ne (pe_callB call_len_seq rfl T.len PySem.boot_len (pa_cons (pv 2) pa_nil)) (pv 0) (nomark _))))) (pss_one (ps_ret pe_bl)) pss_nil)
      (pss_cons (ps_for PassesOwn.never rfl (pi_tup (pv 2)) (pg_name (i := 3) nd rfl (.inl rfl)) (pss_cons (ps_if (PW.pt (pw_or (pt_not (pt_val (pe_callB call_isi rfl T.isinstance PyProof.Rows.boot_isinstance (pa_cons (pv 3) (pa_cons (pe_bltn (v := .ty "tuple") rfl T.tuple PyProof.Rows.boot_tuple rfl) pa_nil))))) (pw_or1 (pt_cmpR op_ne (pe_callB call_len_seq rfl T.len PySem.boot_len (pa_cons (pv 3) pa_nil)) (pe_op op_add (pv 1) pe_int) (nomark _))))) (pss_one (ps_ret pe_bl)) pss_nil)
      (pss_one (ps_if (pt_not (pt_val (pe_callB (cr_all rfl) rfl zAll (by decide +kernel) (pa_cons (pe_lc (own := [("entry", 4)]) (g := gName 4) (tt := tYes) rfl nd (pi_tup (pv 3)) (blkOk_by (N := nHtf) (sc := defScope sHtf) (by decide +kernel)) (fun _ _ _ _ _ => pg_name (i := 4) nd rfl (.inl rfl)) (fun _ _ _ _ _ => pts_nil) (fun _ _ _ _ _ => (pe_call c_hef.ok (hr.mono (by first | decide | omega)) rfl c_hef.m c_hef.kp c_hef.b .nil pass0 (pa_cons (pv 4) pa_nil)))) pa_nil)))) (pss_one (ps_ret pe_bl)) pss_nil))))
      (pss_one (ps_ret pe_bl))), ?_⟩
    refine when_k (tup_len (fun p ys H Q h q => ⟨p, ys, rfl, .inr h, q⟩) rfl (de_var (d := .int (b : Int)) rfl)) en (fun c H1 s1 => ?_) (fun c H1 s1 => ?_)
    · rw [tabF_no (bn c)] at q
      exact q H1 s1
    · obtain ⟨l, rfl, ll⟩ := tup_yes (bp c)
      have eT : tabF b s (.tuple l) = l.all (rowF s) := by
        show (l.length == b && l.all (rowF s)) = _
        rw [show (l.length == b) = true from beq_iff_eq.mpr (by omega), Bool.true_and]
      rw [eT] at q
      obtain ⟨a, xs, rfl, sq, tl⟩ := tv.carry (same_carry s1)
      have lx := tvl_len tl
      refine ⟨_, rfl, a, rfl, ⟨_, sq⟩, for_tup (K := K) (a := a) (xs := xs) (fun i σ H' => Same H1 H' ∧ (l.take i).all (rowF s) = true ∧ ∃ w3 w4 : Option V, σ = [some (.int (b : Int)), some (.int (s : Int)), some (.ref a), w3, w4]) ⟨same_refl H1, rfl, none, none, rfl⟩ (fun i σ H' _ h => same_carry h.1 _ _ sq) ?_ ?_⟩
      · rintro i x σ H2 hi ⟨s2, pre, w3, w4, rfl⟩
        have il : i < l.length := by rw [← lx]; exact (List.getElem?_eq_some_iff.mp hi).1
        obtain ⟨y, hy⟩ : ∃ y, l[i]? = some y := ⟨_, List.getElem?_eq_getElem il⟩
        obtain ⟨x', hx', tx⟩ := tvl_get (TvL.carry (same_carry s2) _ _ tl) hy
        rw [hi] at hx'
        cases hx'
        have tk : l.take (i + 1) = l.take i ++ [y] := by rw [List.take_add_one, hy]; rfl
        have no : rowF s y = false → l.all (rowF s) = false := fun h => by
          rw [List.all_eq_false]
          exact ⟨y, List.mem_of_getElem? hy, by rw [h]; exact Bool.false_ne_true⟩
        have en2 : En K H2 [some (.int (b : Int)), some (.int (s : Int)), some (.ref a), some x, w4] [some (.int (b : Int)), some (.int (s : Int)), none, some y, none] := en_s rfl (en_s rfl (en_n (en_s tx (en_n en_0))))
        refine when_k (tup_len (i := 3) (fun p ys H Q h q => ⟨p, ys, rfl, .inr h, q⟩) rfl (de_opI (de_var (d := .int (s : Int)) rfl) de_int)) en2 (fun c H3 s3 => ?_) (fun c H4 s4 => ?_)
        · rw [no (rowF_no (bn c))] at q
          exact q H3 ((s1.trans s2).trans s3)
        obtain ⟨es, rfl, le⟩ := tup_yes (bp c)
        have eR : rowF s (.tuple es) = es.all entF := by
          show (es.length == s + 1 && es.all entF) = _
          rw [show (es.length == s + 1) = true from beq_iff_eq.mpr (by omega), Bool.true_and]
        obtain ⟨ra, ys, rfl, sqr, tlr⟩ := tx.carry (same_carry s4)
        have ly := tvl_len tlr
        refine ⟨_, rfl, ra, rfl, ⟨_, sqr⟩, fun D hD => ?_⟩
        refine lc_tup (K := K) (a := ra) (xs := ys) (fun j H' => Same H4 H' ∧ H' D = some (.lst ((es.take j).map fun e => V.bl (entF e)))) ⟨same_alloc hD, upd_same⟩ (fun j H' _ h => same_carry h.1 _ _ sqr) ?_ ?_
        · rintro j z H5 hj ⟨s5, eD⟩
          obtain ⟨e, he⟩ : ∃ e, es[j]? = some e := ⟨_, List.getElem?_eq_getElem (by rw [← ly]; exact (List.getElem?_eq_some_iff.mp hj).1)⟩
          obtain ⟨z', hz', tz⟩ := tvl_get (TvL.carry (same_carry s5) _ _ tlr) he
          rw [hj] at hz'
          cases hz'
          have je : j < es.length := (List.getElem?_eq_some_iff.mp he).1
          have tke : es.take (j + 1) = es.take j ++ [e] := by rw [List.take_add_one, he]; rfl
          refine ⟨rfl, _, rfl, [e], _, rfl, ⟨_, _, rfl, tz, rfl⟩, ⟨e, rfl, rfl⟩, fun u H6 s6 tu => ?_⟩
          cases tu
          refine ⟨_, s6 _ _ eD, ?_, same_put (s5.trans s6) hD, ?_⟩
          · rw [List.length_map, List.length_take]
            exact Nat.lt_of_le_of_lt (show min j es.length ≤ 9 by omega) (by decide)
          · rw [upd_same, tke, List.map_append]
            rfl
        · rintro H5 ⟨s5, eD⟩
          rw [ly, List.take_length] at eD
          have sm := (((s1.trans s2).trans s4).trans s5)
          refine ⟨D, es.map entF, rfl, SqL.of (by rw [eD, List.map_map]; rfl), ?_⟩
          have eA : (es.map entF).all id = es.all entF := by rw [List.all_map]; rfl
          rw [eA]
          refine ⟨_, rfl, ?_⟩
          cases ce : es.all entF with
          | true =>
            refine iteF' rfl ?_
            refine ⟨(s2.trans s4).trans s5, ?_, _, _, rfl⟩
            rw [tk, List.all_append, pre]
            show (true && (rowF s (.tuple es) && true)) = true
            rw [eR, ce]
            rfl
          | false =>
            refine iteT' rfl ?_
            rw [no (by rw [eR]; exact ce)] at q
            exact q H5 sm
      · rintro σ H2 ⟨s2, pre, w3, w4, rfl⟩
        rw [lx, List.take_length] at pre
        rw [pre] at q
        exact q H2 (s1.trans s2)
end
end Sd

namespace Sd
open PySem L2 Tr Pu PyProof.Rows
/-- the law's table of costs stands there -/
def Cst (H : Hp) (C : Addr) (s b : Nat) : Prop := ∃ xs, H C = some (.lst xs) ∧ TbR H C s (b + 1) xs
theorem Cst.next {H H' : Hp} {C : Addr} {s b : Nat} (h : Cst H C s b) (sm : Same H H') : Cst H' C s b := by
  obtain ⟨xs, e, t⟩ := h
  exact ⟨xs, sm _ _ e, t.next sm⟩
def splV (l : List Nat) : List V := l.map fun (k : Nat) => V.int (k : Int)
theorem splN_len (t s : Nat) : ∀ i, (splN t s i).length ≤ i
  | 0 => Nat.le_refl _
  | i + 1 => by
    show (splN t s i ++ spl1 t s i).length ≤ i + 1
    rw [List.length_append]
    have h1 := splN_len t s i
    have h2 : (spl1 t s i).length ≤ 1 := by
      unfold spl1
      split
      · split
        · split
          · exact Nat.le_refl _
          · exact Nat.zero_le _
        · exact Nat.zero_le _
      · exact Nat.zero_le _
    omega
def spSpl (K : PySem.W.Frag) : Sp := fun vs H Q _ => ∃ (C : Addr) (b sl t s : Nat), vs = [.ref C, .int (t : Int), .int (s : Int)] ∧ Cst H C sl b ∧ 1 ≤ t ∧ t ≤ b ∧ s ≤ sl ∧ b ≤ 40 ∧ sl ≤ 8 ∧
  ∀ p H', H p = none → Same H H' → H' p = some (.lst (splV (spl t s))) → Q (.ref p) H'
abbrev sSpl : Stmt := top 24
section
variable {P : Program} {w : World} {K : PySem.W.Frag} {mg : Str → Option Value} {base : Heap}
theorem scSpl : FnScope ["costs", "t", "s", "rows", "k"] ["costs", "t", "s"] (defScope sSpl) := ⟨rfl, rfl, rfl, by decide +kernel, rfl, by decide +kernel, by decide +kernel⟩
theorem ok_spl {f : Addr} {fd : FuncData} (F : Fun K "_law_splits" "_law_splits" sSpl f fd) (T : Bi mg) : FnOk P w K mg base CX0 1 f fd ["costs", "t", "s"] (spSpl K) := by
  refine F.ok scSpl (fun vs H Q E h => ?_) (fun cdv A outer s H vs Q E hr h => ?_)
  · obtain ⟨C, b, sl, t, s, rfl, _⟩ := h
    rfl
  · obtain ⟨C, b, sl, t, s, rfl, cs, t1, tb, ss, b40, s8, q⟩ := h
    have nd := scSpl.nd
    refine ⟨_, pss_cons (ps_set (i := 3) nd rfl (.inl rfl) (pe_lst pa_nil))
      (pss_cons (ps_for PassesOwn.never rfl (pi_range2 rfl T.range (pa_cons pe_int (pa_cons (pv 1) pa_nil))) (pg_name (i := 4) nd rfl (.inl rfl)) (pss_one (ps_if (PW.pt (pw_and (pt_cmpR op_gt (pv 2) pe_int (nomark _)) (pw_and (pt_cmpR op_notN (pe_ix ix_list (pe_ix ix_list (pv 0) (pe_op op_sub (pv 1) (pv 4)) (fun _ _ => rfl)) (pe_op op_sub (pv 2) pe_int) (fun _ _ => rfl)) pe_non (nomark _)) (pw_and1 (pt_cmpR op_notN (pe_ix ix_list (pe_ix ix_list (pv 0) (pv 4) (fun _ _ => rfl)) (pv 2) (fun _ _ => rfl)) pe_non (nomark _)))))) (pss_one (ps_if (pt_cmpR op_eq (pe_op op_add (pe_op op_add (pv 4) (pe_ix ix_list (pe_ix ix_list (pv 0) (pe_op op_sub (pv 1) (pv 4)) (fun _ _ => rfl)) (pe_op op_sub (pv 2) pe_int) (fun _ _ => rfl))) (pe_ix ix_list (pe_ix ix_list (pv 0) (pv 4) (fun _ _ => rfl)) (pv 2) (fun _ _ => rfl))) (pe_ix ix_list (pe_ix ix_list (pv 0) (pv 1) (fun _ _ => rfl)) (pv 2) (fun _ _ => rfl)) (nomark _)) (pss_one (ps_expr (pe_bm PySem.F.plainAttrs_list PySem.F.slot_list_append PySem.F.type_list_append mt_append (pv 3) (pa_cons (pv 4) pa_nil)))) pss_nil)) pss_nil)))
      (pss_one (ps_ret (pv 3)))), ?_⟩
    refine ⟨Nat.zero_le _, fun R nR => ?_⟩
    have et : ((t : Int) - 1).toNat = t - 1 := by omega
    refine ⟨_, rfl, 1, (t : Int), rfl, ⟨by decide, by decide, by omega, by omega⟩, for_range (lo := 1) (n := ((t : Int) - 1).toNat)
      (fun i σ H' => Same H H' ∧ H' R = some (.lst (splV (splN t s i))) ∧ ∃ w4 : Option V, σ = [some (.ref C), some (.int (t : Int)), some (.int (s : Int)), some (.ref R), w4]) ⟨same_alloc nR, upd_same, none, rfl⟩ ?_ ?_⟩
    · rintro i σ H1 hi ⟨sm, eR, w4, rfl⟩
      rw [et] at hi
      obtain ⟨xs, eC, tbr⟩ := cs.next sm
      obtain ⟨r1, a1, _, a3⟩ := tbr.2 (t - (i + 1)) (by omega)
      obtain ⟨r2, b1, _, b3⟩ := tbr.2 (i + 1) (by omega)
      obtain ⟨r3, c1, _, c3⟩ := tbr.2 t (by omega)
      have i1 : (t : Int) - (1 + (i : Int)) = ((t - (i + 1) : Nat) : Int) := by omega
      have i2 : (1 : Int) + (i : Int) = ((i + 1 : Nat) : Int) := by omega
      have A1 : atI xs ((t : Int) - (1 + (i : Int))) = some (.ref r1) := by rw [i1]; exact atI_nat a1
      have B1 : atI xs ((1 : Int) + (i : Int)) = some (.ref r2) := by rw [i2]; exact atI_nat b1
      have C1 : atI xs (t : Int) = some (.ref r3) := atI_nat c1
      have B2 : atI (rL (i + 1) (sl + 1)) (s : Int) = some (cV (lc (i + 1) s)) := rL_at (by omega)
      have C2 : atI (rL t (sl + 1)) (s : Int) = some (cV (lc t s)) := rL_at (by omega)
      have skip : spl1 t s i = [] → Same H H1 ∧ H1 R = some (.lst (splV (splN t s (i + 1)))) ∧ ∃ w4' : Option V, [some (.ref C), some (.int (t : Int)), some (.int (s : Int)), some (.ref R), some (.int (1 + (i : Int)))] = [some (V.ref C), some (.int (t : Int)), some (.int (s : Int)), some (.ref R), w4'] := fun e => by
        refine ⟨sm, ?_, _, rfl⟩
        show H1 R = some (.lst (splV (splN t s i ++ spl1 t s i)))
        rw [e, List.append_nil]
        exact eR
      refine ⟨_, rfl, _, _, rfl, rfl, _, rfl, ?_⟩
      by_cases c : 0 < s
      · refine iteT' (decide_eq_true (by omega)) ?_
        have A2 : atI (rL (t - (i + 1)) (sl + 1)) ((s : Int) - 1) = some (cV (lc (t - (i + 1)) (s - 1))) := by
          rw [show (s : Int) - 1 = ((s - 1 : Nat) : Int) by omega]
          exact rL_at (by omega)
        refine ⟨_, rfl, _, rfl, _, rfl, _, _, rfl, rfl, C, xs, _, _, rfl, rfl, SqL.of eC, A1, _, rfl, _, _, rfl, rfl, r1, _, _, _, rfl, rfl, SqL.of a3, A2, rfl, _, rfl, ?_⟩
        cases ha : lc (t - (i + 1)) (s - 1) with
        | none =>
          refine iteF' rfl ?_
          exact skip (by unfold spl1; rw [if_pos c, ha])
        | some x =>
          refine iteT' rfl ?_
          refine ⟨_, rfl, _, rfl, C, xs, _, _, rfl, rfl, SqL.of eC, B1, _, rfl, r2, _, _, _, rfl, rfl, SqL.of b3, B2, rfl, _, rfl, ?_⟩
          cases hb : lc (i + 1) s with
          | none =>
            refine iteF' rfl ?_
            exact skip (by unfold spl1; rw [if_pos c, ha, hb])
          | some y =>
            refine iteT' rfl ?_
            rw [ha] at A2
            rw [hb] at B2
            refine ⟨_, rfl, _, rfl, _, rfl, _, rfl, _, _, rfl, rfl, C, xs, _, _, rfl, rfl, SqL.of eC, A1, _, rfl, _, _, rfl, rfl, r1, _, _, _, rfl, rfl, SqL.of a3, A2, _, _, rfl, rfl, ?_⟩
            refine ⟨_, rfl, _, rfl, C, xs, _, _, rfl, rfl, SqL.of eC, B1, _, rfl, r2, _, _, _, rfl, rfl, SqL.of b3, B2, _, _, rfl, rfl, ?_⟩
            have sc : scal (V.int (1 + (i : Int) + (x : Int) + (y : Int))) (cV (lc t s)) = true := by cases lc t s <;> rfl
            refine ⟨_, rfl, _, rfl, C, xs, _, _, rfl, rfl, SqL.of eC, C1, _, rfl, r3, _, _, _, rfl, rfl, SqL.of c3, C2, sc, _, rfl, ?_⟩
            by_cases ce : some (i + 1 + x + y) = lc t s
            · have ee : spl1 t s i = [i + 1] := by unfold spl1; rw [if_pos c, ha, hb]; exact if_pos ce
              refine iteT' (by
                rw [← ce]
                exact decide_eq_true (by show V.int _ = V.int _; congr 1; omega)) ?_
              have ln : (splV (splN t s i)).length < sizeLine := by
                unfold splV
                rw [List.length_map]
                exact Nat.lt_of_le_of_lt (show _ ≤ 41 by have := splN_len t s i; omega) (by decide)
              refine ⟨_, rfl, .inl ⟨rfl, _, SqL.of eR⟩, _, rfl, R, _, _, rfl, rfl, eR, ln, ?_⟩
              refine ⟨same_put sm nR, ?_, _, rfl⟩
              rw [upd_same]
              show some (HO.lst (splV (splN t s i) ++ [V.int (1 + (i : Int))])) = some (HO.lst (splV (splN t s i ++ spl1 t s i)))
              rw [ee]
              unfold splV
              rw [List.map_append, i2]
              rfl
            · have ee : spl1 t s i = [] := by unfold spl1; rw [if_pos c, ha, hb]; exact if_neg ce
              refine iteF' (by
                refine decide_eq_false fun z => ce ?_
                cases h : lc t s with
                | none => rw [h] at z; cases z
                | some m =>
                  rw [h] at z
                  have := V.int.inj z
                  congr 1
                  omega) ?_
              exact skip ee
      · refine iteF' (decide_eq_false (by omega)) ?_
        exact skip (by unfold spl1; rw [if_neg c])
    · rintro σ H1 ⟨sm, eR, w4, rfl⟩
      rw [et] at eR
      exact ⟨_, rfl, q R H1 nR sm eR⟩
end
end Sd

namespace Sd
open PySem L2 Tr Pu PyProof.Rows
/-- of this depth at most, tuples of this length at most -/
def smallD (m : Nat) : Nat → PyData → Bool
  | 0, .tuple _ => false
  | n + 1, .tuple ds => decide (ds.length ≤ m) && ds.all (smallD m n)
  | _, .list _ => false
  | _, .dict _ => false
  | _, _ => true
theorem small_tup {m n : Nat} {ds : List PyData} : smallD m (n + 1) (.tuple ds) = true ↔ ds.length ≤ m ∧ ∀ d ∈ ds, smallD m n d = true := by
  show (decide (ds.length ≤ m) && ds.all (smallD m n)) = true ↔ _
  rw [Bool.and_eq_true, decide_eq_true_iff, List.all_eq_true]
def LL (K : PySem.W.Frag) (H : Hp) (R : Addr) (n : Nat) (f : PyData → Bool) : Prop := ∃ ys ds, H R = some (.lst ys) ∧ TvL K H ds ys ∧ ds.length ≤ n ∧ ∀ d ∈ ds, f d = true
section
variable {K : PySem.W.Frag} {H H' : Hp}
theorem LL.next {R : Addr} {n : Nat} {f : PyData → Bool} (h : LL K H R n f) (s : Same H H') : LL K H' R n f := by
  obtain ⟨ys, ds, e, t, l, g⟩ := h
  exact ⟨ys, ds, s _ _ e, TvL.carry (same_carry s) _ _ t, l, g⟩
theorem LL.stays {R p dl : Addr} {n : Nat} {f : PyData → Bool} (h : LL K H R n f) (s : Stays p H H') (np : R ≠ p) (D : Dw K H p dl) (D' : Dw K H' p dl) : LL K H' R n f := by
  obtain ⟨ys, ds, e, t, l, g⟩ := h
  exact ⟨ys, ds, s _ _ np e, TvL.carry (dw_carry D s D') _ _ t, l, g⟩
theorem cst_stays {p dl C : Addr} {s b : Nat} (D : Dw K H p dl) (h : Cst H C s b) (st : Stays p H H') : Cst H' C s b := by
  obtain ⟨xs, e, t⟩ := h
  obtain ⟨ns, r, j, sd, e1, e2, j0, n⟩ := D.it
  have nC : C ≠ p := fun z => by
    subst z
    rw [e] at e1
    have hx : xs = [.ref dl, .int r, .int j, .int sd] := by cases e1; rfl
    have l4 := t.1
    rw [hx] at l4
    obtain ⟨r1, h1, _⟩ := t.2 1 (by have : (4 : Nat) = b + 1 := l4; omega)
    rw [hx] at h1
    cases h1
  refine ⟨xs, st _ _ nC e, t.1, fun u hu => ?_⟩
  obtain ⟨r1, h1, h2, h3⟩ := t.2 u hu
  refine ⟨r1, h1, h2, st _ _ (fun z => ?_) h3⟩
  subst z
  rw [h3] at e1
  have hx : rL u (s + 1) = [.ref dl, .int r, .int j, .int sd] := by
    exact HO.lst.inj (Option.some.inj e1)
  have h0 : (rL u (s + 1))[0]? = some (cV (lc u 0)) := by unfold rL; rw [List.getElem?_map, List.getElem?_range (Nat.succ_pos _)]; rfl
  rw [hx] at h0
  have h0' : V.ref dl = cV (lc u 0) := Option.some.inj h0
  cases hl : lc u 0 with
  | none => rw [hl] at h0'; cases h0'
  | some c => rw [hl] at h0'; cases h0'
end
def spAny (K : PySem.W.Frag) : Sp := fun vs H Q _ => ∃ (p dl C : Addr) (b s : Nat), vs = [.ref p, .ref C, .int (b : Int), .int (s : Int)] ∧ Dw K H p dl ∧ Cst H C s b ∧ b ≤ 40 ∧ s ≤ 8 ∧
  ∀ v d H', Tv K H' d v → smallD 41 3 d = true → Stays p H H' → Dw K H' p dl → Q v H'
abbrev sAny : Stmt := top 25
abbrev nAny : List Str := ["state", "costs", "beats", "slots", "table", "t", "row", "s", "splits", "split"]
section
variable {P : Program} {w : World} {K : PySem.W.Frag} {mg : Str → Option Value} {base : Heap}
theorem scAny : FnScope nAny ["state", "costs", "beats", "slots"] (defScope sAny) := ⟨rfl, rfl, rfl, by decide +kernel, rfl, by decide +kernel, by decide +kernel⟩
theorem ok_any {f : Addr} {fd : FuncData} (F : Fun K "_law_any" "_law_any" sAny f fd) (T : Bi mg) (c_draw : Cal P w K mg base CX0 1 "_law_draw" ["state", "many"] (spDrw K)) (c_spl : Cal P w K mg base CX0 1 "_law_splits" ["costs", "t", "s"] (spSpl K)) :
    FnOk P w K mg base CX0 2 f fd ["state", "costs", "beats", "slots"] (spAny K) := by
  refine F.ok scAny (fun vs H Q E h => ?_) (fun cdv A outer s H vs Q E hr h => ?_)
  · obtain ⟨p, dl, C, b, s, rfl, _⟩ := h
    rfl
  · obtain ⟨p, dl, C, b, s, rfl, D, cs, b40, s8, q⟩ := h
    have nd := scAny.nd
    have two : 2 ≤ sizeLine := by decide
    refine ⟨_, pss_cons (ps_set (i := 4) nd rfl (.inl rfl) (pe_lst pa_nil))
      (pss_cons (ps_for PassesOwn.never rfl (pi_range2 rfl T.range (pa_cons pe_int (pa_cons (pe_op op_add (pv 2) pe_int) pa_nil))) (pg_name (i := 5) nd rfl (.inl rfl)) (pss_cons (ps_set (i := 6) nd rfl (.inl rfl) (pe_lst pa_nil))
      (pss_cons (ps_for PassesOwn.never rfl (pi_range1 rfl T.range (pa_cons (pe_op op_add (pv 3) pe_int) pa_nil)) (pg_name (i := 7) nd rfl (.inl rfl)) (pss_cons (ps_set (i := 8) nd rfl (.inl rfl) (pe_call c_spl.ok (hr.mono (by first | decide | omega)) rfl c_spl.m c_spl.kp c_spl.b .nil pass0 (pa_cons (pv 1) (pa_cons (pv 5) (pa_cons (pv 7) pa_nil)))))
      (pss_cons (ps_set (i := 9) nd rfl (.inl rfl) (pe_ifExp (pt_truth (pv 8) (by intro _; rfl)) (pe_ix ix_list (pv 8) (pe_call c_draw.ok (hr.mono (by first | decide | omega)) rfl c_draw.m c_draw.kp c_draw.b .nil pass0 (pa_cons (pv 0) (pa_cons (pe_callB call_len_seq rfl T.len PySem.boot_len (pa_cons (pv 8) pa_nil)) pa_nil))) (fun _ _ => rfl)) pe_int))
      (pss_one (ps_expr (pe_bm PySem.F.plainAttrs_list PySem.F.slot_list_append PySem.F.type_list_append mt_append (pv 6) (pa_cons (pe_tup (pa_cons (pe_ix ix_list (pe_ix ix_list (pv 1) (pv 5) (fun _ _ => rfl)) (pv 7) (fun _ _ => rfl)) (pa_cons (pv 9) pa_nil))) pa_nil)))))))
      (pss_one (ps_expr (pe_bm PySem.F.plainAttrs_list PySem.F.slot_list_append PySem.F.type_list_append mt_append (pv 4) (pa_cons (pe_callTy call_tuple_of rfl T.tuple PyProof.Rows.boot_tuple (pa_cons (pv 6) pa_nil)) pa_nil)))))))
      (pss_one (ps_ret (pe_callTy call_tuple_of rfl T.tuple PyProof.Rows.boot_tuple (pa_cons (pv 4) pa_nil))))), ?_⟩
    refine ⟨Nat.zero_le _, fun R nR => ?_⟩
    have npR : R ≠ p := fun z => by
      obtain ⟨xs, e⟩ := D.at_
      rw [z, e] at nR
      cases nR
    have nlR : R ≠ dl := fun z => by
      obtain ⟨xs, e⟩ := D.at2
      rw [z, e] at nR
      cases nR
    have eb : ((b : Int) + 1 - 1).toNat = b := by omega
    have es : ((s : Int) + 1).toNat = s + 1 := by omega
    refine ⟨_, rfl, _, _, rfl, rfl, 1, (b : Int) + 1, rfl, ⟨by decide, by decide, by omega, by omega⟩, for_range (lo := 1) (n := ((b : Int) + 1 - 1).toNat)
      (fun i σ H' => Stays p H H' ∧ Dw K H' p dl ∧ LL K H' R i (smallD 41 2) ∧ ∃ w5 w6 w7 w8 w9 : Option V, σ = [some (.ref p), some (.ref C), some (.int (b : Int)), some (.int (s : Int)), some (.ref R), w5, w6, w7, w8, w9])
      ⟨stays_new nR, D.new nR, ⟨[], [], upd_same, rfl, Nat.le_refl _, (fun d h => by cases h)⟩, _, _, _, _, _, rfl⟩ ?_ ?_⟩
    · rintro i σ H1 hi ⟨s1, D1, L1, w5, w6, w7, w8, w9, rfl⟩
      rw [eb] at hi
      refine ⟨Nat.zero_le _, fun R2 nR2 => ?_⟩
      have cs1 := cst_stays D cs s1
      have npR2 : R2 ≠ p := fun z => by
        obtain ⟨xs, e⟩ := D1.at_
        rw [z, e] at nR2
        cases nR2
      have nlR2 : R2 ≠ dl := fun z => by
        obtain ⟨xs, e⟩ := D1.at2
        rw [z, e] at nR2
        cases nR2
      refine ⟨_, rfl, _, _, rfl, rfl, (s : Int) + 1, rfl, by omega, by omega, for_range (lo := 0) (n := ((s : Int) + 1).toNat)
        (fun j σ H' => Stays p H1 H' ∧ Dw K H' p dl ∧ LL K H' R2 j (smallD 41 1) ∧ ∃ w7 w8 w9 : Option V, σ = [some (.ref p), some (.ref C), some (.int (b : Int)), some (.int (s : Int)), some (.ref R), some (.int (1 + (i : Int))), some (.ref R2), w7, w8, w9])
        ⟨stays_new nR2, D1.new nR2, ⟨[], [], upd_same, rfl, Nat.le_refl _, (fun d h => by cases h)⟩, _, _, _, rfl⟩ ?_ ?_⟩
      · rintro j σ H2 hj ⟨s2, D2, L2', w7, w8, w9, rfl⟩
        rw [es] at hj
        have cs2 := cst_stays D1 cs1 s2
        have i1 : (1 : Int) + (i : Int) = ((i + 1 : Nat) : Int) := by omega
        have j1 : (0 : Int) + (j : Int) = ((j : Nat) : Int) := by omega
        refine set_k (fun v H' => ∃ S, v = .ref S ∧ H2 S = none ∧ Same H2 H' ∧ H' S = some (.lst (splV (spl (i + 1) j)))) (fun Q' k => ⟨_, rfl, _, rfl, _, rfl, C, b, s, i + 1, j, (by rw [i1, j1]; rfl), cs2, by omega, by omega, by omega, b40, s8, fun S H3 nS s3 eS => k _ _ ⟨S, rfl, nS, s3, eS⟩⟩) ?_
        rintro _ H3 ⟨S, rfl, nS, s3, eS⟩
        have npS : S ≠ p := fun z => by
          obtain ⟨xs, e⟩ := D2.at_
          rw [z, e] at nS
          cases nS
        have D3 := D2.same s3
        refine set_k (fun v H' => ∃ k : Int, v = .int k ∧ Stays p H3 H' ∧ Dw K H' p dl) (fun Q' k => ?_) ?_
        · refine ⟨_, rfl, _, .inl ⟨_, SqL.of eS, rfl⟩, ?_⟩
          cases em : (splV (spl (i + 1) j)).isEmpty with
          | true =>
            refine iteF' rfl ?_
            exact k _ _ ⟨0, rfl, Stays.refl _ _, D3⟩
          | false =>
            refine iteT' rfl ?_
            have lpos : 0 < (splV (spl (i + 1) j)).length := by
              cases h : splV (spl (i + 1) j) with
              | nil => rw [h] at em; cases em
              | cons a r => exact Nat.succ_pos _
            have lle : (splV (spl (i + 1) j)).length ≤ 41 := by
              unfold splV spl
              rw [List.length_map]
              have := splN_len (i + 1) j (i + 1 - 1)
              omega
            refine ⟨_, rfl, _, rfl, _, rfl, S, _, rfl, .inl (SqL.of eS), p, dl, ((splV (spl (i + 1) j)).length : Int), rfl, D3, by omega, by omega, fun v H4 v0 v1 s4 D4 => ?_⟩
            obtain ⟨x, hx, hx2⟩ := at_in (xs := splV (spl (i + 1) j)) v0 v1
            obtain ⟨m, rfl⟩ : ∃ m : Int, x = .int m := by
              unfold splV at hx2
              rw [List.getElem?_map] at hx2
              cases h : (spl (i + 1) j)[v.toNat]? with
              | none => rw [h] at hx2; cases hx2
              | some m => rw [h] at hx2; exact ⟨(m : Int), (Option.some.inj hx2).symm⟩
            exact ⟨S, _, _, _, rfl, rfl, SqL.of (s4 _ _ npS eS), hx, k _ _ ⟨m, rfl, s4, D4⟩⟩
        rintro _ H4 ⟨k, rfl, s4, D4⟩
        have st4 : Stays p H1 H4 := (s2.trans (same_stays s3)).trans s4
        have cs4 := cst_stays D1 cs1 st4
        obtain ⟨ys, ds, eR2, tl, ll, fl⟩ := (L2'.next s3).stays s4 npR2 D3 D4
        obtain ⟨xs, eC, tbr⟩ := cs4
        obtain ⟨r3, c1, _, c3⟩ := tbr.2 (i + 1) (by omega)
        have C1 : atI xs (1 + (i : Int)) = some (.ref r3) := by rw [i1]; exact atI_nat c1
        have C2 : atI (rL (i + 1) (s + 1)) (0 + (j : Int)) = some (cV (lc (i + 1) j)) := by rw [j1]; exact rL_at hj
        refine ⟨_, rfl, .inl ⟨rfl, _, SqL.of eR2⟩, _, rfl, _, rfl, C, xs, _, _, rfl, rfl, SqL.of eC, C1, _, rfl, r3, _, _, _, rfl, rfl, SqL.of c3, C2, _, rfl, two, fun t nt => ?_⟩
        have eR2' : (upd H4 t (.tup [cV (lc (i + 1) j), .int k])) R2 = some (.lst ys) := by rw [upd_ne (ne_of_none eR2 nt)]; exact eR2
        refine ⟨R2, ys, _, rfl, rfl, eR2', ?_, ?_⟩
        · rw [tvl_len tl]
          exact Nat.lt_of_le_of_lt (show ds.length ≤ 9 by omega) (by decide)
        have td : Tv K (upd H4 t (.tup [cV (lc (i + 1) j), .int k])) (.tuple [cD (lc (i + 1) j), .int k]) (.ref t) := tv2 upd_same (by cases lc (i + 1) j <;> rfl) rfl
        refine ⟨stays_put (st4.trans (stays_new nt)) nR2, (D4.new nt).upd npR2 nlR2, ⟨_, ds ++ [.tuple [cD (lc (i + 1) j), .int k]], upd_same, TvL.carry (carry_lst eR2') _ _ (tvl_snoc (TvL.carry (carry_new nt) _ _ tl) td), ?_, ?_⟩, _, _, _, rfl⟩
        · rw [List.length_append]
          exact Nat.succ_le_succ ll
        · intro d hd
          rcases List.mem_append.mp hd with hd | hd
          · exact fl d hd
          · rw [List.mem_singleton.mp hd]
            refine small_tup.mpr ⟨(show 2 ≤ 41 by decide), fun d hd => ?_⟩
            simp only [List.mem_cons, List.not_mem_nil, or_false] at hd
            rcases hd with rfl | rfl
            · cases lc (i + 1) j <;> rfl
            · rfl
      · rintro σ H2 ⟨s2, D2, L2', w7, w8, w9, rfl⟩
        rw [es] at L2'
        obtain ⟨ys, ds, eR, tl, ll, fl⟩ := L1.stays s2 npR D1 D2
        obtain ⟨zs, es', eR2, tl2, ll2, fl2⟩ := L2'
        refine ⟨_, rfl, .inl ⟨rfl, _, SqL.of eR⟩, _, rfl, R2, zs, rfl, .inl ⟨SqL.of eR2, fun t nt => ?_⟩⟩
        have eR' : (upd H2 t (.tup zs)) R = some (.lst ys) := by rw [upd_ne (ne_of_none eR nt)]; exact eR
        refine ⟨R, ys, _, rfl, rfl, eR', ?_, ?_⟩
        · rw [tvl_len tl]
          exact Nat.lt_of_le_of_lt (show ds.length ≤ 40 by omega) (by decide)
        have td : Tv K (upd H2 t (.tup zs)) (.tuple es') (.ref t) := ⟨t, zs, rfl, SqT.of upd_same, TvL.carry (carry_new nt) _ _ tl2⟩
        refine ⟨stays_put ((s1.trans s2).trans (stays_new nt)) nR, (D2.new nt).upd npR nlR, ⟨_, ds ++ [.tuple es'], upd_same, TvL.carry (carry_lst eR') _ _ (tvl_snoc (TvL.carry (carry_new nt) _ _ tl) td), ?_, ?_⟩, _, _, _, _, _, rfl⟩
        · rw [List.length_append]
          exact Nat.succ_le_succ ll
        · intro d hd
          rcases List.mem_append.mp hd with hd | hd
          · exact fl d hd
          · rw [List.mem_singleton.mp hd]
            exact small_tup.mpr ⟨by omega, fl2⟩
    · rintro σ H1 ⟨s1, D1, L1, w5, w6, w7, w8, w9, rfl⟩
      rw [eb] at L1
      obtain ⟨ys, ds, eR, tl, ll, fl⟩ := L1
      refine ⟨_, rfl, R, ys, rfl, .inl ⟨SqL.of eR, fun t nt => ?_⟩⟩
      exact q _ (.tuple ds) _ ⟨t, ys, rfl, SqT.of upd_same, TvL.carry (carry_new nt) _ _ tl⟩ (small_tup.mpr ⟨by omega, fl⟩) (s1.trans (stays_new nt)) (D1.new nt)
end
end Sd

namespace Sd
open PySem L2 Tr Pu PyProof.Rows
def rsV : Option Str → V
  | none => .non
  | some r => .str r
theorem tab_items {b s : Nat} {d : PyData} (h : tabF b s d = true) : ∃ ds, d = .tuple ds ∧ ds.length = b ∧ ∀ (i : Nat) y, ds[i]? = some y → ∃ es, y = .tuple es ∧ es.length = s + 1 ∧ ∀ (u : Nat) e, es[u]? = some e → entF e = true := by
  cases d with
  | tuple ds =>
    have h' : (ds.length == b && ds.all (rowF s)) = true := h
    rw [Bool.and_eq_true] at h'
    refine ⟨ds, rfl, eq_of_beq h'.1, fun i y hy => ?_⟩
    have r := List.all_eq_true.mp h'.2 y (List.mem_of_getElem? hy)
    cases y with
    | tuple es =>
      have r' : (es.length == s + 1 && es.all entF) = true := r
      rw [Bool.and_eq_true] at r'
      exact ⟨es, rfl, eq_of_beq r'.1, fun u e he => List.all_eq_true.mp r'.2 e (List.mem_of_getElem? he)⟩
    | none => cases r
    | bool b => cases r
    | int b => cases r
    | str b => cases r
    | list b => cases r
    | dict b => cases r
  | none => cases h
  | bool b => cases h
  | int b => cases h
  | str b => cases h
  | list b => cases h
  | dict b => cases h
theorem okTab_no {ds es : List PyData} {i u : Nat} {e : PyData} (h1 : ds[i]? = some (.tuple es)) (h2 : es[u]? = some e) (h : okD (i + 1) u e = false) : okTab ds = false := by
  unfold okTab
  rw [List.all_eq_false]
  refine ⟨i, List.mem_range.mpr (List.getElem?_eq_some_iff.mp h1).1, ?_⟩
  rw [List.getD_eq_getElem?_getD, h1]
  show ¬ okRow (i + 1) es = true
  unfold okRow
  rw [Bool.not_eq_true, List.all_eq_false]
  refine ⟨u, List.mem_range.mpr (List.getElem?_eq_some_iff.mp h2).1, ?_⟩
  rw [List.getD_eq_getElem?_getD, h2]
  show ¬ okD (i + 1) u e = true
  rw [h]
  exact Bool.false_ne_true
theorem okTab_yes {ds : List PyData} (h : ∀ (i : Nat) y, ds[i]? = some y → ∃ es, y = .tuple es ∧ ∀ (u : Nat) e, es[u]? = some e → okD (i + 1) u e = true) : okTab ds = true := by
  unfold okTab
  rw [List.all_eq_true]
  intro i hi
  obtain ⟨y, hy⟩ : ∃ y, ds[i]? = some y := ⟨_, List.getElem?_eq_getElem (List.mem_range.mp hi)⟩
  obtain ⟨es, rfl, h2⟩ := h i y hy
  rw [List.getD_eq_getElem?_getD, hy]
  show okRow (i + 1) es = true
  unfold okRow
  rw [List.all_eq_true]
  intro u hu
  obtain ⟨e, he⟩ : ∃ e, es[u]? = some e := ⟨_, List.getElem?_eq_getElem (List.mem_range.mp hu)⟩
  rw [List.getD_eq_getElem?_getD, he]
  exact h2 u e he
theorem inV_spl (k : Int) : ∀ l : List Nat, inV (.int k) (splV l) = l.any (fun m => (m : Int) == k)
  | [] => rfl
  | m :: r => by
    show ((m : Int) == k || inV (.int k) (splV r)) = _
    rw [inV_spl k r]
    rfl
theorem flat_spl : ∀ l : List Nat, (splV l).all flatV = true
  | [] => rfl
  | m :: r => by
    show (true && (splV r).all flatV) = true
    rw [flat_spl r]
    rfl
theorem okC_V {K : PySem.W.Frag} {H : Hp} {c : PyData} {u : V} {o : Option Nat} (hc : c = .none ∨ ∃ i, c = .int i) (h : Tv K H c u) : scal u (cV o) = true ∧ decide (u = cV o) = okC o c := by
  rcases hc with rfl | ⟨i, rfl⟩
  · have e : u = .non := h
    subst e
    cases o with
    | none => exact ⟨rfl, rfl⟩
    | some c => exact ⟨rfl, rfl⟩
  · have e : u = .int i := h
    subst e
    cases o with
    | none => exact ⟨rfl, rfl⟩
    | some c =>
      refine ⟨rfl, ?_⟩
      show decide (V.int i = V.int (c : Int)) = ((c : Int) == i)
      rw [dec_V]
      by_cases z : i = (c : Int)
      · rw [decide_eq_true z, z]; simp
      · rw [decide_eq_false z]
        exact (beq_false_of_ne (fun y => z y.symm)).symm
def spLr (K : PySem.W.Frag) : Sp := fun vs H Q _ => ∃ (v : V) (C : Addr) (d : PyData) (b s : Nat), vs = [v, .ref C, .int (b : Int), .int (s : Int)] ∧ Tv K H d v ∧ Cst H C s b ∧ b ≤ 40 ∧ s ≤ 8 ∧ ∀ H', Same H H' → Q (rsV (rsn b s d)) H'
abbrev sLr : Stmt := top 29
abbrev nLr : List Str := ["table", "costs", "beats", "slots", "t", "s", "cost", "split", "splits"]
section
variable {P : Program} {w : World} {K : PySem.W.Frag} {mg : Str → Option Value} {base : Heap}
theorem scLr : FnScope nLr ["table", "costs", "beats", "slots"] (defScope sLr) := ⟨rfl, rfl, rfl, by decide +kernel, rfl, by decide +kernel, by decide +kernel⟩
theorem ok_lr {f : Addr} {fd : FuncData} (F : Fun K "_law_reason" "_law_reason" sLr f fd) (T : Bi mg) (c_lform : Cal P w K mg base CX0 3 "_law_form" ["table", "beats", "slots"] (spLfo K)) (c_spl : Cal P w K mg base CX0 1 "_law_splits" ["costs", "t", "s"] (spSpl K)) :
    FnOk P w K mg base CX0 4 f fd ["table", "costs", "beats", "slots"] (spLr K) := by
  refine F.ok scLr (fun vs H Q E h => ?_) (fun cdv A outer s H vs Q E hr h => ?_)
  · obtain ⟨v, C, d, b, s, rfl, _⟩ := h
    rfl
  · obtain ⟨v, C, d, b, s, rfl, tv, cs, b40, s8, q⟩ := h
    have nd := scLr.nd
    refine ⟨_, pss_cons (ps_if (pt_not (pt_val (pe_call c_lform.ok (hr.mono (by first | decide | omega)) rfl c_lform.m c_lform.kp c_lform.b .nil pass0 (pa_cons (pv 0) (pa_cons (pv 2) (pa_cons (pv 3) pa_nil)))))) (pss_one (ps_ret pe_str)) pss_nil)
      (pss_cons (ps_for PassesOwn.never rfl (pi_range2 rfl T.range (pa_cons pe_int (pa_cons (pe_op op_add (pv 2) pe_int) pa_nil))) (pg_name (i := 4) nd rfl (.inl rfl)) (pss_one (ps_for PassesOwn.never rfl (pi_range1 rfl T.range (pa_cons (pe_op op_add (pv 3) pe_int) pa_nil)) (pg_name (i := 5) nd rfl (.inl rfl)) (pss_cons (ps_asg (pe_ix ix_tup (pe_ix ix_tup (pv 0) (pe_op op_sub (pv 4) pe_int) (fun _ _ => rfl)) (pv 5) (fun _ _ => rfl)) (pg_tup (by rfl) (pgs_cons (pg_name (i := 6) nd rfl (.inl rfl)) (pgs_cons (pg_name (i := 7) nd rfl (.inl rfl)) pgs_nil))))
      (pss_cons (ps_set (i := 8) nd rfl (.inl rfl) (pe_call c_spl.ok (hr.mono (by first | decide | omega)) rfl c_spl.m c_spl.kp c_spl.b .nil pass0 (pa_cons (pv 1) (pa_cons (pv 4) (pa_cons (pv 5) pa_nil)))))
      (pss_one (ps_if (PW.pt (pw_or (pt_cmpR op_ne (pv 6) (pe_ix ix_list (pe_ix ix_list (pv 1) (pv 4) (fun _ _ => rfl)) (pv 5) (fun _ _ => rfl)) (nomark _)) (pw_or1 (PW.pt (pw_and (pt_cmpR (notInK (K' := K) rfl) (pv 7) (pv 8) (by rfl)) (pw_and1 (PW.pt (pw_or (pt_truth (pv 8) (by intro _; rfl)) (pw_or1 (pt_cmpR op_ne (pv 7) pe_int (nomark _))))))))))) (pss_one (ps_ret pe_str)) pss_nil)))))))
      (pss_one (ps_ret pe_non))), ?_⟩
    refine ⟨_, rfl, _, rfl, _, rfl, v, d, b, s, rfl, tv, b40, s8, fun H1 s1 => ⟨_, rfl, ?_⟩⟩
    cases cf : tabF b s d with
    | false =>
      refine iteT' rfl ?_
      have e : rsn b s d = some "form" := by unfold rsn; rw [cf]; rfl
      rw [e] at q
      exact q H1 s1
    | true =>
      refine iteF' rfl ?_
      obtain ⟨ds, rfl, ld, items⟩ := tab_items cf
      have er : rsn b s (.tuple ds) = if okTab ds = true then none else some ("entry" : Str) := by unfold rsn; rw [cf]; rfl
      obtain ⟨a, xs, rfl, sq, tl⟩ := tv.carry (same_carry s1)
      have cs1 := cs.next s1
      have eb : ((b : Int) + 1 - 1).toNat = b := by omega
      have es' : ((s : Int) + 1).toNat = s + 1 := by omega
      unfold tNext
      dsimp only
      refine ⟨_, rfl, _, _, rfl, rfl, 1, (b : Int) + 1, rfl, ⟨by decide, by decide, by omega, by omega⟩, for_range (lo := 1) (n := ((b : Int) + 1 - 1).toNat)
        (fun i σ H' => Same H1 H' ∧ (∀ (i' : Nat) es, i' < i → ds[i']? = some (.tuple es) → ∀ (u : Nat) e, es[u]? = some e → okD (i' + 1) u e = true) ∧ ∃ w4 w5 w6 w7 w8 : Option V, σ = [some (.ref a), some (.ref C), some (.int (b : Int)), some (.int (s : Int)), w4, w5, w6, w7, w8])
        ⟨same_refl H1, fun i' es h => absurd h (Nat.not_lt_zero _), _, _, _, _, _, rfl⟩ ?_ ?_⟩
      · rintro i σ H2 hi ⟨s2, pre, w4, w5, w6, w7, w8, rfl⟩
        rw [eb] at hi
        obtain ⟨y, hy⟩ : ∃ y, ds[i]? = some y := ⟨_, List.getElem?_eq_getElem (by omega)⟩
        obtain ⟨es, rfl, le, ents⟩ := items i y hy
        refine ⟨_, rfl, _, _, rfl, rfl, (s : Int) + 1, rfl, by omega, by omega, for_range (lo := 0) (n := ((s : Int) + 1).toNat)
          (fun j σ H' => Same H2 H' ∧ (∀ (u : Nat) e, u < j → es[u]? = some e → okD (i + 1) u e = true) ∧ ∃ w5 w6 w7 w8 : Option V, σ = [some (.ref a), some (.ref C), some (.int (b : Int)), some (.int (s : Int)), some (.int (1 + (i : Int))), w5, w6, w7, w8])
          ⟨same_refl H2, fun u e h => absurd h (Nat.not_lt_zero _), _, _, _, _, rfl⟩ ?_ ?_⟩
        · rintro j σ H3 hj ⟨s3, pre2, w5, w6, w7, w8, rfl⟩
          rw [es'] at hj
          obtain ⟨e, he⟩ : ∃ e, es[j]? = some e := ⟨_, List.getElem?_eq_getElem (by omega)⟩
          obtain ⟨c, k, rfl, hc⟩ := entF_is (ents j e he)
          have sm3 := s2.trans s3
          obtain ⟨x, hx, tx⟩ := tvl_get (TvL.carry (same_carry sm3) _ _ tl) hy
          obtain ⟨ra, ys, rfl, sqr, tlr⟩ := tx
          obtain ⟨z, hz, tz⟩ := tvl_get tlr he
          obtain ⟨ea, zs, rfl, sqe, u1, r1, rfl, t1, u2, r2, rfl, t2, rfl⟩ := tz
          cases t2
          have i1 : (1 : Int) + (i : Int) - 1 = (i : Int) := by omega
          have j1 : (0 : Int) + (j : Int) = (j : Int) := by omega
          have A1 : atI xs ((1 : Int) + (i : Int) - 1) = some (.ref ra) := by rw [i1]; exact atI_nat hx
          have A2 : atI ys ((0 : Int) + (j : Int)) = some (.ref ea) := by rw [j1]; exact atI_nat hz
          refine ⟨_, rfl, _, rfl, _, _, rfl, rfl, a, xs, _, _, rfl, rfl, same_carry sm3 _ _ sq, A1, _, rfl, ra, ys, _, _, rfl, rfl, sqr, A2, ea, _, rfl, sqe, rfl, u1, _, rfl, V.int k, _, rfl, rfl, ?_⟩
          dsimp only
          refine set_k (fun v H' => ∃ S, v = .ref S ∧ Same H3 H' ∧ H' S = some (.lst (splV (spl (i + 1) j)))) (fun Q' k => ⟨_, rfl, _, rfl, _, rfl, C, b, s, i + 1, j, (by rw [j1]; show [V.ref C, V.int (1 + (i : Int)), V.int (j : Int)] ++ [] = [V.ref C, V.int ((i + 1 : Nat) : Int), V.int (j : Int)]; rw [show (1 : Int) + (i : Int) = ((i + 1 : Nat) : Int) by omega]; rfl), cs1.next sm3, by omega, by omega, by omega, b40, s8, fun S H4 _ s4 eS => k _ _ ⟨S, rfl, s4, eS⟩⟩) ?_
          rintro _ H4 ⟨S, rfl, s4, eS⟩
          have sm4 := (s1.trans sm3).trans s4
          obtain ⟨cx, eC, tbr⟩ := (cs1.next sm3).next s4
          obtain ⟨r3, c1, _, c3⟩ := tbr.2 (i + 1) (by omega)
          have C1 : atI cx (1 + (i : Int)) = some (.ref r3) := by rw [show (1 : Int) + (i : Int) = ((i + 1 : Nat) : Int) by omega]; exact atI_nat c1
          have C2 : atI (rL (i + 1) (s + 1)) (0 + (j : Int)) = some (cV (lc (i + 1) j)) := by rw [j1]; exact rL_at hj
          obtain ⟨sc, dc⟩ := okC_V (o := lc (i + 1) j) hc t1
          have no : okD (i + 1) j (.tuple [c, .int k]) = false → Q (.str "entry") H4 := fun h => by
            have e := okTab_no hy he h
            rw [er, e] at q
            exact q H4 sm4
          have yes : okD (i + 1) j (.tuple [c, .int k]) = true → Same H2 H4 ∧ (∀ (u : Nat) (e : PyData), u < j + 1 → es[u]? = some e → okD (i + 1) u e = true) := fun h => by
            refine ⟨s3.trans s4, fun u e hu heu => ?_⟩
            by_cases z : u = j
            · subst z
              rw [he] at heu
              cases heu
              exact h
            · exact pre2 u e (by omega) heu
          have eD : okD (i + 1) j (.tuple [c, .int k]) = (okC (lc (i + 1) j) c && okK (i + 1) j k) := rfl
          refine ⟨_, rfl, _, rfl, _, rfl, C, cx, _, _, rfl, rfl, SqL.of eC, C1, _, rfl, r3, _, _, _, rfl, rfl, SqL.of c3, C2, sc, _, rfl, ?_⟩
          rw [dc]
          cases hC : okC (lc (i + 1) j) c with
          | false =>
            refine iteT' rfl ?_
            exact no (by rw [eD, hC]; rfl)
          | true =>
            refine iteF' rfl ?_
            refine ⟨_, rfl, _, rfl, S, _, rfl, .inl (SqL.of eS), rfl, flat_spl _, _, rfl, ?_⟩
            rw [if_pos rfl, inV_spl]
            cases hI : (spl (i + 1) j).any (fun m => (m : Int) == k) with
            | true =>
              refine iteF' rfl ?_
              refine iteF ?_
              obtain ⟨y1, y2⟩ := yes (by rw [eD, hC]; unfold okK; rw [hI]; rfl)
              exact ⟨y1, y2, _, _, _, _, rfl⟩
            | false =>
              refine iteT' rfl ?_
              refine ⟨_, rfl, _, .inl ⟨_, SqL.of eS, rfl⟩, ?_⟩
              have eE : (splV (spl (i + 1) j)).isEmpty = (spl (i + 1) j).isEmpty := by unfold splV; rw [List.isEmpty_map]
              rw [eE]
              cases hE : (spl (i + 1) j).isEmpty with
              | false =>
                refine iteT' rfl ?_
                refine iteT ?_
                exact no (by rw [eD, hC]; unfold okK; rw [hI, hE]; rfl)
              | true =>
                refine iteF' rfl ?_
                refine ⟨_, rfl, rfl, _, rfl, ?_⟩
                by_cases hk : k = 0
                · refine iteF' (by rw [hk]; rfl) ?_
                  obtain ⟨y1, y2⟩ := yes (by rw [eD, hC]; unfold okK; rw [hI, hE, hk]; rfl)
                  exact ⟨y1, y2, _, _, _, _, rfl⟩
                · refine iteT' (by rw [decide_eq_false (fun y => hk (V.int.inj y))]; rfl) ?_
                  exact no (by rw [eD, hC]; unfold okK; rw [hI, hE, show (k == 0) = false from beq_false_of_ne hk]; rfl)
        · rintro σ H3 ⟨s3, pre2, w5, w6, w7, w8, rfl⟩
          refine ⟨s2.trans s3, fun i' es2 hi2 h2 u e heu => ?_, _, _, _, _, _, rfl⟩
          by_cases z : i' = i
          · subst z
            rw [hy] at h2
            cases h2
            exact pre2 u e (by have := (List.getElem?_eq_some_iff.mp heu).1; omega) heu
          · exact pre i' es2 (by omega) h2 u e heu
      · rintro σ H2 ⟨s2, pre, w4, w5, w6, w7, w8, rfl⟩
        have e : okTab ds = true := okTab_yes fun i y hy => by
          obtain ⟨es, rfl, _, _⟩ := items i y hy
          have := (List.getElem?_eq_some_iff.mp hy).1
          exact ⟨es, rfl, fun u e he => pre i es (by omega) hy u e he⟩
        rw [er, e] at q
        exact q H2 (s1.trans s2)
end
end Sd

namespace Sd
open PySem L2 Tr Pu PyProof.Rows
def decE : PyData → Ent
  | .tuple [.int c, .int k] => (some c.toNat, k.toNat)
  | .tuple [.none, .int k] => (none, k.toNat)
  | _ => (none, 0)
def decR (d : PyData) : List Ent := (itemsD d).map decE
theorem decE_ent (e : Ent) : decE (entD e) = e := by
  obtain ⟨c, k⟩ := e
  cases c with
  | none => rfl
  | some c => rfl
theorem okD_dec {t u : Nat} {d : PyData} (h : okD t u d = true) : d = entD (decE d) ∧ (decE d).1 = lc t u := by
  obtain ⟨e, rfl, h2⟩ := okD_ent h
  rw [decE_ent]
  exact ⟨rfl, h2⟩
/-- the rows before are right -/
structure Pre (s n : Nat) (ds : List PyData) : Prop where
  row : ∀ j < n, ∃ es, ds[j]? = some (.tuple es) ∧ es.length = s + 1 ∧ ∀ (u : Nat) e, es[u]? = some e → okD (j + 1) u e = true
theorem pre_row {s n j : Nat} {ds : List PyData} (h : Pre s n ds) (hj : j < n) : ds[j]? = some (rowD ((ds.map decR).getD j [])) ∧ ((ds.map decR).getD j []).length = s + 1 ∧ ∀ u < s + 1, cst (ds.map decR) (j + 1) u = lc (j + 1) u := by
  obtain ⟨es, h1, h2, h3⟩ := h.row j hj
  have e1 : (ds.map decR).getD j [] = es.map decE := by
    rw [List.getD_eq_getElem?_getD, List.getElem?_map, h1]
    rfl
  rw [e1]
  refine ⟨?_, by rw [List.length_map]; exact h2, fun u hu => ?_⟩
  · rw [h1]
    unfold rowD
    rw [List.map_map]
    congr 2
    refine (List.ext_getElem? fun u => ?_)
    rw [List.getElem?_map]
    cases he : es[u]? with
    | none => rfl
    | some e => exact congrArg some (okD_dec (h3 u e he)).1
  · unfold cst
    rw [Nat.add_sub_cancel, e1, List.getD_eq_getElem?_getD, List.getElem?_map]
    obtain ⟨e, he⟩ : ∃ e, es[u]? = some e := ⟨_, List.getElem?_eq_getElem (by omega)⟩
    rw [he]
    exact (okD_dec (h3 u e he)).2
theorem pre_ok {s n : Nat} {ds : List PyData} (h : Pre s n ds) (hn : n ≤ 40) (hs : s ≤ 8) (hl : n ≤ ds.length) : Okk (ds.map decR) (s + 1) n := by
  refine ⟨by rw [List.length_map]; exact hl, fun j hj => (pre_row h hj).2.1, fun h0 u hu => ?_, fun j hj u h1 hu => ?_⟩
  · rw [(pre_row h h0).2.2 u hu]
    exact lc_low (by decide) (by omega)
  · rw [(pre_row h hj).2.2 u hu]
    exact (chkS_at (t := j + 1) (by omega) (by omega) (show u < 9 by omega)).2 (.inl h1)
theorem pre_right {s n u : Nat} {ds : List PyData} (h : Pre s n ds) (hu : u < s + 1) : right (ds.map decR) (n + 1) u = right TL (n + 1) u := by
  refine right_congr fun t' s' h1 h2 h3 => ?_
  obtain ⟨j, rfl⟩ : ∃ j, t' = j + 1 := ⟨t' - 1, by omega⟩
  rw [(pre_row h (j := j) (by omega)).2.2 s' (by rcases h3 with h3 | h3 <;> omega), lc_cst (by omega)]
theorem ent_sh (e : Ent) : Sh 1 (entD e) := by
  obtain ⟨c, k⟩ := e
  cases c with
  | none => exact sh_tup (sh_cons sh_non (sh_cons sh_int sh_nil))
  | some c => exact sh_tup (sh_cons sh_int (sh_cons sh_int sh_nil))
theorem ents_sh : ∀ es : List Ent, ShL 1 (es.map entD)
  | [] => sh_nil
  | e :: r => sh_cons (ent_sh e) (ents_sh r)
theorem entF_sh {d : PyData} (h : entF d = true) : Sh 1 d := by
  obtain ⟨c, k, rfl, hc⟩ := entF_is h
  rcases hc with rfl | ⟨i, rfl⟩
  · exact sh_tup (sh_cons sh_non (sh_cons sh_int sh_nil))
  · exact sh_tup (sh_cons sh_int (sh_cons sh_int sh_nil))
def spMkt (K : PySem.W.Frag) : Sp := fun vs H Q _ => ∃ (b s : Nat), vs = [.int (b : Int), .int (s : Int)] ∧ b ≤ 40 ∧ s ≤ 8 ∧ ∀ v H', Same H H' → Tv K H' (.tuple ((tabN (s + 1) b).map rowD)) v → Q v H'
def spAcc (K : PySem.W.Frag) (CQ : Addr) : Sp := fun vs H Q E => ∃ (v : V) (d : PyData) (b s : Nat), vs = [.int (b : Int), .int (s : Int), v] ∧ Tv K H d v ∧ b ≤ 40 ∧ s ≤ 8 ∧
  (rsn b s d = none → ∀ H', Same H H' → Q .non H') ∧ (∀ r, rsn b s d = some r → ∀ d' H', Same H H' → H' d' = some (.xd [("reason", .str r)]) → E (.ref CQ) (some d') H')
abbrev sMkt : Stmt := top 13
abbrev sAcc : Stmt := top 14
abbrev nAcc : List Str := ["beats", "slots", "table", "number", "row", "empty", "entry"]
section
variable {P : Program} {w : World} {K : PySem.W.Frag} {mg : Str → Option Value} {base : Heap}
theorem err_Q {C : Addr} {H H1 : Hp} {W : XK} {r : Str} (sm : Same H H1) (hr : r.length ≤ 1000) (k : ∀ d H', Same H H' → H' d = some (.xd [("reason", .str r)]) → W (.ref C) (some d) H') :
    [V.str r].length ≤ 1000 ∧ ∀ a, H1 a = none → Er.spQE K C (.ref a :: ([V.str r] ++ [])) (upd H1 a (exo a C none))
      (fun v H2 => v = .non ∧ ∃ (d : Addr) (fs : List (Str × V)), H2 a = some (exo a C (some d)) ∧ H2 d = some (exd d fs) ∧ H1 d = none ∧ W (.ref C) (some d) (upd (del H2 a) d (.xd fs))) (fun _ _ _ => False) := by
  refine ⟨(show 1 ≤ 1000 by decide), fun a ha => ⟨a, r, rfl, hr, upd_same, fun dx hdx ne => ⟨rfl, dx, _, upd_same, (by rw [upd_ne ne]; exact upd_same), (by rw [upd_ne ne] at hdx; exact hdx), ?_⟩⟩⟩
  rw [upd_ne ne] at hdx
  refine k dx _ (fun b u e => ?_) upd_same
  have e1 := sm _ _ e
  have nb : b ≠ a := ne_of_none e1 ha
  have nb2 : b ≠ dx := ne_of_none e1 hdx
  rw [upd_ne nb2, del_ne nb, upd_ne nb, upd_ne nb2, upd_ne nb]
  exact e1
theorem scMkt : FnScope ["beats", "slots"] ["beats", "slots"] (defScope sMkt) := ⟨rfl, rfl, rfl, by decide +kernel, rfl, by decide +kernel, by decide +kernel⟩
theorem ok_mkt {f CA : Addr} {fd : FuncData} (F : Fun K "make_table" "make_table" sMkt f fd) (T : Bi mg) (c_ckn : Cal P w K mg base (L2.CX P w) 4 "check_numbers" ["beats", "slots"] (spCkn K CA)) (c_tr : Cal P w K mg base CX0 2 "table_rows" ["beats", "slots"] (spTr K)) :
    FnOk P w K mg base (L2.CX P w) 5 f fd ["beats", "slots"] (spMkt K) := by
  refine F.okX scMkt (fun vs H Q E h => ?_) (fun cdv A outer s H vs Q E hr h => ?_)
  · obtain ⟨b, s, rfl, _⟩ := h
    rfl
  · obtain ⟨b, sl, rfl, hb, hs, q⟩ := h
    refine ⟨_, pss_cons (ps_expr (pe_call c_ckn.ok (hr.mono (by first | decide | omega)) rfl c_ckn.m c_ckn.kp c_ckn.b .nil (passes_call (takes_of rfl rfl rfl rfl) (fun _ _ _ _ h => h)) (pa_cons (pv 0) (pa_cons (pv 1) pa_nil))))
      (pss_one (ps_ret (pe_callTy call_tuple_of rfl T.tuple PyProof.Rows.boot_tuple (pa_cons (pe_call c_tr.ok (hr.mono (by first | decide | omega)) rfl c_tr.m c_tr.kp c_tr.b .nil pass0 (pa_cons (pv 0) (pa_cons (pv 1) pa_nil))) pa_nil)))), ?_⟩
    have e1 : btw (.int (b : Int)) 0 40 = true := btw_nat (m := 40) hb
    have e2 : btw (.int (sl : Int)) 0 8 = true := btw_nat (m := 8) hs
    refine ⟨_, rfl, _, rfl, _, _, .int (b : Int), .int (sl : Int), rfl, rfl, rfl, fun _ _ H1 s1 => ?_, fun z => absurd z (by rw [e1]; decide), fun _ z => absurd z (by rw [e2]; decide)⟩
    refine ⟨_, rfl, _, rfl, b, sl, rfl, hb, hs, fun p xs H2 np s2 ep tx => ?_⟩
    refine ⟨p, xs, rfl, .inl ⟨SqL.of ep, fun l hl => ?_⟩⟩
    exact q _ _ ((s1.trans s2).trans (same_alloc hl)) ⟨l, xs, rfl, SqT.of upd_same, TvL.carry (carry_new hl) _ _ tx⟩
theorem scAcc : FnScope nAcc ["beats", "slots", "table"] (defScope sAcc) := ⟨rfl, rfl, rfl, by decide +kernel, rfl, by decide +kernel, by decide +kernel⟩
theorem ok_acc {f CA CQ : Addr} {fd : FuncData} (F : Fun K "accept_table" "accept_table" sAcc f fd) (T : Bi mg) (zEn : mg "enumerate" = none) (c_ckn : Cal P w K mg base (L2.CX P w) 4 "check_numbers" ["beats", "slots"] (spCkn K CA))
    (c_htf : Cal P w K mg base CX0 3 "has_table_form" ["beats", "slots", "table"] (spHtf K)) (c_re : Cal P w K mg base CX0 1 "right_entries" ["rows", "beats", "empty"] (spRe K)) (c_mkQ : Mk P w K mg base "PaperError" CQ ["self", "reason"] (Er.spQE K CQ)) :
    FnOk P w K mg base (L2.CX P w) 5 f fd ["beats", "slots", "table"] (spAcc K CQ) := by
  refine F.okX scAcc (fun vs H Q E h => ?_) (fun cdv A outer s H vs Q E hr h => ?_)
  · obtain ⟨v, d, b, s, rfl, _⟩ := h
    rfl
  · obtain ⟨v, d, b, sl, rfl, tv, hb, hs, q, qe⟩ := h
    have nd := scAcc.nd
    have hu : (A.deeper (PyProof.Rows.envOfC "accept_table" (defScope sAcc) s.heap.objs.size f cdv)).units + 65 < cLine := by have := hr.un; omega
    refine ⟨_, pss_cons (ps_expr (pe_call c_ckn.ok (hr.mono (by first | decide | omega)) rfl c_ckn.m c_ckn.kp c_ckn.b .nil (passes_call (takes_of rfl rfl rfl rfl) (fun _ _ _ _ h => h)) (pa_cons (pv 0) (pa_cons (pv 1) pa_nil))))
      (pss_cons (ps_if (pt_not (pt_val (pe_call c_htf.ok (hr.mono (by first | decide | omega)) rfl c_htf.m c_htf.kp c_htf.b .nil pass0 (pa_cons (pv 0) (pa_cons (pv 1) (pa_cons (pv 2) pa_nil)))))) (pss_one (ps_raise rfl (takes_of rfl rfl rfl rfl) (pmk_oex c_mkQ.ex c_mkQ.iC c_mkQ.tI c_mkQ.ok (hr.mono (by first | decide | omega)) c_mkQ.b .nil pass0 rfl c_mkQ.m (pa_cons pe_str pa_nil)))) pss_nil)
      (pss_one (ps_for (passes_of rfl) rfl (Et.pi_enumT rfl zEn (pa_cons (pv 2) pa_nil)) (pg_tup (by rfl) (pgs_cons (pg_name (i := 3) nd rfl (.inl rfl)) (pgs_cons (pg_name (i := 4) nd rfl (.inl rfl)) pgs_nil))) (pss_one (ps_for (passes_of rfl) rfl (Et.pi_enumT rfl zEn (pa_cons (pv 4) pa_nil)) (pg_tup (by rfl) (pgs_cons (pg_name (i := 5) nd rfl (.inl rfl)) (pgs_cons (pg_name (i := 6) nd rfl (.inl rfl)) pgs_nil))) (pss_one (ps_if (pt_cmpR (op_notInD hu) (pv 6) (pe_call c_re.ok (hr.mono (by first | decide | omega)) rfl c_re.m c_re.kp c_re.b .nil pass0 (pa_cons (pv 2) (pa_cons (pe_op op_add (pv 3) pe_int) (pa_cons (pv 5) pa_nil)))) (by rfl)) (pss_one (ps_raise rfl (takes_of rfl rfl rfl rfl) (pmk_oex c_mkQ.ex c_mkQ.iC c_mkQ.tI c_mkQ.ok (hr.mono (by first | decide | omega)) c_mkQ.b .nil pass0 rfl c_mkQ.m (pa_cons pe_str pa_nil)))) pss_nil))))))), ?_⟩
    have e1 : btw (.int (b : Int)) 0 40 = true := btw_nat (m := 40) hb
    have e2 : btw (.int (sl : Int)) 0 8 = true := btw_nat (m := 8) hs
    refine ⟨_, rfl, _, rfl, _, _, .int (b : Int), .int (sl : Int), rfl, rfl, rfl, fun _ _ H1 s1 => ?_, fun z => absurd z (by rw [e1]; decide), fun _ z => absurd z (by rw [e2]; decide)⟩
    have tv1 := tv.carry (same_carry s1)
    refine ⟨_, rfl, _, rfl, _, rfl, v, d, b, sl, rfl, tv1, hb, hs, fun H2 s2 => ⟨_, rfl, ?_⟩⟩
    have tv2' := tv1.carry (same_carry s2)
    have sm2 := s1.trans s2
    cases cf : tabF b sl d with
    | false =>
      refine iteT' rfl ?_
      have e : rsn b sl d = some ("form" : Str) := by unfold rsn; rw [cf]; rfl
      exact err_Q sm2 (by decide +kernel) fun d' H' s3 ed => qe _ e d' H' s3 ed
    | true =>
      refine iteF' rfl ?_
      obtain ⟨ds, rfl, ld, items⟩ := tab_items cf
      have er : rsn b sl (.tuple ds) = if okTab ds = true then none else some ("entry" : Str) := by unfold rsn; rw [cf]; rfl
      obtain ⟨a, xs, rfl, sq, tl⟩ := tv2'
      have lx := tvl_len tl
      refine ⟨_, rfl, a, xs, rfl, sq, Et.for_enumT (K := K) (a := a) (xs := xs)
        (fun i σ H' => Same H2 H' ∧ Pre sl i ds ∧ ∃ w3 w4 w5 w6 : Option V, σ = [some (.int (b : Int)), some (.int (sl : Int)), some (.ref a), w3, w4, w5, w6])
        ⟨same_refl H2, ⟨fun j h => absurd h (Nat.not_lt_zero _)⟩, _, _, _, _, rfl⟩ (fun i σ H' _ h => same_carry h.1 _ _ sq) ?_ ?_⟩
      · rintro i x σ H3 T hx hT ⟨s3, pre, w3, w4, w5, w6, rfl⟩
        have il : i < xs.length := (List.getElem?_eq_some_iff.mp hx).1
        obtain ⟨y, hy⟩ : ∃ y, ds[i]? = some y := ⟨_, List.getElem?_eq_getElem (by omega)⟩
        obtain ⟨es, rfl, le, ents⟩ := items i y hy
        obtain ⟨x2, hx2, tx⟩ := tvl_get (TvL.carry (same_carry s3) _ _ tl) hy
        rw [hx] at hx2
        cases hx2
        have sT : Same H3 (upd H3 T (.tup [.int (i : Nat), x])) := same_alloc hT
        refine ⟨T, _, rfl, SqT.of upd_same, rfl, _, _, rfl, _, _, rfl, rfl, ?_⟩
        obtain ⟨ra, ys, rfl, sqr, tlr⟩ := tx.carry (same_carry sT)
        have ly := tvl_len tlr
        refine ⟨_, rfl, ra, ys, rfl, sqr, Et.for_enumT (K := K) (a := ra) (xs := ys)
          (fun j σ H' => Same (upd H3 T (.tup [.int (i : Nat), .ref ra])) H' ∧ (∀ (u : Nat) e, u < j → es[u]? = some e → okD (i + 1) u e = true) ∧ ∃ w5 w6 : Option V, σ = [some (.int (b : Int)), some (.int (sl : Int)), some (.ref a), some (.int (i : Nat)), some (.ref ra), w5, w6])
          ⟨same_refl _, fun u e h => absurd h (Nat.not_lt_zero _), _, _, rfl⟩ (fun j σ H' _ h => same_carry h.1 _ _ sqr) ?_ ?_⟩
        · rintro j z σ H4 T2 hz hT2 ⟨s4, pre2, w5, w6, rfl⟩
          have jl : j < ys.length := (List.getElem?_eq_some_iff.mp hz).1
          obtain ⟨e, he⟩ : ∃ e, es[j]? = some e := ⟨_, List.getElem?_eq_getElem (by omega)⟩
          obtain ⟨z2, hz2, tz⟩ := tvl_get (TvL.carry (same_carry s4) _ _ tlr) he
          rw [hz] at hz2
          cases hz2
          have sT2 : Same H4 (upd H4 T2 (.tup [.int (j : Nat), z])) := same_alloc hT2
          refine ⟨T2, _, rfl, SqT.of upd_same, rfl, _, _, rfl, _, _, rfl, rfl, ?_⟩
          have sm5 := ((s3.trans sT).trans s4).trans sT2
          have tz5 := tz.carry (same_carry sT2)
          have eR := pre_right (u := j) pre (by omega)
          refine ⟨_, rfl, _, rfl, _, rfl, _, _, rfl, rfl, _, rfl, a, ds, xs, ds.map decR, i + 1, j, sl + 1, rfl, .inr (same_carry sm5 _ _ sq), TvL.carry (same_carry sm5) _ _ tl, fun j' hj' => (pre_row pre (by omega)).1, pre_ok pre (by omega) hs (by omega), by omega, by omega, by omega, by omega, fun p zs H6 np s6 ep tp => ?_⟩
          rw [eR] at tp
          have en := ents j e he
          have she := entF_sh en
          have shl := ents_sh (right TL (i + 1) j)
          have shL : Sh 2 (.list ((right TL (i + 1) j).map entD)) := ⟨shl.1, Nat.succ_le_succ shl.2⟩
          refine ⟨e, (right TL (i + 1) j).map entD, dp_tv _ _ she.1 (tz5.carry (same_carry s6)), .lst (SqL.of ep) (dps_tv _ _ shl.1 tp), she.shaped (by decide), shL.shaped (by decide), _, rfl, ?_⟩
          rw [right_any (by omega) (by omega) (by omega) en]
          have smE := (sm2.trans sm5).trans s6
          cases ho : okD (i + 1) j e with
          | true =>
            refine iteF' rfl ?_
            refine ⟨(s4.trans sT2).trans s6, fun u e' hu he' => ?_, _, _, rfl⟩
            by_cases c : u = j
            · subst c
              rw [he] at he'
              cases he'
              exact ho
            · exact pre2 u e' (by omega) he'
          | false =>
            refine iteT' rfl ?_
            have e3 : rsn b sl (.tuple ds) = some ("entry" : Str) := by rw [er, okTab_no hy he ho]; rfl
            exact err_Q smE (by decide +kernel) fun d' H' s7 ed => qe _ e3 d' H' s7 ed
        · rintro σ H4 ⟨s4, pre2, w5, w6, rfl⟩
          refine ⟨(s3.trans sT).trans s4, ⟨fun j hj => ?_⟩, _, _, _, _, rfl⟩
          by_cases c : j = i
          · subst c
            exact ⟨es, hy, le, fun u e he => pre2 u e (by have := (List.getElem?_eq_some_iff.mp he).1; omega) he⟩
          · exact pre.row j (by omega)
      · rintro σ H3 ⟨s3, pre, w3, w4, w5, w6, rfl⟩
        have e : okTab ds = true := okTab_yes fun i y hy => by
          have := (List.getElem?_eq_some_iff.mp hy).1
          obtain ⟨es, h1, _, h3⟩ := pre.row i (by omega)
          rw [hy] at h1
          cases h1
          exact ⟨es, rfl, h3⟩
        rw [er, e] at q
        exact q rfl H3 (sm2.trans s3)
end
end Sd

namespace Sd
open PySem L2 Tr Pu PyProof.Rows
section
variable {K : PySem.W.Frag} {H H' : Hp} {σ : L2.St} {ρ : Rho}
theorem de_neg {te : TE} {i : Int} (h : DE K te ρ (.int i)) : DE K (tUn (rU fun i => .int (-i)) te) ρ (.int (-i)) := fun σ H Q en q =>
  h σ H _ en fun v H1 s1 tv => ⟨i, tv, q _ H1 s1 rfl⟩
theorem de_lst {ta : TA} {ds : List PyData} (h : DA K ta ρ ds) (hl : ds.length ≤ 1000 := by decide) : DE K (tLst ta) ρ (.dict []) := fun σ H Q en q =>
  h σ H _ en fun vs H1 s1 tv => ⟨by rw [tvl_len tv]; exact Nat.le_of_lt (small1000 hl), fun p hp => q _ _ (s1.trans (same_put hp)) ⟨p, vs, rfl, upd_same⟩⟩
theorem lst_da {ta : TA} {ds : List PyData} {Q : VK} (da : DA K ta ρ ds) (en : En K H σ ρ) (hl : ds.length ≤ 1000) (k : ∀ xs H1 S, Same H H1 → TvL K H1 ds xs → H1 S = none → Q (.ref S) (upd H1 S (.lst xs))) : tLst ta σ H Q :=
  da σ H _ en fun xs H1 s1 tl => ⟨by rw [tvl_len tl]; exact Nat.le_of_lt (small1000 hl), fun S nS => k xs H1 S s1 tl nS⟩
/-- one of a list of data, drawn -/
theorem pick {ta : TA} {ds : List PyData} {i n : Nat} {p dl : Addr} {Q : VK} (da : DA K ta ρ ds) (en : En K H σ ρ) (D : Dw K H p dl) (hi : σ[i]? = some (some (.ref p))) (hn : n = ds.length) (pos : 0 < n) (hl : n ≤ 1000)
    (k : ∀ x d H', d ∈ ds → Tv K H' d x → Stays p H H' → Dw K H' p dl → Q x H') : tOp (rIxL K) (tLst ta) (tCall (spDrw K) [] E0 (tCons (tVar i) (tCons (tC (.int (n : Int))) tNil))) σ H Q := by
  refine da σ H _ en fun xs H1 s1 tl => ⟨by rw [tvl_len tl]; exact Nat.le_of_lt (small1000 (hn ▸ hl)), fun S nS => ?_⟩
  have D1 := (D.same s1).new (o := .lst xs) nS
  have np : S ≠ p := fun z => by
    obtain ⟨ys, e⟩ := (D.same s1).at_
    rw [z, e] at nS
    cases nS
  refine ⟨_, hi, p, dl, (n : Int), rfl, D1, by omega, by omega, fun v H2 v0 v1 s2 D2 => ?_⟩
  have lx := tvl_len tl
  obtain ⟨x, hx, hx2⟩ := at_in (xs := xs) v0 (by rw [lx]; omega)
  obtain ⟨d, hd⟩ : ∃ d, ds[v.toNat]? = some d := ⟨_, List.getElem?_eq_getElem (by omega)⟩
  have C2 := dw_carry D1 s2 D2
  obtain ⟨y, hy, ty⟩ := tvl_get (TvL.carry C2 _ _ (TvL.carry (carry_new nS) _ _ tl)) hd
  rw [hx2] at hy
  cases hy
  exact ⟨S, xs, v, x, rfl, rfl, SqL.of (s2 _ _ np upd_same), hx, k x d H2 (List.mem_of_getElem? hd) ty ((same_stays (s1.trans (same_alloc nS))).trans s2) D2⟩
end
end Sd

namespace Sd
open PySem L2 Tr Pu PyProof.Rows
theorem small_mono : ∀ (n : Nat) {m m' n' : Nat} {d : PyData}, smallD m n d = true → m ≤ m' → n ≤ n' → smallD m' n' d = true := by
  intro n
  induction n with
  | zero =>
    intro m m' n' d h hm hn
    cases d with
    | tuple ds => cases h
    | list l => cases h
    | dict l => cases h
    | none => cases n' <;> rfl
    | bool b => cases n' <;> rfl
    | int b => cases n' <;> rfl
    | str b => cases n' <;> rfl
  | succ n ih =>
    intro m m' n' d h hm hn
    obtain ⟨k, rfl⟩ : ∃ k, n' = k + 1 := ⟨n' - 1, by omega⟩
    cases d with
    | tuple ds =>
      obtain ⟨h1, h2⟩ := small_tup.mp h
      exact small_tup.mpr ⟨by omega, fun d hd => ih (h2 d hd) hm (by omega)⟩
    | list l => cases h
    | dict l => cases h
    | none => rfl
    | bool b => rfl
    | int b => rfl
    | str b => rfl
theorem cut_mem {ds : List PyData} {lo hi : Option Int} {x : PyData} (h : x ∈ Pu.cutD ds lo hi) : x ∈ ds := List.mem_of_mem_drop (List.mem_of_mem_take h)
theorem cut_len (ds : List PyData) (lo hi : Option Int) : (Pu.cutD ds lo hi).length ≤ ds.length := by
  unfold Pu.cutD
  rw [List.length_take, List.length_drop]
  omega
def gr (m : Nat) : Nat := 2 * m + 1
def spOther (K : PySem.W.Frag) : Sp := fun vs H Q _ => ∃ (p dl : Addr) (v : V) (d : PyData) (m n : Nat), vs = [.ref p, v] ∧ Dw K H p dl ∧ Tv K H d v ∧ smallD m n d = true ∧ 1 ≤ m ∧ m ≤ 100 ∧
  ∀ u d' H', Tv K H' d' u → smallD (gr m) (n + 1) d' = true → Stays p H H' → Dw K H' p dl → Q u H'
def spSpo (K : PySem.W.Frag) (k : Nat) : Sp := fun vs H Q _ => ∃ (p dl : Addr) (v : V) (d : PyData) (m n : Nat), vs = [.ref p, v] ∧ n < k ∧ Dw K H p dl ∧ Tv K H d v ∧ smallD m n d = true ∧ 1 ≤ m ∧ m ≤ 100 ∧
  ∀ u d' H', Tv K H' d' u → smallD (gr m) (n + 1) d' = true → Stays p H H' → Dw K H' p dl → Q u H'
abbrev sOther : Stmt := top 30
abbrev sSpo : Stmt := top 31
section
variable {K : PySem.W.Frag} {H : Hp} {σ : L2.St} {ρ : Rho}
theorem and_k {t u : TT} {b : Bool} {Q : Bool → Hp → Prop} (h : DT K t ρ b) (en : En K H σ ρ) (g1 : b = true → ∀ H2, Same H H2 → u σ H2 Q) (g2 : b = false → ∀ H2, Same H H2 → Q false H2) : tAnd t u σ H Q :=
  h σ H _ en fun H1 s1 => by
    cases b with
    | true => exact iteT' rfl (g1 rfl H1 s1)
    | false => exact iteF' rfl (g2 rfl H1 s1)
theorem tup_of {d : PyData} (h : isTup d = true) : ∃ l, d = .tuple l := by
  cases d with
  | tuple l => exact ⟨l, rfl⟩
  | none => cases h
  | bool b => cases h
  | int b => cases h
  | str b => cases h
  | list b => cases h
  | dict b => cases h
theorem sl_tv {v : V} {ds : List PyData} {lo hi : Option Int} {Q : VK} (h : Tv K H (.tuple ds) v) (k : ∀ w H', Same H H' → Tv K H' (.tuple (Pu.cutD ds lo hi)) w → Q w H') : rSlA K v lo hi H Q := by
  obtain ⟨a, xs, rfl, sq, l⟩ := h
  have e := tvl_len l
  refine ⟨a, xs, rfl, sq, fun z => ?_, fun z p hp => ?_⟩
  · refine k _ H (same_refl H) ⟨a, xs, rfl, sq, ?_⟩
    unfold Pu.cutD
    rw [← e, z.1, z.2, List.drop_zero, Nat.sub_zero, e, List.take_length]
    exact l
  · refine k _ _ (same_alloc hp) ⟨p, _, rfl, SqT.of upd_same, TvL.carry (carry_new hp) _ _ ?_⟩
    unfold Pu.cutD cutV
    rw [← e]
    exact tvl_take _ (tvl_drop _ l)
theorem cat_tv {v u : V} {ds es : List PyData} {Q : VK} (h : Tv K H (.tuple ds) v) (g : Tv K H (.tuple es) u) (hl : ds.length + es.length ≤ 1000) (k : ∀ w H', Same H H' → Tv K H' (.tuple (ds ++ es)) w → Q w H') : rCatA K v u H Q := by
  obtain ⟨a, xs, rfl, sq, l⟩ := h
  obtain ⟨a2, ys, rfl, sq2, l2⟩ := g
  refine ⟨a, a2, xs, ys, rfl, rfl, sq, sq2, by rw [tvl_len l, tvl_len l2]; exact Nat.le_of_lt (small1000 hl), fun z => ?_, fun z1 z2 => ?_, fun z1 z2 p hp => ?_⟩
  · refine k _ H (same_refl H) ⟨a2, ys, rfl, sq2, ?_⟩
    subst z
    have e : ds = [] := by
      have := tvl_len l
      cases ds with
      | nil => rfl
      | cons d r => simp at this
    rw [e]
    exact l2
  · refine k _ H (same_refl H) ⟨a, xs, rfl, sq, ?_⟩
    subst z2
    have e : es = [] := by
      have := tvl_len l2
      cases es with
      | nil => rfl
      | cons d r => simp at this
    rw [e, List.append_nil]
    exact l
  · exact k _ _ (same_alloc hp) ⟨p, _, rfl, SqT.of upd_same, TvL.carry (carry_new hp) _ _ (tvl_app l l2)⟩
end
section
variable {P : Program} {w : World} {K : PySem.W.Frag} {mg : Str → Option Value} {base : Heap}
theorem scOther : FnScope ["state", "value"] ["state", "value"] (defScope sOther) := ⟨rfl, rfl, rfl, by decide +kernel, rfl, by decide +kernel, by decide +kernel⟩
theorem ok_other {f : Addr} {fd : FuncData} (F : Fun K "_law_other" "_law_other" sOther f fd) (T : Bi mg) (c_draw : Cal P w K mg base CX0 1 "_law_draw" ["state", "many"] (spDrw K)) (c_whole : Cal P w K mg base CX0 1 "_law_whole" ["value"] (spP K 1 dIsi)) :
    FnOk P w K mg base CX0 2 f fd ["state", "value"] (spOther K) := by
  refine F.ok scOther (fun vs H Q E h => ?_) (fun cdv A outer s H vs Q E hr h => ?_)
  · obtain ⟨p, dl, v, d, m, n, rfl, _⟩ := h
    rfl
  · obtain ⟨p, dl, v, d, m, n, rfl, D, tv, sm, m1, m100, q⟩ := h
    have nd := scOther.nd
    have en : ∀ {H' : Hp}, Tv K H' d v → En K H' [some (.ref p), some v] [none, some d] := fun t => en_n (en_s t en_0)
    refine ⟨_, pss_cons (ps_if (PW.pt (pw_and (pt_val (pe_callB call_isi rfl T.isinstance PyProof.Rows.boot_isinstance (pa_cons (pv 1) (pa_cons (pe_bltn (v := .ty "tuple") rfl T.tuple PyProof.Rows.boot_tuple rfl) pa_nil)))) (pw_and (pt_truth (pv 1) (by intro _; rfl)) (pw_and1 (pt_cmpR op_eq (pe_call c_draw.ok (hr.mono (by first | decide | omega)) rfl c_draw.m c_draw.kp c_draw.b .nil pass0 (pa_cons (pv 0) (pa_cons pe_int pa_nil))) pe_int (nomark _)))))) (pss_one (ps_ret (pe_ix ix_list (pe_lst (pa_cons (pe_slice sl_tupA (pv 1) po_none (po_some (pe_un un_neg pe_int))) (pa_cons (pe_op op_catA (pv 1) (pe_slice sl_tupA (pv 1) po_none (po_some pe_int))) (pa_cons (pe_ix ix_tup (pv 1) pe_int (fun _ _ => rfl)) pa_nil)))) (pe_call c_draw.ok (hr.mono (by first | decide | omega)) rfl c_draw.m c_draw.kp c_draw.b .nil pass0 (pa_cons (pv 0) (pa_cons pe_int pa_nil))) (fun _ _ => rfl)))) pss_nil)
      (pss_cons (ps_if (PW.pt (pw_and (pt_val (pe_call c_whole.ok (hr.mono (by first | decide | omega)) rfl c_whole.m c_whole.kp c_whole.b .nil pass0 (pa_cons (pv 1) pa_nil))) (pw_and1 (pt_cmpR op_eq (pe_call c_draw.ok (hr.mono (by first | decide | omega)) rfl c_draw.m c_draw.kp c_draw.b .nil pass0 (pa_cons (pv 0) (pa_cons pe_int pa_nil))) pe_int (nomark _))))) (pss_one (ps_ret (pe_op op_add (pv 1) (pe_ix ix_list (pe_lst (pa_cons pe_int (pa_cons (pe_un un_neg pe_int) pa_nil))) (pe_call c_draw.ok (hr.mono (by first | decide | omega)) rfl c_draw.m c_draw.kp c_draw.b .nil pass0 (pa_cons (pv 0) (pa_cons pe_int pa_nil))) (fun _ _ => rfl))))) pss_nil)
      (pss_one (ps_ret (pe_ix ix_list (pe_lst (pa_cons pe_int (pa_cons pe_int (pa_cons pe_int (pa_cons pe_non (pa_cons pe_bl (pa_cons pe_str (pa_cons (pe_tup pa_nil) (pa_cons (pe_tup (pa_cons pe_int (pa_cons pe_int pa_nil))) (pa_cons (pe_tup (pa_cons pe_non (pa_cons pe_int pa_nil))) (pa_cons (pe_un un_neg pe_int) pa_nil))))))))))) (pe_call c_draw.ok (hr.mono (by first | decide | omega)) rfl c_draw.m c_draw.kp c_draw.b .nil pass0 (pa_cons (pv 0) (pa_cons pe_int pa_nil))) (fun _ _ => rfl))))), ?_⟩
    refine if_k (fun σ' H' => Stays p H H' ∧ Dw K H' p dl ∧ Tv K H' d v ∧ σ' = [some (.ref p), some v]) (fun D' hD k => ?_) ?_
    · refine and_k (dt_B (de_isT (i := 1) rfl)) (en tv) (fun c H1 s1 => ?_) (fun c H1 s1 => iteF' rfl (k _ _ ⟨same_stays s1, D.same s1, tv.carry (same_carry s1), rfl⟩))
      obtain ⟨ds, rfl⟩ := tup_of c
      have tv1 := tv.carry (same_carry s1)
      obtain ⟨n, rfl⟩ : ∃ n', n = n' + 1 := by
        cases n with
        | zero => cases sm
        | succ n => exact ⟨n, rfl⟩
      obtain ⟨ln, sds⟩ := small_tup.mp sm
      refine and_k (dt_truT (ds := ds) (de_var rfl)) (en tv1) (fun c H2 s2 => ?_) (fun c H2 s2 => iteF' rfl (k _ _ ⟨same_stays (s1.trans s2), (D.same s1).same s2, tv1.carry (same_carry s2), rfl⟩))
      have D2 := (D.same s1).same s2
      have tv2' := tv1.carry (same_carry s2)
      refine ⟨_, rfl, p, dl, 3, rfl, D2, by decide, by decide, fun x H3 _ _ s3 D3 => ⟨rfl, _, rfl, ?_⟩⟩
      have tv3' := tv2'.carry (dw_carry D2 s3 D3)
      have st3 : Stays p H H3 := (same_stays (s1.trans s2)).trans s3
      by_cases cx : x = 0
      · refine iteT' (decide_eq_true (congrArg V.int cx)) ?_
        cases ds with
        | nil => cases c
        | cons h r =>
          have len2 : (h :: r).length + (Pu.cutD (h :: r) none (some 1)).length ≤ 1000 := by have := cut_len (h :: r) none (some 1); omega
          refine pick (n := 3) (ds := [.tuple (Pu.cutD (h :: r) none (some (-1))), .tuple ((h :: r) ++ Pu.cutD (h :: r) none (some 1)), h])
            (da_cons (de_sl (de_var rfl) do_none (do_some (de_neg de_int)) rfl) (da_cons (de_cat (de_var rfl) (de_sl (de_var rfl) do_none (do_some de_int) rfl) rfl len2) (da_one (de_ix (de_var rfl) de_int (atI_nat (xs := h :: r) (j := 0) rfl))))) (en tv3') D3 rfl rfl (by decide) (by decide) fun u d H4 hd t s4 D4 => ?_
          rw [hD]
          refine q u d H4 t ?_ (st3.trans s4) D4
          have grm : m ≤ gr m := by unfold gr; omega
          simp only [List.mem_cons, List.not_mem_nil, or_false] at hd
          rcases hd with rfl | rfl | rfl
          · have := cut_len (h :: r) none (some (-1))
            exact small_tup.mpr ⟨by unfold gr; omega, fun e he => small_mono n (sds e (cut_mem he)) grm (by omega)⟩
          · have := cut_len (h :: r) none (some 1)
            refine small_tup.mpr ⟨by rw [List.length_append]; unfold gr; omega, fun e he => ?_⟩
            rcases List.mem_append.mp he with he | he
            · exact small_mono n (sds e he) grm (by omega)
            · exact small_mono n (sds e (cut_mem he)) grm (by omega)
          · exact small_mono n (sds d List.mem_cons_self) grm (by omega)
      · refine iteF' (decide_eq_false (fun y => cx (V.int.inj y))) ?_
        exact k _ _ ⟨st3, D3, tv3', rfl⟩
    rintro _ H1 ⟨st1, D1, tv1, rfl⟩
    refine if_k (fun σ' H' => Stays p H H' ∧ Dw K H' p dl ∧ σ' = [some (.ref p), some v]) (fun D' hD k => ?_) ?_
    · refine and_k (dt_B (de_call (E := fun _ _ _ => False) (da_one (de_var (i := 1) rfl)) pv_isi)) (en tv1) (fun c H2 s2 => ?_) (fun c H2 s2 => iteF' rfl (k _ _ ⟨st1.trans (same_stays s2), D1.same s2, rfl⟩))
      obtain ⟨i, rfl⟩ : ∃ i, d = .int i := by
        cases d with
        | int i => exact ⟨i, rfl⟩
        | none => cases c
        | bool b => cases c
        | str b => cases c
        | tuple b => cases c
        | list b => cases c
        | dict b => cases c
      have D2 := D1.same s2
      refine ⟨_, rfl, p, dl, 2, rfl, D2, by decide, by decide, fun x H3 _ _ s3 D3 => ⟨rfl, _, rfl, ?_⟩⟩
      have st3 := (st1.trans (same_stays s2)).trans s3
      have ev : v = .int i := tv1
      subst ev
      by_cases cx : x = 0
      · refine iteT' (decide_eq_true (congrArg V.int cx)) ?_
        refine ⟨_, rfl, ?_⟩
        refine pick (n := 2) (ds := [.int 1, .int (-1)]) (da_cons de_int (da_one (de_neg de_int))) (en (show Tv K H3 (.int i) (.int i) from rfl)) D3 rfl rfl (by decide) (by decide) fun u d H4 hd t s4 D4 => ?_
        simp only [List.mem_cons, List.not_mem_nil, or_false] at hd
        rcases hd with rfl | rfl
        · have e : u = .int 1 := t
          subst e
          refine ⟨i, 1, rfl, rfl, ?_⟩
          rw [hD]
          exact q _ (.int (i + 1)) H4 rfl rfl (st3.trans s4) D4
        · have e : u = .int (-1) := t
          subst e
          refine ⟨i, -1, rfl, rfl, ?_⟩
          rw [hD]
          exact q _ (.int (i + -1)) H4 rfl rfl (st3.trans s4) D4
      · refine iteF' (decide_eq_false (fun y => cx (V.int.inj y))) ?_
        exact k _ _ ⟨st3, D3, rfl⟩
    rintro _ H2 ⟨st2, D2, rfl⟩
    refine pick (n := 10) (ds := [.int 0, .int 1, .int 2, .none, .bool true, .str "", .tuple [], .tuple [.int 0, .int 0], .tuple [.none, .int 0], .int (-1)])
      (da_cons de_int (da_cons de_int (da_cons de_int (da_cons de_non (da_cons de_bl (da_cons de_str (da_cons (de_tup da_nil) (da_cons (de_tup (da_cons de_int (da_one de_int))) (da_cons (de_tup (da_cons de_non (da_one de_int))) (da_one (de_neg de_int)))))))))))
      (ρ := [none, none]) (en_n (en_n en_0)) D2 rfl rfl (by decide) (by decide) fun u d' H4 hd t s4 D4 => ?_
    refine q u d' H4 t ?_ (st2.trans s4) D4
    have g2 : 2 ≤ gr m := by unfold gr; omega
    simp only [List.mem_cons, List.not_mem_nil, or_false] at hd
    rcases hd with rfl | rfl | rfl | rfl | rfl | rfl | rfl | rfl | rfl | rfl
    · rfl
    · rfl
    · rfl
    · rfl
    · rfl
    · rfl
    · exact small_tup.mpr ⟨Nat.zero_le _, fun e he => by cases he⟩
    · refine small_tup.mpr ⟨g2, fun e he => ?_⟩
      simp only [List.mem_cons, List.not_mem_nil, or_false] at he
      rcases he with rfl | rfl <;> cases n <;> rfl
    · refine small_tup.mpr ⟨g2, fun e he => ?_⟩
      simp only [List.mem_cons, List.not_mem_nil, or_false] at he
      rcases he with rfl | rfl <;> cases n <;> rfl
    · rfl
end
end Sd

namespace Sd
open PySem L2 Tr Pu PyProof.Rows
section
variable {P : Program} {w : World} {K : PySem.W.Frag} {mg : Str → Option Value} {base : Heap}
theorem scSpo : FnScope ["state", "value", "k"] ["state", "value"] (defScope sSpo) := ⟨rfl, rfl, rfl, by decide +kernel, rfl, by decide +kernel, by decide +kernel⟩
theorem ok_spo1 {f : Addr} {fd : FuncData} {k : Nat} (F : Fun K "_law_spoilt" "_law_spoilt" sSpo f fd) (T : Bi mg) (c_draw : Cal P w K mg base CX0 1 "_law_draw" ["state", "many"] (spDrw K)) (c_other : Cal P w K mg base CX0 2 "_law_other" ["state", "value"] (spOther K))
    (c_spoilt : Cal P w K mg base CX0 (k + 2) "_law_spoilt" ["state", "value"] (spSpo K k)) : FnOk P w K mg base CX0 (k + 2 + 1) f fd ["state", "value"] (spSpo K (k + 1)) := by
  refine F.ok scSpo (fun vs H Q E h => ?_) (fun cdv A outer s H vs Q E hr h => ?_)
  · obtain ⟨p, dl, v, d, m, n, rfl, _⟩ := h
    rfl
  · obtain ⟨p, dl, v, d, m, n, rfl, nk, D, tv, sm, m1, m100, q⟩ := h
    have nd := scSpo.nd
    have one : 1 ≤ sizeLine := by decide
    have en : ∀ {H' : Hp}, Tv K H' d v → En K H' [some (.ref p), some v, none] [none, some d, none] := fun t => en_n (en_s t (en_n en_0))
    refine ⟨_, pss_cons (ps_if (PW.pt (pw_and (pt_val (pe_callB call_isi rfl T.isinstance PyProof.Rows.boot_isinstance (pa_cons (pv 1) (pa_cons (pe_bltn (v := .ty "tuple") rfl T.tuple PyProof.Rows.boot_tuple rfl) pa_nil)))) (pw_and (pt_truth (pv 1) (by intro _; rfl)) (pw_and1 (pt_cmpR op_gt (pe_call c_draw.ok (hr.mono (by first | decide | omega)) rfl c_draw.m c_draw.kp c_draw.b .nil pass0 (pa_cons (pv 0) (pa_cons pe_int pa_nil))) pe_int (nomark _)))))) (pss_cons (ps_set (i := 2) nd rfl (.inl rfl) (pe_call c_draw.ok (hr.mono (by first | decide | omega)) rfl c_draw.m c_draw.kp c_draw.b .nil pass0 (pa_cons (pv 0) (pa_cons (pe_callB call_len_seq rfl T.len PySem.boot_len (pa_cons (pv 1) pa_nil)) pa_nil))))
      (pss_one (ps_ret (pe_op op_catA (pe_op op_catA (pe_slice sl_tupA (pv 1) po_none (po_some (pv 2))) (pe_tup (pa_cons (pe_call c_spoilt.ok (hr.mono (by first | decide | omega)) rfl c_spoilt.m c_spoilt.kp c_spoilt.b .nil pass0 (pa_cons (pv 0) (pa_cons (pe_ix ix_tup (pv 1) (pv 2) (fun _ _ => rfl)) pa_nil))) pa_nil))) (pe_slice sl_tupA (pv 1) (po_some (pe_op op_add (pv 2) pe_int)) po_none))))) pss_nil)
      (pss_one (ps_ret (pe_call c_other.ok (hr.mono (by first | decide | omega)) rfl c_other.m c_other.kp c_other.b .nil pass0 (pa_cons (pv 0) (pa_cons (pv 1) pa_nil))))), ?_⟩
    refine if_k (fun σ' H' => Stays p H H' ∧ Dw K H' p dl ∧ Tv K H' d v ∧ σ' = [some (.ref p), some v, none]) (fun D' hD k => ?_) ?_
    · refine and_k (dt_B (de_isT (i := 1) rfl)) (en tv) (fun c H1 s1 => ?_) (fun c H1 s1 => iteF' rfl (k _ _ ⟨same_stays s1, D.same s1, tv.carry (same_carry s1), rfl⟩))
      obtain ⟨ds, rfl⟩ := tup_of c
      have tv1 := tv.carry (same_carry s1)
      obtain ⟨n, rfl⟩ : ∃ n', n = n' + 1 := by
        cases n with
        | zero => cases sm
        | succ n => exact ⟨n, rfl⟩
      obtain ⟨ln, sds⟩ := small_tup.mp sm
      refine and_k (dt_truT (ds := ds) (de_var rfl)) (en tv1) (fun c H2 s2 => ?_) (fun c H2 s2 => iteF' rfl (k _ _ ⟨same_stays (s1.trans s2), (D.same s1).same s2, tv1.carry (same_carry s2), rfl⟩))
      have D2 := (D.same s1).same s2
      have tv2' := tv1.carry (same_carry s2)
      refine ⟨_, rfl, p, dl, 9, rfl, D2, by decide, by decide, fun x H3 _ _ s3 D3 => ⟨_, _, rfl, rfl, _, rfl, ?_⟩⟩
      have tv3' := tv2'.carry (dw_carry D2 s3 D3)
      have st3 : Stays p H H3 := (same_stays (s1.trans s2)).trans s3
      by_cases cx : 0 < x
      · refine iteT' (decide_eq_true cx) ?_
        have lpos : 0 < ds.length := by
          cases ds with
          | nil => cases c
          | cons a r => exact Nat.succ_pos _
        obtain ⟨a, xs, rfl, sq, tl⟩ := id tv3'
        have lx := tvl_len tl
        refine ⟨_, rfl, _, rfl, a, xs, rfl, .inr sq, p, dl, (xs.length : Int), rfl, D3, by omega, by omega, fun i H4 i0 i1 s4 D4 => ?_⟩
        have C4 := dw_carry D3 s4 D4
        have tv4 := tv3'.carry C4
        obtain ⟨e, he⟩ : ∃ e, ds[i.toNat]? = some e := ⟨_, List.getElem?_eq_getElem (by omega)⟩
        refine ⟨_, rfl, _, rfl, _, rfl, sl_tv tv4 fun u1 H5 s5 t5 => ?_⟩
        have sq5 := same_carry s5 _ _ (C4 _ _ sq)
        have tl5 := TvL.carry (same_carry s5) _ _ (TvL.carry C4 _ _ tl)
        have D5 := D4.same s5
        obtain ⟨z, hz, tz⟩ := tvl_get tl5 he
        have hz' : atI xs i = some z := by rw [show i = ((i.toNat : Nat) : Int) by omega]; exact atI_nat hz
        have small_e := sds e (List.mem_of_getElem? he)
        refine ⟨_, rfl, _, rfl, _, rfl, a, xs, i, z, rfl, rfl, sq5, hz', p, dl, z, e, m, n, rfl, by omega, D5, tz, small_e, m1, m100, fun u2 e2 H6 t6 sm6 s6 D6 => ⟨one, fun tt ntt => ?_⟩⟩
        have C6 := dw_carry D5 s6 D6
        have t5' := (t5.carry C6).carry (carry_new (o := .tup [u2]) ntt)
        have tvT : Tv K (upd H6 tt (.tup [u2])) (.tuple [e2]) (.ref tt) := Tr.tv1 upd_same (t6.carry (carry_new ntt))
        have tv6 := ((tv4.carry (same_carry s5)).carry C6).carry (carry_new (o := .tup [u2]) ntt)
        have D6' := D6.new (o := .tup [u2]) ntt
        have st6 : Stays p H (upd H6 tt (.tup [u2])) := (((st3.trans s4).trans (same_stays s5)).trans s6).trans (stays_new ntt)
        have cl1 := cut_len ds none (some i)
        have cl2 := cut_len ds (some (i + 1)) none
        refine cat_tv t5' tvT (by show _ + 1 ≤ 1000; omega) fun w1 H7 s7 t7 => ?_
        refine ⟨_, rfl, _, rfl, _, _, rfl, rfl, _, rfl, noP (sl_tv (tv6.carry (same_carry s7)) fun u3 H8 s8 t8 => ?_)⟩
        refine cat_tv (t7.carry (same_carry s8)) t8 (by rw [List.length_append]; show _ + 1 + _ ≤ 1000; omega) fun w2 H9 s9 t9 => ?_
        rw [hD]
        have sm9 := (s7.trans s8).trans s9
        have grm : m ≤ gr m := by unfold gr; omega
        refine q w2 _ H9 t9 (small_tup.mpr ⟨?_, fun y hy => ?_⟩) (st6.trans (same_stays sm9)) (D6'.same sm9)
        · rw [List.length_append, List.length_append]
          show _ + 1 + _ ≤ gr m
          unfold gr
          omega
        · rcases List.mem_append.mp hy with hy | hy
          · rcases List.mem_append.mp hy with hy | hy
            · exact small_mono n (sds y (cut_mem hy)) grm (by omega)
            · rw [List.mem_singleton.mp hy]
              exact sm6
          · exact small_mono n (sds y (cut_mem hy)) grm (by omega)
      · refine iteF' (decide_eq_false cx) ?_
        exact k _ _ ⟨st3, D3, tv3', rfl⟩
    rintro _ H1 ⟨st1, D1, tv1, rfl⟩
    exact ⟨_, rfl, _, rfl, p, dl, v, d, m, n, rfl, D1, tv1, sm, m1, m100, fun u d' H' t s st D' => q u d' H' t s (st1.trans st) D'⟩
theorem ok_spo {f : Addr} {fd : FuncData} (F : Fun K "_law_spoilt" "_law_spoilt" sSpo f fd) (T : Bi mg) (c_draw : Cal P w K mg base CX0 1 "_law_draw" ["state", "many"] (spDrw K)) (c_other : Cal P w K mg base CX0 2 "_law_other" ["state", "value"] (spOther K))
    (b : Binds K fd ["state", "value"] []) (mm : mg "_law_spoilt" = some (.ref f)) : ∀ k : Nat, FnOk P w K mg base CX0 (k + 2) f fd ["state", "value"] (spSpo K k)
  | 0 => ⟨fun vs H Q E h => by obtain ⟨_, _, _, _, _, _, _, z, _⟩ := h; exact absurd z (Nat.not_lt_zero _), fun A outer s H args us vs Q E _ _ _ _ h => by obtain ⟨_, _, _, _, _, _, _, z, _⟩ := h; exact absurd z (Nat.not_lt_zero _)⟩
  | k + 1 => ok_spo1 F T c_draw c_other ⟨f, fd, ok_spo F T c_draw c_other b mm k, b, F.kp, mm⟩
end
end Sd

namespace Sd
open PySem L2 Tr Pu PyProof.Rows
def chkM : Bool := (List.range 41).all fun t => t == 0 || (List.range 9).all fun s => okD t s (entD (ent TL t s))
theorem chkM_ok : chkM = true := by decide +kernel
theorem chkM_at {t s : Nat} (h1 : 1 ≤ t) (h : t < 41) (hs : s < 9) : okD t s (entD (ent TL t s)) = true := by
  have a := List.all_eq_true.mp chkM_ok t (List.mem_range.mpr h)
  rw [show (t == 0) = false from beq_false_of_ne (by omega), Bool.false_or] at a
  exact List.all_eq_true.mp a s (List.mem_range.mpr hs)
theorem entF_ent (e : Ent) : entF (entD e) = true := by
  obtain ⟨c, k⟩ := e
  cases c <;> rfl
theorem tab_row {b s i : Nat} {y : PyData} (h : ((tabN (s + 1) b).map rowD)[i]? = some y) : i < b ∧ y = .tuple (((tabN (s + 1) b).getD i []).map entD) ∧ ((tabN (s + 1) b).getD i []).length = s + 1 := by
  have hi : i < b := by
    have := (List.getElem?_eq_some_iff.mp h).1
    rw [List.length_map, tabN_len] at this
    exact this
  refine ⟨hi, ?_, (okk_tab (s + 1) b).row i hi⟩
  rw [List.getElem?_map] at h
  have e : (tabN (s + 1) b)[i]? = some ((tabN (s + 1) b).getD i []) := by
    rw [List.getD_eq_getElem?_getD, List.getElem?_eq_getElem (show i < (tabN (s + 1) b).length by rw [tabN_len]; exact hi)]
    rfl
  rw [e] at h
  exact (Option.some.inj h).symm
theorem tab_none {b s : Nat} (hb : b ≤ 40) (hs : s ≤ 8) : rsn b s (.tuple ((tabN (s + 1) b).map rowD)) = none := by
  have h1 : tabF b s (.tuple ((tabN (s + 1) b).map rowD)) = true := by
    show (((tabN (s + 1) b).map rowD).length == b && ((tabN (s + 1) b).map rowD).all (rowF s)) = true
    rw [List.length_map, tabN_len, beq_self_eq_true, Bool.true_and, List.all_eq_true]
    intro y hy
    obtain ⟨i, hi⟩ := List.getElem?_of_mem hy
    obtain ⟨_, rfl, l⟩ := tab_row hi
    show ((((tabN (s + 1) b).getD i []).map entD).length == s + 1 && (((tabN (s + 1) b).getD i []).map entD).all entF) = true
    rw [List.length_map, l, beq_self_eq_true, Bool.true_and, List.all_eq_true]
    intro e he
    obtain ⟨e', _, rfl⟩ := List.mem_map.mp he
    exact entF_ent e'
  have h2 : okTab ((tabN (s + 1) b).map rowD) = true := okTab_yes fun i y hy => by
    obtain ⟨hi, rfl, l⟩ := tab_row hy
    refine ⟨_, rfl, fun u e he => ?_⟩
    have hu : u < s + 1 := by
      have := (List.getElem?_eq_some_iff.mp he).1
      rw [List.length_map, l] at this
      exact this
    have e1 : e = entD (ent (tabN (s + 1) b) (i + 1) u) := by
      rw [List.getElem?_map, List.getElem?_eq_getElem (show u < ((tabN (s + 1) b).getD i []).length by rw [l]; exact hu)] at he
      rw [← Option.some.inj he]
      unfold ent
      rw [Nat.add_sub_cancel, List.getD_eq_getElem?_getD (l := (tabN (s + 1) b).getD i []), List.getElem?_eq_getElem (show u < ((tabN (s + 1) b).getD i []).length by rw [l]; exact hu)]
      rfl
    rw [e1, tab_ent (by omega) (by omega) (by omega) (by omega) hu]
    exact chkM_at (by omega) (by omega) (by omega)
  unfold rsn
  rw [h1]
  show (if okTab ((tabN (s + 1) b).map rowD) = true then none else some ("entry" : Str)) = none
  rw [h2]
  rfl
theorem tab_small {b s : Nat} (hb : b ≤ 40) (hs : s ≤ 8) : smallD 41 3 (.tuple ((tabN (s + 1) b).map rowD)) = true := by
  refine small_tup.mpr ⟨by rw [List.length_map, tabN_len]; omega, fun y hy => ?_⟩
  obtain ⟨i, hi⟩ := List.getElem?_of_mem hy
  obtain ⟨_, rfl, l⟩ := tab_row hi
  refine small_tup.mpr ⟨by rw [List.length_map, l]; omega, fun e he => ?_⟩
  obtain ⟨⟨c, k⟩, _, rfl⟩ := List.mem_map.mp he
  refine small_tup.mpr ⟨(show 2 ≤ 41 by decide), fun z hz => ?_⟩
  simp only [List.mem_cons, List.not_mem_nil, or_false] at hz
  rcases hz with rfl | rfl
  · cases c <;> rfl
  · rfl
def gI : Nat → Nat
  | 0 => 41
  | i + 1 => gr (gI i)
structure TxtQ (K : PySem.W.Frag) (mg : Str → Option Value) (CQ CS CB : Addr) : Prop where
  gQ : mg "PaperError" = some (.ref CQ)
  gS : mg "ScheduleError" = some (.ref CS)
  gB : mg "CountermarchError" = some (.ref CB)
  xf : XfC K CQ
  nR : PySem.W.findIn K (.ref CQ) "reason" = some none
  ec : ExcC K CQ
  exB : PySem.W.exmOne K (.ref CQ) (.ref CB) = some true
  k1 : PySem.W.kitOne K (.ref CQ) (.ref CQ) = some true
  k2 : PySem.W.kitOne K (.ref CQ) (.ref CS) = some false
def spLaw (K : PySem.W.Frag) : Sp := fun vs H Q _ => ∃ (a : Addr) (ns : List Int), vs = [.ref a] ∧ SqL K H a (ns.map V.int) ∧ ns.length ≤ 63 ∧ ∀ H', Q (.bl true) H'
abbrev sLaw : Stmt := top 32
abbrev nLaw : List Str := ["script", "state", "beats", "slots", "costs", "table", "k", "due", "actual", "e"]
theorem nilP {σ : L2.St} {H : Hp} {Q : List V → Hp → Prop} (h : Q [] H) : tNil σ H Q := h
section
variable {P : Program} {w : World} {K : PySem.W.Frag} {mg : Str → Option Value} {base : Heap} {CQ CS CB : Addr}
theorem scLaw : FnScope nLaw ["script"] (defScope sLaw) := ⟨rfl, rfl, rfl, by decide +kernel, rfl, by decide +kernel, by decide +kernel⟩
theorem ok_law {f : Addr} {fd : FuncData} (F : Fun K "law" "law" sLaw f fd) (T : Bi mg) (E' : TxtQ K mg CQ CS CB)
    (c_start : Cal P w K mg base CX0 1 "_law_start" ["script"] (spStart K)) (c_draw : Cal P w K mg base CX0 1 "_law_draw" ["state", "many"] (spDrw K)) (c_ltb : Cal P w K mg base CX0 1 "_law_table" ["beats", "slots"] (spLtb K))
    (c_mkt : Cal P w K mg base (L2.CX P w) 5 "make_table" ["beats", "slots"] (spMkt K)) (c_lreason : Cal P w K mg base CX0 4 "_law_reason" ["table", "costs", "beats", "slots"] (spLr K))
    (c_any : Cal P w K mg base CX0 2 "_law_any" ["state", "costs", "beats", "slots"] (spAny K)) (c_spoilt : Cal P w K mg base CX0 7 "_law_spoilt" ["state", "value"] (spSpo K 5))
    (c_acc : Cal P w K mg base (L2.CX P w) 5 "accept_table" ["beats", "slots", "table"] (spAcc K CQ)) : FnOk P w K mg base CX0 8 f fd ["script"] (spLaw K) := by
  refine F.ok scLaw (fun vs H Q E h => ?_) (fun cdv A outer s H vs Q E hr h => ?_)
  · obtain ⟨a, ns, rfl, _⟩ := h
    rfl
  · obtain ⟨a, ns, rfl, hS, hl, q⟩ := h
    have nd := scLaw.nd
    refine ⟨_, pss_cons (ps_set (i := 1) nd rfl (.inl rfl) (pe_call c_start.ok (hr.mono (by first | decide | omega)) rfl c_start.m c_start.kp c_start.b .nil pass0 (pa_cons (pv 0) pa_nil)))
      (pss_cons (ps_set (i := 2) nd rfl (.inl rfl) (pe_ifExp (pt_cmpR op_eq (pe_call c_draw.ok (hr.mono (by first | decide | omega)) rfl c_draw.m c_draw.kp c_draw.b .nil pass0 (pa_cons (pv 1) (pa_cons pe_int pa_nil))) pe_int (nomark _)) (pe_call c_draw.ok (hr.mono (by first | decide | omega)) rfl c_draw.m c_draw.kp c_draw.b .nil pass0 (pa_cons (pv 1) (pa_cons pe_int pa_nil))) (pe_call c_draw.ok (hr.mono (by first | decide | omega)) rfl c_draw.m c_draw.kp c_draw.b .nil pass0 (pa_cons (pv 1) (pa_cons pe_int pa_nil)))))
      (pss_cons (ps_set (i := 3) nd rfl (.inl rfl) (pe_call c_draw.ok (hr.mono (by first | decide | omega)) rfl c_draw.m c_draw.kp c_draw.b .nil pass0 (pa_cons (pv 1) (pa_cons pe_int pa_nil))))
      (pss_cons (ps_set (i := 4) nd rfl (.inl rfl) (pe_call c_ltb.ok (hr.mono (by first | decide | omega)) rfl c_ltb.m c_ltb.kp c_ltb.b .nil pass0 (pa_cons (pv 2) (pa_cons (pv 3) pa_nil))))
      (pss_cons (ps_set (i := 5) nd rfl (.inl rfl) (pe_call c_mkt.ok (hr.mono (by first | decide | omega)) rfl c_mkt.m c_mkt.kp c_mkt.b .nil (passE0 rfl rfl) (pa_cons (pv 2) (pa_cons (pv 3) pa_nil))))
      (pss_cons (ps_if (pt_cmpR op_notN (pe_call c_lreason.ok (hr.mono (by first | decide | omega)) rfl c_lreason.m c_lreason.kp c_lreason.b .nil pass0 (pa_cons (pv 5) (pa_cons (pv 4) (pa_cons (pv 2) (pa_cons (pv 3) pa_nil))))) pe_non (nomark _)) (pss_one (ps_ret pe_bl)) pss_nil)
      (pss_cons (ps_if (pt_cmpR op_eq (pe_call c_draw.ok (hr.mono (by first | decide | omega)) rfl c_draw.m c_draw.kp c_draw.b .nil pass0 (pa_cons (pv 1) (pa_cons pe_int pa_nil))) pe_int (nomark _)) (pss_one (ps_set (i := 5) nd rfl (.inl rfl) (pe_call c_any.ok (hr.mono (by first | decide | omega)) rfl c_any.m c_any.kp c_any.b .nil pass0 (pa_cons (pv 1) (pa_cons (pv 4) (pa_cons (pv 2) (pa_cons (pv 3) pa_nil))))))) pss_nil)
      (pss_cons (ps_for PassesOwn.never rfl (pi_range1 rfl T.range (pa_cons (pe_call c_draw.ok (hr.mono (by first | decide | omega)) rfl c_draw.m c_draw.kp c_draw.b .nil pass0 (pa_cons (pv 1) (pa_cons pe_int pa_nil))) pa_nil)) (pg_name (i := 6) nd rfl (.inl rfl)) (pss_one (ps_set (i := 5) nd rfl (.inl rfl) (pe_call c_spoilt.ok (hr.mono (by first | decide | omega)) rfl c_spoilt.m c_spoilt.kp c_spoilt.b .nil pass0 (pa_cons (pv 1) (pa_cons (pv 5) pa_nil))))))
      (pss_cons (ps_set (i := 7) nd rfl (.inl rfl) (pe_call c_lreason.ok (hr.mono (by first | decide | omega)) rfl c_lreason.m c_lreason.kp c_lreason.b .nil pass0 (pa_cons (pv 5) (pa_cons (pv 4) (pa_cons (pv 2) (pa_cons (pv 3) pa_nil))))))
      (pss_cons (ps_try_as (i := 9) rfl rfl nd rfl rfl ⟨rfl, by decide, Or.inl E'.gB⟩ takes0
        (fun W pn xe tk _ => pss_one (ps_set (i := 8) nd rfl (.inl rfl) (by exact (pe_callS c_acc.ok (hr.mono (by first | decide | omega)) rfl c_acc.m c_acc.kp c_acc.b (fun σ => passAt tk σ) (by exact (pa_cons (pv 2) (pa_cons (pv 3) (pa_cons (pv 5) pa_nil))))))))
        (fun a oe cls d pn hz hf => pss_cons (ps_if (PW.pt (pw_or (pt_not (pt_val (pe_callB (Ca.call_isEr E'.ec hz hf) rfl T.isinstance PyProof.Rows.boot_isinstance (pa_cons (pv 9) (pa_cons (pe_glob (v := .ref CQ) rfl E'.gQ rfl) pa_nil))))) (pw_or1 (pt_val (pe_callB (Ca.call_isEr E'.ec hz hf) rfl T.isinstance PyProof.Rows.boot_isinstance (pa_cons (pv 9) (pa_cons (pe_glob (v := .ref CS) rfl E'.gS rfl) pa_nil))))))) (pss_one (ps_ret pe_bl)) pss_nil)
      (pss_one (ps_ret (pe_and (pe_cmpR op_notN (pv 7) pe_non (nomark _)) (pe_one (pe_cmpR op_eq (pe_xf E'.xf E'.nR hz hf (pv 9)) (pv 7) (nomark _))))))))
      (pss_one (ps_ret (pe_and (pe_cmpR op_isN (pv 8) pe_non (nomark _)) (pe_one (pe_cmpR op_isN (pv 7) pe_non (nomark _))))))))))))))), ?_⟩
    refine set_k (fun v H' => ∃ p dl, v = .ref p ∧ Dw K H' p dl) (fun Q' k => ⟨_, rfl, a, ns, rfl, hS, Nat.le_trans hl (by decide), fun p dl H1 _ _ D1 => k _ _ ⟨p, dl, rfl, D1⟩⟩) ?_
    rintro _ H1 ⟨p, dl, rfl, D1⟩
    refine set_k (fun v H' => ∃ b : Nat, v = .int (b : Int) ∧ b ≤ 40 ∧ Dw K H' p dl) (fun Q' k => ?_) ?_
    · refine ⟨_, rfl, p, dl, 6, rfl, D1, by decide, by decide, fun v H2 v0 v1 s2 D2 => ⟨rfl, _, rfl, ?_⟩⟩
      by_cases c : v = 5
      · refine iteT' (decide_eq_true (by rw [c])) ?_
        exact ⟨_, rfl, p, dl, 41, rfl, D2, by decide, by decide, fun v2 H3 w0 w1 s3 D3 => k _ _ ⟨v2.toNat, by rw [show ((v2.toNat : Nat) : Int) = v2 by omega], by omega, D3⟩⟩
      · refine iteF' (decide_eq_false (fun z => c (V.int.inj z))) ?_
        exact ⟨_, rfl, p, dl, 11, rfl, D2, by decide, by decide, fun v2 H3 w0 w1 s3 D3 => k _ _ ⟨v2.toNat, by rw [show ((v2.toNat : Nat) : Int) = v2 by omega], by omega, D3⟩⟩
    rintro _ H2 ⟨b, rfl, hb, D2⟩
    refine set_k (fun v H' => ∃ n : Nat, v = .int (n : Int) ∧ n ≤ 8 ∧ Dw K H' p dl) (fun Q' k => ⟨_, rfl, p, dl, 9, rfl, D2, by decide, by decide, fun v2 H3 w0 w1 s3 D3 => k _ _ ⟨v2.toNat, by rw [show ((v2.toNat : Nat) : Int) = v2 by omega], by omega, D3⟩⟩) ?_
    rintro _ H3 ⟨n, rfl, hn, D3⟩
    refine set_k (fun v H' => ∃ C, v = .ref C ∧ Cst H' C n b ∧ Dw K H' p dl) (fun Q' k => ⟨_, rfl, _, rfl, b, n, rfl, hb, hn, fun C xs H4 _ s4 e4 t4 => k _ _ ⟨C, rfl, ⟨xs, e4, t4⟩, D3.same s4⟩⟩) ?_
    rintro _ H4 ⟨C, rfl, cs4, D4⟩
    refine set_k (fun v H' => Tv K H' (.tuple ((tabN (n + 1) b).map rowD)) v ∧ Same H4 H') (fun Q' k => ⟨_, rfl, _, rfl, b, n, rfl, hb, hn, fun v H5 s5 t5 => k _ _ ⟨t5, s5⟩⟩) ?_
    rintro v5 H5 ⟨t5, s5⟩
    have cs5 := cs4.next s5
    have D5 := D4.same s5
    refine if_k (fun σ' H' => Same H5 H' ∧ σ' = [some (.ref a), some (.ref p), some (.int (b : Int)), some (.int (n : Int)), some (.ref C), some v5, none, none, none, none]) (fun D' hD k => ?_) ?_
    · refine ⟨_, rfl, _, rfl, _, rfl, _, rfl, v5, C, _, b, n, rfl, t5, cs5, hb, hn, fun H6 s6 => ?_⟩
      rw [tab_none hb hn]
      exact ⟨rfl, _, rfl, iteF' rfl (k _ _ ⟨s6, rfl⟩)⟩
    rintro _ H6 ⟨s6, rfl⟩
    have t6 := t5.carry (same_carry s6)
    have cs6 := cs5.next s6
    have D6 := D5.same s6
    refine if_k (fun σ' H' => ∃ v d, Tv K H' d v ∧ smallD 41 3 d = true ∧ Dw K H' p dl ∧ Cst H' C n b ∧ σ' = [some (.ref a), some (.ref p), some (.int (b : Int)), some (.int (n : Int)), some (.ref C), some v, none, none, none, none]) (fun D' hD k => ?_) ?_
    · refine ⟨_, rfl, p, dl, 2, rfl, D6, by decide, by decide, fun x H7 _ _ s7 D7 => ⟨rfl, _, rfl, ?_⟩⟩
      have cs7 := cst_stays D6 cs6 s7
      by_cases c : x = 1
      · refine iteT' (decide_eq_true (by rw [c])) ?_
        exact ⟨_, rfl, _, rfl, _, rfl, _, rfl, p, dl, C, b, n, rfl, D7, cs7, hb, hn, fun v d H8 t8 sm8 s8 D8 => k _ _ ⟨v, d, t8, sm8, D8, cst_stays D7 cs7 s8, rfl⟩⟩
      · refine iteF' (decide_eq_false (fun z => c (V.int.inj z))) ?_
        exact k _ _ ⟨v5, _, t6.carry (dw_carry D6 s7 D7), tab_small hb hn, D7, cs7, rfl⟩
    clear t5 t6 D5 D6 cs5 cs6
    rintro _ H7 ⟨v7, d7, t7, sm7, D7, cs7, rfl⟩
    refine seq_k (fun σ' H' => ∃ v d w6, Tv K H' d v ∧ Cst H' C n b ∧ σ' = [some (.ref a), some (.ref p), some (.int (b : Int)), some (.int (n : Int)), some (.ref C), some v, w6, none, none, none]) (fun D' hD k => ?_) ?_
    · refine ⟨_, rfl, p, dl, 3, rfl, D7, by decide, by decide, fun x H8 x0 x1 s8 D8 => ?_⟩
      refine ⟨x, rfl, by omega, by omega, for_range (lo := 0) (n := x.toNat)
        (fun i σ H' => ∃ v d w6, Tv K H' d v ∧ smallD (gI i) (3 + i) d = true ∧ Dw K H' p dl ∧ Cst H' C n b ∧ σ = [some (.ref a), some (.ref p), some (.int (b : Int)), some (.int (n : Int)), some (.ref C), some v, w6, none, none, none])
        ⟨v7, d7, _, t7.carry (dw_carry D7 s8 D8), sm7, D8, cst_stays D7 cs7 s8, rfl⟩ ?_ ?_⟩
      · rintro i σ H9 hi ⟨v, d, w6, t9, sm9, D9, cs9, rfl⟩
        have gb : 1 ≤ gI i ∧ gI i ≤ 100 := by
          have : i = 0 ∨ i = 1 := by omega
          rcases this with rfl | rfl <;> exact ⟨by decide, by decide⟩
        exact ⟨_, rfl, _, rfl, p, dl, v, d, gI i, 3 + i, rfl, by omega, D9, t9, sm9, gb.1, gb.2, fun u d' H10 t10 sm10 s10 D10 => ⟨u, d', _, t10, sm10, D10, cst_stays D9 cs9 s10, rfl⟩⟩
      · rintro σ H9 ⟨v, d, w6, t9, sm9, D9, cs9, rfl⟩
        exact k _ _ ⟨v, d, w6, t9, cs9, rfl⟩
    rintro _ H8 ⟨v, d, w6, t8, cs8, rfl⟩
    refine set_k (fun u H' => u = rsV (rsn b n d) ∧ Same H8 H') (fun Q' k => ⟨_, rfl, _, rfl, _, rfl, _, rfl, nilP ⟨v, C, d, b, n, rfl, t8, cs8, hb, hn, fun H9 s9 => k _ _ ⟨rfl, s9⟩⟩⟩) ?_
    rintro _ H9 ⟨rfl, s9⟩
    have t9 := t8.carry (same_carry s9)
    refine ⟨_, rfl, _, rfl, _, rfl, v, d, b, n, rfl, t9, hb, hn, fun z H10 s10 => ?_, fun r z d' H10 s10 ed => ⟨true, E'.exB, fun _ a0 _ => ?_, fun z => nomatch z⟩⟩
    · rw [z]
      refine ⟨_, rfl, rfl, true, ?_, iteT ⟨_, rfl, rfl, ?_⟩⟩
      · rw [decide_eq_true rfl]
      · show Q (.bl (decide (V.non = V.non))) _
        rw [decide_eq_true rfl]
        exact q _
    · rw [z]
      refine ⟨_, rfl, rfl, ⟨d', _, rfl, ed⟩, .ref CQ, .ref CQ, true, rfl, fun _ z => z, E'.k1, true, rfl, iteF' rfl ?_⟩
      refine ⟨_, rfl, rfl, ⟨d', _, rfl, ed⟩, .ref CS, .ref CS, false, rfl, fun _ z => z, E'.k2, false, rfl, iteF' rfl ?_⟩
      refine ⟨_, rfl, rfl, true, ?_, iteT ⟨_, rfl, rfl, rfl, d', _, .str r, rfl, ed, rfl, _, rfl, rfl, ?_⟩⟩
      · rfl
      · show Q (.bl (decide (V.str r = V.str r))) _
        rw [decide_eq_true rfl]
        exact q _
end
end Sd

namespace Sd
open PySem L2 Tr Pu PyProof.Rows
section
theorem all_mk {l : PySem.W.OpenLaw} {w : World} {K : PySem.W.Frag} {h : Heap} {mg : Str → Option Value} {fa f1 f2 f3 f4 f5 f6 f7 f8 f9 f10 f11 f12 f13 f14 f15 f16 f17 f18 f19 f20 f21 f22 : Addr} (X : K.In h) (G : h.Ns mainGlobals mg) (hfa : mg "law" = some (.ref fa))
    {od1 an1 od2 an2 od3 an3 od4 an4 od5 an5 od6 an6 od7 an7 od8 an8 od9 an9 od10 an10 od11 an11 od12 an12 od13 an13 od14 an14 od15 an15 od16 an16 od17 an17 od18 an18 od19 an19 od20 an20 od21 an21 od22 an22 : Option Addr} {sl1 sl2 sl3 sl4 sl5 sl6 sl7 sl8 sl9 sl10 sl11 sl12 sl13 sl14 sl15 sl16 sl17 sl18 sl19 sl20 sl21 sl22 : Array (Option Value)} {oc1 kV1 dc1 pm1 cd1 ct1 oc2 kV2 dc2 pm2 cd2 ct2 oc3 kV3 dc3 pm3 cd3 ct3 oc4 kV4 dc4 pm4 cd4 ct4 oc5 kV5 dc5 pm5 cd5 ct5 oc6 kV6 dc6 pm6 cd6 ct6 oc7 kV7 dc7 pm7 cd7 ct7 oc8 kV8 dc8 pm8 cd8 ct8 oc9 kV9 dc9 pm9 cd9 ct9 oc10 kV10 dc10 pm10 cd10 ct10 oc11 kV11 dc11 pm11 cd11 ct11 oc12 kV12 dc12 pm12 cd12 ct12 oc13 kV13 dc13 pm13 cd13 ct13 oc14 kV14 dc14 pm14 cd14 ct14 oc15 kV15 dc15 pm15 cd15 ct15 oc16 kV16 dc16 pm16 cd16 ct16 oc17 kV17 dc17 pm17 cd17 ct17 oc18 kV18 dc18 pm18 cd18 ct18 oc19 kV19 dc19 pm19 cd19 ct19 oc20 kV20 dc20 pm20 cd20 ct20 oc21 kV21 dc21 pm21 cd21 ct21 oc22 kV22 dc22 pm22 cd22 ct22 : Value}
    (a1 : PySem.W.nsIn K mainGlobals "is_integer" = some (some (.ref f1))) (l1 : K.lookup f1 = some ⟨oc1, od1, .func (PySem.W.fnOf "is_integer" "is_integer" (defArgs sIsi) (defBody sIsi) (defScope sIsi) .none kV1 dc1 pm1 an1 cd1 ct1), sl1⟩) (c1 : PySem.W.codeIn K cd1 "is_integer" = true) (k1 : PySem.W.keepIn K (.ref f1) = true)
    (a2 : PySem.W.nsIn K mainGlobals "is_between" = some (some (.ref f2))) (l2 : K.lookup f2 = some ⟨oc2, od2, .func (PySem.W.fnOf "is_between" "is_between" (defArgs sBtw) (defBody sBtw) (defScope sBtw) .none kV2 dc2 pm2 an2 cd2 ct2), sl2⟩) (c2 : PySem.W.codeIn K cd2 "is_between" = true) (k2 : PySem.W.keepIn K (.ref f2) = true)
    (a3 : PySem.W.nsIn K mainGlobals "check_beats" = some (some (.ref f3))) (l3 : K.lookup f3 = some ⟨oc3, od3, .func (PySem.W.fnOf "check_beats" "check_beats" (defArgs sCkb) (defBody sCkb) (defScope sCkb) .none kV3 dc3 pm3 an3 cd3 ct3), sl3⟩) (c3 : PySem.W.codeIn K cd3 "check_beats" = true) (k3 : PySem.W.keepIn K (.ref f3) = true)
    (a4 : PySem.W.nsIn K mainGlobals "make_table" = some (some (.ref f4))) (l4 : K.lookup f4 = some ⟨oc4, od4, .func (PySem.W.fnOf "make_table" "make_table" (defArgs sMkt) (defBody sMkt) (defScope sMkt) .none kV4 dc4 pm4 an4 cd4 ct4), sl4⟩) (c4 : PySem.W.codeIn K cd4 "make_table" = true) (k4 : PySem.W.keepIn K (.ref f4) = true)
    (a5 : PySem.W.nsIn K mainGlobals "accept_table" = some (some (.ref f5))) (l5 : K.lookup f5 = some ⟨oc5, od5, .func (PySem.W.fnOf "accept_table" "accept_table" (defArgs sAcc) (defBody sAcc) (defScope sAcc) .none kV5 dc5 pm5 an5 cd5 ct5), sl5⟩) (c5 : PySem.W.codeIn K cd5 "accept_table" = true) (k5 : PySem.W.keepIn K (.ref f5) = true)
    (a6 : PySem.W.nsIn K mainGlobals "check_numbers" = some (some (.ref f6))) (l6 : K.lookup f6 = some ⟨oc6, od6, .func (PySem.W.fnOf "check_numbers" "check_numbers" (defArgs sCkn) (defBody sCkn) (defScope sCkn) .none kV6 dc6 pm6 an6 cd6 ct6), sl6⟩) (c6 : PySem.W.codeIn K cd6 "check_numbers" = true) (k6 : PySem.W.keepIn K (.ref f6) = true)
    (a7 : PySem.W.nsIn K mainGlobals "table_rows" = some (some (.ref f7))) (l7 : K.lookup f7 = some ⟨oc7, od7, .func (PySem.W.fnOf "table_rows" "table_rows" (defArgs sTr) (defBody sTr) (defScope sTr) .none kV7 dc7 pm7 an7 cd7 ct7), sl7⟩) (c7 : PySem.W.codeIn K cd7 "table_rows" = true) (k7 : PySem.W.keepIn K (.ref f7) = true)
    (a8 : PySem.W.nsIn K mainGlobals "right_entries" = some (some (.ref f8))) (l8 : K.lookup f8 = some ⟨oc8, od8, .func (PySem.W.fnOf "right_entries" "right_entries" (defArgs sRe) (defBody sRe) (defScope sRe) .none kV8 dc8 pm8 an8 cd8 ct8), sl8⟩) (c8 : PySem.W.codeIn K cd8 "right_entries" = true) (k8 : PySem.W.keepIn K (.ref f8) = true)
    (a9 : PySem.W.nsIn K mainGlobals "has_table_form" = some (some (.ref f9))) (l9 : K.lookup f9 = some ⟨oc9, od9, .func (PySem.W.fnOf "has_table_form" "has_table_form" (defArgs sHtf) (defBody sHtf) (defScope sHtf) .none kV9 dc9 pm9 an9 cd9 ct9), sl9⟩) (c9 : PySem.W.codeIn K cd9 "has_table_form" = true) (k9 : PySem.W.keepIn K (.ref f9) = true)
    (a10 : PySem.W.nsIn K mainGlobals "has_entry_form" = some (some (.ref f10))) (l10 : K.lookup f10 = some ⟨oc10, od10, .func (PySem.W.fnOf "has_entry_form" "has_entry_form" (defArgs sHef) (defBody sHef) (defScope sHef) .none kV10 dc10 pm10 an10 cd10 ct10), sl10⟩) (c10 : PySem.W.codeIn K cd10 "has_entry_form" = true) (k10 : PySem.W.keepIn K (.ref f10) = true)
    (a11 : PySem.W.nsIn K mainGlobals "_law_start" = some (some (.ref f11))) (l11 : K.lookup f11 = some ⟨oc11, od11, .func (PySem.W.fnOf "_law_start" "_law_start" (defArgs sStart) (defBody sStart) (defScope sStart) .none kV11 dc11 pm11 an11 cd11 ct11), sl11⟩) (c11 : PySem.W.codeIn K cd11 "_law_start" = true) (k11 : PySem.W.keepIn K (.ref f11) = true)
    (a12 : PySem.W.nsIn K mainGlobals "_law_draw" = some (some (.ref f12))) (l12 : K.lookup f12 = some ⟨oc12, od12, .func (PySem.W.fnOf "_law_draw" "_law_draw" (defArgs sDrw) (defBody sDrw) (defScope sDrw) .none kV12 dc12 pm12 an12 cd12 ct12), sl12⟩) (c12 : PySem.W.codeIn K cd12 "_law_draw" = true) (k12 : PySem.W.keepIn K (.ref f12) = true)
    (a13 : PySem.W.nsIn K mainGlobals "_law_table" = some (some (.ref f13))) (l13 : K.lookup f13 = some ⟨oc13, od13, .func (PySem.W.fnOf "_law_table" "_law_table" (defArgs sLtb) (defBody sLtb) (defScope sLtb) .none kV13 dc13 pm13 an13 cd13 ct13), sl13⟩) (c13 : PySem.W.codeIn K cd13 "_law_table" = true) (k13 : PySem.W.keepIn K (.ref f13) = true)
    (a14 : PySem.W.nsIn K mainGlobals "_law_splits" = some (some (.ref f14))) (l14 : K.lookup f14 = some ⟨oc14, od14, .func (PySem.W.fnOf "_law_splits" "_law_splits" (defArgs sSpl) (defBody sSpl) (defScope sSpl) .none kV14 dc14 pm14 an14 cd14 ct14), sl14⟩) (c14 : PySem.W.codeIn K cd14 "_law_splits" = true) (k14 : PySem.W.keepIn K (.ref f14) = true)
    (a15 : PySem.W.nsIn K mainGlobals "_law_any" = some (some (.ref f15))) (l15 : K.lookup f15 = some ⟨oc15, od15, .func (PySem.W.fnOf "_law_any" "_law_any" (defArgs sAny) (defBody sAny) (defScope sAny) .none kV15 dc15 pm15 an15 cd15 ct15), sl15⟩) (c15 : PySem.W.codeIn K cd15 "_law_any" = true) (k15 : PySem.W.keepIn K (.ref f15) = true)
    (a16 : PySem.W.nsIn K mainGlobals "_law_whole" = some (some (.ref f16))) (l16 : K.lookup f16 = some ⟨oc16, od16, .func (PySem.W.fnOf "_law_whole" "_law_whole" (defArgs sWhole) (defBody sWhole) (defScope sWhole) .none kV16 dc16 pm16 an16 cd16 ct16), sl16⟩) (c16 : PySem.W.codeIn K cd16 "_law_whole" = true) (k16 : PySem.W.keepIn K (.ref f16) = true)
    (a17 : PySem.W.nsIn K mainGlobals "_law_pair" = some (some (.ref f17))) (l17 : K.lookup f17 = some ⟨oc17, od17, .func (PySem.W.fnOf "_law_pair" "_law_pair" (defArgs sPair) (defBody sPair) (defScope sPair) .none kV17 dc17 pm17 an17 cd17 ct17), sl17⟩) (c17 : PySem.W.codeIn K cd17 "_law_pair" = true) (k17 : PySem.W.keepIn K (.ref f17) = true)
    (a18 : PySem.W.nsIn K mainGlobals "_law_form" = some (some (.ref f18))) (l18 : K.lookup f18 = some ⟨oc18, od18, .func (PySem.W.fnOf "_law_form" "_law_form" (defArgs sLfo) (defBody sLfo) (defScope sLfo) .none kV18 dc18 pm18 an18 cd18 ct18), sl18⟩) (c18 : PySem.W.codeIn K cd18 "_law_form" = true) (k18 : PySem.W.keepIn K (.ref f18) = true)
    (a19 : PySem.W.nsIn K mainGlobals "_law_reason" = some (some (.ref f19))) (l19 : K.lookup f19 = some ⟨oc19, od19, .func (PySem.W.fnOf "_law_reason" "_law_reason" (defArgs sLr) (defBody sLr) (defScope sLr) .none kV19 dc19 pm19 an19 cd19 ct19), sl19⟩) (c19 : PySem.W.codeIn K cd19 "_law_reason" = true) (k19 : PySem.W.keepIn K (.ref f19) = true)
    (a20 : PySem.W.nsIn K mainGlobals "_law_other" = some (some (.ref f20))) (l20 : K.lookup f20 = some ⟨oc20, od20, .func (PySem.W.fnOf "_law_other" "_law_other" (defArgs sOther) (defBody sOther) (defScope sOther) .none kV20 dc20 pm20 an20 cd20 ct20), sl20⟩) (c20 : PySem.W.codeIn K cd20 "_law_other" = true) (k20 : PySem.W.keepIn K (.ref f20) = true)
    (a21 : PySem.W.nsIn K mainGlobals "_law_spoilt" = some (some (.ref f21))) (l21 : K.lookup f21 = some ⟨oc21, od21, .func (PySem.W.fnOf "_law_spoilt" "_law_spoilt" (defArgs sSpo) (defBody sSpo) (defScope sSpo) .none kV21 dc21 pm21 an21 cd21 ct21), sl21⟩) (c21 : PySem.W.codeIn K cd21 "_law_spoilt" = true) (k21 : PySem.W.keepIn K (.ref f21) = true)
    (a22 : PySem.W.nsIn K mainGlobals "law" = some (some (.ref f22))) (l22 : K.lookup f22 = some ⟨oc22, od22, .func (PySem.W.fnOf "law" "law" (defArgs sLaw) (defBody sLaw) (defScope sLaw) .none kV22 dc22 pm22 an22 cd22 ct22), sl22⟩) (c22 : PySem.W.codeIn K cd22 "law" = true) (k22 : PySem.W.keepIn K (.ref f22) = true)
    {B : Addr} (aB0 : PySem.W.nsIn K mainGlobals "CountermarchError" = some (some (.ref B)))
    {A : Addr} (aA : PySem.W.nsIn K mainGlobals "ArgumentError" = some (some (.ref A)))
    {nmA qA : Str} {NA : Addr} {bsA sbA : List Value} {snA : List Str} {abA : Bool} {clA : Option Bool} {ddA : Option Addr} {k0A k1A k2A k3A k5A : Option Value} (xA : K.lookup A = some (excClassObj nmA qA A NA bsA [.ref B, .type "ValueError", .type "Exception", .type "BaseException", .type "object"] true snA sbA abA clA ddA k0A k1A k2A k3A k5A "ValueError.__new__"))
    (saA : PySem.W.findIn K (.ref A) "__setattr__" = some (some (.builtin "object.__setattr__")))
    (bA : PySem.W.subIn K (.ref A) (.type "BaseException") = some true)
    (tA : PySem.W.typeIn K (.ref A) = some (.type "type"))
    (kA : PySem.W.keepIn K (.ref A) = true)
    {fA : Addr} (iA : PySem.W.findIn K (.ref A) "__init__" = some (some (.ref fA)))
    (jA : PySem.W.typeIn K (.ref fA) = some (.type "function"))
    {ocA kVA dcA pmA ctA : Value} {odA anA : Option Addr} {cdA ccA : Addr} {slA : Array (Option Value)} (lA : K.lookup fA = some ⟨ocA, odA, .func (PySem.W.ksFn "__init__" "ArgumentError.__init__" (defArgs Er.sAE) (defBody Er.sAE) (defScope Er.sAE) .none kVA dcA pmA anA (.ref cdA) ctA ccA), slA⟩)
    (cA : PySem.W.codeIn K (.ref cdA) "ArgumentError.__init__" = true)
    (uA : PySem.W.ks_superIn K A A "__init__" = some (some (.builtin "ValueError.__init__")))
    (yA : PySem.W.nsIn K cStatics "thirdparty.any" = some none)
    (vA : PySem.W.subIn K (.ref A) (.type "ValueError") = some true)
    {ceA : Value} {cgA : Option Addr} {chA : Array (Option Value)} (oA : K.lookup ccA = some ⟨ceA, cgA, .cell (some (.ref A)), chA⟩)
    (mA : PySem.W.mroIn K A (.ref A) = some true)
    (pA : PySem.W.nsIn K mainGlobals "super" = some none)
    {daA : Value} {dbA : Option Addr} {dvA : Array Value} {dwA : Array (Option Value)} (dA : K.lookup cdA = some ⟨daA, dbA, .fields dvA, dwA⟩)
    {flA : Str} {tfA : Tok} (eA : dvA[2]? = some (.str flA tfA))
    (wA : ((l.prog.main.file : Str) == flA) = true)
    (gA : (l.prog.main.scope.names.lookup ("super" : Str)).isSome = false)
    (nA_reason : PySem.W.findIn K (.ref A) "reason" = some none)
    {Q : Addr} (aQ : PySem.W.nsIn K mainGlobals "PaperError" = some (some (.ref Q)))
    {nmQ qQ : Str} {NQ : Addr} {bsQ sbQ : List Value} {snQ : List Str} {abQ : Bool} {clQ : Option Bool} {ddQ : Option Addr} {k0Q k1Q k2Q k3Q k5Q : Option Value} (xQ : K.lookup Q = some (excClassObj nmQ qQ Q NQ bsQ [.ref B, .type "ValueError", .type "Exception", .type "BaseException", .type "object"] true snQ sbQ abQ clQ ddQ k0Q k1Q k2Q k3Q k5Q "ValueError.__new__"))
    (saQ : PySem.W.findIn K (.ref Q) "__setattr__" = some (some (.builtin "object.__setattr__")))
    (bQ : PySem.W.subIn K (.ref Q) (.type "BaseException") = some true)
    (tQ : PySem.W.typeIn K (.ref Q) = some (.type "type"))
    (kQ : PySem.W.keepIn K (.ref Q) = true)
    {fQ : Addr} (iQ : PySem.W.findIn K (.ref Q) "__init__" = some (some (.ref fQ)))
    (jQ : PySem.W.typeIn K (.ref fQ) = some (.type "function"))
    {ocQ kVQ dcQ pmQ ctQ : Value} {odQ anQ : Option Addr} {cdQ ccQ : Addr} {slQ : Array (Option Value)} (lQ : K.lookup fQ = some ⟨ocQ, odQ, .func (PySem.W.ksFn "__init__" "PaperError.__init__" (defArgs Er.sQE) (defBody Er.sQE) (defScope Er.sQE) .none kVQ dcQ pmQ anQ (.ref cdQ) ctQ ccQ), slQ⟩)
    (cQ : PySem.W.codeIn K (.ref cdQ) "PaperError.__init__" = true)
    (uQ : PySem.W.ks_superIn K Q Q "__init__" = some (some (.builtin "ValueError.__init__")))
    (yQ : PySem.W.nsIn K cStatics "thirdparty.any" = some none)
    (vQ : PySem.W.subIn K (.ref Q) (.type "ValueError") = some true)
    {ceQ : Value} {cgQ : Option Addr} {chQ : Array (Option Value)} (oQ : K.lookup ccQ = some ⟨ceQ, cgQ, .cell (some (.ref Q)), chQ⟩)
    (mQ : PySem.W.mroIn K Q (.ref Q) = some true)
    (pQ : PySem.W.nsIn K mainGlobals "super" = some none)
    {daQ : Value} {dbQ : Option Addr} {dvQ : Array Value} {dwQ : Array (Option Value)} (dQ : K.lookup cdQ = some ⟨daQ, dbQ, .fields dvQ, dwQ⟩)
    {flQ : Str} {tfQ : Tok} (eQ : dvQ[2]? = some (.str flQ tfQ))
    (wQ : ((l.prog.main.file : Str) == flQ) = true)
    (gQ : (l.prog.main.scope.names.lookup ("super" : Str)).isSome = false)
    (nQ_reason : PySem.W.findIn K (.ref Q) "reason" = some none)
    (z_len : PySem.W.nsIn K mainGlobals "len" = some none)
    (z_int : PySem.W.nsIn K mainGlobals "int" = some none)
    (z_range : PySem.W.nsIn K mainGlobals "range" = some none)
    (z_tuple : PySem.W.nsIn K mainGlobals "tuple" = some none)
    (z_list : PySem.W.nsIn K mainGlobals "list" = some none)
    (z_str : PySem.W.nsIn K mainGlobals "str" = some none)
    (z_isinstance : PySem.W.nsIn K mainGlobals "isinstance" = some none)
    (z_bool : PySem.W.nsIn K mainGlobals "bool" = some none)
    (z_abs : PySem.W.nsIn K mainGlobals "abs" = some none)
    (z_max : PySem.W.nsIn K mainGlobals "max" = some none)
    (z_min : PySem.W.nsIn K mainGlobals "min" = some none)
    (z_enumerate : PySem.W.nsIn K mainGlobals "enumerate" = some none)
    (z_all : PySem.W.nsIn K mainGlobals "all" = some none)
    {t_MAX_BEATS : Tok} (g_MAX_BEATS : PySem.W.nsIn K mainGlobals "MAX_BEATS" = some (some (.int 40 t_MAX_BEATS)))
    {t_MAX_KEPT : Tok} (g_MAX_KEPT : PySem.W.nsIn K mainGlobals "MAX_KEPT" = some (some (.int 8 t_MAX_KEPT)))
    {S : Addr} (aS : PySem.W.nsIn K mainGlobals "ScheduleError" = some (some (.ref S)))
    (exq2 : PySem.W.hasDictIn K Q = true)
    (exq5 : PySem.W.findIn K (.ref Q) "__getattribute__" = some (some (.builtin "BaseException.__getattribute__")))
    (exq6 : PySem.W.findIn K (.ref Q) "__getattr__" = some none)
    (exb1 : PySem.W.subIn K (.ref B) (.type "BaseException") = some true)
    (exb2 : PySem.W.hasDictIn K B = true)
    (exb3 : PySem.W.typeIn K (.ref B) = some (.type "type"))
    (exb4 : PySem.W.subIn K (.ref Q) (.ref B) = some true)
    (exc5 : PySem.W.findIn K (.ref Q) "__class__" = some (some (.builtin "object.__class__")))
    (exc6 : PySem.W.specialIn K (.builtin "object.__class__") "__get__" = some (some (.builtin "getset_descriptor.__get__")))
    (exc7 : PySem.W.takesIn K (.builtin "object.__class__") = some true)
    (exc8 : PySem.W.mroIn K Q (.type "object") = some true)
    (kit1 : PySem.W.kitOne K (.ref Q) (.ref Q) = some true)
    (kit2 : PySem.W.kitOne K (.ref Q) (.ref S) = some false) :
    ∃ fd : FuncData, (∀ (s : Shared) (v : Value), BindsTo s fd ⟨[v], []⟩ [("script", v)]) ∧ ∀ base : Heap, K.In base → base.Ns mainGlobals mg → FnOk l.prog w K mg base CX0 8 fa fd ["script"] (spLaw K) := by
  have e := hfa.symm.trans (PySem.W.mg_of X G a22)
  cases e
  have F1 := fun_mk (st := sIsi) l1 c1 k1
  have b1 := F1.binds (ps := ["value"]) fun _ _ _ _ _ _ us hl => match us, hl with | [_], _ => rfl
  have m1 := PySem.W.mg_of X G a1
  have F2 := fun_mk (st := sBtw) l2 c2 k2
  have b2 := F2.binds (ps := ["value", "least", "most"]) fun _ _ _ _ _ _ us hl => match us, hl with | [_, _, _], _ => rfl
  have m2 := PySem.W.mg_of X G a2
  have F3 := fun_mk (st := sCkb) l3 c3 k3
  have b3 := F3.binds (ps := ["beats"]) fun _ _ _ _ _ _ us hl => match us, hl with | [_], _ => rfl
  have m3 := PySem.W.mg_of X G a3
  have F4 := fun_mk (st := sMkt) l4 c4 k4
  have b4 := F4.binds (ps := ["beats", "slots"]) fun _ _ _ _ _ _ us hl => match us, hl with | [_, _], _ => rfl
  have m4 := PySem.W.mg_of X G a4
  have F5 := fun_mk (st := sAcc) l5 c5 k5
  have b5 := F5.binds (ps := ["beats", "slots", "table"]) fun _ _ _ _ _ _ us hl => match us, hl with | [_, _, _], _ => rfl
  have m5 := PySem.W.mg_of X G a5
  have F6 := fun_mk (st := sCkn) l6 c6 k6
  have b6 := F6.binds (ps := ["beats", "slots"]) fun _ _ _ _ _ _ us hl => match us, hl with | [_, _], _ => rfl
  have m6 := PySem.W.mg_of X G a6
  have F7 := fun_mk (st := sTr) l7 c7 k7
  have b7 := F7.binds (ps := ["beats", "slots"]) fun _ _ _ _ _ _ us hl => match us, hl with | [_, _], _ => rfl
  have m7 := PySem.W.mg_of X G a7
  have F8 := fun_mk (st := sRe) l8 c8 k8
  have b8 := F8.binds (ps := ["rows", "beats", "empty"]) fun _ _ _ _ _ _ us hl => match us, hl with | [_, _, _], _ => rfl
  have m8 := PySem.W.mg_of X G a8
  have F9 := fun_mk (st := sHtf) l9 c9 k9
  have b9 := F9.binds (ps := ["beats", "slots", "table"]) fun _ _ _ _ _ _ us hl => match us, hl with | [_, _, _], _ => rfl
  have m9 := PySem.W.mg_of X G a9
  have F10 := fun_mk (st := sHef) l10 c10 k10
  have b10 := F10.binds (ps := ["entry"]) fun _ _ _ _ _ _ us hl => match us, hl with | [_], _ => rfl
  have m10 := PySem.W.mg_of X G a10
  have F11 := fun_mk (st := sStart) l11 c11 k11
  have b11 := F11.binds (ps := ["script"]) fun _ _ _ _ _ _ us hl => match us, hl with | [_], _ => rfl
  have m11 := PySem.W.mg_of X G a11
  have F12 := fun_mk (st := sDrw) l12 c12 k12
  have b12 := F12.binds (ps := ["state", "many"]) fun _ _ _ _ _ _ us hl => match us, hl with | [_, _], _ => rfl
  have m12 := PySem.W.mg_of X G a12
  have F13 := fun_mk (st := sLtb) l13 c13 k13
  have b13 := F13.binds (ps := ["beats", "slots"]) fun _ _ _ _ _ _ us hl => match us, hl with | [_, _], _ => rfl
  have m13 := PySem.W.mg_of X G a13
  have F14 := fun_mk (st := sSpl) l14 c14 k14
  have b14 := F14.binds (ps := ["costs", "t", "s"]) fun _ _ _ _ _ _ us hl => match us, hl with | [_, _, _], _ => rfl
  have m14 := PySem.W.mg_of X G a14
  have F15 := fun_mk (st := sAny) l15 c15 k15
  have b15 := F15.binds (ps := ["state", "costs", "beats", "slots"]) fun _ _ _ _ _ _ us hl => match us, hl with | [_, _, _, _], _ => rfl
  have m15 := PySem.W.mg_of X G a15
  have F16 := fun_mk (st := sWhole) l16 c16 k16
  have b16 := F16.binds (ps := ["value"]) fun _ _ _ _ _ _ us hl => match us, hl with | [_], _ => rfl
  have m16 := PySem.W.mg_of X G a16
  have F17 := fun_mk (st := sPair) l17 c17 k17
  have b17 := F17.binds (ps := ["pair"]) fun _ _ _ _ _ _ us hl => match us, hl with | [_], _ => rfl
  have m17 := PySem.W.mg_of X G a17
  have F18 := fun_mk (st := sLfo) l18 c18 k18
  have b18 := F18.binds (ps := ["table", "beats", "slots"]) fun _ _ _ _ _ _ us hl => match us, hl with | [_, _, _], _ => rfl
  have m18 := PySem.W.mg_of X G a18
  have F19 := fun_mk (st := sLr) l19 c19 k19
  have b19 := F19.binds (ps := ["table", "costs", "beats", "slots"]) fun _ _ _ _ _ _ us hl => match us, hl with | [_, _, _, _], _ => rfl
  have m19 := PySem.W.mg_of X G a19
  have F20 := fun_mk (st := sOther) l20 c20 k20
  have b20 := F20.binds (ps := ["state", "value"]) fun _ _ _ _ _ _ us hl => match us, hl with | [_, _], _ => rfl
  have m20 := PySem.W.mg_of X G a20
  have F21 := fun_mk (st := sSpo) l21 c21 k21
  have b21 := F21.binds (ps := ["state", "value"]) fun _ _ _ _ _ _ us hl => match us, hl with | [_, _], _ => rfl
  have m21 := PySem.W.mg_of X G a21
  have F22 := fun_mk (st := sLaw) l22 c22 k22
  refine ⟨PySem.W.fnOf "law" "law" (defArgs sLaw) (defBody sLaw) (defScope sLaw) .none kV22 dc22 pm22 an22 cd22 ct22, fun s v => .of_eq rfl, fun base _ _ => ?_⟩
  have SuA : Su.Sup l.prog K A ccA cdA := ⟨⟨⟨_, _, _, _, _, _, _, _, _, _, _, _, _, _, _, xA, rfl⟩, saA, bA, tA, kA⟩, uA, yA, vA, ⟨_, _, _, oA⟩, mA, pA, ⟨_, _, _, _, _, _, dA, eA, wA⟩, gA⟩
  have SuQ : Su.Sup l.prog K Q ccQ cdQ := ⟨⟨⟨_, _, _, _, _, _, _, _, _, _, _, _, _, _, _, xQ, rfl⟩, saQ, bQ, tQ, kQ⟩, uQ, yQ, vQ, ⟨_, _, _, oQ⟩, mQ, pQ, ⟨_, _, _, _, _, _, dQ, eQ, wQ⟩, gQ⟩
  have T : Bi mg := ⟨PySem.W.mg_none_of X G z_len, PySem.W.mg_none_of X G z_int, PySem.W.mg_none_of X G z_range, PySem.W.mg_none_of X G z_tuple, PySem.W.mg_none_of X G z_list, PySem.W.mg_none_of X G z_str, PySem.W.mg_none_of X G z_isinstance, PySem.W.mg_none_of X G z_bool, PySem.W.mg_none_of X G z_abs, PySem.W.mg_none_of X G z_max⟩
  have mkA : Mk l.prog w K mg base "ArgumentError" A ["self", "reason"] (Er.spAE K A) := ⟨fA, _, Er.ok_ae lA cA SuA nA_reason, .all (fun us hl => match us, hl with | [_, _], _ => rfl), SuA.ex, iA, jA, PySem.W.mg_of X G aA⟩
  have E' : TxtQ K mg Q S B := ⟨PySem.W.mg_of X G aQ, PySem.W.mg_of X G aS, PySem.W.mg_of X G aB0, ⟨exq5, exq6, bQ, exq2⟩, nQ_reason, ⟨exq5, exq6, bQ, exq2, exc5, exc6, exc7, exc8⟩, PySem.W.exm_ref exb1 exb2 exb3 exb4, kit1, kit2⟩
  have mkQ : Mk l.prog w K mg base "PaperError" Q ["self", "reason"] (Er.spQE K Q) := ⟨fQ, _, Er.ok_qe lQ cQ SuQ nQ_reason, .all (fun us hl => match us, hl with | [_, _], _ => rfl), SuQ.ex, iQ, jQ, PySem.W.mg_of X G aQ⟩
  have cIsi : Cal l.prog w K mg base CX0 1 "is_integer" ["value"] (spP K 1 dIsi) := ⟨f1, _, ok_isi F1 T, b1, k1, m1⟩
  have cBtw : Cal l.prog w K mg base CX0 2 "is_between" ["value", "least", "most"] (spP K 3 dBtw) := ⟨f2, _, ok_btw F2 cIsi, b2, k2, m2⟩
  have cCkb : Cal l.prog w K mg base (L2.CX l.prog w) 3 "check_beats" ["beats"] (spCkb K A) := ⟨f3, _, ok_ckb F3 (PySem.W.mg_of X G g_MAX_BEATS) cBtw mkA, b3, k3, m3⟩
  have cCkn : Cal l.prog w K mg base (L2.CX l.prog w) 4 "check_numbers" ["beats", "slots"] (spCkn K A) := ⟨f6, _, ok_ckn F6 (PySem.W.mg_of X G g_MAX_KEPT) cBtw cCkb mkA, b6, k6, m6⟩
  have cRe : Cal l.prog w K mg base CX0 1 "right_entries" ["rows", "beats", "empty"] (spRe K) := ⟨f8, _, ok_re F8 T (PySem.W.mg_none_of X G z_min), b8, k8, m8⟩
  have cTr : Cal l.prog w K mg base CX0 2 "table_rows" ["beats", "slots"] (spTr K) := ⟨f7, _, ok_tr F7 T cRe, b7, k7, m7⟩
  have cHef : Cal l.prog w K mg base CX0 2 "has_entry_form" ["entry"] (spP K 1 dEf) := ⟨f10, _, ok_hef F10 T cIsi, b10, k10, m10⟩
  have cHtf : Cal l.prog w K mg base CX0 3 "has_table_form" ["beats", "slots", "table"] (spHtf K) := ⟨f9, _, ok_htf F9 T (PySem.W.mg_none_of X G z_all) cHef, b9, k9, m9⟩
  have cMkt : Cal l.prog w K mg base (L2.CX l.prog w) 5 "make_table" ["beats", "slots"] (spMkt K) := ⟨f4, _, ok_mkt F4 T cCkn cTr, b4, k4, m4⟩
  have cAcc : Cal l.prog w K mg base (L2.CX l.prog w) 5 "accept_table" ["beats", "slots", "table"] (spAcc K Q) := ⟨f5, _, ok_acc F5 T (PySem.W.mg_none_of X G z_enumerate) cCkn cHtf cRe mkQ, b5, k5, m5⟩
  have cStart : Cal l.prog w K mg base CX0 1 "_law_start" ["script"] (spStart K) := ⟨f11, _, ok_start F11 T, b11, k11, m11⟩
  have cDraw : Cal l.prog w K mg base CX0 1 "_law_draw" ["state", "many"] (spDrw K) := ⟨f12, _, ok_drw F12 T, b12, k12, m12⟩
  have cLtb : Cal l.prog w K mg base CX0 1 "_law_table" ["beats", "slots"] (spLtb K) := ⟨f13, _, ok_ltb F13 T (PySem.W.mg_none_of X G z_min), b13, k13, m13⟩
  have cSpl : Cal l.prog w K mg base CX0 1 "_law_splits" ["costs", "t", "s"] (spSpl K) := ⟨f14, _, ok_spl F14 T, b14, k14, m14⟩
  have cAny : Cal l.prog w K mg base CX0 2 "_law_any" ["state", "costs", "beats", "slots"] (spAny K) := ⟨f15, _, ok_any F15 T cDraw cSpl, b15, k15, m15⟩
  have cWhole : Cal l.prog w K mg base CX0 1 "_law_whole" ["value"] (spP K 1 dIsi) := ⟨f16, _, ok_whole F16 T, b16, k16, m16⟩
  have cPair : Cal l.prog w K mg base CX0 2 "_law_pair" ["pair"] (spP K 1 dEf) := ⟨f17, _, ok_pair F17 T cWhole, b17, k17, m17⟩
  have cLfo : Cal l.prog w K mg base CX0 3 "_law_form" ["table", "beats", "slots"] (spLfo K) := ⟨f18, _, ok_lfo F18 T cPair, b18, k18, m18⟩
  have cLr : Cal l.prog w K mg base CX0 4 "_law_reason" ["table", "costs", "beats", "slots"] (spLr K) := ⟨f19, _, ok_lr F19 T cLfo cSpl, b19, k19, m19⟩
  have cOther : Cal l.prog w K mg base CX0 2 "_law_other" ["state", "value"] (spOther K) := ⟨f20, _, ok_other F20 T cDraw cWhole, b20, k20, m20⟩
  have cSpo : Cal l.prog w K mg base CX0 7 "_law_spoilt" ["state", "value"] (spSpo K 5) := ⟨f21, _, ok_spo F21 T cDraw cOther b21 m21 5, b21, k21, m21⟩
  exact ok_law F22 T E' cStart cDraw cLtb cMkt cLr cAny cSpo cAcc
end
theorem walk {l : PySem.W.OpenLaw} {q : Program} {loose : List Str} {XP : (Str → Option Value) → Heap → Prop} {YP : World → Heap → Prop} {d : DefRec} {K : Params → PySem.W.Frag} (hn : l.most = some 63) (hdf : d.params.defaults = [])
    (hY : ∀ (w : World) (h : Heap), YP w h → (K w.params).In h)
    (F : ∀ (w : World) (mg : Str → Option Value) (fa : Addr) (h : Heap), (K w.params).In h → h.Ns mainGlobals mg → mg d.name = some (.ref fa) →
      ∃ fd : FuncData, (∀ (s : Shared) (u : Value), BindsTo s fd ⟨[u], []⟩ [("script", u)]) ∧ ∀ base : Heap, (K w.params).In base → base.Ns mainGlobals mg → FnOk l.prog w (K w.params) mg base CX0 8 fa fd ["script"] (spLaw (K w.params))) :
    PySem.W.WalkO q loose XP YP l.row.toRowW d [] (fun f vs => PySem.call f vs) :=
  L2.walk_of (n := 63) (k := 8) (x := "script") (CX := fun _ => CX0) (sp := fun w => spLaw (K w.params)) hn (by decide) hdf ⟨rfl, by decide, by decide⟩ hY F (fun _ _ a ns hl _ hS => ⟨a, ns, rfl, hS, hl, fun _ => rfl⟩) fun _ _ _ _ _ z => z
end Sd
open PySem PySem.W PyProof.Rows
set_option maxRecDepth 100000 in
set_option maxHeartbeats 0 in
theorem PySem.Challenge.cw_countermarch_k53_whole_any_table_is_judg_holds : PySem.Challenge.rw_countermarch_k53_whole_any_table_is_judg.Holds := by
  w_on; o_law; k_head; (case hw => w_witness2)
  k_fill
  refine Sd.walk (l := PySem.Challenge.rw_countermarch_k53_whole_any_table_is_judg) rfl rfl (fun w h Y => PySem.W.kIn_of Y) ?F
  case F =>
    intro w mg fa h KX G hmg
    refine' Sd.all_mk KX G hmg ?a1 ?l1 ?c1 ?k1 ?a2 ?l2 ?c2 ?k2 ?a3 ?l3 ?c3 ?k3 ?a4 ?l4 ?c4 ?k4 ?a5 ?l5 ?c5 ?k5 ?a6 ?l6 ?c6 ?k6 ?a7 ?l7 ?c7 ?k7 ?a8 ?l8 ?c8 ?k8 ?a9 ?l9 ?c9 ?k9 ?a10 ?l10 ?c10 ?k10 ?a11 ?l11 ?c11 ?k11 ?a12 ?l12 ?c12 ?k12 ?a13 ?l13 ?c13 ?k13 ?a14 ?l14 ?c14 ?k14 ?a15 ?l15 ?c15 ?k15 ?a16 ?l16 ?c16 ?k16 ?a17 ?l17 ?c17 ?k17 ?a18 ?l18 ?c18 ?k18 ?a19 ?l19 ?c19 ?k19 ?a20 ?l20 ?c20 ?k20 ?a21 ?l21 ?c21 ?k21 ?a22 ?l22 ?c22 ?k22 ?aB0 ?aA ?xA ?saA ?bA ?tA ?kA ?iA ?jA ?lA ?cA ?uA ?yA ?vA ?oA ?mA ?pA ?dA ?eA ?wA ?gA ?nA_reason ?aQ ?xQ ?saQ ?bQ ?tQ ?kQ ?iQ ?jQ ?lQ ?cQ ?uQ ?yQ ?vQ ?oQ ?mQ ?pQ ?dQ ?eQ ?wQ ?gQ ?nQ_reason ?z_len ?z_int ?z_range ?z_tuple ?z_list ?z_str ?z_isinstance ?z_bool ?z_abs ?z_max ?z_min ?z_enumerate ?z_all ?g_MAX_BEATS ?g_MAX_KEPT ?aS ?exq2 ?exq5 ?exq6 ?exb1 ?exb2 ?exb3 ?exb4 ?exc5 ?exc6 ?exc7 ?exc8 ?kit1 ?kit2
    (case a1 => k_is)
    (case l1 => k_is)
    (case c1 => k_is)
    (case k1 => k_is)
    (case a2 => k_is)
    (case l2 => k_is)
    (case c2 => k_is)
    (case k2 => k_is)
    (case a3 => k_is)
    (case l3 => k_is)
    (case c3 => k_is)
    (case k3 => k_is)
    (case a4 => k_is)
    (case l4 => k_is)
    (case c4 => k_is)
    (case k4 => k_is)
    (case a5 => k_is)
    (case l5 => k_is)
    (case c5 => k_is)
    (case k5 => k_is)
    (case a6 => k_is)
    (case l6 => k_is)
    (case c6 => k_is)
    (case k6 => k_is)
    (case a7 => k_is)
    (case l7 => k_is)
    (case c7 => k_is)
    (case k7 => k_is)
    (case a8 => k_is)
    (case l8 => k_is)
    (case c8 => k_is)
    (case k8 => k_is)
    (case a9 => k_is)
    (case l9 => k_is)
    (case c9 => k_is)
    (case k9 => k_is)
    (case a10 => k_is)
    (case l10 => k_is)
    (case c10 => k_is)
    (case k10 => k_is)
    (case a11 => k_is)
    (case l11 => k_is)
    (case c11 => k_is)
    (case k11 => k_is)
    (case a12 => k_is)
    (case l12 => k_is)
    (case c12 => k_is)
    (case k12 => k_is)
    (case a13 => k_is)
    (case l13 => k_is)
    (case c13 => k_is)
    (case k13 => k_is)
    (case a14 => k_is)
    (case l14 => k_is)
    (case c14 => k_is)
    (case k14 => k_is)
    (case a15 => k_is)
    (case l15 => k_is)
    (case c15 => k_is)
    (case k15 => k_is)
    (case a16 => k_is)
    (case l16 => k_is)
    (case c16 => k_is)
    (case k16 => k_is)
    (case a17 => k_is)
    (case l17 => k_is)
    (case c17 => k_is)
    (case k17 => k_is)
    (case a18 => k_is)
    (case l18 => k_is)
    (case c18 => k_is)
    (case k18 => k_is)
    (case a19 => k_is)
    (case l19 => k_is)
    (case c19 => k_is)
    (case k19 => k_is)
    (case a20 => k_is)
    (case l20 => k_is)
    (case c20 => k_is)
    (case k20 => k_is)
    (case a21 => k_is)
    (case l21 => k_is)
    (case c21 => k_is)
    (case k21 => k_is)
    (case a22 => k_is)
    (case l22 => k_is)
    (case c22 => k_is)
    (case k22 => k_is)
    (case aB0 => k_is)
    (case aA => k_is)
    (case xA => k_is)
    (case saA => k_is)
    (case bA => k_is)
    (case tA => k_is)
    (case kA => k_is)
    (case iA => k_is)
    (case jA => k_is)
    (case lA => k_is)
    (case cA => k_is)
    (case uA => first | ks_is | k_is)
    (case yA => k_is)
    (case vA => k_is)
    (case oA => k_is)
    (case mA => k_is)
    (case pA => k_is)
    (case dA => k_is)
    (case eA => rfl)
    (case wA => first | rfl | decide +kernel)
    (case gA => first | rfl | decide +kernel)
    (case nA_reason => k_is)
    (case aQ => k_is)
    (case xQ => k_is)
    (case saQ => k_is)
    (case bQ => k_is)
    (case tQ => k_is)
    (case kQ => k_is)
    (case iQ => k_is)
    (case jQ => k_is)
    (case lQ => k_is)
    (case cQ => k_is)
    (case uQ => first | ks_is | k_is)
    (case yQ => k_is)
    (case vQ => k_is)
    (case oQ => k_is)
    (case mQ => k_is)
    (case pQ => k_is)
    (case dQ => k_is)
    (case eQ => rfl)
    (case wQ => first | rfl | decide +kernel)
    (case gQ => first | rfl | decide +kernel)
    (case nQ_reason => k_is)
    (case z_len => k_is)
    (case z_int => k_is)
    (case z_range => k_is)
    (case z_tuple => k_is)
    (case z_list => k_is)
    (case z_str => k_is)
    (case z_isinstance => k_is)
    (case z_bool => k_is)
    (case z_abs => k_is)
    (case z_max => k_is)
    (case z_min => k_is)
    (case z_enumerate => k_is)
    (case z_all => k_is)
    (case g_MAX_BEATS => k_is)
    (case g_MAX_KEPT => k_is)
    (case aS => k_is)
    (case exq2 => k_is)
    (case exq5 => k_is)
    (case exq6 => k_is)
    (case exb1 => k_is)
    (case exb2 => k_is)
    (case exb3 => k_is)
    (case exb4 => k_is)
    (case exc5 => k_is)
    (case exc6 => k_is)
    (case exc7 => k_is)
    (case exc8 => k_is)
    (case kit1 => kit_is)
    (case kit2 => kit_is)
#print axioms PySem.Challenge.cw_countermarch_k53_whole_any_table_is_judg_holds

