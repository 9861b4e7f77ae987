import PyProof.Rows.All
import Wide.All
import OpenK.AllK
import Wide.FinOn
import HandS.Base
import HandS.Call
import HandS.List
import HandS.Comp
import HandS.Ends
import HandS.Exc
import HandS.TryOnly
import HandS.ExcOwn
import HandS.Words
import HandS.WordsList
import HandS.WordsExc
import HandS.Flow
import HandS.Wide
import HandS.Style
import HandS.IsInst
import HandS.ExcIs
import KE.RegKIsAll
import HandS.Walk
import HandS.ExcInit
import HandS.ExcField
import HandS.FStr
import HandS.FStrTup
import KE.KExcSuper
import KE.KExcIs
import HandS.Text
import HandS.TupAny
import HandS.Evl
import HandS.Dict
import HandS.DictSub
import HandS.WordsDict
import KE.DatumOrd
import KE.GoesEnum
import HandS.Zip0
import HandS.Zip
import HandS.Conv
import PySem.Challenge.RW_countermarch_k51_whole_any_schedule_is_j
set_option Elab.async false
set_option linter.all false
set_option maxRecDepth 100000
set_option maxHeartbeats 4000000
/-! ## repr of nested tuples and lists -/
namespace Rp
open PySem PySem.Spec PyProof.Rows L2
mutual
def Dv (K : PySem.W.Frag) (H : Hp) : PyData → V → Prop
  | .none, v => v = .non
  | .bool b, v => v = .bl b
  | .int i, v => v = .int i
  | .str s, v => v = .str s
  | .tuple ds, v => ∃ a xs, v = .ref a ∧ SqT K H a xs ∧ DvL K H ds xs
  | .list ds, v => ∃ a xs, v = .ref a ∧ SqL K H a xs ∧ DvL K H ds xs
  | .dict _, _ => False
def DvL (K : PySem.W.Frag) (H : Hp) : List PyData → List V → Prop
  | [], vs => vs = []
  | d :: ds, vs => ∃ x xs, vs = x :: xs ∧ Dv K H d x ∧ DvL K H ds xs
end
section
variable {X : Cx} {pins : List (Addr × Obj)} {σ : L2.St} {H : Hp} {s : Shared}
mutual
theorem Dv.reads (I : Inv X pins σ H s) : ∀ (d : PyData) (x : V) (v : Value), Dv X.K H d x → RelV x v → ∃ as, Reads s.heap v d as
  | .none, _, v, h, r => by
    cases h
    cases r
    exact ⟨_, .none⟩
  | .bool b, _, v, h, r => by
    cases h
    cases r
    exact ⟨_, .bool b⟩
  | .int i, _, v, h, r => by
    cases h
    obtain ⟨t, rfl⟩ := r
    exact ⟨_, .int i t⟩
  | .str x, _, v, h, r => by
    cases h
    obtain ⟨t, rfl⟩ := r
    exact ⟨_, .str x t⟩
  | .tuple ds, _, v, h, r => by
    obtain ⟨a, xs, rfl, st, l⟩ := h
    cases r
    obtain ⟨its, rv, ⟨o, ho, hc, n, hd⟩, _⟩ := I.tuple st
    obtain ⟨as, ra⟩ := DvL.reads I ds xs its l rv
    exact ⟨_, .tuple ho hc hd ra⟩
  | .list ds, _, v, h, r => by
    obtain ⟨a, xs, rfl, st, l⟩ := h
    cases r
    obtain ⟨its, rv, ⟨o, n, ho, hc, _, hd⟩, _⟩ := I.list st
    obtain ⟨as, ra⟩ := DvL.reads I ds xs its l rv
    exact ⟨_, .list ho hc hd ra⟩
  | .dict _, _, _, h, _ => False.elim h
theorem DvL.reads (I : Inv X pins σ H s) : ∀ (ds : List PyData) (xs : List V) (us : List Value), DvL X.K H ds xs → Vals xs us → ∃ as, ReadsAll s.heap us ds as
  | [], _, us, h, r => by
    cases h
    cases r
    exact ⟨_, .nil⟩
  | d :: ds, _, us, h, r => by
    obtain ⟨x, xs, rfl, hx, l⟩ := h
    cases r with
    | cons r1 r2 =>
      obtain ⟨as, ra⟩ := Dv.reads I d x _ hx r1
      obtain ⟨bs, rb⟩ := DvL.reads I ds xs _ l r2
      exact ⟨_, .cons ra rb⟩
end
variable {K : PySem.W.Frag}
mutual
theorem Dv.nodict : ∀ (d : PyData) (x : V), Dv K H d x → d.hasDict = false
  | .none, _, _ => by simp [PyData.hasDict]
  | .bool b, _, _ => by simp [PyData.hasDict]
  | .int i, _, _ => by simp [PyData.hasDict]
  | .str x, _, _ => by simp [PyData.hasDict]
  | .tuple ds, _, h => by
    obtain ⟨a, xs, _, _, l⟩ := h
    simp only [PyData.hasDict]
    exact DvL.nodict ds xs l
  | .list ds, _, h => by
    obtain ⟨a, xs, _, _, l⟩ := h
    simp only [PyData.hasDict]
    exact DvL.nodict ds xs l
  | .dict _, _, h => False.elim h
theorem DvL.nodict : ∀ (ds : List PyData) (xs : List V), DvL K H ds xs → PyData.hasDictAll ds = false
  | [], _, _ => by simp [PyData.hasDictAll]
  | d :: ds, _, h => by
    obtain ⟨x, xs, _, hx, l⟩ := h
    simp only [PyData.hasDictAll, Dv.nodict d x hx, DvL.nodict ds xs l, Bool.or_self]
end
/-- repr(x), x a tuple or a list of data, where no repr is under way -/
def spRepr (K : PySem.W.Frag) : List V → Hp → VK → Prop := fun xs H Q => ∃ (a : Addr) (d : PyData), xs = [.ref a] ∧ Dv K H d (.ref a) ∧ d.showable = true ∧ d.shown.length ≤ sizeLine ∧ d.depth ≤ 90 ∧ Q (.str d.shown) H
theorem cr_repr (gd : X.A.guards = some []) (hu : X.A.units + 200 < cLine) : CallR X (.builtin "repr") (spRepr X.K) := by
  intro pins s σ H xs us Q I r h
  obtain ⟨a, d, rfl, hd, sh, fit, dp, q⟩ := h
  obtain ⟨u, rfl, rv⟩ := vals1 r
  cases rv
  obtain ⟨as, ra⟩ := Dv.reads I d _ _ hd rfl
  have nd := Dv.nodict d _ hd
  exact repr_of_reads' ra sh (fun z => by rw [nd] at z; cases z) gd (by omega) (fun _ _ e => e) (fun h' u tk hk => ⟨.str d.shown, H, I.kept hk, ⟨_, rfl⟩, q⟩) fit
end
end Rp

/-! ## A law's own def, called where nothing is being shown: so that repr tells the whole -/
namespace Gd
open PySem PySem.Spec PyProof.Rows L2
section
variable {P : Program} {w : World} {K : PySem.W.Frag} {mg : Str → Option Value}
structure GFn (P : Program) (w : World) (K : PySem.W.Frag) (mg : Str → Option Value) (ground : Heap) (CX : CXT) (k : Nat) (f : Addr) (fd : FuncData) (ps : List Str) (sp : Sp) : Prop where
  count : ∀ vs H Q E, sp vs H Q E → vs.length = ps.length
  does : ∀ (A : Around) (out : List Env) (s : Shared) (H : Hp) (ar : Args) (us : List Value) (vs : List V) (Q : VK) (E : XK), A.guards = some [] → Room k A → Env0 P w K mg ground A out s H → BindsTo s fd ar (ps.zip us) → Vals vs us →
    sp vs H Q E → codeAny (model P w) A (.call (.ref f) ar) (CR CX out P w H s Q E) s
theorem gfn_of {CX : CXT} {ground : Heap} {x qual : Str} {st : Stmt} {f : Addr} {fd : FuncData} {N ps : List Str} {k : Nat} {sp : Sp} (F : Fun K x qual st f fd) (S : FnScope N ps (defScope st)) (len : ∀ vs H Q E, sp vs H Q E → vs.length = ps.length)
    (inner : ∀ (cdv : Value) (A : Around) (out : List Env) (s : Shared) (H : Hp) (vs : List V) (Q : VK) (E : XK), A.guards = some [] → Room k (A.deeper (envOfC qual (defScope st) s.heap.objs.size f cdv)) → sp vs H Q E →
      ∃ t, PSs (cxOf CX P w K mg ground N qual (defScope st) f cdv A out s H E) (defBody st) t ∧ t { rt := Q, nx := fun _ => Q V.non } (start N vs) H) : GFn P w K mg ground CX (k + 1) f fd ps sp := by
  obtain ⟨_, _, _, _, _, _, cdv, _, _, rfl, look, code⟩ := F.ex
  constructor
  · exact len
  intro A out s H ar us vs Q E gd room en bd rel told
  have many := len _ _ _ _ told
  have isK : K.In s.heap := en.mod.kin.keeps (fun b o e => (en.bs b o e).1)
  have nolim : s.heap.NoLimit := en.mod.nolimit.keeps (fun b o e => (en.bs b o e).1)
  refine codeAny_call_function room.depth (isK _ _ look) rfl S.co S.gen rfl (PySem.W.codeRec_of isK code) (bd _ _ _ _ ?_)
  refine wpAny_newFunctionEnv_cells S.kind (fun y hy => ?_) (fun en1 he s1 x => ?_)
  · obtain ⟨n, v⟩ := y
    cases S.par n (List.of_mem_zip hy).1 with
    | inl q => exact Or.inl q
    | inr q => exact Or.inr ⟨q, PySem.W.cellsFrom_some _ _ _ (Or.inl q)⟩
  cases he
  refine ⟨nolim.keeps x.toInCall.keep, codeAny_func ?_⟩
  obtain ⟨t, ht, hq⟩ := inner cdv A out s H vs Q E gd (room.deeper _) told
  have I0 : Inv (cxOf CX P w K mg ground N qual (defScope st) f cdv A out s H E) [] (start N vs) H s1 := inv_start S room.hd en many rel x
  refine wpAny_mono (ht.run [] s1 (start N vs) H _ I0 hq) (fun fl s' hs => ?_) (fun _ _ hs => hs)
  match fl, hs with
  | .ret _, ⟨v, _, H', J, rv, q⟩ => exact ⟨v, H', J.os, J.bare, J.base, J.hok, rv, q⟩
  | .next, ⟨_, H', J, q⟩ => exact ⟨V.non, H', J.os, J.bare, J.base, J.hok, rfl, q⟩
  | .brk, ⟨_, _, _, q⟩ => exact q.elim
  | .cont, ⟨_, _, _, q⟩ => exact q.elim
/-- the same for a def that lets no exception out -/
theorem gfn0 {ground : Heap} {x qual : Str} {st : Stmt} {f : Addr} {fd : FuncData} {N ps : List Str} {k : Nat} {sp : Sp} (F : Fun K x qual st f fd) (S : FnScope N ps (defScope st)) (len : ∀ vs H Q E, sp vs H Q E → vs.length = ps.length)
    (inner : ∀ (cdv : Value) (A : Around) (out : List Env) (s : Shared) (H : Hp) (vs : List V) (Q : VK) (E : XK), A.guards = some [] → Room k (A.deeper (envOfC qual (defScope st) s.heap.objs.size f cdv)) → sp vs H Q E →
      ∃ t, PSs (cxOf CX0 P w K mg ground N qual (defScope st) f cdv A out s H E).nox (defBody st) t ∧ t { rt := Q, nx := fun _ => Q V.non } (start N vs) H) : GFn P w K mg ground CX0 (k + 1) f fd ps sp :=
  gfn_of F S len fun cdv A out s H vs Q E gd room told => by
    obtain ⟨t, h, q⟩ := inner cdv A out s H vs Q E gd room told
    exact ⟨t, h.nox, q⟩
/-- the law's def behind the top -/
theorem enter {mb : Str → Option Value} {CX : CXT} {k : Nat} {fa a : Addr} {fd : FuncData} {x : Str} {sp : Sp} {s₁ : Shared} {vs : List Value} {ns : List Int}
    (isK : K.In s₁.heap) (glo : s₁.heap.Ns mainGlobals mg) (bui : s₁.heap.Ns builtinsNs mb) (boot : ∀ x : Str, x ≠ "__name__" → mb x = bootBuiltins x) (nolim : s₁.heap.NoLimit) (nogen : s₁.gens = #[])
    (at_a : s₁.heap.get? a = some { cls := .type "list", data := .seq vs.toArray }) (are : IntsAre vs ns) (few : ns.length ≤ sizeLine) (room : Room k callerA)
    (G : ∀ ground : Heap, K.In ground → ground.Ns mainGlobals mg → GFn P w K mg ground CX k fa fd [x] sp) (bd : ∀ (s : Shared) (u : Value), BindsTo s fd ⟨[u], []⟩ [(x, u)])
    (told : ∀ H : Hp, Only H → SqL K H a (ns.map V.int) → sp [.ref a] H (fun v _ => v = .bl true) fun _ _ _ => False) (noexc : ∀ H e s', CX [] H s₁ (fun _ _ _ => False) e s' → False) :
    codeAny (model P w) callerA (.call (.ref fa) ⟨[.ref a], []⟩) (fun r s' => (r = .ok (.ret (.bool true)) ∧ OldK s₁.heap s'.heap) ∧ s'.os = s₁.os ∧ AllBare s'.gens) s₁ := by
  have rel := vals_ints are
  have cnt := are.length
  have main : ∀ H : Hp, Only H → SqL K H a (ns.map V.int) → HOk P w H s₁.heap → (∀ b, b ≠ a → H b = none) → (K.lookup a = none ∨ H a = none) →
      codeAny (model P w) callerA (.call (.ref fa) ⟨[.ref a], []⟩) (fun r s' => (r = .ok (.ret (.bool true)) ∧ OldK s₁.heap s'.heap) ∧ s'.os = s₁.os ∧ AllBare s'.gens) s₁ := by
    intro H only sq fine off known
    have off2 : ∀ (b : Addr) (o : Obj), s₁.heap.get? b = some o → (∀ (vs : Array Value) (n : Nat), o.data ≠ .seq vs n) → H b = none := fun b o e n => by
      by_cases z : b = a
      · rw [z, at_a] at e
        cases e
        exact absurd rfl (n _ _)
      · exact off b z
    have space : ∀ {b : Addr} {m : Str → Option Value}, s₁.heap.Ns b m → (hidT s₁.heap H).Ns b m := by
      rintro b m ⟨o, es, ep, e, d, r⟩
      exact ⟨o, es, ep, hidT_get e (off2 b o e fun vs n z => by rw [d] at z; cases z), d, r⟩
    have isK2 : K.In (hidT s₁.heap H) := by
      intro b o e
      refine hidT_get (isK b o e) ?_
      by_cases z : b = a
      · rcases known with q | q
        · rw [z, q] at e
          cases e
        · rw [z]
          exact q
      · exact off b z
    have modu : Mod K mg (hidT s₁.heap H) := by
      obtain ⟨mc, l1, l2⟩ := nolim
      exact ⟨isK2, space glo, ⟨mb, space bui, boot⟩, ⟨mc, space l1, l2⟩⟩
    have start0 : Env0 P w K mg (hidT s₁.heap H) callerA [] s₁ H := by
      refine ⟨rfl, modu, fun b o e => of_hidT e, Nat.le_of_eq (hidT_size _ _), trivial, fun b hb => ?_, fine, .of_eq nogen⟩
      have hb' : b ∈ ([] : List Addr) := hb
      cases hb'
    have ran := (G _ isK2 (space glo)).does callerA [] s₁ H ⟨[.ref a], []⟩ [.ref a] [.ref a] _ _ rfl room start0 (bd s₁ (.ref a)) (.cons rfl .nil) (told H only sq)
    refine codeAny_mono ran ?_
    rintro (e | (_ | _ | _ | u)) s' h
    · exact (noexc H e s' h).elim
    · exact h.elim
    · exact h.elim
    · exact h.elim
    · obtain ⟨v, H', os, bare, un, fine2, r', q⟩ := h
      obtain rfl : v = .bl true := q
      obtain rfl : u = Value.bool true := r'
      refine ⟨⟨rfl, OldK.of_keep fun b o e => ?_⟩, os, bare⟩
      rcases only b with z | ⟨ob, xs, z⟩
      · refine un.keep b o e z (fun hb => ?_) (by simp)
        have hb' : b ∈ ([] : List Addr) := hb
        cases hb'
      · have z2 := un.frzs b ob _ z
        have e1 := (fine b _ z).1
        have e2 := (fine2 b _ z2).1
        rw [e] at e1
        cases e1
        exact e2
  cases inK : K.lookup a with
  | none =>
    have eqa : ∀ u : HO, (fun b => if b = a then some u else none : Hp) a = some u := fun u => if_pos rfl
    refine main (fun b => if b = a then some (.frz { cls := .type "list", data := .seq vs.toArray } (.lst (ns.map V.int))) else none) (fun b => ?_) (.inl (.inr ⟨_, eqa _⟩)) (fun b u z => ?_) (fun b n => if_neg n) (.inl inK)
    · by_cases hb : b = a
      · rw [hb]
        exact .inr ⟨_, _, eqa _⟩
      · exact .inl (if_neg hb)
    · by_cases hb : b = a
      · subst hb
        cases (eqa _).symm.trans z
        exact ⟨at_a, by rw [List.length_map]; exact few, vs, _, rel, at_a⟩
      · cases (if_neg hb).symm.trans z
  | some o =>
    have e := isK a o inK
    rw [at_a] at e
    cases e
    refine main (fun _ => none) (fun _ => .inl rfl) (.inr ⟨_, vs.toArray, _, inK, rfl, rfl, rfl, ?_, by simpa using rel⟩) (fun b u z => ?_) (fun _ _ => rfl) (.inr rfl)
    · rw [List.size_toArray, cnt]
      exact few
    · have z' : (none : Option HO) = some u := z
      cases z'
theorem walk {l : PySem.W.OpenLaw} {n k : Nat} {q : Program} {loose : List Str} {XP : (Str → Option Value) → Heap → Prop} {YP : World → Heap → Prop} {d : DefRec} {K : Params → PySem.W.Frag} {CX : World → CXT} {sp : World → Sp} {x : Str}
    (most : l.most = some n) (fits : n ≤ sizeLine) (plain : d.params.defaults = []) (room : Room k callerA) (isK : ∀ (w : World) (h : Heap), YP w h → (K w.params).In h)
    (G : ∀ (w : World) (mg : Str → Option Value) (fa : Addr) (h : Heap), (K w.params).In h → h.Ns mainGlobals mg → mg d.name = some (.ref fa) →
      ∃ fd : FuncData, (∀ (s : Shared) (u : Value), BindsTo s fd ⟨[u], []⟩ [(x, u)]) ∧ ∀ ground : Heap, (K w.params).In ground → ground.Ns mainGlobals mg → GFn l.prog w (K w.params) mg ground (CX w) k fa fd [x] (sp w))
    (told : ∀ (w : World) (H : Hp) (a : Addr) (ns : List Int), ns.length ≤ n → Only H → SqL (K w.params) H a (ns.map V.int) → sp w [.ref a] H (fun v _ => v = .bl true) fun _ _ _ => False)
    (noexc : ∀ (w : World) (H : Hp) (s : Shared) (e : Value) (s' : Shared), CX w [] H s (fun _ _ _ => False) e s' → False) :
    PySem.W.WalkO q loose XP YP l.row.toRowW d [] (fun f vs => PySem.call f vs) := by
  apply Att.attach_call most plain
  intro w s₀ s₁ mg mb fa o pm cd doc a vs ns gr Y _ _ _ hmg obj are len nogen
  have kin := isK w _ Y
  obtain ⟨fd, bd, hG⟩ := G w mg fa _ kin gr.T.g hmg
  refine codeAny_mono (enter kin gr.T.g gr.T.b gr.T.builtins gr.T.nolimit nogen obj are (Nat.le_trans len fits) room hG bd (fun H only sq => told w H a ns len only sq) (fun H e s' => noexc w H s₁ e s')) ?_
  rintro r s' ⟨⟨h1, h2⟩, h3, h4⟩
  exact ⟨h1, h2, h3, h4⟩
end
end Gd

/-! ## The drawn trees: data, what carries it, the draws -/
namespace Tr
open PySem L2
def top (i : Nat) : Stmt := PySem.Challenge.pw_countermarch_k51_whole_any_schedule_is_j.main.body.getD i (.Pass ⟨0, 0, 0, 0⟩)
/-! ### tuples of tuples, None, truth values, whole numbers and texts, at any depth -/
mutual
def Tv (K : PySem.W.Frag) (H : Hp) : PyData → V → Prop
  | .none, v => v = .non
  | .bool b, v => v = .bl b
  | .int i, v => v = .int i
  | .str s, v => v = .str s
  | .tuple ds, v => ∃ a xs, v = .ref a ∧ SqT K H a xs ∧ TvL K H ds xs
  | .list _, _ => False
  | .dict _, v => ∃ p ys, v = .ref p ∧ H p = some (.lst ys)
def TvL (K : PySem.W.Frag) (H : Hp) : List PyData → List V → Prop
  | [], vs => vs = []
  | d :: ds, vs => ∃ x xs, vs = x :: xs ∧ Tv K H d x ∧ TvL K H ds xs
end
/-- no tuple is lost -/
structure Carry (K : PySem.W.Frag) (H H' : Hp) : Prop where
  t : ∀ a xs, SqT K H a xs → SqT K H' a xs
  l : ∀ a ys, H a = some (.lst ys) → ∃ zs, H' a = some (.lst zs)
instance {K : PySem.W.Frag} {H H' : Hp} : CoeFun (Carry K H H') (fun _ => ∀ a xs, SqT K H a xs → SqT K H' a xs) := ⟨fun c => c.t⟩
section
variable {K : PySem.W.Frag} {H H' H2 : Hp}
theorem Carry.trans (c : Carry K H H') (e : Carry K H' H2) : Carry K H H2 := ⟨fun a xs h => e.t a xs (c.t a xs h), fun a ys h => by obtain ⟨zs, hz⟩ := c.l a ys h; exact e.l a zs hz⟩
mutual
theorem Tv.carry (c : Carry K H H') : ∀ (d : PyData) (v : V), Tv K H d v → Tv K H' d v
  | .none, _, h => h
  | .bool _, _, h => h
  | .int _, _, h => h
  | .str _, _, h => h
  | .tuple ds, _, h => by
    obtain ⟨a, xs, e, s, l⟩ := h
    exact ⟨a, xs, e, c.t a xs s, TvL.carry c ds xs l⟩
  | .list _, _, h => False.elim h
  | .dict _, _, h => by
    obtain ⟨p, ys, e, hl⟩ := h
    obtain ⟨zs, hz⟩ := c.l p ys hl
    exact ⟨p, zs, e, hz⟩
theorem TvL.carry (c : Carry K H H') : ∀ (ds : List PyData) (vs : List V), TvL K H ds vs → TvL K H' ds vs
  | [], _, h => h
  | d :: ds, _, h => by
    obtain ⟨x, xs, e, t, l⟩ := h
    exact ⟨x, xs, e, Tv.carry c d x t, TvL.carry c ds xs l⟩
end
/-- all but the object at p stands as it stood -/
def Stays (p : Addr) (H H' : Hp) : Prop := ∀ b o, b ≠ p → H b = some o → H' b = some o
theorem Stays.refl (p : Addr) (H : Hp) : Stays p H H := fun _ _ _ h => h
theorem Stays.trans {p : Addr} (s : Stays p H H') (t : Stays p H' H2) : Stays p H H2 := fun b o n h => t b o n (s b o n h)
theorem same_stays {p : Addr} (s : Same H H') : Stays p H H' := fun b o _ h => s b o h
theorem stays_upd {p : Addr} {o : HO} : Stays p H (upd H p o) := fun b u n h => by rw [upd_ne n]; exact h
theorem stays_new {p q : Addr} {o : HO} (h : H q = none) : Stays p H (upd H q o) := fun b u _ e => by rw [upd_ne (ne_of_none e h)]; exact e
/-- the counter of the draws -/
def AtL (H : Hp) (p : Addr) : Prop := ∃ j : Int, 0 ≤ j ∧ H p = some (.lst [.int j])
theorem AtL.new {p q : Addr} {o : HO} (h : AtL H p) (n : H q = none) : AtL (upd H q o) p := by
  obtain ⟨j, h0, e⟩ := h
  exact ⟨j, h0, by rw [upd_ne (ne_of_none e n)]; exact e⟩
theorem Stays.carryL {p : Addr} {xs zs : List V} (s : Stays p H H') (e : H p = some (.lst xs)) (e2 : H' p = some (.lst zs)) : Carry K H H' := by
  refine ⟨fun a xs q => ?_, fun a ys h => ?_⟩
  · rcases q with (q | ⟨o, q⟩) | q
    · exact .inl (.inl (s a _ (fun z => by rw [z, e] at q; cases q) q))
    · exact .inl (.inr ⟨o, s a _ (fun z => by rw [z, e] at q; cases q) q⟩)
    · exact .inr q
  · by_cases c : a = p
    · subst c; exact ⟨_, e2⟩
    · exact ⟨ys, s a _ c h⟩
theorem Stays.list {p a : Addr} {xs : List V} (s : Stays p H H') (n : a ≠ p) (h : SqL K H a xs) : SqL K H' a xs := by
  rcases h with (q | ⟨o, q⟩) | q
  · exact .inl (.inl (s a _ n q))
  · exact .inl (.inr ⟨o, s a _ n q⟩)
  · exact .inr q
theorem same_carry (s : Same H H') : Carry K H H' := by
  refine ⟨fun a xs q => ?_, fun a ys h => ⟨ys, s _ _ h⟩⟩
  rcases q with (q | ⟨o, q⟩) | q
  · exact .inl (.inl (s a _ q))
  · exact .inl (.inr ⟨o, s a _ q⟩)
  · exact .inr q
theorem carry_new {q : Addr} {o : HO} (h : H q = none) : Carry K H (upd H q o) := same_carry fun b u e => by rw [upd_ne (ne_of_none e h)]; exact e
end
theorem iteT' {c : Bool} {A B : Prop} (h : c = true) (a : A) : if c = true then A else B := by
  rw [if_pos h]
  exact a
theorem iteF' {c : Bool} {A B : Prop} (h : c = false) (b : B) : if c = true then A else B := by
  rw [h, if_neg Bool.false_ne_true]
  exact b
/-- the built-in names that no text of the program's stands before -/
structure Bi (mg : Str → Option Value) : Prop where
  len : mg "len" = none
  int : mg "int" = none
  range : mg "range" = none
  tuple : mg "tuple" = none
  list : mg "list" = none
  str : mg "str" = none
  isinstance : mg "isinstance" = none
  bool : mg "bool" = none
  abs : mg "abs" = none
  max : mg "max" = none
/-- a def of the text as its callers want it -/
structure Cal (P : Program) (w : World) (K : PySem.W.Frag) (mg : Str → Option Value) (base : Heap) (CX : CXT) (k : Nat) (x : Str) (ps : List Str) (sp : Sp) where
  f : Addr
  fd : FuncData
  ok : FnOk P w K mg base CX k f fd ps sp
  b : Binds K fd ps []
  kp : PySem.W.keepIn K (.ref f) = true
  m : mg x = some (.ref f)

end Tr

namespace Tr
open PySem L2
theorem ixT {X : Cx} {K' : PySem.W.Frag} (h : X.K = K') : IxR X (rIxT K') := by
  subst h
  exact ix_tup
theorem notInK {X : Cx} {K' : PySem.W.Frag} (h : X.K = K') : OpR X (compareOp .NotIn) (rIn K' true) := by
  subst h
  exact op_notIn_seq
theorem inK {X : Cx} {K' : PySem.W.Frag} (h : X.K = K') : OpR X (compareOp .In) (rIn K' false) := by
  subst h
  exact op_in_seq
theorem ixL {X : Cx} {K' : PySem.W.Frag} (h : X.K = K') : IxR X (rIxL K') := by
  subst h
  exact ix_list
end Tr

/-! ## Pure code over nested tuples: what an expression, a statement is worth, whatever the heap -/
namespace Pu
open PySem L2 Tr PyProof.Rows
theorem same_refl (H : Hp) : Same H H := fun _ _ h => h
/-- the slots hold these data -/
abbrev Rho := List (Option PyData)
def En (K : PySem.W.Frag) (H : Hp) (σ : L2.St) (ρ : List (Option PyData)) : Prop := σ.length = ρ.length ∧ ∀ (i : Nat) (d : PyData), ρ[i]? = some (some d) → ∃ v, σ[i]? = some (some v) ∧ Tv K H d v

def DE (K : PySem.W.Frag) (te : TE) (ρ : Rho) (d : PyData) : Prop := ∀ σ H (Q : VK), En K H σ ρ → (∀ v H2, Same H H2 → Tv K H2 d v → Q v H2) → te σ H Q
def DA (K : PySem.W.Frag) (ta : TA) (ρ : Rho) (ds : List PyData) : Prop := ∀ σ H (Q : List V → Hp → Prop), En K H σ ρ → (∀ vs H2, Same H H2 → TvL K H2 ds vs → Q vs H2) → ta σ H Q
def DT (K : PySem.W.Frag) (tt : TT) (ρ : Rho) (b : Bool) : Prop := ∀ σ H (Q : Bool → Hp → Prop), En K H σ ρ → (∀ H2, Same H H2 → Q b H2) → tt σ H Q
def DO (K : PySem.W.Frag) (to : TO) (ρ : Rho) (o : Option Int) : Prop := ∀ σ H (Q : Option Int → Hp → Prop), En K H σ ρ → (∀ H2, Same H H2 → Q o H2) → to σ H Q
/-- a block that returns; one that goes on -/
def DR (K : PySem.W.Frag) (ts : TS) (ρ : Rho) (d : PyData) : Prop := ∀ (D : Ends) σ H, En K H σ ρ → (∀ v H2, Same H H2 → Tv K H2 d v → D.rt v H2) → ts D σ H
def DN (K : PySem.W.Frag) (ts : TS) (ρ ρ' : Rho) : Prop := ∀ (D : Ends) σ H, En K H σ ρ → (∀ σ' H2, Same H H2 → En K H2 σ' ρ' → D.nx σ' H2) → ts D σ H
/-- what a call of a def with this promise is worth -/
def PV (K : PySem.W.Frag) (sp : Sp) (ds : List PyData) (d : PyData) : Prop := ∀ vs H (Q : VK) (E : XK), TvL K H ds vs → (∀ v H2, Same H H2 → Tv K H2 d v → Q v H2) → sp vs H Q E
theorem le_ble {a b : Nat} (h : Nat.ble a b = true) : a ≤ b := Nat.le_of_ble_eq_true h
section
variable {K : PySem.W.Frag} {H H' : Hp} {σ : L2.St} {ρ ρ' ρ2 : Rho} {te ta tb : TE} {tl tr : TA} {t u : TT} {x y d e : PyData} {ds es : List PyData} {b c : Bool} {ts tu tz : TS}
theorem En.next (h : En K H σ ρ) (s : Same H H') : En K H' σ ρ := ⟨h.1, fun i d q => by
  obtain ⟨v, h1, h2⟩ := h.2 i d q
  exact ⟨v, h1, h2.carry (same_carry s)⟩⟩
theorem En.put {i : Nat} {v : V} (h : En K H σ ρ) (hv : Tv K H d v) : En K H (σ.set i (some v)) (ρ.set i (some d)) := ⟨by rw [List.length_set, List.length_set]; exact h.1, fun j e q => by
  rw [List.getElem?_set] at q
  rw [List.getElem?_set]
  by_cases c : i = j
  · rw [if_pos c] at q ⊢
    by_cases c2 : i < ρ.length
    · rw [if_pos c2] at q
      cases q
      rw [if_pos (by rw [h.1]; exact c2)]
      exact ⟨v, rfl, hv⟩
    · rw [if_neg c2] at q
      cases q
  · rw [if_neg c] at q ⊢
    exact h.2 j e q⟩
theorem same_put {p : Addr} {o : HO} (h : H p = none) : Same H (upd H p o) := fun b u e => by rw [upd_ne (ne_of_none e h)]; exact e
theorem tvl_len : ∀ {ds : List PyData} {xs : List V}, TvL K H ds xs → xs.length = ds.length
  | [], _, h => by subst h; rfl
  | d :: ds, _, h => by
    obtain ⟨x, xs, rfl, _, l⟩ := h
    rw [List.length_cons, List.length_cons, tvl_len l]
theorem tvl_get : ∀ {ds : List PyData} {xs : List V} {j : Nat} {d : PyData}, TvL K H ds xs → ds[j]? = some d → ∃ x, xs[j]? = some x ∧ Tv K H d x
  | [], _, _, _, _, e => by simp at e
  | d :: ds, _, 0, _, h, e => by
    obtain ⟨x, xs, rfl, t, l⟩ := h
    simp at e
    subst e
    exact ⟨x, rfl, t⟩
  | d :: ds, _, j + 1, e', h, e => by
    obtain ⟨x, xs, rfl, t, l⟩ := h
    obtain ⟨y, h1, h2⟩ := tvl_get (j := j) l (by simpa using e)
    exact ⟨y, by simpa using h1, h2⟩
theorem tvl_drop : ∀ {ds : List PyData} {xs : List V} (n : Nat), TvL K H ds xs → TvL K H (ds.drop n) (xs.drop n)
  | _, _, 0, h => h
  | [], _, n + 1, h => by subst h; rfl
  | d :: ds, _, n + 1, h => by
    obtain ⟨x, xs, rfl, _, l⟩ := h
    exact tvl_drop n l
theorem tvl_take : ∀ {ds : List PyData} {xs : List V} (n : Nat), TvL K H ds xs → TvL K H (ds.take n) (xs.take n)
  | _, _, 0, h => rfl
  | [], _, n + 1, h => by subst h; rfl
  | d :: ds, _, n + 1, h => by
    obtain ⟨x, xs, rfl, t, l⟩ := h
    exact ⟨x, _, rfl, t, tvl_take n l⟩
theorem tvl_app : ∀ {ds es : List PyData} {xs ys : List V}, TvL K H ds xs → TvL K H es ys → TvL K H (ds ++ es) (xs ++ ys)
  | [], _, _, _, h, g => by subst h; exact g
  | d :: ds, _, _, _, h, g => by
    obtain ⟨x, xs, rfl, t, l⟩ := h
    exact ⟨x, _, rfl, t, tvl_app l g⟩
theorem tvl_atI {xs : List V} {i : Int} (l : TvL K H ds xs) (h : atI ds i = some d) : ∃ x, atI xs i = some x ∧ Tv K H d x := by
  unfold atI at h ⊢
  rw [tvl_len l]
  cases e : ixN ds.length i with
  | none => rw [e] at h; cases h
  | some j => rw [e] at h; exact tvl_get l h
/-! ### expressions -/
theorem de_var {i : Nat} (h : ρ[i]? = some (some d)) : DE K (tVar i) ρ d := fun σ H Q en q => by
  obtain ⟨v, h1, h2⟩ := en.2 i d h
  exact ⟨v, h1, q v H (same_refl H) h2⟩
theorem de_int {i : Int} : DE K (tC (.int i)) ρ (.int i) := fun σ H Q en q => q _ H (same_refl H) rfl
theorem de_str {z : Str} : DE K (tC (.str z)) ρ (.str z) := fun σ H Q en q => q _ H (same_refl H) rfl
theorem de_bl : DE K (tC (.bl b)) ρ (.bool b) := fun σ H Q en q => q _ H (same_refl H) rfl
theorem de_non : DE K (tC .non) ρ .none := fun σ H Q en q => q _ H (same_refl H) rfl
theorem da_nil : DA K tNil ρ [] := fun σ H Q en q => q _ H (same_refl H) rfl
theorem da_cons (h : DE K ta ρ d) (hr : DA K tr ρ ds) : DA K (tCons ta tr) ρ (d :: ds) := fun σ H Q en q =>
  h σ H _ en fun v H1 s1 tv => hr σ H1 _ (en.next s1) fun vs H2 s2 tl => q _ H2 (s1.trans s2) ⟨v, vs, rfl, tv.carry (same_carry s2), tl⟩
theorem da_one (h : DE K ta ρ d) : DA K (tCons ta tNil) ρ [d] := da_cons h da_nil
theorem de_tup (h : DA K tl ρ ds) (hl : ds.length ≤ 1000 := by decide) : DE K (tTup tl) ρ (.tuple ds) := fun σ H Q en q =>
  h σ H _ en fun vs H1 s1 tv => ⟨by rw [tvl_len tv]; exact Nat.le_of_lt (small1000 hl), fun p hp => q _ _ (s1.trans (same_put hp)) ⟨p, vs, rfl, SqT.of upd_same, TvL.carry (carry_new hp) _ _ tv⟩⟩
theorem de_ix {i : Int} (ha : DE K ta ρ (.tuple ds)) (hb : DE K tb ρ (.int i)) (h : atI ds i = some d := by rfl) : DE K (tOp (rIxT K) ta tb) ρ d := fun σ H Q en q =>
  ha σ H _ en fun v H1 s1 tv => hb σ H1 _ (en.next s1) fun w H2 s2 tw => by
    obtain ⟨a, xs, rfl, sq, l⟩ := tv.carry (same_carry s2)
    obtain ⟨x, hx, tx⟩ := tvl_atI l h
    have e : w = .int i := tw
    subst e
    exact ⟨a, xs, i, x, rfl, rfl, sq, hx, q x H2 (s1.trans s2) tx⟩
theorem de_cat {fs : List PyData} (ha : DE K ta ρ (.tuple ds)) (hb : DE K tb ρ (.tuple es)) (he : ds ++ es = fs := by rfl) (hl : ds.length + es.length ≤ 1000 := by decide) : DE K (tOp (rCatA K) ta tb) ρ (.tuple fs) := by
  subst he
  exact fun σ H Q en q => ha σ H _ en fun v H1 s1 tv => hb σ H1 _ (en.next s1) fun w H2 s2 tw => by
    obtain ⟨a, xs, rfl, sq, l⟩ := tv.carry (same_carry s2)
    obtain ⟨a2, ys, rfl, sq2, l2⟩ := tw
    refine ⟨a, a2, xs, ys, rfl, rfl, sq, sq2, by rw [tvl_len l, tvl_len l2]; exact Nat.le_of_lt (small1000 hl), fun z => ?_, fun z1 z2 => ?_, fun z1 z2 p hp => ?_⟩
    · refine q _ H2 (s1.trans s2) ⟨a2, ys, rfl, sq2, ?_⟩
      subst z
      have e : ds = [] := by
        have := tvl_len l
        cases ds with
        | nil => rfl
        | cons d r => simp at this
      rw [e]
      exact l2
    · refine q _ H2 (s1.trans s2) ⟨a, xs, rfl, sq, ?_⟩
      subst z2
      have e : es = [] := by
        have := tvl_len l2
        cases es with
        | nil => rfl
        | cons d r => simp at this
      rw [e, List.append_nil]
      exact l
    · exact q _ _ ((s1.trans s2).trans (same_put hp)) ⟨p, _, rfl, SqT.of upd_same, TvL.carry (carry_new hp) _ _ (tvl_app l l2)⟩
theorem do_none : DO K tNoPart ρ none := fun σ H Q en q => q H (same_refl H)
theorem do_some {i : Int} (h : DE K te ρ (.int i)) : DO K (tPart te) ρ (some i) := fun σ H Q en q => h σ H _ en fun v H1 s1 tv => ⟨i, tv, q H1 s1⟩
/-- t[lo:hi] of data -/
def cutD (ds : List PyData) (lo hi : Option Int) : List PyData := (ds.drop (HT.sIx ds.length 0 lo)).take (HT.sIx ds.length ds.length hi - HT.sIx ds.length 0 lo)
theorem de_sl {t1 t2 : TO} {lo hi : Option Int} (h : DE K te ρ (.tuple ds)) (h1 : DO K t1 ρ lo) (h2 : DO K t2 ρ hi) (he : cutD ds lo hi = es := by rfl) : DE K (tSl (rSlA K) te t1 t2) ρ (.tuple es) := fun σ H Q en q =>
  h σ H _ en fun v H1 s1 tv => h1 σ H1 _ (en.next s1) fun H2 s2 => h2 σ H2 _ (en.next (s1.trans s2)) fun H3 s3 => by
    obtain ⟨a, xs, rfl, sq, l⟩ := tv.carry (same_carry (s2.trans s3))
    have e := tvl_len l
    refine ⟨a, xs, rfl, sq, fun z => ?_, fun z p hp => ?_⟩
    · refine q _ H3 ((s1.trans s2).trans s3) ⟨a, xs, rfl, sq, ?_⟩
      rw [← he]
      unfold cutD
      rw [← e, z.1, z.2, List.drop_zero, Nat.sub_zero, e, List.take_length]
      exact l
    · refine q _ _ (((s1.trans s2).trans s3).trans (same_put hp)) ⟨p, _, rfl, SqT.of upd_same, TvL.carry (carry_new hp) _ _ ?_⟩
      rw [← he]
      unfold cutD cutV
      rw [← e]
      exact tvl_take _ (tvl_drop _ l)
/-! ### equality of texts, whole numbers; is None; in a tuple of texts -/
theorem de_eqS {p q : Str} (ha : DE K ta ρ (.str p)) (hb : DE K tb ρ (.str q)) (h : decide (p = q) = b := by first | rfl | decide) : DE K (tOp rEq ta tb) ρ (.bool b) := fun σ H Q en k =>
  ha σ H _ en fun v H1 s1 tv => hb σ H1 _ (en.next s1) fun w H2 s2 tw => by
    have e1 : v = .str p := tv
    have e2 : w = .str q := tw
    subst e1 e2
    refine ⟨rfl, k _ H2 (s1.trans s2) ?_⟩
    show V.bl (decide (V.str p = V.str q)) = .bl b
    rw [← h]
    congr 1
    simp
theorem de_neS {p q : Str} (ha : DE K ta ρ (.str p)) (hb : DE K tb ρ (.str q)) (h : (!decide (p = q)) = b := by first | rfl | decide) : DE K (tOp rNe ta tb) ρ (.bool b) := fun σ H Q en k =>
  ha σ H _ en fun v H1 s1 tv => hb σ H1 _ (en.next s1) fun w H2 s2 tw => by
    have e1 : v = .str p := tv
    have e2 : w = .str q := tw
    subst e1 e2
    refine ⟨rfl, k _ H2 (s1.trans s2) ?_⟩
    show V.bl (!decide (V.str p = V.str q)) = .bl b
    rw [← h]
    congr 2
    simp
theorem dec_V {i j : Int} : decide (V.int i = V.int j) = decide (i = j) := by simp
theorem de_eqI {i j : Int} (ha : DE K ta ρ (.int i)) (hb : DE K tb ρ (.int j)) : DE K (tOp rEq ta tb) ρ (.bool (decide (i = j))) := fun σ H Q en k =>
  ha σ H _ en fun v H1 s1 tv => hb σ H1 _ (en.next s1) fun w H2 s2 tw => by
    have e1 : v = .int i := tv
    have e2 : w = .int j := tw
    subst e1 e2
    exact ⟨rfl, k _ H2 (s1.trans s2) (by rw [dec_V]; rfl)⟩
def isNo : PyData → Bool
  | .none => true
  | _ => false
theorem isNo_tv {v : V} (h : Tv K H d v) : decide (v = .non) = isNo d := by
  cases d with
  | none => cases h; rfl
  | bool b => cases h; rfl
  | int i => cases h; rfl
  | str s => cases h; rfl
  | tuple ds => obtain ⟨a, xs, rfl, _⟩ := h; rfl
  | list ds => exact False.elim h
  | dict ds => obtain ⟨p, ys, rfl, _⟩ := h; rfl
theorem de_isN {r : R2} (hr : ∀ x H Q, Q (V.bl (decide (x = .non))) H → r x .non H Q) (ha : DE K ta ρ d) (h : isNo d = b := by rfl) : DE K (tOp r ta (tC .non)) ρ (.bool b) := fun σ H Q en k =>
  ha σ H _ en fun v H1 s1 tv => hr _ _ _ (k _ H1 s1 (by rw [isNo_tv tv, h]; rfl))
theorem de_notN {r : R2} (hr : ∀ x H Q, Q (V.bl (!decide (x = .non))) H → r x .non H Q) (ha : DE K ta ρ d) (h : (!isNo d) = b := by rfl) : DE K (tOp r ta (tC .non)) ρ (.bool b) := fun σ H Q en k =>
  ha σ H _ en fun v H1 s1 tv => hr _ _ _ (k _ H1 s1 (by rw [isNo_tv tv, h]; rfl))
def strsOf : List PyData → Option (List Str)
  | [] => some []
  | .str z :: r => (strsOf r).map (z :: ·)
  | _ :: _ => none
theorem strs_tv : ∀ {ds : List PyData} {zs : List Str} {xs : List V}, strsOf ds = some zs → TvL K H ds xs → xs = zs.map V.str
  | [], zs, xs, h, l => by
    simp only [strsOf] at h
    cases h
    exact l
  | d :: r, zs, xs, h, l => by
    obtain ⟨x, ys, rfl, tx, l2⟩ := l
    cases d with
    | str z =>
      simp only [strsOf] at h
      cases e : strsOf r with
      | none => rw [e] at h; cases h
      | some ws =>
        rw [e] at h
        cases h
        rw [List.map_cons, ← strs_tv e l2]
        rw [show x = V.str z from tx]
    | none => simp [strsOf] at h
    | bool b => simp [strsOf] at h
    | int i => simp [strsOf] at h
    | tuple ds => simp [strsOf] at h
    | list ds => simp [strsOf] at h
    | dict ds => simp [strsOf] at h
theorem all_flat (zs : List Str) : (zs.map V.str).all flatV = true := by
  induction zs with
  | nil => rfl
  | cons z r ih => rw [List.map_cons, List.all_cons, ih]; rfl
theorem in_strs (z : Str) (zs : List Str) : inV (.str z) (zs.map V.str) = decide (z ∈ zs) := by
  unfold inV
  rw [List.any_map]
  induction zs with
  | nil => rfl
  | cons y r ih =>
    rw [List.any_cons, ih]
    show (eqV (V.str y) (V.str z) || decide (z ∈ r)) = decide (z ∈ y :: r)
    have e : eqV (V.str y) (V.str z) = decide (z = y) := by
      show decide (y = z) = decide (z = y)
      by_cases c : y = z
      · rw [decide_eq_true c, decide_eq_true c.symm]
      · rw [decide_eq_false c, decide_eq_false (fun q => c q.symm)]
    rw [e, ← Bool.decide_or]
    congr 1
    rw [List.mem_cons]
theorem de_in {z : Str} {zs : List Str} (ha : DE K ta ρ (.str z)) (hb : DE K tb ρ (.tuple ds)) (hs : strsOf ds = some zs := by rfl) (h : decide (z ∈ zs) = b := by first | rfl | decide) : DE K (tOp (rIn K false) ta tb) ρ (.bool b) := fun σ H Q en k =>
  ha σ H _ en fun v H1 s1 tv => hb σ H1 _ (en.next s1) fun w H2 s2 tw => by
    have e1 : v = .str z := tv
    subst e1
    obtain ⟨a, xs, rfl, sq, l⟩ := tw
    have e2 := strs_tv hs l
    subst e2
    refine ⟨a, _, rfl, .inr sq, rfl, all_flat zs, ?_⟩
    rw [in_strs, h]
    exact k _ H2 (s1.trans s2) rfl
/-! ### truth -/
theorem dt_test (h : DE K te ρ (.bool b)) : DT K (tTest te) ρ b := fun σ H Q en q => h σ H _ en fun v H1 s1 tv => ⟨b, tv, q H1 s1⟩
theorem dt_B (h : DE K te ρ (.bool b)) : DT K (tB te) ρ b := fun σ H Q en q => h σ H _ en fun v H1 s1 tv => ⟨b, tv, q H1 s1⟩
theorem dt_not (h : DT K t ρ b) : DT K (tNot t) ρ (!b) := fun σ H Q en q => h σ H _ en fun H1 s1 => q H1 s1
theorem dt_notT (h : DT K t ρ false) : DT K (tNot t) ρ true := dt_not h
theorem dt_notF (h : DT K t ρ true) : DT K (tNot t) ρ false := dt_not h
theorem dt_andT (h : DT K t ρ true) (g : DT K u ρ b) : DT K (tAnd t u) ρ b := fun σ H Q en q => h σ H _ en fun H1 s1 => by
  show u σ H1 Q
  exact g σ H1 _ (en.next s1) fun H2 s2 => q H2 (s1.trans s2)
theorem dt_andF (h : DT K t ρ false) : DT K (tAnd t u) ρ false := fun σ H Q en q => h σ H _ en fun H1 s1 => by
  show Q false H1
  exact q H1 s1
theorem dt_orT (h : DT K t ρ true) : DT K (tOr t u) ρ true := fun σ H Q en q => h σ H _ en fun H1 s1 => by
  show Q true H1
  exact q H1 s1
theorem dt_orF (h : DT K t ρ false) (g : DT K u ρ b) : DT K (tOr t u) ρ b := fun σ H Q en q => h σ H _ en fun H1 s1 => by
  show u σ H1 Q
  exact g σ H1 _ (en.next s1) fun H2 s2 => q H2 (s1.trans s2)
theorem de_not (h : DE K ta ρ (.bool b)) : DE K (tNotV ta) ρ (.bool (!b)) := fun σ H Q en q => h σ H _ en fun v H1 s1 tv => ⟨b, tv, q _ H1 s1 rfl⟩
theorem de_andT (h : DE K ta ρ (.bool true)) (g : DE K tb ρ d) : DE K (tAndV ta tb) ρ d := fun σ H Q en q => h σ H _ en fun v H1 s1 tv => ⟨true, tv, by
  show tb σ H1 Q
  exact g σ H1 _ (en.next s1) fun v2 H2 s2 t2 => q v2 H2 (s1.trans s2) t2⟩
theorem de_andF (h : DE K ta ρ (.bool false)) : DE K (tAndV ta tb) ρ (.bool false) := fun σ H Q en q => h σ H _ en fun v H1 s1 tv => ⟨false, tv, by
  show Q (.bl false) H1
  exact q _ H1 s1 rfl⟩
theorem de_orT (h : DE K ta ρ (.bool true)) : DE K (tOrV ta tb) ρ (.bool true) := fun σ H Q en q => h σ H _ en fun v H1 s1 tv => ⟨true, tv, by
  show Q (.bl true) H1
  exact q _ H1 s1 rfl⟩
theorem de_orF (h : DE K ta ρ (.bool false)) (g : DE K tb ρ d) : DE K (tOrV ta tb) ρ d := fun σ H Q en q => h σ H _ en fun v H1 s1 tv => ⟨false, tv, by
  show tb σ H1 Q
  exact g σ H1 _ (en.next s1) fun v2 H2 s2 t2 => q v2 H2 (s1.trans s2) t2⟩
theorem de_ifT (h : DT K t ρ true) (g : DE K ta ρ d) : DE K (tIf t ta tb) ρ d := fun σ H Q en q => h σ H _ en fun H1 s1 => by
  show ta σ H1 Q
  exact g σ H1 _ (en.next s1) fun v2 H2 s2 t2 => q v2 H2 (s1.trans s2) t2
theorem de_ifF (h : DT K t ρ false) (g : DE K tb ρ d) : DE K (tIf t ta tb) ρ d := fun σ H Q en q => h σ H _ en fun H1 s1 => by
  show tb σ H1 Q
  exact g σ H1 _ (en.next s1) fun v2 H2 s2 t2 => q v2 H2 (s1.trans s2) t2
/-! ### calls -/
theorem de_call {sp : Sp} {E : XK} (h : DA K tl ρ ds) (g : PV K sp ds d) : DE K (tCall sp [] E tl) ρ d := fun σ H Q en q => h σ H _ en fun vs H1 s1 tv => by
  show sp (vs ++ []) H1 Q E
  rw [List.append_nil]
  exact g vs H1 Q E tv fun v H2 s2 t2 => q v H2 (s1.trans s2) t2
/-! ### statements -/
theorem dr_ret (h : DE K te ρ d) : DR K (tRet te) ρ d := fun D σ H en q => h σ H _ en q
theorem dr_seq (h : DN K ts ρ ρ') (g : DR K tu ρ' d) : DR K (tSeq ts tu) ρ d := fun D σ H en q => h { D with nx := tu D } σ H en fun σ' H1 s1 en1 => g D σ' H1 en1 fun v H2 s2 t2 => q v H2 (s1.trans s2) t2
theorem dr_stop (h : DR K ts ρ d) : DR K (tSeq ts tu) ρ d := fun D σ H en q => h { D with nx := tu D } σ H en q
theorem dn_seq (h : DN K ts ρ ρ') (g : DN K tu ρ' ρ2) : DN K (tSeq ts tu) ρ ρ2 := fun D σ H en q => h { D with nx := tu D } σ H en fun σ' H1 s1 en1 => g D σ' H1 en1 fun σ2 H2 s2 t2 => q σ2 H2 (s1.trans s2) t2
theorem dn_next : DN K tNext ρ ρ := fun D σ H en q => q σ H (same_refl H) en
theorem dr_ifT (h : DT K t ρ true) (g : DR K ts ρ d) : DR K (tIfS t ts tu) ρ d := fun D σ H en q => h σ H _ en fun H1 s1 => by
  show ts D σ H1
  exact g D σ H1 (en.next s1) fun v H2 s2 t2 => q v H2 (s1.trans s2) t2
theorem dr_ifF (h : DT K t ρ false) (g : DR K tu ρ d) : DR K (tIfS t ts tu) ρ d := fun D σ H en q => h σ H _ en fun H1 s1 => by
  show tu D σ H1
  exact g D σ H1 (en.next s1) fun v H2 s2 t2 => q v H2 (s1.trans s2) t2
theorem dn_ifT (h : DT K t ρ true) (g : DN K ts ρ ρ') : DN K (tIfS t ts tu) ρ ρ' := fun D σ H en q => h σ H _ en fun H1 s1 => by
  show ts D σ H1
  exact g D σ H1 (en.next s1) fun v H2 s2 t2 => q v H2 (s1.trans s2) t2
theorem dn_ifF (h : DT K t ρ false) (g : DN K tu ρ ρ') : DN K (tIfS t ts tu) ρ ρ' := fun D σ H en q => h σ H _ en fun H1 s1 => by
  show tu D σ H1
  exact g D σ H1 (en.next s1) fun v H2 s2 t2 => q v H2 (s1.trans s2) t2
theorem dn_set {i : Nat} (h : DE K te ρ d) : DN K (tAsg te (gName i)) ρ (ρ.set i (some d)) := fun D σ H en q => h σ H _ en fun v H1 s1 tv => q _ H1 s1 ((en.next s1).put tv)
theorem dn_un2 {i j : Nat} (h : DE K te ρ (.tuple [x, y])) : DN K (tAsg te (gTup K 2 (gCons (gName i) (gCons (gName j) gNil)))) ρ ((ρ.set i (some x)).set j (some y)) := fun D σ H en q => h σ H _ en fun v H1 s1 tv => by
  obtain ⟨a, xs, rfl, sq, v1, r1, rfl, t1, v2, r2, rfl, t2, rfl⟩ := tv
  exact ⟨a, _, rfl, sq, rfl, v1, _, rfl, v2, _, rfl, rfl, q _ H1 s1 (((en.next s1).put t1).put t2)⟩
theorem dn_un3 {i j l : Nat} (h : DE K te ρ (.tuple [x, y, d])) : DN K (tAsg te (gTup K 3 (gCons (gName i) (gCons (gName j) (gCons (gName l) gNil))))) ρ (((ρ.set i (some x)).set j (some y)).set l (some d)) := fun D σ H en q => h σ H _ en fun v H1 s1 tv => by
  obtain ⟨a, xs, rfl, sq, v1, r1, rfl, t1, v2, r2, rfl, t2, v3, r3, rfl, t3, rfl⟩ := tv
  exact ⟨a, _, rfl, sq, rfl, v1, _, rfl, v2, _, rfl, v3, _, rfl, rfl, q _ H1 s1 ((((en.next s1).put t1).put t2).put t3)⟩
theorem dr_set {i : Nat} (h : DE K te ρ d) (g : DR K tu (ρ.set i (some d)) e) : DR K (tSeq (tAsg te (gName i)) tu) ρ e := dr_seq (dn_set h) g
theorem dr_un2 {i j : Nat} (h : DE K te ρ (.tuple [x, y])) (g : DR K tu ((ρ.set i (some x)).set j (some y)) e) : DR K (tSeq (tAsg te (gTup K 2 (gCons (gName i) (gCons (gName j) gNil)))) tu) ρ e := dr_seq (dn_un2 h) g
theorem dr_un3 {i j l : Nat} (h : DE K te ρ (.tuple [x, y, d])) (g : DR K tu (((ρ.set i (some x)).set j (some y)).set l (some d)) e) : DR K (tSeq (tAsg te (gTup K 3 (gCons (gName i) (gCons (gName j) (gCons (gName l) gNil))))) tu) ρ e := dr_seq (dn_un3 h) g
theorem dr_whenF (h : DT K t ρ false) (g : DR K tu ρ d) : DR K (tSeq (tIfS t ts tNext) tu) ρ d := dr_seq (dn_ifF h dn_next) g
theorem dr_whenT (h : DT K t ρ true) (g : DR K ts ρ d) : DR K (tSeq (tIfS t ts tz) tu) ρ d := dr_stop (dr_ifT h g)
end
/-- the promise of a def that hands back data: f of the arguments, where dom holds -/
def spP (K : PySem.W.Frag) (n : Nat) (dom : List PyData → PyData → Prop) : Sp := fun vs H Q _ => ∃ (ds : List PyData) (d : PyData), ds.length = n ∧ TvL K H ds vs ∧ dom ds d ∧ ∀ v H2, Same H H2 → Tv K H2 d v → Q v H2
theorem pv_P {K : PySem.W.Frag} {n : Nat} {dom : List PyData → PyData → Prop} {ds : List PyData} {d : PyData} (h : dom ds d) (hn : ds.length = n := by rfl) : PV K (spP K n dom) ds d := fun vs H Q E tv q => ⟨ds, d, hn, tv, h, q⟩
theorem en_start {K : PySem.W.Frag} {H : Hp} : ∀ {ds : List PyData} {vs : List V} {N : List Str}, TvL K H ds vs → ds.length ≤ N.length → En K H (start N vs) (ds.map some ++ List.replicate (N.length - ds.length) none) := by
  intro ds vs N l hl
  have e := tvl_len l
  refine ⟨?_, fun i d q => ?_⟩
  · show (vs.map some ++ List.replicate (N.length - vs.length) none).length = _
    simp [e]
  · show ∃ v, (vs.map some ++ List.replicate (N.length - vs.length) none)[i]? = some (some v) ∧ Tv K H d v
    rw [List.getElem?_append] at q
    rw [List.getElem?_append, List.length_map]
    rw [List.length_map] at q
    by_cases c : i < ds.length
    · rw [if_pos c, List.getElem?_map] at q
      rw [if_pos (by rw [e]; exact c), List.getElem?_map]
      cases e2 : ds[i]? with
      | none => rw [e2] at q; cases q
      | some d' =>
        rw [e2] at q
        cases q
        obtain ⟨x, h1, h2⟩ := tvl_get l e2
        exact ⟨x, by rw [h1]; rfl, h2⟩
    · rw [if_neg c] at q
      rw [List.getElem?_replicate] at q
      split at q <;> cases q
section
variable {P : Program} {w : World} {K : PySem.W.Frag} {mg : Str → Option Value} {base : Heap}
/-- a def whose body is worth what dom says -/
theorem ok_P {x qual : Str} {st : Stmt} {f : Addr} {fd : FuncData} {N ps : List Str} {k : Nat} {dom : List PyData → PyData → Prop} (F : Fun K x qual st f fd) (S : FnScope N ps (defScope st))
    (hN : ps.length ≤ N.length) 
    (body : ∀ (cdv : Value) (A : Around) (outer : List Env) (s : Shared) (H : Hp) (E : XK), Room k (A.deeper (envOfC qual (defScope st) s.heap.objs.size f cdv)) →
      ∃ t, PSs (cxOf CX0 P w K mg base N qual (defScope st) f cdv A outer s H E).nox (defBody st) t ∧ ∀ ds d, ds.length = ps.length → dom ds d → DR K t (ds.map some ++ List.replicate (N.length - ds.length) none) d) :
    FnOk P w K mg base CX0 (k + 1) f fd ps (spP K ps.length dom) := by
  refine F.ok S (fun vs H Q E h => ?_) (fun cdv A outer s H vs Q E hr h => ?_)
  · obtain ⟨ds, d, hl, tl, _⟩ := h
    rw [tvl_len tl, hl]
  · obtain ⟨ds, d, hl, tl, hd, q⟩ := h
    obtain ⟨t, ht, hb⟩ := body cdv A outer s H E hr
    exact ⟨t, ht, hb ds d hl hd _ _ H (en_start tl (by rw [hl]; exact hN)) q⟩
end
end Pu

/-! ### pure data: isinstance, deep equality -/
namespace Pu
open PySem L2 Tr PyProof.Rows
def tyD : PyData → String
  | .none => "NoneType" | .bool _ => "bool" | .int _ => "int" | .str _ => "str" | .tuple _ => "tuple" | .list _ => "list" | .dict _ => "list"
section
variable {K : PySem.W.Frag} {H H' : Hp} {σ : L2.St} {ρ : Rho} {te ta tb : TE} {tl : TA} {d e : PyData} {ds : List PyData} {b : Bool}
theorem tyx_tup {a : Addr} {xs : List V} (h : SqT K H a xs) : TyX K H (.ref a) (.type "tuple") := by
  rcases h with (h | ⟨o, h⟩) | ⟨o, its, n, h, c, _⟩
  · exact .base (.tup h)
  · exact .fTuple h
  · exact .kTuple h c
theorem tyx_tv {v : V} (h : Tv K H d v) : TyX K H v (.type (tyD d)) := by
  cases d with
  | none => cases h; exact .base .non
  | bool b => cases h; exact .base (.bl b)
  | int i => cases h; exact .base (.int i)
  | str s => cases h; exact .base (.str s)
  | tuple ds => obtain ⟨a, xs, rfl, s, _⟩ := h; exact tyx_tup s
  | list ds => exact False.elim h
  | dict ds => obtain ⟨p, ys, rfl, e⟩ := h; exact .base (.lst e)
theorem de_isi {n : String} (ha : DE K ta ρ d) (h : kitB (tyD d) n = some b := by decide +kernel) : DE K (tCB (rIsi K) (tCons ta (tCons (tC (.ty n)) tNil))) ρ (.bool b) := fun σ H Q en k =>
  ha σ H _ en fun v H1 s1 tv => ⟨v, .ty n, .type (tyD d), .type n, b, rfl, .ty n, tyx_tv tv, kit_ty h, k _ H1 s1 rfl⟩
mutual
theorem dp_tv : ∀ (d : PyData) (v : V), PyData.canLay0 d = true → Tv K H d v → Dp K H v d
  | .none, v, _, h => by cases h; exact .non
  | .bool b, v, _, h => by cases h; exact .bl b
  | .int i, v, _, h => by cases h; exact .int i
  | .str s, v, _, h => by cases h; exact .str s
  | .tuple ds, v, c, h => by
    obtain ⟨a, xs, rfl, s, l⟩ := h
    exact .tup s (dps_tv ds xs c l)
  | .list ds, v, _, h => False.elim h
  | .dict ds, v, c, h => by cases c
theorem dps_tv : ∀ (ds : List PyData) (vs : List V), PyData.canLayAll0 ds = true → TvL K H ds vs → DpAll K H vs ds
  | [], vs, _, h => by cases h; exact .nil
  | d :: ds, vs, c, h => by
    obtain ⟨x, xs, rfl, t, l⟩ := h
    have c' : (PyData.canLay0 d && PyData.canLayAll0 ds) = true := c
    rw [Bool.and_eq_true] at c'
    exact .cons (dp_tv d x c'.1 t) (dps_tv ds xs c'.2 l)
end
/-- shaped data: no dict, texts are texts, of this depth at most -/
def Sh (n : Nat) (d : PyData) : Prop := d.canLay0 = true ∧ d.depth ≤ n
def ShL (n : Nat) (ds : List PyData) : Prop := PyData.canLayAll0 ds = true ∧ PyData.depthAll ds ≤ n
theorem Sh.mono {n m : Nat} (h : Sh n d) (l : n ≤ m) : Sh m d := ⟨h.1, Nat.le_trans h.2 l⟩
theorem sh_nil {n : Nat} : ShL n [] := ⟨rfl, Nat.zero_le _⟩
theorem sh_cons {n : Nat} (h : Sh n d) (g : ShL n ds) : ShL n (d :: ds) := ⟨by show (d.canLay0 && PyData.canLayAll0 ds) = true; rw [h.1, g.1]; rfl, Nat.max_le.mpr ⟨h.2, g.2⟩⟩
theorem sh_tup {n : Nat} (h : ShL n ds) : Sh (n + 1) (.tuple ds) := ⟨h.1, Nat.succ_le_succ h.2⟩
theorem sh_int {n : Nat} {i : Int} : Sh n (.int i) := ⟨rfl, Nat.zero_le _⟩
theorem sh_non {n : Nat} : Sh n .none := ⟨rfl, Nat.zero_le _⟩
theorem sh_bl {n : Nat} : Sh n (.bool b) := ⟨rfl, Nat.zero_le _⟩
theorem sh_str {n : Nat} {s : Str} (h : PyData.strOk s = true) : Sh n (.str s) := ⟨h, Nat.zero_le _⟩
theorem Sh.shaped {n : Nat} (h : Sh n d) (l : n ≤ 64) : SeqAt.shaped d = true := by
  unfold SeqAt.shaped
  rw [h.1, decide_eq_true (Nat.le_trans h.2 l)]
  rfl
/-- two reads of one shaped value are equal -/
theorem same_data {x y : V} {n : Nat} {Q : VK} (hx : Tv K H d x) (hy : Tv K H d y) (h : Sh n d) (l : n ≤ 64) (q : Q (.bl true) H) : rEqD K x y H Q :=
  ⟨d, d, dp_tv d x h.1 hx, dp_tv d y h.1 hy, h.shaped l, h.shaped l, by rw [SeqAt.eqv_refl d h.1]; exact q⟩
theorem same_dataN {x y : V} {n : Nat} {Q : VK} (hx : Tv K H d x) (hy : Tv K H d y) (h : Sh n d) (l : n ≤ 64) (q : Q (.bl false) H) : rNeD K x y H Q :=
  ⟨d, d, dp_tv d x h.1 hx, dp_tv d y h.1 hy, h.shaped l, h.shaped l, by rw [SeqAt.eqv_refl d h.1]; exact q⟩
end
end Pu

/-! ### pure data: whole numbers, lengths, truth -/
namespace Pu
open PySem L2 Tr PyProof.Rows
section
variable {K : PySem.W.Frag} {H H' : Hp} {σ : L2.St} {ρ : Rho} {te ta tb tc : TE} {tl : TA} {t u : TT} {d e : PyData} {ds : List PyData} {b c : Bool} {ts tu : TS}
theorem de_cmpI {p : Int → Int → Bool} {i j : Int} (ha : DE K ta ρ (.int i)) (hb : DE K tb ρ (.int j)) : DE K (tOp (rI0 fun i j => .bl (p i j)) ta tb) ρ (.bool (p i j)) := fun σ H Q en k =>
  ha σ H _ en fun v H1 s1 tv => hb σ H1 _ (en.next s1) fun w H2 s2 tw => ⟨i, j, tv, tw, k _ H2 (s1.trans s2) rfl⟩
theorem de_opI {g : Int → Int → Int} {i j : Int} (ha : DE K ta ρ (.int i)) (hb : DE K tb ρ (.int j)) : DE K (tOp (rI0 fun i j => .int (g i j)) ta tb) ρ (.int (g i j)) := fun σ H Q en k =>
  ha σ H _ en fun v H1 s1 tv => hb σ H1 _ (en.next s1) fun w H2 s2 tw => ⟨i, j, tv, tw, k _ H2 (s1.trans s2) rfl⟩
theorem de_chain {p q : Int → Int → Bool} {i j l : Int} (ha : DE K ta ρ (.int i)) (hb : DE K tb ρ (.int j)) (hc : DE K tc ρ (.int l)) :
    DE K (tChain (rI0 fun i j => .bl (p i j)) (rI0 fun i j => .bl (q i j)) ta tb tc) ρ (.bool (p i j && q j l)) := fun σ H Q en k =>
  ha σ H _ en fun v H1 s1 tv => hb σ H1 _ (en.next s1) fun w H2 s2 tw => ⟨i, j, tv, tw, p i j, rfl, by
    cases hp : p i j with
    | true =>
      show tc σ H2 _
      exact hc σ H2 _ (en.next (s1.trans s2)) fun z H3 s3 tz => ⟨j, l, tw, tz, k _ H3 ((s1.trans s2).trans s3) (by rw [hp]; rfl)⟩
    | false =>
      show Q (.bl false) H2
      exact k _ H2 (s1.trans s2) (by rw [hp]; rfl)⟩
/-- and, or: the second part where it is asked for -/
theorem de_and {x y : Bool} (h : DE K ta ρ (.bool x)) (g : x = true → DE K tb ρ (.bool y)) : DE K (tAndV ta tb) ρ (.bool (x && y)) := by
  cases x with
  | true => exact de_andT h (g rfl)
  | false => exact de_andF h
theorem de_or {x y : Bool} (h : DE K ta ρ (.bool x)) (g : x = false → DE K tb ρ (.bool y)) : DE K (tOrV ta tb) ρ (.bool (x || y)) := by
  cases x with
  | true => exact de_orT h
  | false => exact de_orF h (g rfl)
theorem dt_and {x y : Bool} (h : DT K t ρ x) (g : x = true → DT K u ρ y) : DT K (tAnd t u) ρ (x && y) := by
  cases x with
  | true => exact dt_andT h (g rfl)
  | false => exact dt_andF h
theorem dt_or {x y : Bool} (h : DT K t ρ x) (g : x = false → DT K u ρ y) : DT K (tOr t u) ρ (x || y) := by
  cases x with
  | true => exact dt_orT h
  | false => exact dt_orF h (g rfl)
theorem de_lenT {r : List V → Hp → VK → Prop} (hr : ∀ p ys H (Q : VK), SqT K H p ys → Q (.int ys.length) H → r [.ref p] H Q) (ha : DE K ta ρ (.tuple ds)) : DE K (tCB r (tCons ta tNil)) ρ (.int ds.length) := fun σ H Q en k =>
  ha σ H _ en fun v H1 s1 tv => by
    obtain ⟨a, xs, rfl, sq, l⟩ := tv
    refine hr a xs H1 Q sq ?_
    rw [tvl_len l]
    exact k _ H1 s1 rfl
/-- what a value counts for in a test -/
def truD : PyData → Bool
  | .none => false | .bool b => b | .int i => i != 0 | .str z => z.length != 0 | .tuple ds => ds.length != 0 | _ => false
theorem dt_truT (ha : DE K ta ρ (.tuple ds)) : DT K (fun σ H Q => ta σ H fun x H' => ∃ k, TruV K x H' k ∧ Q k H') ρ (!ds.isEmpty) := fun σ H Q en q =>
  ha σ H _ en fun v H1 s1 tv => by
    obtain ⟨a, xs, rfl, sq, l⟩ := tv
    refine ⟨!xs.isEmpty, .inr (.inl ⟨xs, sq, rfl⟩), ?_⟩
    have e : xs.isEmpty = ds.isEmpty := by
      have := tvl_len l
      cases xs <;> cases ds <;> first | rfl | simp at this
    rw [e]
    exact q H1 s1
theorem dr_when {x : Bool} (h : DT K t ρ x) (g1 : x = true → DR K ts ρ d) (g2 : x = false → DR K tu ρ d) : DR K (tSeq (tIfS t ts tNext) tu) ρ d := by
  cases x with
  | true => exact dr_whenT h (g1 rfl)
  | false => exact dr_whenF h (g2 rfl)
end
section
variable {X : Cx}
theorem ps_dead {st : Stmt} : PS X st (fun _ _ _ => False) := ⟨fun _ _ _ _ _ _ h => h.elim⟩
theorem pss_dead {sts : List Stmt} : PSs X sts (fun _ _ _ => False) := ⟨fun _ _ _ _ _ _ h => h.elim⟩
theorem passE0 {P : Program} {w : World} (h : X.prog = P) (h2 : X.w = w) : Passes (L2.CX P w) X (fun _ _ _ => False) := fun pins σ H s e s' I h => by
  obtain ⟨_, _, _, _, _, _, _, _, _, _, _, _, hE⟩ := h
  exact hE.elim
end
end Pu

/-! ### pure data: equality and membership of flat values -/
namespace Pu
open PySem L2 Tr PyProof.Rows
def flatD : PyData → Bool
  | .none | .bool _ | .int _ | .str _ => true
  | _ => false
def isStr (x : PyData) (q : Str) : Bool :=
  match x with
  | .str z => decide (z = q)
  | _ => false
def inStr (x : PyData) (zs : List Str) : Bool :=
  match x with
  | .str z => decide (z ∈ zs)
  | _ => false
section
variable {K : PySem.W.Frag} {H H' : Hp} {σ : L2.St} {ρ : Rho} {te ta tb tc : TE} {tl : TA} {t u : TT} {d e x : PyData} {ds : List PyData} {b c : Bool} {ts tu : TS}
theorem flat_tv {v : V} (h : Tv K H x v) (f : flatD x = true) (q : Str) : flatV v = true ∧ scal v (.str q) = true ∧ decide (v = V.str q) = isStr x q ∧ ∀ zs : List Str, inV v (zs.map V.str) = inStr x zs := by
  cases x with
  | none =>
    cases h
    refine ⟨rfl, rfl, rfl, fun zs => ?_⟩
    induction zs with
    | nil => rfl
    | cons z r ih => exact ih
  | bool b =>
    cases h
    refine ⟨rfl, rfl, rfl, fun zs => ?_⟩
    induction zs with
    | nil => rfl
    | cons z r ih => exact ih
  | int i =>
    cases h
    refine ⟨rfl, rfl, rfl, fun zs => ?_⟩
    induction zs with
    | nil => rfl
    | cons z r ih => exact ih
  | str s =>
    cases h
    refine ⟨rfl, rfl, ?_, fun zs => in_strs s zs⟩
    show decide (V.str s = V.str q) = decide (s = q)
    simp
  | tuple l => cases f
  | list l => cases f
  | dict l => cases f
theorem de_of (h : d = e) (g : DE K te ρ d) : DE K te ρ e := h ▸ g
theorem de_neI {i j : Int} (ha : DE K ta ρ (.int i)) (hb : DE K tb ρ (.int j)) : DE K (tOp rNe ta tb) ρ (.bool (!decide (i = j))) := fun σ H Q en k =>
  ha σ H _ en fun v H1 s1 tv => hb σ H1 _ (en.next s1) fun w H2 s2 tw => by
    have e1 : v = .int i := tv
    have e2 : w = .int j := tw
    subst e1 e2
    exact ⟨rfl, k _ H2 (s1.trans s2) (by rw [dec_V]; rfl)⟩
theorem de_eqX {q : Str} (ha : DE K ta ρ x) (hb : DE K tb ρ (.str q)) (f : flatD x = true) : DE K (tOp rEq ta tb) ρ (.bool (isStr x q)) := fun σ H Q en k =>
  ha σ H _ en fun v H1 s1 tv => hb σ H1 _ (en.next s1) fun w H2 s2 tw => by
    have e2 : w = .str q := tw
    subst e2
    obtain ⟨_, h2, h3, _⟩ := flat_tv (tv.carry (same_carry s2)) f q
    refine ⟨h2, k _ H2 (s1.trans s2) ?_⟩
    rw [h3]
    rfl
theorem de_inX {zs : List Str} (ha : DE K ta ρ x) (hb : DE K tb ρ (.tuple ds)) (hs : strsOf ds = some zs) (f : flatD x = true) : DE K (tOp (rIn K false) ta tb) ρ (.bool (inStr x zs)) := fun σ H Q en k =>
  ha σ H _ en fun v H1 s1 tv => hb σ H1 _ (en.next s1) fun w H2 s2 tw => by
    obtain ⟨a, xs, rfl, sq, l⟩ := tw
    have e2 := strs_tv hs l
    subst e2
    obtain ⟨h1, _, _, h4⟩ := flat_tv (tv.carry (same_carry s2)) f ""
    refine ⟨a, _, rfl, .inr sq, h1, all_flat zs, ?_⟩
    show Q (.bl (inV v (zs.map V.str))) H2
    rw [h4]
    exact k _ H2 (s1.trans s2) rfl
theorem de_ninX {zs : List Str} (ha : DE K ta ρ x) (hb : DE K tb ρ (.tuple ds)) (hs : strsOf ds = some zs) (f : flatD x = true) : DE K (tOp (rIn K true) ta tb) ρ (.bool (!inStr x zs)) := fun σ H Q en k =>
  ha σ H _ en fun v H1 s1 tv => hb σ H1 _ (en.next s1) fun w H2 s2 tw => by
    obtain ⟨a, xs, rfl, sq, l⟩ := tw
    have e2 := strs_tv hs l
    subst e2
    obtain ⟨h1, _, _, h4⟩ := flat_tv (tv.carry (same_carry s2)) f ""
    refine ⟨a, _, rfl, .inr sq, h1, all_flat zs, ?_⟩
    show Q (.bl (!inV v (zs.map V.str))) H2
    rw [h4]
    exact k _ H2 (s1.trans s2) rfl
end
end Pu

/-! ## enumerate of a tuple -/
namespace Et
open PySem PySem.Spec PyProof.Rows L2
set_option maxHeartbeats 1000000 in
theorem meets_new1 {v : Value} {o : Obj} {H : Heap → Prop} (B : Begins v o H) :
    Meets (Builtin.«enumerate.__new__» ⟨[.type "enumerate", v], []⟩) (fun _ R s => H s.heap ∧
      R (.ok (.ret (.ref (s.heap.push o).objs.size))) { s with heap := (s.heap.push o).push { cls := .type "enumerate", data := .fields #[.none, .bool false, .ref s.heap.objs.size, rawInt 0, .none, .none] } }) :=
  .of_wp fun prog w A R s h => by
    obtain ⟨hp, g, d, tk, os⟩ := s; obtain ⟨h1, h⟩ := h
    have hsub := sub_enumerate
    have q1 : ∀ {A' : Around} {E : Value → Shared → Prop} {Q : Value → Shared → Prop}, Q (.ref hp.objs.size) ⟨hp.push o, g, d, tk, os⟩ → wpAny (model prog w) A' (pyIter v) Q E ⟨hp, g, d, tk, os⟩ :=
      fun q => B.iter prog w _ _ ⟨hp, g, d, tk, os⟩ _ h1 q
    wp_walk using q1
    refine wpAny_stack_any fun st => wpAny_pure ?_
    split
    · rename_i c _ _ _ _ _
      cases (c == Value.type "enumerate")
      · wp_walk using q1
        exact ⟨_, rfl, h⟩
      · wp_walk using q1
        exact ⟨_, rfl, h⟩
    · wp_walk using q1
      exact ⟨_, rfl, h⟩
section
variable {prog : Program} {w : World} {A : Around} {E : Value → Shared → Prop} {s : Shared}
theorem call_enum1 {v : Value} {o : Obj} {H : Heap → Prop} {Q : Value → Shared → Prop} (B : Begins v o H) (h1 : H s.heap)
    (h : ∀ h', IsEnum h' (s.heap.objs.size + 1) s.heap.objs.size 0 .none → h'.get? s.heap.objs.size = some o → h'.objs.size = s.heap.objs.size + 2 →
      (∀ b o, s.heap.get? b = some o → h'.get? b = some o) → Q (.ref (s.heap.objs.size + 1)) { s with heap := h' }) :
    wpAny (model prog w) A (call (.type "enumerate") [v]) Q E s := by
  refine callType_new F.called_enumerate (by decide) (F.typeCall_enumerate_1 _) (F.newCall_enumerate_1 _) (fun obj => F.args_object_init_2 obj _) F.entry_enumerate_new
    (meets_new1 B) ⟨h1, ?_⟩
  have hz : (s.heap.push o).objs.size = s.heap.objs.size + 1 := Heap.size_push ..
  show _ ∧ _
  rw [hz]
  have he : IsEnum ((s.heap.push o).push { cls := .type "enumerate", data := .fields #[.none, .bool false, .ref s.heap.objs.size, rawInt 0, .none, .none] }) (s.heap.objs.size + 1) s.heap.objs.size 0 .none := by
    have := Heap.get?_push_size (s.heap.push o) (o := { cls := .type "enumerate", data := .fields #[.none, .bool false, .ref s.heap.objs.size, rawInt 0, .none, .none] }) rfl
    rw [hz] at this; exact this
  refine ⟨⟨_, he, rfl⟩, h _ he (Heap.get?_push_of_some _ (Heap.get?_push_size _ B.free)) (by rw [Heap.size_push, hz]) fun b o x => Heap.get?_push_of_some _ (Heap.get?_push_of_some _ x)⟩
theorem draws_tup (hh : A.handled = none) (it l : Addr) (hne : l ≠ it) (items : Array Value) :
    Draws prog w A it [it, l] items.size (fun i v => items[i]? = some v) (fun i h => h.IsTupleIter it l i ∧ h.IsTuple l items) where
  live := fun _ _ x => let ⟨o, ho, _⟩ := x.1; ⟨o, ho⟩
  frame := fun _ _ _ x k => ⟨x.1.at fun o e => k it (List.mem_cons_self ..) o e, x.2.at fun o e => k l (List.mem_cons_of_mem _ (List.mem_cons_self ..)) o e⟩
  item := fun i s Q E hi x k => RZ.nextOf_tuple_item x.1 x.2 (x := items[i]) (by simp [hi]) fun h' y c => k _ h' s.toks (by simp [hi]) ⟨y, x.2.extBut c.extBut hne⟩ c
  done := fun s Q E x k => RZ.nextOf_tuple_end hh x.1 x.2 (by simp) k
end
def Iut (K : PySem.W.Frag) (a : Addr) (xs : List V) : It :=
  ⟨fun i H => SqT K H a xs ∧ i < xs.length, fun i H v H' => ∃ T x, v = .ref T ∧ H T = none ∧ H' = upd H T (.tup [.int (i : Nat), x]) ∧ xs[i]? = some x, fun i H => SqT K H a xs ∧ xs.length ≤ i⟩
theorem tup_is {h : Heap} {a : Addr} {its : Array Value} (t : IsTup h a its) : h.IsTuple a its := let ⟨o, e, c, n, d⟩ := t; ⟨o, e, c, n, d⟩
theorem turn_enumT {P : Program} {w : World} {K : PySem.W.Frag} {elts : List Expr} {kk : Nat} {tpos : Pos} (a e it : Addr) (xs : List V) :
    Turn P w K (.Tuple elts kk tpos) (Iut K a xs) [e, it] e (fun i h => (∃ old, IsEnum h e it ((i : Nat) : Int) old) ∧ h.IsTupleIter it a i ∧ e ≠ it ∧ e ≠ a ∧ a ≠ it ∧ i ≤ xs.length) where
  mem := by simp
  obj := fun i h st b hb => by
    obtain ⟨⟨old, he⟩, ⟨o, ho, hc, hd⟩, _⟩ := st
    have e' : b = e ∨ b = it := by simpa using hb
    rcases e' with z | z
    · rw [z]; exact ⟨_, he, fun v q => nomatch q⟩
    · rw [z]; exact ⟨o, ho, fun v q => by rw [hd] at q; cases q⟩
  keep := fun i h h' st k => let ⟨⟨old, he⟩, hi, r⟩ := st; ⟨⟨old, k e (by simp) _ he⟩, hi.at fun o q => k it (by simp) o q, r⟩
  item := by
    intro X hP hw hK hc i pins s σ H E I hf st hg
    subst hP hw hK
    obtain ⟨⟨old, he⟩, hit, hne, hea, hai, _⟩ := st
    obtain ⟨hq, hlt⟩ := hg
    obtain ⟨its, rv, p, hz⟩ := I.tuple hq
    have hel : e < s.heap.objs.size := Heap.lt_size he
    have hil : it < s.heap.objs.size := by obtain ⟨_, q, _⟩ := hit; exact Heap.lt_size q
    have hn : its.toArray.size = xs.length := by simp [rv.length]
    refine wpAny_pyNext_enum_itemD (D := draws_tup (A := X.A.in1) (I.ok.hd hc) it a hai its.toArray) he ⟨hit, tup_is p⟩ (by omega) hne (by simp [hne, hea]) fun v h' tk hv ho hit' hT hsz hk => ?_
    obtain ⟨x, hx, ru⟩ : ∃ x, xs[i]? = some x ∧ RelV x v := by
      obtain ⟨u, h1, h2⟩ := rv.get (List.getElem?_eq_getElem hlt)
      have : u = v := by
        have hv' : its[i]? = some v := by simpa using hv
        rw [h1] at hv'
        exact Option.some.inj hv'
      subst this
      exact ⟨_, List.getElem?_eq_getElem hlt, h2⟩
    refine ⟨_, rfl, wpAny_letOwnedTupleGo_enum (s := { s with heap := h', toks := tk + 1 }) ho fun h'' he' sb => ?_⟩
    have hT2 : h''.get? s.heap.objs.size = some { cls := .type "tuple", data := .seq #[.int i tk, v] } := (sb.2 _ (Nat.ne_of_gt hel)).trans hT
    have new : ObjOk X.prog X.w (upd H s.heap.objs.size (.tup [.int (i : Nat), x])) h'' s.heap.objs.size (.tup [.int (i : Nat), x]) :=
      ⟨by show 2 ≤ sizeLine; decide, [.int i tk, v], .cons ⟨_, rfl⟩ (.cons ru .nil), ⟨_, hT2, rfl, _, rfl⟩⟩
    have I1 : Inv X pins σ (upd H s.heap.objs.size (.tup [.int (i : Nat), x])) { s with heap := h'', toks := tk + 1 } :=
      I.turnedNew (ch := [e, it]) (fun b ob hb q => (sb.2 b (fun z => hb (by simp [z]))).trans (hk b ob (fun z => hb (by simp [z])) (fun z => hb (by simp [z])) q)) hf (Nat.le_refl _) new
    refine ⟨.ref s.heap.objs.size, _, I1, rfl, ⟨_, x, rfl, I.hok.fresh (Nat.le_refl _), rfl, hx⟩, ⟨⟨v, ?_⟩, hit'.1.at fun o q => (sb.2 it (Ne.symm hne)).trans q, hne, hea, hai, hlt⟩, fun b hb => ?_⟩
    · have e1 : ((i + 1 : Nat) : Int) = (i : Int) + 1 := by omega
      rw [e1]; exact he'
    · have hb' : b < s.heap.objs.size := by
        have e' : b = e ∨ b = it := by simpa using hb
        rcases e' with z | z
        · rw [z]; exact hel
        · rw [z]; exact hil
      rw [upd_ne (Nat.ne_of_lt hb')]
      exact (hf b hb).1
  done := by
    intro X hP hw hK hc i pins s σ H E I hf st hg
    subst hP hw hK
    obtain ⟨⟨old, he⟩, hit, hne, hea, hai, hi⟩ := st
    obtain ⟨hq, hle⟩ := hg
    obtain ⟨its, rv, p, hz⟩ := I.tuple hq
    have hn : its.toArray.size = xs.length := by simp [rv.length]
    have ei : i = its.toArray.size := by omega
    obtain ⟨f0, f1, f2, f3, f4, f5⟩ := hf it (by simp)
    rw [ei] at hit he
    exact wpAny_pyNext_enum_endD (D := draws_tup (A := X.A.in1) (I.ok.hd hc) it a hai its.toArray) he ⟨hit, tup_is p⟩ fun h' eb => ⟨rfl, I.turned (t' := s.toks) (fun b o hb q => eb b o hb q) f0 f1 f3 f4 f5⟩
  self := fun A i s Q E st h => let ⟨⟨_, he⟩, _⟩ := st; wpAny_pyIter_enum he h
def iEnumT (K : PySem.W.Frag) (ta : TA) : TI := fun σ H R => ta σ H fun vs H1 => ∃ a xs, vs = [.ref a] ∧ SqT K H1 a xs ∧ R (Iut K a xs) H1
theorem pi_enumT {X : Cx} {e : Expr} {ta : TA} {p pos tpos : Pos} {elts : List Expr} {kk : Nat} (hg : Gl X "enumerate") (hm : X.mg "enumerate" = none) (ha : PA X [e] ta) (hs : starEach [e] X.env = [(false, eval e X.env)] := by rfl) :
    PI X (.Tuple elts kk tpos) (.Call (.Name "enumerate" p) [e] [] pos) (iEnumT X.K ta) := by
  refine ⟨fun pins s σ H R I h => ?_⟩
  refine Call_ (ld_blt I hg hm boot_enumerate (PyProof.Rows.callWith_type1 (thn (ha.run pos pins s σ H _ I h) fun us s1 ⟨vs, H1, I1, r1, q1⟩ => ?_) hs rfl))
  obtain ⟨a, xs, ex, hq, q⟩ := q1
  subst ex
  cases r1 with
  | cons r rr =>
    cases rr
    cases r
    obtain ⟨its, rv, p', hz⟩ := I1.tuple hq
    have la : a < s1.heap.objs.size := by obtain ⟨o, e, _⟩ := p'; exact Heap.lt_size e
    refine call_enum1 (begins_tuple a its.toArray) (tup_is p') fun h' he hit hsz hk => wpAny_pyIter_enum he ?_
    have I2 : Inv X pins σ H1 { s1 with heap := h' } := I1.kept (t' := s1.toks) hk
    refine ⟨s1.heap.objs.size + 1, [s1.heap.objs.size + 1, s1.heap.objs.size], _, _, H1, rfl, I2, turn_enumT a (s1.heap.objs.size + 1) s1.heap.objs.size xs, ⟨⟨.none, he⟩, ⟨_, hit, rfl, rfl⟩, Nat.succ_ne_self _, Nat.ne_of_gt (Nat.lt_succ_of_lt la), Nat.ne_of_lt la, Nat.zero_le _⟩, fun b hb => ?_, q⟩
    have e' : b = s1.heap.objs.size + 1 ∨ b = s1.heap.objs.size := by simpa using hb
    have hle : s1.heap.objs.size ≤ b := by
      rcases e' with z | z
      · rw [z]; exact Nat.le_add_right _ _
      · rw [z]; exact Nat.le_refl _
    exact I1.fpOk hle (I1.hok.fresh hle)
/-- a loop over the places and items of a tuple -/
theorem for_enumT {K : PySem.W.Frag} {a : Addr} {xs : List V} {g : TG} {tb : TS} {D : Ends} {σ : L2.St} {H : Hp} (Pv : Nat → L2.St → Hp → Prop) (h0 : Pv 0 σ H) (hl : ∀ i σ H, i ≤ xs.length → Pv i σ H → SqT K H a xs)
    (hb : ∀ (i : Nat) (x : V) (σ : L2.St) (H : Hp) (T : Addr), xs[i]? = some x → H T = none → Pv i σ H → g (.ref T) σ (upd H T (.tup [.int (i : Nat), x])) fun σ2 H2 => tb { D with nx := Pv (i + 1), ct := Pv (i + 1), bk := D.nx } σ2 H2)
    (hd : ∀ σ H, Pv xs.length σ H → D.nx σ H) :
    ∃ W : Nat → Nat → L2.St → Hp → Prop, (∃ m, W 0 m σ H) ∧ ∀ i m σ H, W i m σ H →
      ((Iut K a xs).stop i H ∧ D.nx σ H) ∨ ((Iut K a xs).go i H ∧ ∃ N : L2.St → Hp → Prop, (∀ σ' H', N σ' H' → ∃ m', m' < m ∧ W (i + 1) m' σ' H') ∧ ∀ v H', (Iut K a xs).yld i H v H' → g v σ H' fun σ2 H2 => tb { D with nx := N, ct := N, bk := D.nx } σ2 H2) := by
  refine ⟨fun i m σ H => m = xs.length - i ∧ i ≤ xs.length ∧ Pv i σ H, ⟨xs.length, by simp, Nat.zero_le _, h0⟩, ?_⟩
  rintro i m σ H ⟨rfl, hi, p⟩
  by_cases hlt : i < xs.length
  · refine .inr ⟨⟨hl i σ H hi p, hlt⟩, Pv (i + 1), fun σ' H' p' => ⟨xs.length - (i + 1), by omega, rfl, hlt, p'⟩, fun v H' y => ?_⟩
    obtain ⟨T, x, rfl, hT, rfl, hx⟩ := y
    exact hb i x σ H T hx hT p
  · have e : i = xs.length := by omega
    subst e
    exact .inl ⟨⟨hl _ σ H hi p, Nat.le_refl _⟩, hd σ H p⟩
end Et

/-! ## An own error's __init__ that begins with super().__init__(..), as a def of the hand layer -/
namespace Su
open PySem PySem.Spec PyProof.Rows L2
section
variable {P : Program} {w : World} {K : PySem.W.Frag} {mg : Str → Option Value} {base : Heap}
/-- the written part's word on the class at C, whose __init__ at f closes over the cell cc; its code at cda -/
structure Sup (P : Program) (K : PySem.W.Frag) (C cc cda : Addr) : Prop where
  ex : OexC K C
  up : PySem.W.ks_superIn K C C "__init__" = some (some (.builtin "ValueError.__init__"))
  noAny : PySem.W.nsIn K cStatics "thirdparty.any" = some none
  isV : PySem.W.subIn K (.ref C) (.type "ValueError") = some true
  cell : ∃ (cl : Value) (cld : Option Addr) (csl : Array (Option Value)), K.lookup cc = some ⟨cl, cld, .cell (some (.ref C)), csl⟩
  own : PySem.W.mroIn K C (.ref C) = some true
  plain : PySem.W.nsIn K mainGlobals "super" = some none
  code : ∃ (ccl : Value) (cdd : Option Addr) (vs : Array Value) (ccs : Array (Option Value)) (file : Str) (tf : Tok), K.lookup cda = some ⟨ccl, cdd, .fields vs, ccs⟩ ∧ vs[2]? = some (.str file tf) ∧ ((P.main.file : Str) == file) = true
  top : (P.main.scope.names.lookup ("super" : Str)).isSome = false
structure Scp (ps : List Str) (sc : Scope) : Prop where
  kind : sc.kind = .function
  co : sc.isCoroutine = false
  gen : sc.isGenerator = false
  nd : ps.Nodup
  par : ∀ x ∈ ps, sc.names.lookup x = some .local
  free : ∀ y ∈ sc.names, y.2 = .free → y.1 = "__class__"
  nocell : ∀ y ∈ sc.names, y.2 ≠ .cell
  sup : sc.names.lookup ("super" : Str) = some .globalImplicit
  kc : sc.names.lookup ("__class__" : Str) = some .free
def envS (qual : Str) (scope : Scope) (L f cda cc : Addr) : Env := PySem.W.ksEnv qual scope L f (.ref cda) cc
def cxS (P : Program) (w : World) (K : PySem.W.Frag) (mg : Str → Option Value) (base : Heap) (ps : List Str) (qual : Str) (scope : Scope) (f cda cc : Addr) (A : Around) (outer : List Env) (s : Shared) (H : Hp) : Cx where
  prog := P
  w := w
  K := K
  mg := mg
  base := base
  A := A.deeper (envS qual scope s.heap.objs.size f cda cc)
  N := ps
  s_0 := s
  H_0 := H
  env := envS qual scope s.heap.objs.size f cda cc
  outer := outer
  stack := envS qual scope s.heap.objs.size f cda cc :: outer
  ex := []
  fn := fun x => x != "__class__"
  calm := true
  pn := []
  xe := fun e s' => wpAny (model P w) (A.deeper (envS qual scope s.heap.objs.size f cda cc)) (leaving (envS qual scope s.heap.objs.size f cda cc) e) (fun _ _ => False) (fun _ _ => False) s'
theorem look_zip : ∀ {ps : List Str} {us : List Value} {i : Nat} {x : Str} {u : Value}, ps.Nodup → ps[i]? = some x → us[i]? = some u → (ps.zip us).reverse.lookup x = some u := by
  intro ps us i x u nd hp hu
  have key : ∀ (l : List (Str × Value)), (∀ p ∈ l, p.1 = x → p.2 = u) → (x, u) ∈ l → l.lookup x = some u := by
    intro l
    induction l with
    | nil => intro _ h; cases h
    | cons p l ih =>
      intro h1 h2
      obtain ⟨a, b⟩ := p
      by_cases e : x = a
      · subst e
        have := h1 (x, b) List.mem_cons_self rfl
        simp only at this
        rw [this]
        simp [List.lookup]
      · have e' : (x == a) = false := by simpa using e
        rw [show ((a, b) :: l).lookup x = l.lookup x by simp [List.lookup, e']]
        refine ih (fun p hp' => h1 p (List.mem_cons_of_mem _ hp')) ?_
        rcases List.mem_cons.mp h2 with z | z
        · cases z
          exact absurd rfl e
        · exact z
  refine key _ (fun p hp' hx => ?_) ?_
  · have hm := List.mem_reverse.mp hp'
    obtain ⟨j, hj⟩ := List.getElem?_of_mem hm
    obtain ⟨a, b⟩ := p
    have h1 := List.getElem?_zip_eq_some.mp hj
    simp only at h1 hx
    subst hx
    have hi : i < ps.length := (List.getElem?_eq_some_iff.mp hp).1
    have ij : j = i := by
      exact nodup_ix nd h1.1 hp
    subst ij
    rw [hu] at h1
    exact (Option.some.inj h1.2).symm
  · refine List.mem_reverse.mpr (List.mem_of_getElem? (i := i) ?_)
    exact List.getElem?_zip_eq_some.mpr ⟨hp, hu⟩
theorem inv_sup {ps : List Str} {qual : Str} {scope : Scope} {f cda cc C : Addr} {A : Around} {outer : List Env} {s : Shared} {H : Hp} {h1 : Heap} {us : List Value} {vs : List V} {tk : Nat} (S : Scp ps scope) (T : Sup P K C cc cda) (hd : A.handled = none)
    (e0 : Env0 P w K mg base A outer s H) (hl : vs.length = ps.length) (r : Vals vs us) (hns : h1.Ns s.heap.objs.size (fun x => (ps.zip us).reverse.lookup x)) (hk : ∀ b o, s.heap.get? b = some o → h1.get? b = some o) :
    Inv (cxS P w K mg base ps qual scope f cda cc A outer s H) [] (vs.map some) H { s with heap := h1, toks := tk } := by
  have none_in : ∀ b : Addr, b ∉ (cxS P w K mg base ps qual scope f cda cc A outer s H).ex := fun b z => by
    have z' : b ∈ ([] : List Addr) := z
    cases z'
  have one : ∀ {x : Str} {c : Addr}, (envS qual scope s.heap.objs.size f cda cc).cells.lookup x = some c → x = "__class__" ∧ c = cc := by
    intro x c h
    have h' : ([("__class__", cc)] : List (Str × Addr)).lookup x = some c := h
    by_cases e : x = "__class__"
    · subst e
      have : (some cc : Option Addr) = some c := by simpa [List.lookup] using h'
      exact ⟨rfl, (Option.some.inj this).symm⟩
    · have e' : (x == ("__class__" : Str)) = false := by simpa using e
      rw [show ([("__class__", cc)] : List (Str × Addr)).lookup x = none by simp [List.lookup, e']] at h'
      cases h'
  obtain ⟨cl, cld, csl, lcc⟩ := T.cell
  have kcc := e0.mod.kin cc _ lcc
  have hcc := e0.bs cc _ kcc
  have ltc : cc < s.heap.objs.size := Heap.lt_size hcc.1
  refine { ok := ?_, os := rfl, bare := e0.bare, base := Un.kept hk, loc := ⟨_, hns, fun i x v a b c => ?_⟩, cell := fun x c h => ?_, free := e0.hok.fresh (Nat.le_refl _), freeC := fun x c h => ?_, pin := fun p hp => ?_, hok := e0.hok.kept hk, len := ?_ }
  · refine { mod := e0.mod, kind := S.kind, glob := rfl, blt := rfl, above := Nat.le_refl _, inj := fun x y c a b => ?_, has := fun x h => ?_, cab := fun x c a b => ?_, hd := fun _ => hd, frames := Around.frames_deeper e0.frames, stk := .inr ⟨rfl, rfl⟩, exf := fun b z => absurd z (none_in b), bs := e0.bs, bsz := e0.bsz, noex := fun b _ _ => none_in b, exfs := fun b z => absurd z (none_in b), funs := e0.funs, frf := e0.frf }
    · rw [(one a).1, (one b).1]
    · have h' : scope.names.lookup x = some .cell ∨ scope.names.lookup x = some .free := h
      rcases h' with q | q
      · exact absurd rfl (S.nocell _ (PySem.mem_of_lookup q))
      · have : x = "__class__" := S.free _ (PySem.mem_of_lookup q) rfl
        subst this
        exact ⟨cc, by show ([(("__class__" : Str), cc)] : List (Str × Addr)).lookup ("__class__" : Str) = some cc; simp [List.lookup]⟩
    · have a' : (x != "__class__") = true := a
      rw [(one b).1] at a'
      simp at a'
  · have hi : ps[i]? = some x := a
    rw [List.getElem?_map] at b
    cases q : vs[i]? with
    | none => rw [q] at b; cases b
    | some y =>
      rw [q] at b
      cases b
      obtain ⟨u, hu, rv⟩ := r.get q
      exact ⟨u, rv, .inl ⟨S.par x (List.mem_of_getElem? hi), look_zip S.nd hi hu⟩⟩
  · rw [(one h).2]
    exact ⟨some (.ref C), _, hk _ _ hcc.1, rfl⟩
  · rw [(one h).2]
    exact hcc.2
  · have hp' : p ∈ ([] : List (Addr × Obj)) := hp
    cases hp'
  · rw [List.length_map]
    exact hl
/-- ValueError.__init__ bound to an error that is being made -/
theorem init_bound {X : Cx} {pins : List (Addr × Obj)} {σ : L2.St} {H : Hp} {s : Shared} {a u C : Addr} {us : List Value} {Q : Value → Shared → Prop} {E : Value → Shared → Prop} {A : Around} (T : OexC X.K C) (I : Inv X pins σ H s) (ea : H a = some (exo a C none))
    (hu : s.heap.get? u = some (PySem.W.kxs_mw "ValueError.__init__" a)) (fit : us.length ≤ sizeLine) (q : ∀ s', Inv X pins σ H s' → Q .none s') : wpAny (model X.prog X.w) A (call (.ref u) us) Q E s := by
  obtain ⟨nm, qn, N, bs, bm, sn, sub, ab, col, dd, k0, k1, k2, k3, k5, hC, hbm⟩ := T.cls
  have hC' := I.kIn _ _ hC
  obtain ⟨t1, ho⟩ := exo_at I.hok ea
  obtain ⟨hp, g, d, tk, os⟩ := s
  apply wpAny_call
  apply codeAny_of_tree
  change wpAny _ A.in1 (callAny (.ref u) ⟨us, []⟩) _ _ _
  unfold callAny
  apply wpAny_bind
  refine wpAny_load hu ?_
  have is1 : (Value.type "method-wrapper" == Value.type "method" || (Value.type "method-wrapper" == Value.type "builtin_function_or_method" || Value.type "method-wrapper" == Value.type "method-wrapper")) = true := by decide
  simp only [PySem.W.kxs_mw, Bool.or_assoc, is1, if_true]
  refine PySem.W.KFB.if_so (by decide) ?_
  apply wpAny_bind
  refine PySem.W.check_bound_init F.excBase_ValueError.toExcCallFacts hC' ho rfl ?_
  refine wpAny_bind (wpAny_pure (wpAny_pure ⟨plainId_quiet F.excBase_ValueError.init.plain _, codeAny_builtin F.excBase_ValueError.initEntry ?_⟩))
  refine PySem.W.exc_init_tree (cls := .ref C) (t0 := t1) (dv := none) (c2 := .none) (c3 := .none) (b4 := .bool false) ho fit fun h' k e' _ => ?_
  have J := I.write (t' := tk) (x := a) (e := a) (o := exo a C none) (by rw [ea]; exact True.intro) (.inl rfl) k ⟨_, e'⟩ (exo_ok e')
  have same : upd H a (exo a C none) = H := by
    funext b
    by_cases hb : b = a
    · subst hb
      rw [upd_same, ea]
    · exact upd_ne hb
  rw [same] at J
  exact q _ J
/-- super().__init__(..) and what follows -/
theorem fn_sup {ps : List Str} {name qual : Str} {params : Arguments} {scope : Scope} {f cda cc C : Addr} {k : Nat} {sp : Sp} {oc dV kV doc pm ct : Value} {od an : Option Addr} {osl : Array (Option Value)} {p0 p1 p2 p3 p4 : Pos} {e : Expr} {es : List Expr} {rest : List Stmt} {ar : Arg}
    (look : K.lookup f = some ⟨oc, od, .func (PySem.W.ksFn name qual params (.Expr (.Call (.Attribute (.Call (.Name "super" p0) [] [] p1) "__init__" p2) (e :: es) [] p3) p4 :: rest) scope dV kV doc pm an (.ref cda) ct cc), osl⟩)
    (code : PySem.W.codeIn K (.ref cda) qual = true) (S : Scp ps scope) (T : Sup P K C cc cda) (first : (params.posonlyargs ++ params.args).head? = some ar) (first' : ps[0]? = some ar.arg)
    (len : ∀ vs H Q E, sp vs H Q E → vs.length = ps.length)
    (inner : ∀ (A : Around) (outer : List Env) (s : Shared) (H : Hp) (vs : List V) (Q : VK) (E : XK), Room k (A.deeper (envS qual scope s.heap.objs.size f cda cc)) → sp vs H Q E →
      ∃ (a : Addr) (ta : TA) (tb : TS), vs[0]? = some (.ref a) ∧ H a = some (exo a C none) ∧ PA (cxS P w K mg base ps qual scope f cda cc A outer s H) (e :: es) ta ∧ PSs (cxS P w K mg base ps qual scope f cda cc A outer s H) rest tb ∧
        ta (vs.map some) H fun ws H1 => ws.length ≤ 1000 ∧ H1 a = some (exo a C none) ∧ tb { rt := Q, nx := fun _ => Q V.non } (vs.map some) H1)
    (he : ∀ env, starEach (e :: es) env = (false, eval e env) :: starEach es env := by intro; rfl) (hpl : ∀ (pos : Pos) (env : Env), (backTo pos (starEach es env)).any (·.1) = false := by intros; rfl)
    (hev : ∀ env, ∃ pl, eval (.Call (.Attribute (.Call (.Name "super" p0) [] [] p1) "__init__" p2) (e :: es) [] p3) env = (do
      let ov ← attributeBase (.Call (.Name "super" p0) [] [] p1) "__init__" env (eval (.Call (.Name "super" p0) [] [] p1) env)
      standAt p2.atName
      let (f, first) ← holding [ov] (getMethod ov "__init__" pl)
      callWith p3 f first (backTo p3 (starEach (e :: es) env)) []) := by intro; exact ⟨_, rfl⟩)
    (hsw : ∀ env, swapsWith (.Call (.Attribute (.Call (.Name "super" p0) [] [] p1) "__init__" p2) (e :: es) [] p3) none p4.line env = pure false := by intro; rfl) :
    FnOk P w K mg base CX0 (k + 1) f (PySem.W.ksFn name qual params (.Expr (.Call (.Attribute (.Call (.Name "super" p0) [] [] p1) "__init__" p2) (e :: es) [] p3) p4 :: rest) scope dV kV doc pm an (.ref cda) ct cc) ps sp := by
  refine ⟨len, fun A outer s H args us vs Q E room e0 bd rel told => ?_⟩
  have cnt := len _ _ _ _ told
  have isK : K.In s.heap := e0.mod.kin.keeps fun b o q => (e0.bs b o q).1
  refine PySem.ks_codeAny_call_defAt room.depth (isK _ _ look) rfl (e0.mod.nolimit.keeps fun b o q => (e0.bs b o q).1) (PySem.W.codeRec_of isK code) rfl bd S.nocell (fun y hy => ?_) (fun h1 hns hk1 => ?_) S.co S.gen S.kind
  · obtain ⟨n, v⟩ := y
    exact S.par n (List.of_mem_zip hy).1
  have I : Inv (cxS P w K mg base ps qual scope f cda cc A outer s H) [] (vs.map some) H { s with heap := h1, toks := s.toks + (ps.zip us).length } := inv_sup S T room.hd e0 cnt rel hns hk1
  obtain ⟨a, ta, tb, v0, ea, pa, pb, q⟩ := inner A outer s H vs Q E (room.deeper _) told
  have quietX := I.quiet
  obtain ⟨pl, ev⟩ := hev (envS qual scope s.heap.objs.size f cda cc)
  obtain ⟨ccl, cdd, vv, ccs, file, tf, hcode, hvs, hfile⟩ := T.code
  obtain ⟨cl, cld, csl, hcell⟩ := T.cell
  obtain ⟨nm, qn, N, bs, bm, sn, sub, ab, col, dd, k0, k1, k2, k3, k5, hC, hbm⟩ := T.ex.cls
  have isD : PySem.W.clsIn K C = some { name := nm, bases := bs, mro := .ref C :: bm, ns := N, qualname := qn, hasDict := true, slotNames := sn, subclasses := sub, abstract := ab, collection := col, hasDel := false } := by
    unfold PySem.W.clsIn
    rw [hC] <;> rfl
  obtain ⟨t1, ho⟩ := exo_at I.hok ea
  obtain ⟨mb, nsb, boots⟩ := e0.mod.blt
  have kp : ∀ {b : Addr} {o : Obj}, base.get? b = some o → h1.get? b = some o := fun {b o} z => hk1 _ _ (e0.bs _ _ z).1
  have us0 : us[0]? = some (.ref a) := by
    obtain ⟨u, hu, rv⟩ := rel.get v0
    cases rv
    exact hu
  have self := look_zip (us := us) S.nd first' us0
  refine PySem.ks_wpAt_execs_cons (PySem.ks_wpAt_Expr_any (PySem.ks_wpAt_MethodCall (pl := pl) ?_ ev) quietX (hsw _))
  refine PySem.ks_wpAt_super_base (env := envS qual scope s.heap.objs.size f cda cc) S.sup S.kc rfl rfl (hk1 _ _ (isK _ _ look)) rfl first rfl (hk1 _ _ (isK _ _ hcode)) rfl hvs hfile T.top ?_
  refine PySem.W.ks_loadName_global S.kind S.sup (PySem.Calls.loadGlobal_builtin (env := envS qual scope s.heap.objs.size f cda cc) (e0.mod.glob.keeps fun b o z => kp z) (PySem.W.mg_none_of e0.mod.kin e0.mod.glob T.plain) (nsb.keeps fun b o z => kp z) ((boots _ (by decide +kernel)).trans PyProof.Rows.Boot.«super») ⟨rfl, ?_⟩)
  refine wpAny_loadName_free (c := cc) (v := .ref C) S.kind S.kc (by show ([(("__class__" : Str), cc)] : List (Str × Addr)).lookup ("__class__" : Str) = some cc; simp [List.lookup]) ⟨_, hk1 _ _ (isK _ _ hcell), rfl⟩ ?_
  refine wpAny_loadName_local (m := fun x => (ps.zip us).reverse.lookup x) S.kind (S.par _ (List.mem_of_getElem? first')) hns self ?_
  refine PySem.ks_wpAny_isType_cls (hk1 _ _ (isK _ _ hC)) rfl ⟨rfl, ?_⟩
  refine PySem.ks_wpAny_call_super (hk1 _ _ (isK _ _ hC)) rfl ho rfl (fun c z => by cases z) (PySem.W.looks_mroIn (isK.keeps hk1) T.own) (fun h2 e2 kk2 => ?_)
  have I2 := I.kept (h' := h2) (t' := s.toks + (ps.zip us).length) kk2
  obtain ⟨t2, ho2⟩ := exo_at I2.hok ea
  have isK2 : K.In h2 := I2.kIn
  have up := T.up
  unfold PySem.W.ks_superIn at up
  rw [isD] at up
  have aC : a ≠ C := fun z => by
    have h3 := isK2 _ _ hC
    rw [← z, ho2] at h3
    cases h3
  have looksV : PySem.W.Looks (model P w) h2 (isInstance (.ref a) (.type "ValueError")) true :=
    (show PySem.W.InstAt h2 a _ C none from ⟨ho2, rfl, rfl, trivial⟩).type.andThen (PySem.W.looks_subIn isK2 T.isV)
  refine PySem.W.kxs_getMethod PySem.W.kxs_ValueError e2 (PySem.W.looks_opaque isK2 T.noAny) (l₀ := .ref C :: bm) (fun A Q E s k q => wpAny_bind ((PySem.W.looks_clsIn isK2 isD) A _ E s k (wpAny_pure q))) rfl isK2 up looksV aC rfl ?_
  have I3 := I2.kept (h' := h2.push (PySem.W.kxs_mw "ValueError.__init__" a)) (t' := s.toks + (ps.zip us).length + 1) (fun b o z => Heap.get?_push_of_some _ z)
  have eu : (h2.push (PySem.W.kxs_mw "ValueError.__init__" a)).get? h2.objs.size = some (PySem.W.kxs_mw "ValueError.__init__" a) := Heap.get?_push_at rfl rfl
  have I4 : Inv (cxS P w K mg base ps qual scope f cda cc A outer s H) [(h2.objs.size, PySem.W.kxs_mw "ValueError.__init__" a)] (vs.map some) H { s with heap := h2.push (PySem.W.kxs_mw "ValueError.__init__" a), toks := s.toks + (ps.zip us).length + 1 } := by
    refine I3.pins_of fun p hp => ?_
    cases List.mem_singleton.mp hp
    refine ⟨eu, I2.hok.fresh (Nat.le_refl _), fun z => ?_, I2.nofs (Nat.le_refl _), fun v z => by cases z⟩
    have := I2.lt
    rw [← z] at this
    exact absurd this (Nat.lt_irrefl _)
  refine PySem.W.kxs_callWith (i := "ValueError.__init__") (x := a) ?_ ?_
  · rw [he]
    exact hpl _ _
  have args : ∀ (R : Args → Shared → Prop) (Z : Value → Shared → Prop) (s4 : Shared), wpAny (model P w) (A.deeper (envS qual scope s.heap.objs.size f cda cc)) (spliced (backTo p3 (starEach (e :: es) (envS qual scope s.heap.objs.size f cda cc)))) (fun vs s' => R ⟨vs, []⟩ s') Z s4 →
      wpAny (model P w) (A.deeper (envS qual scope s.heap.objs.size f cda cc)) (evalArgs (.ref h2.objs.size) true (backTo p3 (starEach (e :: es) (envS qual scope s.heap.objs.size f cda cc))) []) R Z s4 := by
    intro R Z s4 h4
    rw [he] at h4 ⊢
    exact PySem.Calls.evalArgs_plain h4
  refine args _ _ _ (wpAny_mono (pa.run p3 _ _ _ _ _ I4 q) (fun ws s5 h5 => ?_) (fun _ _ z => z))
  obtain ⟨wv, H1, I5, r5, lw, ea5, q5⟩ := h5
  have pu := I5.pin (h2.objs.size, PySem.W.kxs_mw "ValueError.__init__" a) (List.mem_append_right _ (List.mem_singleton.mpr rfl))
  refine ⟨pu.1, ?_⟩
  refine init_bound T.ex I5 ea5 pu.1 ?_ (fun s6 I6 => ?_)
  · rw [List.nil_append, ← Paired.length r5, sizeLine_eq]
    omega
  have I7 : Inv (cxS P w K mg base ps qual scope f cda cc A outer s H) [] (vs.map some) H1 s6 := I6.pins_of fun p hp => by cases hp
  refine wpAt_of_wpAny (wpAny_mono (pb.run _ _ _ _ _ I7 q5) (fun fl s' hs => ?_) (fun _ _ z => z))
  cases fl with
  | ret u =>
    obtain ⟨v, _, H', J, rv, qq⟩ := hs
    exact ⟨v, H', J.os, J.bare, J.base, J.hok, rv, qq⟩
  | next =>
    obtain ⟨_, H', J, qq⟩ := hs
    exact ⟨V.non, H', J.os, J.bare, J.base, J.hok, rfl, qq⟩
  | brk =>
    obtain ⟨_, _, _, qq⟩ := hs
    exact qq.elim
  | cont =>
    obtain ⟨_, _, _, qq⟩ := hs
    exact qq.elim
end
end Su

/-! ## ArgumentError(reason), ScheduleError(number, reason) being made -/
namespace Er
open PySem PySem.Spec PyProof.Rows L2
section
variable {P : Program} {w : World} {K : PySem.W.Frag} {mg : Str → Option Value} {base : Heap}
abbrev sAE : Stmt := inClass (Tr.top 2) 0
def spAE (K : PySem.W.Frag) (C : Addr) : Sp := fun vs H Q _ => ∃ (a : Addr) (r : Str), vs = [.ref a, .str r] ∧ r.length ≤ 1000 ∧ H a = some (exo a C none) ∧ ∀ dx, H dx = none → dx ≠ a → Q .non (upd (upd H dx (exd dx [("reason", .str r)])) a (exo a C (some dx)))
theorem scAE : Su.Scp ["self", "reason"] (defScope sAE) := ⟨rfl, rfl, rfl, by decide +kernel, by decide +kernel, by decide +kernel, by decide +kernel, by decide +kernel, by decide +kernel⟩
theorem ok_ae {f cda cc C : Addr} {oc kV doc pm ct : Value} {od an : Option Addr} {osl : Array (Option Value)}
    (look : K.lookup f = some ⟨oc, od, .func (PySem.W.ksFn "__init__" "ArgumentError.__init__" (defArgs sAE) (defBody sAE) (defScope sAE) .none kV doc pm an (.ref cda) ct cc), osl⟩)
    (code : PySem.W.codeIn K (.ref cda) "ArgumentError.__init__" = true) (T : Su.Sup P K C cc cda) (n1 : PySem.W.findIn K (.ref C) "reason" = some none) :
    FnOk P w K mg base CX0 1 f (PySem.W.ksFn "__init__" "ArgumentError.__init__" (defArgs sAE) (defBody sAE) (defScope sAE) .none kV doc pm an (.ref cda) ct cc) ["self", "reason"] (spAE K C) := by
  refine Su.fn_sup look code scAE T rfl rfl (fun vs H Q E h => ?_) (fun A outer s H vs Q E hr h => ?_)
  · obtain ⟨a, r, rfl, _⟩ := h
    rfl
  · obtain ⟨a, r, rfl, hl2, ea, q⟩ := h
    refine ⟨a, _, _, rfl, ea, pa_cons (pe_joined (.cons pe_str (.cons (pe_fmt (pv 1)) .nil))) pa_nil, pss_one (ps_ost (pv 0) (pv 1)), ?_⟩
    refine ⟨_, rfl, ?_, _, rfl, .inl ⟨r, rfl, Nat.le_trans hl2 (by decide), _, rfl, ?_, ?_⟩⟩
    · exact Nat.le_trans (show (Str.empty ++ ("an argument is wrong: " : Str)).length ≤ 100 by decide +kernel) (by decide)
    · rw [strLen_append]
      exact Nat.le_trans (Nat.add_le_add (show (Str.empty ++ ("an argument is wrong: " : Str)).length ≤ 100 by decide +kernel) hl2) (by decide)
    refine ⟨(show 1 ≤ 1000 by decide), ea, ?_⟩
    exact ⟨_, rfl, _, rfl, a, C, rfl, T.ex, n1, .inl ⟨ea, fun dx hdx ne => q dx hdx ne⟩⟩
end
end Er

namespace Er
open PySem PySem.Spec PyProof.Rows L2
section
variable {P : Program} {w : World} {K : PySem.W.Frag} {mg : Str → Option Value} {base : Heap}
abbrev sSE : Stmt := inClass (Tr.top 3) 0
theorem log_12' {n : Int} (h : n.natAbs < 10 ^ 12) : n.natAbs.log2 < 1920 := by
  by_cases z : n.natAbs = 0
  · rw [z]; decide
  · exact Nat.lt_trans ((Nat.log2_lt z).mpr (Nat.lt_of_lt_of_le h (show 10 ^ 12 ≤ 2 ^ 40 by decide))) (by decide)
def spSE (K : PySem.W.Frag) (C : Addr) : Sp := fun vs H Q _ => ∃ (a : Addr) (n : Int) (r : Str), vs = [.ref a, .int n, .str r] ∧ n.natAbs < 10 ^ 12 ∧ r.length ≤ 1000 ∧ H a = some (exo a C none) ∧
  ∀ dx, H dx = none → dx ≠ a → Q .non (upd (upd (upd H dx (exd dx [("number", .int n)])) a (exo a C (some dx))) dx (exd dx [("reason", .str r), ("number", .int n)]))
theorem scSE : Su.Scp ["self", "number", "reason"] (defScope sSE) := ⟨rfl, rfl, rfl, by decide +kernel, by decide +kernel, by decide +kernel, by decide +kernel, by decide +kernel, by decide +kernel⟩
theorem ok_se {f cda cc C : Addr} {oc kV doc pm ct : Value} {od an : Option Addr} {osl : Array (Option Value)}
    (look : K.lookup f = some ⟨oc, od, .func (PySem.W.ksFn "__init__" "ScheduleError.__init__" (defArgs sSE) (defBody sSE) (defScope sSE) .none kV doc pm an (.ref cda) ct cc), osl⟩)
    (code : PySem.W.codeIn K (.ref cda) "ScheduleError.__init__" = true) (T : Su.Sup P K C cc cda) (n1 : PySem.W.findIn K (.ref C) "number" = some none) (n2 : PySem.W.findIn K (.ref C) "reason" = some none) :
    FnOk P w K mg base CX0 1 f (PySem.W.ksFn "__init__" "ScheduleError.__init__" (defArgs sSE) (defBody sSE) (defScope sSE) .none kV doc pm an (.ref cda) ct cc) ["self", "number", "reason"] (spSE K C) := by
  refine Su.fn_sup look code scSE T rfl rfl (fun vs H Q E h => ?_) (fun A outer s H vs Q E hr h => ?_)
  · obtain ⟨a, n, r, rfl, _⟩ := h
    rfl
  · obtain ⟨a, n, r, rfl, hn, hl2, ea, q⟩ := h
    refine ⟨a, _, _, rfl, ea, pa_cons (pe_joined (.cons pe_str (.cons (pe_fmt (pv 1)) (.cons pe_str (.cons (pe_fmt (pv 2)) .nil))))) pa_nil, pss_cons (ps_ost (pv 0) (pv 1)) (pss_one (ps_ost (pv 0) (pv 2))), ?_⟩
    have hl := PyData.shown_int_le hn
    rw [PyData.shown_int] at hl
    have e1 : (Str.empty ++ ("the schedule is wrong at action " : Str)).length ≤ 100 := by decide +kernel
    have e2 : (": " : Str).length ≤ 100 := by decide +kernel
    refine ⟨_, rfl, ?_, _, rfl, .inr ⟨n, rfl, log_12' hn, _, rfl, ?_, ⟨_, rfl, ?_, _, rfl, .inl ⟨r, rfl, Nat.le_trans hl2 (by decide), _, rfl, ?_, ?_⟩⟩⟩⟩
    · exact Nat.le_trans e1 (by decide)
    · rw [strLen_append]
      exact Nat.le_trans (Nat.add_le_add e1 hl) (by decide)
    · rw [strLen_append, strLen_append]
      exact Nat.le_trans (Nat.add_le_add (Nat.add_le_add e1 hl) e2) (by decide)
    · rw [strLen_append, strLen_append, strLen_append]
      exact Nat.le_trans (Nat.add_le_add (Nat.add_le_add (Nat.add_le_add e1 hl) e2) hl2) (by decide)
    refine ⟨(show 1 ≤ 1000 by decide), ea, ?_⟩
    refine ⟨_, rfl, _, rfl, a, C, rfl, T.ex, n1, .inl ⟨ea, fun dx hdx ne => ?_⟩⟩
    refine ⟨_, rfl, _, rfl, a, C, rfl, T.ex, n2, .inr ⟨dx, [(("number" : Str), V.int n)], upd_same, ?_, (show 1 ≤ 900 by decide), ?_⟩⟩
    · rw [upd_ne ne]
      exact upd_same
    · exact q dx hdx ne
end
end Er

namespace Tr
open PySem L2

section
variable {K : PySem.W.Frag}
theorem tv1 {H : Hp} {a : Addr} {x : V} {d : PyData} (h : H a = some (.tup [x])) (hx : Tv K H d x) : Tv K H (.tuple [d]) (.ref a) := ⟨a, _, rfl, SqT.of h, x, _, rfl, hx, rfl⟩
theorem tv2 {H : Hp} {a : Addr} {x y : V} {d e : PyData} (h : H a = some (.tup [x, y])) (hx : Tv K H d x) (hy : Tv K H e y) : Tv K H (.tuple [d, e]) (.ref a) := ⟨a, _, rfl, SqT.of h, x, _, rfl, hx, y, _, rfl, hy, rfl⟩
theorem tv3 {H : Hp} {a : Addr} {x y z : V} {d e g : PyData} (h : H a = some (.tup [x, y, z])) (hx : Tv K H d x) (hy : Tv K H e y) (hz : Tv K H g z) : Tv K H (.tuple [d, e, g]) (.ref a) := ⟨a, _, rfl, SqT.of h, x, _, rfl, hx, y, _, rfl, hy, z, _, rfl, hz, rfl⟩
theorem tv4 {H : Hp} {a : Addr} {x y z u : V} {d e g i : PyData} (h : H a = some (.tup [x, y, z, u])) (hx : Tv K H d x) (hy : Tv K H e y) (hz : Tv K H g z) (hu : Tv K H i u) : Tv K H (.tuple [d, e, g, i]) (.ref a) :=
  ⟨a, _, rfl, SqT.of h, x, _, rfl, hx, y, _, rfl, hy, z, _, rfl, hz, u, _, rfl, hu, rfl⟩
end

theorem cut_hi {xs : List V} {u : Int} (h0 : 0 ≤ u) : cutV xs none (some u) = xs.take u.toNat := by
  obtain ⟨k, rfl⟩ : ∃ k : Nat, u = (k : Int) := ⟨u.toNat, by omega⟩
  unfold cutV
  rw [HT.sIx_nat, HT.sIx_none, Nat.sub_zero, List.drop_zero]
  have e : ((k : Nat) : Int).toNat = k := by omega
  rw [e]
  rcases Nat.le_total k xs.length with h | h
  · rw [Nat.min_eq_left h]
  · rw [Nat.min_eq_right h, List.take_of_length_le h, List.take_of_length_le (Nat.le_refl _)]
theorem same_alloc {H : Hp} {q : Addr} {o : HO} (h : H q = none) : Same H (upd H q o) := fun b u e => by rw [upd_ne (ne_of_none e h)]; exact e
theorem same_put {H H' : Hp} {q : Addr} {o : HO} (s : Same H H') (h : H q = none) : Same H (upd H' q o) := fun b u e => by rw [upd_ne (ne_of_none e h)]; exact s b u e

/-! ## A caught error that has fields -/
namespace Ca
open PySem PySem.Spec PyProof.Rows L2
/-- isinstance of it -/
theorem call_isEr {X : Cx} {a D : Addr} {oe : Obj} {cls : Value} {d : Option Addr} {pn : List (Addr × Obj)} (C : ExcC X.K D) (hz : Zc cls d oe) (hf : ∃ vs, oe.data = .fields vs) :
    CallR (X.suite a ((a, oe) :: pn)) (.builtin "isinstance") (fun xs H Q => cls = .ref D ∧ (∃ (dd : Addr) (fs : List (Str × V)), d = some dd ∧ H dd = some (.xd fs)) ∧ rIsE X.K D a xs H Q) := by
  intro pins s σ H xs us Q I r h
  obtain ⟨rfl, ⟨dd, fs, rfl, ed⟩, c, cv, b, rfl, hcv, e, q⟩ := h
  cases r with
  | cons rx rr =>
    cases rr with
    | cons rt rr =>
      cases rr
      cases rx
      cases hcv _ rt
      have hget := (I.pin (a, oe) (List.mem_append.mpr (.inl List.mem_cons_self))).1
      obtain ⟨vs, hv⟩ := hf
      have hx : ObjOk X.prog X.w H s.heap dd (.xd fs) := I.hok dd _ ed
      obtain ⟨mA, hns, _⟩ := hx
      obtain ⟨od, ho, _⟩ := lookIn_ns hns
      have J : PySem.W.InstAt s.heap a oe D (some od) := ⟨hget, hz.1, by unfold PySem.W.notCls; rw [hv] <;> rfl, by rw [hz.2]; exact ho⟩
      have isc : (PySem.W.clsIn X.K D).isSome = true := by
        obtain ⟨cd, hc, _⟩ := PySem.W.any_some C.hd
        rw [hc]
        rfl
      exact PySem.W.kia_one (PySem.W.kitx_exc isc C.hg C.hk C.hs C.ha C.hn C.ht C.hm) I.kIn J e (fun z => nomatch z) fun tk => ⟨.bl b, H, I.kept (t' := tk) fun _ _ z => z, rfl, q⟩
end Ca

end Tr

/-! ## Tables of least costs: the mirror -/
namespace Sd
open PySem L2 Tr Pu PyProof.Rows
abbrev Ent := Option Nat × Nat
abbrev Tab := List (List Ent)
def cD : Option Nat → PyData
  | none => .none
  | some c => .int c
def cV : Option Nat → V
  | none => .non
  | some c => .int c
def entD (e : Ent) : PyData := .tuple [cD e.1, .int e.2]
def rowD (r : List Ent) : PyData := .tuple (r.map entD)
def cst (T : Tab) (t s : Nat) : Option Nat := ((T.getD (t - 1) []).getD s (none, 0)).1
def cand (T : Tab) (t s i : Nat) : Option (Nat × Nat) :=
  match cst T (t - (i + 1)) (s - 1), cst T (i + 1) s with
  | some b, some f => some (i + 1 + b + f, i + 1)
  | _, _ => none
def cands (T : Tab) (t s n : Nat) : List (Nat × Nat) := (List.range n).filterMap (cand T t s)
def minC : List (Nat × Nat) → Nat
  | [] => 0
  | e :: r => r.foldl (fun m x => if x.1 < m then x.1 else m) e.1
def right (T : Tab) (t s : Nat) : List Ent :=
  if t = 1 then [(some 0, 0)] else if s = 0 then [(none, 0)] else ((cands T t s (t - 1)).filter fun e => e.1 == minC (cands T t s (t - 1))).map fun e => (some e.1, e.2)
def rowN (T : Tab) (t n : Nat) : List Ent := (List.range n).map fun s => (right T t s).headD (none, 0)
def tabN (n : Nat) : Nat → Tab
  | 0 => []
  | k + 1 => tabN n k ++ [rowN (tabN n k) (k + 1) n]
theorem minC_le : ∀ {l : List (Nat × Nat)} {e : Nat × Nat}, e ∈ l → minC l ≤ e.1 := by
  have g : ∀ (r : List (Nat × Nat)) (m : Nat), r.foldl (fun m x => if x.1 < m then x.1 else m) m ≤ m ∧ ∀ x ∈ r, r.foldl (fun m x => if x.1 < m then x.1 else m) m ≤ x.1 := by
    intro r
    induction r with
    | nil => intro m; exact ⟨Nat.le_refl _, fun x h => by cases h⟩
    | cons y r ih =>
      intro m
      obtain ⟨h1, h2⟩ := ih (if y.1 < m then y.1 else m)
      rw [List.foldl_cons]
      refine ⟨Nat.le_trans h1 (by split <;> omega), fun x hx => ?_⟩
      rcases List.mem_cons.mp hx with rfl | hx
      · exact Nat.le_trans h1 (by split <;> omega)
      · exact h2 x hx
  intro l e h
  cases l with
  | nil => cases h
  | cons a r =>
    rcases List.mem_cons.mp h with rfl | h
    · exact (g r _).1
    · exact (g r _).2 e h
theorem minC_mem : ∀ {l : List (Nat × Nat)}, l ≠ [] → ∃ e ∈ l, e.1 = minC l := by
  have g : ∀ (r : List (Nat × Nat)) (m : Nat), r.foldl (fun m x => if x.1 < m then x.1 else m) m = m ∨ ∃ x ∈ r, x.1 = r.foldl (fun m x => if x.1 < m then x.1 else m) m := by
    intro r
    induction r with
    | nil => intro m; exact .inl rfl
    | cons y r ih =>
      intro m
      rw [List.foldl_cons]
      rcases ih (if y.1 < m then y.1 else m) with h | ⟨x, hx, h⟩
      · by_cases c : y.1 < m
        · rw [if_pos c] at h ⊢
          exact .inr ⟨y, List.mem_cons_self, h.symm⟩
        · rw [if_neg c] at h ⊢
          exact .inl h
      · exact .inr ⟨x, List.mem_cons_of_mem _ hx, h⟩
  intro l h
  cases l with
  | nil => exact absurd rfl h
  | cons a r =>
    rcases g r a.1 with h | ⟨x, hx, h⟩
    · exact ⟨a, List.mem_cons_self, h.symm⟩
    · exact ⟨x, List.mem_cons_of_mem _ hx, h⟩
/-- a table of m rows of n entries in which only entries without slots may have no cost -/
structure Okk (T : Tab) (n m : Nat) : Prop where
  len : m ≤ T.length
  row : ∀ j < m, (T.getD j []).length = n
  one : 0 < m → ∀ s < n, cst T 1 s = some 0
  cost : ∀ j < m, ∀ s, 1 ≤ s → s < n → ∃ c, cst T (j + 1) s = some c
theorem cands_succ (T : Tab) (t s i : Nat) : cands T t s (i + 1) = cands T t s i ++ (match cand T t s i with | some e => [e] | none => []) := by
  unfold cands
  rw [List.range_succ, List.filterMap_append]
  cases h : cand T t s i <;> simp [h]
theorem cands_ne {T : Tab} {n t s : Nat} (h : Okk T n (t - 1)) (ht : 2 ≤ t) (h1 : 1 ≤ s) (h2 : s < n) : cands T t s (t - 1) ≠ [] := by
  obtain ⟨k, rfl⟩ : ∃ k, t = k + 2 := ⟨t - 2, by omega⟩
  intro z
  have e1 : k + 2 - 1 = k + 1 := by omega
  rw [e1] at z h
  rw [cands_succ] at z
  obtain ⟨c, hc⟩ := h.cost k (by omega) s h1 h2
  have e : cand T (k + 2) s k = some (k + 1 + 0 + c, k + 1) := by
    unfold cand
    rw [show k + 2 - (k + 1) = 1 by omega, h.one (by omega) (s - 1) (by omega), hc]
  rw [e] at z
  simp at z
theorem right_head {T : Tab} {n t s : Nat} (h : Okk T n (t - 1)) (ht : 1 ≤ t) (h2 : s < n) : ∃ e r, right T t s = e :: r ∧ (1 ≤ s → ∃ c, e.1 = some c) ∧ (t = 1 → e = (some 0, 0)) := by
  unfold right
  by_cases c1 : t = 1
  · rw [if_pos c1]
    exact ⟨_, _, rfl, fun _ => ⟨0, rfl⟩, fun _ => rfl⟩
  · rw [if_neg c1]
    by_cases c2 : s = 0
    · rw [if_pos c2]
      exact ⟨_, _, rfl, fun z => absurd z (by omega), fun z => absurd z c1⟩
    · rw [if_neg c2]
      obtain ⟨e, he, hm⟩ := minC_mem (cands_ne h (by omega) (by omega) h2)
      cases q : (cands T t s (t - 1)).filter fun e => e.1 == minC (cands T t s (t - 1)) with
      | nil =>
        have : e ∈ (cands T t s (t - 1)).filter fun e => e.1 == minC (cands T t s (t - 1)) := List.mem_filter.mpr ⟨he, by simp [hm]⟩
        rw [q] at this
        cases this
      | cons a r => exact ⟨_, _, rfl, fun _ => ⟨a.1, rfl⟩, fun z => absurd z c1⟩
theorem tabN_len (n : Nat) : ∀ k, (tabN n k).length = k
  | 0 => rfl
  | k + 1 => by rw [tabN, List.length_append, tabN_len n k]; rfl
theorem okk_tab (n : Nat) : ∀ k, Okk (tabN n k) n k
  | 0 => ⟨Nat.zero_le _, fun j h => absurd h (Nat.not_lt_zero _), fun h => absurd h (Nat.lt_irrefl _), fun j h => absurd h (Nat.not_lt_zero _)⟩
  | k + 1 => by
    have ih := okk_tab n k
    have hl := tabN_len n k
    have lo : ∀ j, j < k → (tabN n (k + 1)).getD j [] = (tabN n k).getD j [] := fun j hj => by
      rw [tabN, List.getD_eq_getElem?_getD, List.getD_eq_getElem?_getD, List.getElem?_append_left (by omega)]
    have hi : (tabN n (k + 1)).getD k [] = rowN (tabN n k) (k + 1) n := by
      rw [tabN, List.getD_eq_getElem?_getD, List.getElem?_append_right (by omega), hl, Nat.sub_self]
      rfl
    have cl : ∀ j, j < k → ∀ s, cst (tabN n (k + 1)) (j + 1) s = cst (tabN n k) (j + 1) s := fun j hj s => by
      unfold cst
      rw [Nat.add_sub_cancel, lo j hj]
    have ch : ∀ s, s < n → cst (tabN n (k + 1)) (k + 1) s = ((right (tabN n k) (k + 1) s).headD (none, 0)).1 := fun s hs => by
      unfold cst
      rw [Nat.add_sub_cancel, hi]
      unfold rowN
      rw [List.getD_eq_getElem?_getD, List.getElem?_map, List.getElem?_range hs]
      rfl
    refine ⟨by rw [tabN_len]; exact Nat.le_refl _, fun j hj => ?_, fun _ s hs => ?_, fun j hj s h1 h2 => ?_⟩
    · by_cases c : j < k
      · rw [lo j c]
        exact ih.row j c
      · have : j = k := by omega
        subst this
        rw [hi]
        simp [rowN]
    · by_cases c : 0 < k
      · rw [cl 0 c]
        exact ih.one c s hs
      · have : k = 0 := by omega
        subst this
        rw [ch s hs]
        rfl
    · by_cases c : j < k
      · rw [cl j c]
        exact ih.cost j c s h1 h2
      · have : j = k := by omega
        subst this
        rw [ch s h2]
        obtain ⟨e, r, q, g, _⟩ := right_head (t := j + 1) ih (by omega) h2
        rw [q]
        exact g h1
end Sd

/-! ## the numbers of beats and of slots -/
namespace Sd
open PySem L2 Tr Pu PyProof.Rows
def isI : PyData → Bool
  | .int _ => true
  | _ => false
def dIsi (ds : List PyData) (d : PyData) : Prop := ∃ x, ds = [x] ∧ d = .bool (isI x)
def btw (x : PyData) (a b : Int) : Bool :=
  match x with
  | .int i => decide (a ≤ i) && decide (i ≤ b)
  | _ => false
def dBtw (ds : List PyData) (d : PyData) : Prop := ∃ (x : PyData) (a b : Int), ds = [x, .int a, .int b] ∧ d = .bool (btw x a b)
abbrev sIsi : Stmt := top 7
abbrev sBtw : Stmt := top 8
abbrev sCkb : Stmt := top 10
abbrev sCkn : Stmt := top 14
section
variable {P : Program} {w : World} {K : PySem.W.Frag} {mg : Str → Option Value} {base : Heap}
/-- how an own error is made: its class's __init__ -/
structure Mk (P : Program) (w : World) (K : PySem.W.Frag) (mg : Str → Option Value) (base : Heap) (x : Str) (C : Addr) (ps : List Str) (sp : Sp) where
  fI : Addr
  fd : FuncData
  ok : FnOk P w K mg base CX0 1 fI fd ps sp
  b : Binds K fd ps []
  ex : OexC K C
  iC : PySem.W.findIn K (.ref C) "__init__" = some (some (.ref fI))
  tI : PySem.W.typeIn K (.ref fI) = some (.type "function")
  m : mg x = some (.ref C)
theorem scIsi : FnScope ["value"] ["value"] (defScope sIsi) := ⟨rfl, rfl, rfl, by decide +kernel, rfl, by decide +kernel, by decide +kernel⟩
theorem ok_isi {f : Addr} {fd : FuncData} (F : Fun K "is_integer" "is_integer" sIsi f fd) (T : Bi mg) : FnOk P w K mg base CX0 1 f fd ["value"] (spP K 1 dIsi) := by
  refine ok_P F scIsi (by decide) (fun cdv A outer s H E hr => ⟨_, pss_one (ps_ret (pe_and (pe_callB call_isi rfl T.isinstance PyProof.Rows.boot_isinstance (pa_cons (pv 0) (pa_cons (pe_bltn (v := .ty "int") rfl T.int PyProof.Rows.boot_int rfl) pa_nil))) (pe_one (pe_not (pe_callB call_isi rfl T.isinstance PyProof.Rows.boot_isinstance (pa_cons (pv 0) (pa_cons (pe_bltn (v := .ty "bool") rfl T.bool PyProof.Rows.boot_bool rfl) pa_nil))))))), ?_⟩)
  rintro ds d - ⟨x, rfl, rfl⟩
  cases x with
  | none => exact dr_ret (de_andF (de_isi (de_var rfl) (show kitB "NoneType" "int" = some false by decide +kernel)))
  | bool b => exact dr_ret (de_andT (de_isi (de_var rfl) (show kitB "bool" "int" = some true by decide +kernel)) (de_not (de_isi (d := .bool b) (n := "bool") (b := true) (de_var rfl) (show kitB "bool" "bool" = some true by decide +kernel))))
  | int i => exact dr_ret (de_andT (de_isi (de_var rfl) (show kitB "int" "int" = some true by decide +kernel)) (de_not (de_isi (d := .int i) (n := "bool") (b := false) (de_var rfl) (show kitB "int" "bool" = some false by decide +kernel))))
  | str z => exact dr_ret (de_andF (de_isi (de_var rfl) (show kitB "str" "int" = some false by decide +kernel)))
  | tuple l => exact dr_ret (de_andF (de_isi (de_var rfl) (show kitB "tuple" "int" = some false by decide +kernel)))
  | list l => exact dr_ret (de_andF (de_isi (de_var rfl) (show kitB "list" "int" = some false by decide +kernel)))
  | dict l => exact dr_ret (de_andF (de_isi (de_var rfl) (show kitB "list" "int" = some false by decide +kernel)))
theorem pv_isi {x : PyData} : PV K (spP K 1 dIsi) [x] (.bool (isI x)) := pv_P ⟨x, rfl, rfl⟩
theorem scBtw : FnScope ["value", "least", "most"] ["value", "least", "most"] (defScope sBtw) := ⟨rfl, rfl, rfl, by decide +kernel, rfl, by decide +kernel, by decide +kernel⟩
theorem ok_btw {f : Addr} {fd : FuncData} (F : Fun K "is_between" "is_between" sBtw f fd) (c_isi : Cal P w K mg base CX0 1 "is_integer" ["value"] (spP K 1 dIsi)) : FnOk P w K mg base CX0 2 f fd ["value", "least", "most"] (spP K 3 dBtw) := by
  refine ok_P F scBtw (by decide) (fun cdv A outer s H E hr => ⟨_, pss_one (ps_ret (pe_and (pe_call c_isi.ok (hr.mono (by first | decide | omega)) rfl c_isi.m c_isi.kp c_isi.b .nil pass0 (pa_cons (pv 0) pa_nil)) (pe_one (pe_chain op_le op_le (pv 1) (pv 0) (pv 2))))), ?_⟩)
  rintro ds d - ⟨x, a, b, rfl, rfl⟩
  have arg : DA K (tCons (tVar 0) tNil) (List.map some [x, .int a, .int b] ++ List.replicate (3 - 3) none) [x] := da_one (de_var rfl)
  cases x with
  | int i =>
    apply dr_ret
    apply de_andT
    · exact de_call arg pv_isi
    · exact de_chain (de_var rfl) (de_var rfl) (de_var rfl)
  | none => exact dr_ret (de_andF (de_call arg pv_isi))
  | bool b => exact dr_ret (de_andF (de_call arg pv_isi))
  | str z => exact dr_ret (de_andF (de_call arg pv_isi))
  | tuple l => exact dr_ret (de_andF (de_call arg pv_isi))
  | list l => exact dr_ret (de_andF (de_call arg pv_isi))
  | dict l => exact dr_ret (de_andF (de_call arg pv_isi))
theorem pv_btw {x : PyData} {a b : Int} : PV K (spP K 3 dBtw) [x, .int a, .int b] (.bool (btw x a b)) := pv_P ⟨x, a, b, rfl, rfl⟩
/-- the error of an argument being raised -/
theorem err_A {C : Addr} {H H1 : Hp} {W : XK} {r : Str} (sm : Same H H1) (hr : r.length ≤ 1000) (k : ∀ d H', Same H H' → H' d = some (.xd [("reason", .str r)]) → W (.ref C) (some d) H') :
    [V.str r].length ≤ 1000 ∧ ∀ a, H1 a = none → Er.spAE K C (.ref a :: ([V.str r] ++ [])) (upd H1 a (exo a C none))
      (fun v H2 => v = .non ∧ ∃ (d : Addr) (fs : List (Str × V)), H2 a = some (exo a C (some d)) ∧ H2 d = some (exd d fs) ∧ H1 d = none ∧ W (.ref C) (some d) (upd (del H2 a) d (.xd fs))) (fun _ _ _ => False) := by
  refine ⟨(show 1 ≤ 1000 by decide), fun a ha => ⟨a, r, rfl, hr, upd_same, fun dx hdx ne => ⟨rfl, dx, _, upd_same, (by rw [upd_ne ne]; exact upd_same), (by rw [upd_ne ne] at hdx; exact hdx), ?_⟩⟩⟩
  rw [upd_ne ne] at hdx
  refine k dx _ (fun b u e => ?_) upd_same
  have e1 := sm _ _ e
  have nb : b ≠ a := ne_of_none e1 ha
  have nb2 : b ≠ dx := ne_of_none e1 hdx
  rw [upd_ne nb2, del_ne nb, upd_ne nb, upd_ne nb2, upd_ne nb]
  exact e1
/-- what check_beats promises -/
def spCkb (K : PySem.W.Frag) (CA : Addr) : Sp := fun vs H Q E => ∃ (v : V) (x : PyData), vs = [v] ∧ Tv K H x v ∧ (btw x 0 40 = true → ∀ H', Same H H' → Q .non H') ∧
  (btw x 0 40 = false → ∀ d H', Same H H' → H' d = some (.xd [("reason", .str "beats")]) → E (.ref CA) (some d) H')
def spCkn (K : PySem.W.Frag) (CA : Addr) : Sp := fun vs H Q E => ∃ (v u : V) (x y : PyData), vs = [v, u] ∧ Tv K H x v ∧ Tv K H y u ∧ (btw x 0 40 = true → btw y 0 8 = true → ∀ H', Same H H' → Q .non H') ∧
  (btw x 0 40 = false → ∀ d H', Same H H' → H' d = some (.xd [("reason", .str "beats")]) → E (.ref CA) (some d) H') ∧
  (btw x 0 40 = true → btw y 0 8 = false → ∀ d H', Same H H' → H' d = some (.xd [("reason", .str "slots")]) → E (.ref CA) (some d) H')
theorem scCkb : FnScope ["beats"] ["beats"] (defScope sCkb) := ⟨rfl, rfl, rfl, by decide +kernel, rfl, by decide +kernel, by decide +kernel⟩
theorem ok_ckb {f CA : Addr} {fd : FuncData} (F : Fun K "check_beats" "check_beats" sCkb f fd) {tB : Tok} (gB : mg "MAX_BEATS" = some (.int 40 tB)) (c_btw : Cal P w K mg base CX0 2 "is_between" ["value", "least", "most"] (spP K 3 dBtw))
    (c_mkA : Mk P w K mg base "ArgumentError" CA ["self", "reason"] (Er.spAE K CA)) : FnOk P w K mg base (L2.CX P w) 3 f fd ["beats"] (spCkb K CA) := by
  refine F.okX scCkb (fun vs H Q E h => ?_) (fun cdv A outer s H vs Q E hr h => ?_)
  · obtain ⟨v, x, rfl, _⟩ := h
    rfl
  · obtain ⟨v, x, rfl, tx, q1, q2⟩ := h
    refine ⟨_, pss_one (ps_if (pt_not (pt_val (pe_call c_btw.ok (hr.mono (by first | decide | omega)) rfl c_btw.m c_btw.kp c_btw.b .nil pass0 (pa_cons (pv 0) (pa_cons pe_int (pa_cons (pe_glob (v := .int 40) rfl gB ⟨_, rfl⟩) pa_nil)))))) (pss_one (ps_raise rfl (takes_of rfl rfl rfl rfl) (pmk_oex c_mkA.ex c_mkA.iC c_mkA.tI c_mkA.ok (hr.mono (by first | decide | omega)) c_mkA.b .nil pass0 rfl c_mkA.m (pa_cons pe_str pa_nil)))) pss_nil), ?_⟩
    refine ⟨_, rfl, [x, .int 0, .int 40], _, rfl, ⟨_, _, rfl, tx, _, _, rfl, rfl, _, _, rfl, rfl, rfl⟩, ⟨x, 0, 40, rfl, rfl⟩, fun u H1 s1 tu => ?_⟩
    cases tu
    refine ⟨_, rfl, ?_⟩
    cases c : btw x 0 40 with
    | true => exact iteF' rfl (q1 c H1 s1)
    | false =>
      refine iteT' rfl ?_
      exact err_A s1 (by decide +kernel) fun d H' s2 e => q2 c d H' s2 e
theorem scCkn : FnScope ["beats", "slots"] ["beats", "slots"] (defScope sCkn) := ⟨rfl, rfl, rfl, by decide +kernel, rfl, by decide +kernel, by decide +kernel⟩
theorem ok_ckn {f CA : Addr} {fd : FuncData} (F : Fun K "check_numbers" "check_numbers" sCkn f fd) {tK : Tok} (gK : mg "MAX_KEPT" = some (.int 8 tK)) (c_btw : Cal P w K mg base CX0 2 "is_between" ["value", "least", "most"] (spP K 3 dBtw))
    (c_ckb : Cal P w K mg base (L2.CX P w) 3 "check_beats" ["beats"] (spCkb K CA))
    (c_mkA : Mk P w K mg base "ArgumentError" CA ["self", "reason"] (Er.spAE K CA)) : FnOk P w K mg base (L2.CX P w) 4 f fd ["beats", "slots"] (spCkn K CA) := by
  refine F.okX scCkn (fun vs H Q E h => ?_) (fun cdv A outer s H vs Q E hr h => ?_)
  · obtain ⟨v, u, x, y, rfl, _⟩ := h
    rfl
  · obtain ⟨v, u, x, y, rfl, tx, ty, q1, q2, q3⟩ := h
    refine ⟨_, pss_cons (ps_expr (pe_call c_ckb.ok (hr.mono (by first | decide | omega)) rfl c_ckb.m c_ckb.kp c_ckb.b .nil (passes_call (takes_of rfl rfl rfl rfl) (fun _ _ _ _ h => h)) (pa_cons (pv 0) pa_nil)))
      (pss_one (ps_if (pt_not (pt_val (pe_call c_btw.ok (hr.mono (by first | decide | omega)) rfl c_btw.m c_btw.kp c_btw.b .nil pass0 (pa_cons (pv 1) (pa_cons pe_int (pa_cons (pe_glob (v := .int 8) rfl gK ⟨_, rfl⟩) pa_nil)))))) (pss_one (ps_raise rfl (takes_of rfl rfl rfl rfl) (pmk_oex c_mkA.ex c_mkA.iC c_mkA.tI c_mkA.ok (hr.mono (by first | decide | omega)) c_mkA.b .nil pass0 rfl c_mkA.m (pa_cons pe_str pa_nil)))) pss_nil)), ?_⟩
    refine ⟨_, rfl, v, x, rfl, tx, fun c1 H1 s1 => ?_, fun c1 d H' s1 e => q2 c1 d H' s1 e⟩
    have ty1 := ty.carry (same_carry s1)
    refine ⟨_, rfl, [y, .int 0, .int 8], _, rfl, ⟨_, _, rfl, ty1, _, _, rfl, rfl, _, _, rfl, rfl, rfl⟩, ⟨y, 0, 8, rfl, rfl⟩, fun u H2 s2 tu => ?_⟩
    cases tu
    refine ⟨_, rfl, ?_⟩
    cases c : btw y 0 8 with
    | true => exact iteF' rfl (q1 c1 c H2 (s1.trans s2))
    | false =>
      refine iteT' rfl ?_
      exact err_A (s1.trans s2) (by decide +kernel) fun d H' s2 e => q3 c1 c d H' s2 e
/-- the least cost -/
def Lc (b s : Nat) : Option Nat := if b = 0 then some 0 else cst (tabN (s + 1) b) b s
theorem btw_nat {n m : Nat} (h : n ≤ m) : btw (.int (n : Int)) 0 (m : Int) = true := by
  show (decide ((0 : Int) ≤ (n : Int)) && decide ((n : Int) ≤ (m : Int))) = true
  rw [decide_eq_true (by omega), decide_eq_true (by omega)]
  rfl
end
end Sd

/-! ## the form of an action -/
namespace Sd
open PySem L2 Tr Pu PyProof.Rows
inductive Act where
  | keep (s : Int) | restore (s : Int) | advance (n : Int) | turn
def Act.enc : Act → PyData
  | .keep s => .tuple [.str "keep", .int s]
  | .restore s => .tuple [.str "restore", .int s]
  | .advance n => .tuple [.str "advance", .int n]
  | .turn => .tuple [.str "turn"]
/-- the action that a value is -/
def act? (d : PyData) : Option Act :=
  match d with
  | .tuple [.str z] => if z = "turn" then some .turn else none
  | .tuple [.str z, .int n] => if z = "advance" then (if 1 ≤ n then some (.advance n) else none) else if z = "keep" then (if 0 ≤ n then some (.keep n) else none) else if z = "restore" then (if 0 ≤ n then some (.restore n) else none) else none
  | _ => none
def flatHead : PyData → Bool
  | .tuple (x :: _) => flatD x
  | _ => true
def dAct (ds : List PyData) (d : PyData) : Prop := ∃ x, ds = [x] ∧ flatHead x = true ∧ d = .bool (act? x).isSome
abbrev sAct : Stmt := top 15
section
variable {P : Program} {w : World} {K : PySem.W.Frag} {mg : Str → Option Value} {base : Heap}
theorem scAct : FnScope ["value"] ["value"] (defScope sAct) := ⟨rfl, rfl, rfl, by decide +kernel, rfl, by decide +kernel, by decide +kernel⟩
theorem ok_act {f : Addr} {fd : FuncData} (F : Fun K "is_action" "is_action" sAct f fd) (T : Bi mg) (c_isi : Cal P w K mg base CX0 1 "is_integer" ["value"] (spP K 1 dIsi)) : FnOk P w K mg base CX0 2 f fd ["value"] (spP K 1 dAct) := by
  refine ok_P F scAct (by decide) (fun cdv A outer s H E hr => ⟨_, pss_cons (ps_if (PW.pt (pw_or (pt_not (pt_val (pe_callB call_isi rfl T.isinstance PyProof.Rows.boot_isinstance (pa_cons (pv 0) (pa_cons (pe_bltn (v := .ty "tuple") rfl T.tuple PyProof.Rows.boot_tuple rfl) pa_nil))))) (pw_or1 (pt_not (pt_truth (pv 0) (by intro _; rfl)))))) (pss_one (ps_ret pe_bl)) pss_nil)
      (pss_cons (ps_if (pt_cmpR op_eq (pe_ix ix_tup (pv 0) pe_int (fun _ _ => rfl)) pe_str (nomark _)) (pss_one (ps_ret (pe_cmpR op_eq (pe_callB call_len_seq rfl T.len PySem.boot_len (pa_cons (pv 0) pa_nil)) pe_int (nomark _)))) pss_nil)
      (pss_cons (ps_if (PW.pt (pw_or (pt_cmpR (notInK (K' := K) rfl) (pe_ix ix_tup (pv 0) pe_int (fun _ _ => rfl)) (pe_tup (pa_cons pe_str (pa_cons pe_str (pa_cons pe_str pa_nil)))) (by rfl)) (pw_or1 (pt_cmpR op_ne (pe_callB call_len_seq rfl T.len PySem.boot_len (pa_cons (pv 0) pa_nil)) pe_int (nomark _))))) (pss_one (ps_ret pe_bl)) pss_nil)
      (pss_one (ps_ret (pe_and (pe_call c_isi.ok (hr.mono (by first | decide | omega)) rfl c_isi.m c_isi.kp c_isi.b .nil pass0 (pa_cons (pe_ix ix_tup (pv 0) pe_int (fun _ _ => rfl)) pa_nil)) (pe_one (pe_cmpR op_ge (pe_ix ix_tup (pv 0) pe_int (fun _ _ => rfl)) (pe_ifExp (pt_cmpR op_eq (pe_ix ix_tup (pv 0) pe_int (fun _ _ => rfl)) pe_str (nomark _)) pe_int pe_int) (nomark _)))))))), ?_⟩)
  rintro ds d - ⟨x, rfl, fh, rfl⟩
  have notup : ∀ n : String, tyD x = n → kitB n "tuple" = some false → ∀ tt : TT, ∀ tr : TS, DR K (tSeq (tIfS (tOr (tNot (tB (tCB (rIsi K) (tCons (tVar 0) (tCons (tC (.ty "tuple")) tNil))))) tt) (tRet (tC (.bl false))) tNext) tr) (List.map some [x] ++ List.replicate (1 - 1) none) (.bool false) := by
    intro n hn hk tt tr
    refine dr_whenT (dt_orT (dt_notT (dt_B (de_isi (de_var (d := x) rfl) (by rw [hn]; exact hk))))) (dr_ret de_bl)
  cases x with
  | none => exact notup "NoneType" rfl (by decide +kernel) _ _
  | bool b => exact notup "bool" rfl (by decide +kernel) _ _
  | int i => exact notup "int" rfl (by decide +kernel) _ _
  | str z => exact notup "str" rfl (by decide +kernel) _ _
  | list l => exact notup "list" rfl (by decide +kernel) _ _
  | dict l => exact notup "list" rfl (by decide +kernel) _ _
  | tuple l =>
    have isT : ∀ ρ : Rho, ∀ l : List PyData, ρ[0]? = some (some (.tuple l)) → DE K (tCB (rIsi K) (tCons (tVar 0) (tCons (tC (.ty "tuple")) tNil))) ρ (.bool true) := fun ρ l h => de_isi (de_var h) (show kitB "tuple" "tuple" = some true by decide +kernel)
    cases l with
    | nil => exact dr_whenT (dt_orF (dt_notF (dt_B (isT _ _ rfl))) (dt_notT (dt_truT (ds := []) (de_var rfl)))) (dr_ret de_bl)
    | cons h r =>
      refine dr_whenF (dt_orF (dt_notF (dt_B (isT _ _ rfl))) (dt_notF (dt_truT (ds := h :: r) (de_var rfl)))) ?_
      have fl : flatD h = true := fh
      have hd0 : atI (h :: r) 0 = some h := atI_nat (xs := h :: r) (j := 0) rfl
      have H0 : DE K (tOp (rIxT K) (tVar 0) (tC (.int 0))) (List.map some [PyData.tuple (h :: r)] ++ List.replicate (1 - 1) none) h := de_ix (de_var rfl) de_int hd0
      have LEN : ∀ {q : List V → Hp → VK → Prop}, (∀ p ys H (Q : VK), SqT K H p ys → Q (.int ys.length) H → q [.ref p] H Q) → DE K (tCB q (tCons (tVar 0) tNil)) (List.map some [PyData.tuple (h :: r)] ++ List.replicate (1 - 1) none) (.int ((h :: r).length : Int)) := fun hq => de_lenT hq (de_var rfl)
      have IN : DE K (tTup (tCons (tC (.str "keep")) (tCons (tC (.str "restore")) (tCons (tC (.str "advance")) tNil)))) (List.map some [PyData.tuple (h :: r)] ++ List.replicate (1 - 1) none) (.tuple [.str "keep", .str "restore", .str "advance"]) := de_tup (da_cons de_str (da_cons de_str (da_one de_str)))
      by_cases ct : isStr h "turn" = true
      · -- turn
        obtain rfl : h = .str "turn" := by
          cases h with
          | str z => exact congrArg PyData.str (of_decide_eq_true ct)
          | none => cases ct
          | bool b => cases ct
          | int i => cases ct
          | tuple l => cases ct
          | list l => cases ct
          | dict l => cases ct
        refine dr_whenT (dt_test (ct ▸ de_eqX H0 de_str fl)) (dr_ret ?_)
        have e : (act? (.tuple (PyData.str "turn" :: r))).isSome = decide ((((PyData.str "turn" :: r).length : Nat) : Int) = 1) := by
          rcases r with _ | ⟨y, r⟩
          · rfl
          · have : ¬ ((((PyData.str "turn" :: y :: r).length : Nat) : Int) = 1) := by simp; omega
            rw [decide_eq_false this]
            rcases r with _ | ⟨y2, r⟩
            · cases y <;> rfl
            · cases y <;> rfl
        rw [e]
        exact de_eqI (LEN (fun p ys H Q h q => ⟨p, ys, rfl, .inr h, q⟩)) de_int
      · refine dr_whenF (dt_test ((Bool.eq_false_iff.mpr ct) ▸ de_eqX H0 de_str fl)) ?_
        by_cases ci : inStr h ["keep", "restore", "advance"] = true
        · obtain ⟨z, rfl, hz⟩ : ∃ z, h = .str z ∧ z ∈ (["keep", "restore", "advance"] : List Str) := by
            cases h with
            | str z => exact ⟨z, rfl, of_decide_eq_true ci⟩
            | none => cases ci
            | bool b => cases ci
            | int i => cases ci
            | tuple l => cases ci
            | list l => cases ci
            | dict l => cases ci
          have NI : DT K (tTest (tOp (rIn K true) (tOp (rIxT K) (tVar 0) (tC (.int 0))) (tTup (tCons (tC (.str "keep")) (tCons (tC (.str "restore")) (tCons (tC (.str "advance")) tNil)))))) (List.map some [PyData.tuple (.str z :: r)] ++ List.replicate (1 - 1) none) false := by
            have := de_ninX (K := K) H0 IN (zs := ["keep", "restore", "advance"]) rfl fl
            rw [ci] at this
            exact dt_test this
          rcases r with _ | ⟨y, r⟩
          · refine dr_whenT (dt_orF NI (dt_test (b := true) (de_neI (K := K) (LEN (fun p ys H Q h q => ⟨p, ys, rfl, .inr h, q⟩)) (de_int (i := 2))))) ?_
            · have e : (act? (.tuple [PyData.str z])).isSome = false := by
                have : ¬ z = "turn" := fun q => ct (by rw [q]; rfl)
                show (if z = "turn" then some Act.turn else none).isSome = false
                rw [if_neg this]
                rfl
              rw [e]
              exact dr_ret de_bl
          rcases r with _ | ⟨y2, r⟩
          · -- two parts
            refine dr_whenF (dt_orF NI (dt_test (b := false) (de_neI (K := K) (LEN (fun p ys H Q h q => ⟨p, ys, rfl, .inr h, q⟩)) (de_int (i := 2))))) ?_
            have H1 : DE K (tOp (rIxT K) (tVar 0) (tC (.int 1))) (List.map some [PyData.tuple [.str z, y]] ++ List.replicate (1 - 1) none) y := de_ix (de_var rfl) de_int rfl
            have ISI := de_call (K := K) (E := fun _ _ _ => False) (da_one H1) pv_isi
            have zt : ¬ z = "turn" := fun q => ct (by rw [q]; rfl)
            cases y with
            | int n =>
              have e : (act? (.tuple [PyData.str z, .int n])).isSome = decide ((if z = "advance" then (1 : Int) else 0) ≤ n) := by
                show (if z = "advance" then (if 1 ≤ n then some (Act.advance n) else none) else if z = "keep" then (if 0 ≤ n then some (.keep n) else none) else if z = "restore" then (if 0 ≤ n then some (.restore n) else none) else none).isSome = _
                by_cases c1 : z = "advance"
                · rw [if_pos c1, if_pos c1]
                  by_cases c2 : 1 ≤ n
                  · rw [if_pos c2, decide_eq_true c2]; rfl
                  · rw [if_neg c2, decide_eq_false c2]; rfl
                · rw [if_neg c1, if_neg c1]
                  by_cases c3 : z = "keep"
                  · rw [if_pos c3]
                    by_cases c2 : 0 ≤ n
                    · rw [if_pos c2, decide_eq_true c2]; rfl
                    · rw [if_neg c2, decide_eq_false c2]; rfl
                  · rw [if_neg c3]
                    have c4 : z = "restore" := by
                      rcases List.mem_cons.mp hz with h | h
                      · exact absurd h c3
                      · rcases List.mem_cons.mp h with h | h
                        · exact h
                        · exact absurd (List.mem_singleton.mp h) c1
                    rw [if_pos c4]
                    by_cases c2 : 0 ≤ n
                    · rw [if_pos c2, decide_eq_true c2]; rfl
                    · rw [if_neg c2, decide_eq_false c2]; rfl
              rw [e]
              refine dr_ret (de_andT ISI ?_)
              refine de_cmpI (p := fun i j => decide (j ≤ i)) H1 ?_
              by_cases c1 : z = "advance"
              · rw [if_pos c1]
                refine de_ifT (dt_test ?_) de_int
                have := de_eqX (K := K) H0 (de_str (z := "advance")) fl
                rw [show isStr (.str z) "advance" = true from decide_eq_true c1] at this
                exact this
              · rw [if_neg c1]
                refine de_ifF (dt_test ?_) de_int
                have := de_eqX (K := K) H0 (de_str (z := "advance")) fl
                rw [show isStr (.str z) "advance" = false from decide_eq_false c1] at this
                exact this
            | none => exact dr_ret (de_andF ISI)
            | bool b => exact dr_ret (de_andF ISI)
            | str s => exact dr_ret (de_andF ISI)
            | tuple l => exact dr_ret (de_andF ISI)
            | list l => exact dr_ret (de_andF ISI)
            | dict l => exact dr_ret (de_andF ISI)
          · -- three parts and more
            have e : (act? (.tuple (PyData.str z :: y :: y2 :: r))).isSome = false := by cases y <;> rfl
            rw [e]
            refine dr_whenT (dt_orF NI (dt_test (b := true) ?_)) (dr_ret de_bl)
            refine de_of ?_ (de_neI (K := K) (LEN (fun p ys H Q h q => ⟨p, ys, rfl, .inr h, q⟩)) (de_int (i := 2)))
            have : ¬ ((((PyData.str z :: y :: y2 :: r).length : Nat) : Int) = 2) := by simp; omega
            rw [decide_eq_false this]
            rfl
        · have NI : DT K (tTest (tOp (rIn K true) (tOp (rIxT K) (tVar 0) (tC (.int 0))) (tTup (tCons (tC (.str "keep")) (tCons (tC (.str "restore")) (tCons (tC (.str "advance")) tNil)))))) (List.map some [PyData.tuple (h :: r)] ++ List.replicate (1 - 1) none) true := by
            have := de_ninX (K := K) H0 IN (zs := ["keep", "restore", "advance"]) rfl fl
            rw [Bool.eq_false_iff.mpr ci] at this
            exact dt_test this
          have e : (act? (.tuple (h :: r))).isSome = false := by
            cases h with
            | str z =>
              have zt : ¬ z = "turn" := fun q => ct (by rw [q]; rfl)
              have zi : ¬ z ∈ (["keep", "restore", "advance"] : List Str) := fun q => ci (decide_eq_true q)
              rcases r with _ | ⟨y, r⟩
              · show (if z = "turn" then some Act.turn else none).isSome = false
                rw [if_neg zt]; rfl
              rcases r with _ | ⟨y2, r⟩
              · cases y with
                | int n =>
                  show (if z = "advance" then (if 1 ≤ n then some (Act.advance n) else none) else if z = "keep" then (if 0 ≤ n then some (.keep n) else none) else if z = "restore" then (if 0 ≤ n then some (.restore n) else none) else none).isSome = _
                  rw [if_neg (fun q => zi (by rw [q]; simp)), if_neg (fun q => zi (by rw [q]; simp)), if_neg (fun q => zi (by rw [q]; simp))]
                  rfl
                | none => rfl
                | bool b => rfl
                | str s => rfl
                | tuple l => rfl
                | list l => rfl
                | dict l => rfl
              · cases y <;> rfl
            | none => rcases r with _ | ⟨y, _ | ⟨y2, r⟩⟩ <;> first | rfl | (cases y <;> rfl)
            | bool b => rcases r with _ | ⟨y, _ | ⟨y2, r⟩⟩ <;> first | rfl | (cases y <;> rfl)
            | int i => rcases r with _ | ⟨y, _ | ⟨y2, r⟩⟩ <;> first | rfl | (cases y <;> rfl)
            | tuple l => cases fl
            | list l => cases fl
            | dict l => cases fl
          rw [e]
          exact dr_whenT (dt_orT NI) (dr_ret de_bl)
end
end Sd

/-! ## the judge's object -/
namespace Sd
open PySem L2 Tr Pu PyProof.Rows
structure JS where
  front : Int
  slots : Int
  pos : Option Int
  kvs : List (Key × V)
  cost : Int
def posV : Option Int → V
  | none => .non
  | some i => .int i
def jf (front slots : Int) (pos : V) (d : Addr) (cost : Int) : List (Str × V) := [("front", .int front), ("slots", .int slots), ("position", pos), ("kept", .ref d), ("cost", .int cost)]
structure JAt (C : Addr) (H : Hp) (p d : Addr) (j : JS) : Prop where
  ob : ∃ dx, H p = some (.ins C dx (jf j.front j.slots (posV j.pos) d j.cost))
  dc : H d = some (.dK j.kvs)
theorem JAt.next {C : Addr} {H H' : Hp} {p d : Addr} {j : JS} (h : JAt C H p d j) (s : Same H H') : JAt C H' p d j := by
  obtain ⟨dx, e⟩ := h.ob
  exact ⟨⟨dx, s _ _ e⟩, s _ _ h.dc⟩
def reasonA (j : JS) : Act → Option Str
  | .keep s => if j.slots ≤ s then some "slot" else (match j.pos with | none => some "nowhere" | some _ => none)
  | .restore s => if j.slots ≤ s then some "slot" else if (valV j.kvs (Sum.inl s : Key)).isSome = true then none else some "empty"
  | .advance n => match j.pos with | none => some "nowhere" | some p => if j.front ≤ p + n then some "beyond" else none
  | .turn => match j.pos with | none => some "nowhere" | some p => if p = j.front - 1 then none else some "turn"
def reason (j : JS) (x : PyData) : Option Str :=
  match act? x with
  | none => some "form"
  | some a => if j.front = 0 then some "done" else reasonA j a
theorem rea_none {j : JS} {x : PyData} (h : act? x = none) : reason j x = some ("form" : Str) := by unfold reason; rw [h]
theorem rea_done {j : JS} {x : PyData} {a : Act} (h : act? x = some a) (h0 : j.front = 0) : reason j x = some ("done" : Str) := by unfold reason; rw [h]; exact if_pos h0
theorem rea_act {j : JS} {x : PyData} {a : Act} (h : act? x = some a) (h0 : ¬ j.front = 0) : reason j x = reasonA j a := by unfold reason; rw [h]; exact if_neg h0
def follow (j : JS) : Act → JS
  | .keep s => { j with kvs := putK j.kvs (Sum.inl s : Key) (posV j.pos) }
  | .restore s => { j with pos := match valV j.kvs (Sum.inl s : Key) with | some (.int i) => some i | _ => none }
  | .advance n => match j.pos with | some p => { j with pos := some (p + n), cost := j.cost + n } | none => j
  | .turn => { j with pos := none, front := j.front - 1 }
/-- the kept positions are whole numbers -/
def KI (j : JS) : Prop := ∀ k v, valV j.kvs k = some v → ∃ i, v = .int i
def reaV : Option Str → V
  | none => .non
  | some r => .str r
structure JTxt (K : PySem.W.Frag) (C : Addr) : Prop where
  cl : Cls K C
  nF : NoAttr K C "front"
  nS : NoAttr K C "slots"
  nP : NoAttr K C "position"
  nK : NoAttr K C "kept"
  nC : NoAttr K C "cost"
def spJin (CJ : Addr) : Sp := fun vs H Q _ => ∃ (p dx : Addr) (b s : Int), vs = [.ref p, .int b, .int s] ∧ H p = some (.ins CJ dx []) ∧
  ∀ d H', H d = none → d ≠ p → JAt CJ H' p d ⟨b, s, some 0, [], 0⟩ → (∀ c o, H c = some o → c ≠ p → H' c = some o) → Q .non H'
def spFind (K : PySem.W.Frag) (CJ : Addr) : Sp := fun vs H Q _ => ∃ (p d : Addr) (j : JS) (x : PyData) (v : V), vs = [.ref p, v] ∧ JAt CJ H p d j ∧ Tv K H x v ∧ flatHead x = true ∧
  ∀ H', Same H H' → Q (reaV (reason j x)) H'
def spFol (K : PySem.W.Frag) (CJ : Addr) : Sp := fun vs H Q _ => ∃ (p d : Addr) (j : JS) (x : PyData) (v : V) (a : Act), vs = [.ref p, v] ∧ JAt CJ H p d j ∧ p ≠ d ∧ Tv K H x v ∧ act? x = some a ∧ reason j x = none ∧ KI j ∧ j.kvs.length ≤ 5000 ∧
  ∀ H', JAt CJ H' p d (follow j a) → (∀ c o, H c = some o → c ≠ p → c ≠ d → H' c = some o) → Q .non H'
def Act.ok : Act → Prop
  | .keep s => 0 ≤ s | .restore s => 0 ≤ s | .advance n => 1 ≤ n | .turn => True
theorem act_2 {z : Str} {n : Int} {a : Act} (h : act? (.tuple [.str z, .int n]) = some a) : PyData.tuple [.str z, .int n] = a.enc ∧ a.ok := by
  have h' : (if z = "advance" then (if 1 ≤ n then some (Act.advance n) else none) else if z = "keep" then (if 0 ≤ n then some (.keep n) else none) else if z = "restore" then (if 0 ≤ n then some (.restore n) else none) else none) = some a := h
  by_cases c1 : z = "advance"
  · rw [if_pos c1] at h'
    by_cases c2 : 1 ≤ n
    · rw [if_pos c2] at h'
      cases Option.some.inj h'
      subst c1
      exact ⟨rfl, c2⟩
    · rw [if_neg c2] at h'
      cases h'
  rw [if_neg c1] at h'
  by_cases c3 : z = "keep"
  · rw [if_pos c3] at h'
    by_cases c2 : 0 ≤ n
    · rw [if_pos c2] at h'
      cases Option.some.inj h'
      subst c3
      exact ⟨rfl, c2⟩
    · rw [if_neg c2] at h'
      cases h'
  rw [if_neg c3] at h'
  by_cases c4 : z = "restore"
  · rw [if_pos c4] at h'
    by_cases c2 : 0 ≤ n
    · rw [if_pos c2] at h'
      cases Option.some.inj h'
      subst c4
      exact ⟨rfl, c2⟩
    · rw [if_neg c2] at h'
      cases h'
  · rw [if_neg c4] at h'
    cases h'
theorem act_1 {z : Str} {a : Act} (h : act? (.tuple [.str z]) = some a) : PyData.tuple [.str z] = a.enc ∧ a.ok := by
  have h' : (if z = "turn" then some Act.turn else none) = some a := h
  by_cases c1 : z = "turn"
  · rw [if_pos c1] at h'
    cases Option.some.inj h'
    subst c1
    exact ⟨rfl, trivial⟩
  · rw [if_neg c1] at h'
    cases h'
theorem act_some {x : PyData} {a : Act} (h : act? x = some a) : x = a.enc ∧ a.ok := by
  cases x with
  | tuple l =>
    rcases l with _ | ⟨u, _ | ⟨y, _ | ⟨y2, r⟩⟩⟩
    · cases h
    · cases u with
      | str z => exact act_1 h
      | none => cases h
      | bool b => cases h
      | int i => cases h
      | tuple l => cases h
      | list l => cases h
      | dict l => cases h
    · cases u with
      | str z =>
        cases y with
        | int n => exact act_2 h
        | none => cases h
        | bool b => cases h
        | str i => cases h
        | tuple l => cases h
        | list l => cases h
        | dict l => cases h
      | none => cases h
      | bool b => cases h
      | int i => cases h
      | tuple l => cases h
      | list l => cases h
      | dict l => cases h
    · cases u with
      | str z => cases y <;> cases h
      | none => cases h
      | bool b => cases h
      | int i => cases h
      | tuple l => cases h
      | list l => cases h
      | dict l => cases h
  | none => cases h
  | bool b => cases h
  | int i => cases h
  | str l => cases h
  | list l => cases h
  | dict l => cases h
abbrev sJin : Stmt := inClass (top 12) 0
abbrev sFind : Stmt := inClass (top 12) 1
abbrev sFol : Stmt := inClass (top 12) 2
section
variable {P : Program} {w : World} {K : PySem.W.Frag} {mg : Str → Option Value} {base : Heap} {CJ : Addr}
theorem scJin : FnScope ["self", "beats", "slots"] ["self", "beats", "slots"] (defScope sJin) := ⟨rfl, rfl, rfl, by decide +kernel, rfl, by decide +kernel, by decide +kernel⟩
theorem ok_jin {f : Addr} {fd : FuncData} (F : Fun K "__init__" "Judge.__init__" sJin f fd) (T : JTxt K CJ) : FnOk P w K mg base CX0 1 f fd ["self", "beats", "slots"] (spJin CJ) := by
  refine F.ok scJin (fun vs H Q E h => ?_) (fun cdv A outer s H vs Q E hr h => ?_)
  · obtain ⟨p, dx, b, s, rfl, _⟩ := h
    rfl
  · obtain ⟨p, dx, b, s, rfl, hp, q⟩ := h
    refine ⟨_, pss_cons (ps_fld (pv 0) (pv 1) rfl)
      (pss_cons (ps_fld (pv 0) (pv 2) rfl)
      (pss_cons (ps_fld (pv 0) pe_int rfl)
      (pss_cons (ps_fld (pv 0) pe_dnewK rfl)
      (pss_one (ps_fld (pv 0) pe_int rfl))))), ?_⟩
    refine ⟨_, rfl, _, rfl, p, CJ, dx, _, rfl, hp, T.cl, T.nF, (by show 0 < 1000; decide), ?_⟩
    refine ⟨_, rfl, _, rfl, p, CJ, dx, _, rfl, upd_same, T.cl, T.nS, (by show 1 < 1000; decide), ?_⟩
    refine ⟨_, rfl, p, CJ, dx, _, rfl, upd_same, T.cl, T.nP, (by show 2 < 1000; decide), ?_⟩
    rw [upd_upd, upd_upd]
    intro d hd
    have nd : d ≠ p := fun z => by rw [z, upd_same] at hd; cases hd
    have hd0 : H d = none := by rw [upd_ne nd] at hd; exact hd
    refine ⟨_, rfl, p, CJ, dx, _, rfl, (by rw [upd_ne nd.symm]; exact upd_same), T.cl, T.nK, (by show 3 < 1000; decide), ?_⟩
    refine ⟨_, rfl, p, CJ, dx, _, rfl, upd_same, T.cl, T.nC, (by show 4 < 1000; decide), ?_⟩
    rw [upd_upd]
    refine q d _ hd0 nd ⟨⟨dx, upd_same⟩, ?_⟩ (fun c o e hc => ?_)
    · rw [upd_ne nd, upd_same]
    · rw [upd_ne hc, upd_ne (ne_of_none e hd0), upd_ne hc]
      exact e
theorem scFind : FnScope ["self", "action", "head"] ["self", "action"] (defScope sFind) := ⟨rfl, rfl, rfl, by decide +kernel, rfl, by decide +kernel, by decide +kernel⟩
theorem ok_find {f : Addr} {fd : FuncData} (F : Fun K "find_reason" "Judge.find_reason" sFind f fd) (T : JTxt K CJ) (c_act : Cal P w K mg base CX0 2 "is_action" ["value"] (spP K 1 dAct)) : FnOk P w K mg base CX0 3 f fd ["self", "action"] (spFind K CJ) := by
  refine F.ok scFind (fun vs H Q E h => ?_) (fun cdv A outer s H vs Q E hr h => ?_)
  · obtain ⟨p, d, j, x, v, rfl, _⟩ := h
    rfl
  · obtain ⟨p, d, j, x, v, rfl, hj, tx, fh, q⟩ := h
    have nd := scFind.nd
    refine ⟨_, pss_cons (ps_if (pt_not (pt_val (pe_call c_act.ok (hr.mono (by first | decide | omega)) rfl c_act.m c_act.kp c_act.b .nil pass0 (pa_cons (pv 1) pa_nil)))) (pss_one (ps_ret pe_str)) pss_nil)
      (pss_cons (ps_if (pt_cmpR op_eq (pe_fld (pv 0) rfl) pe_int (nomark _)) (pss_one (ps_ret pe_str)) pss_nil)
      (pss_cons (ps_set (i := 2) nd rfl (.inl rfl) (pe_ix ix_tup (pv 1) pe_int (fun _ _ => rfl)))
      (pss_cons (ps_if (PW.pt (pw_and (pt_cmpR (inK (K' := K) rfl) (pv 2) (pe_tup (pa_cons pe_str (pa_cons pe_str pa_nil))) (by rfl)) (pw_and1 (pt_cmpR op_ge (pe_ix ix_tup (pv 1) pe_int (fun _ _ => rfl)) (pe_fld (pv 0) rfl) (nomark _))))) (pss_one (ps_ret pe_str)) pss_nil)
      (pss_cons (ps_if (pt_cmpR op_eq (pv 2) pe_str (nomark _)) (pss_one (ps_ret (pe_ifExp (pt_cmp (pc_din (hu_of hr) (pe_ix ix_tup (pv 1) pe_int (fun _ _ => rfl)) (pe_fld (pv 0) rfl))) pe_non pe_str))) pss_nil)
      (pss_cons (ps_if (pt_cmpR op_isN (pe_fld (pv 0) rfl) pe_non (nomark _)) (pss_one (ps_ret pe_str)) pss_nil)
      (pss_cons (ps_if (PW.pt (pw_and (pt_cmpR op_eq (pv 2) pe_str (nomark _)) (pw_and1 (pt_cmpR op_ge (pe_op op_add (pe_fld (pv 0) rfl) (pe_ix ix_tup (pv 1) pe_int (fun _ _ => rfl))) (pe_fld (pv 0) rfl) (nomark _))))) (pss_one (ps_ret pe_str)) pss_nil)
      (pss_cons (ps_if (PW.pt (pw_and (pt_cmpR op_eq (pv 2) pe_str (nomark _)) (pw_and1 (pt_cmpR op_ne (pe_fld (pv 0) rfl) (pe_op op_sub (pe_fld (pv 0) rfl) pe_int) (nomark _))))) (pss_one (ps_ret pe_str)) pss_nil)
      (pss_one (ps_ret pe_non))))))))), ?_⟩
    refine ⟨_, rfl, [x], _, rfl, ⟨_, _, rfl, tx, rfl⟩, ⟨x, rfl, fh, rfl⟩, fun u H1 s1 tu => ?_⟩
    cases tu
    refine ⟨_, rfl, ?_⟩
    cases ha : act? x with
    | none =>
      refine iteT' rfl ?_
      rw [rea_none ha] at q
      exact q H1 s1
    | some a =>
      refine iteF' rfl ?_
      obtain ⟨dx, ej⟩ := (hj.next s1).ob
      have ek := (hj.next s1).dc
      have tx1 := tx.carry (same_carry s1)
      obtain ⟨rfl, hok⟩ := act_some ha
      refine ⟨_, rfl, p, CJ, dx, _, _, rfl, ej, T.cl, T.nF, rfl, rfl, _, rfl, ?_⟩
      by_cases c0 : j.front = 0
      · refine iteT' (by simp [c0]) ?_
        rw [rea_done ha c0] at q
        exact q H1 s1
      refine iteF' (by simp [c0]) ?_
      have two : 2 ≤ sizeLine := by decide
      cases a with
      | keep s =>
        obtain ⟨va, xs, rfl, sq, u1, r1, rfl, t1, u2, r2, rfl, t2, rfl⟩ := tx1
        cases t1
        cases t2
        refine ⟨_, rfl, va, _, 0, _, rfl, rfl, sq, rfl, ?_⟩
        refine ⟨_, rfl, two, fun t ht => ⟨t, _, rfl, .inr (SqT.of upd_same), rfl, rfl, _, rfl, ?_⟩⟩
        refine iteT' (by decide +kernel) ?_
        have sm := s1.trans (same_alloc (o := .tup [V.str "keep", V.str "restore"]) ht)
        have ej2 : (upd H1 t (.tup [V.str "keep", V.str "restore"])) p = _ := same_alloc ht _ _ ej
        refine ⟨_, rfl, va, _, 1, _, rfl, rfl, same_carry (same_alloc ht) _ _ sq, rfl, _, rfl, p, CJ, dx, _, _, rfl, ej2, T.cl, T.nS, rfl, _, _, rfl, rfl, _, rfl, ?_⟩
        rw [rea_act ha c0] at q
        have er : reasonA j (Act.keep s) = if j.slots ≤ s then some ("slot" : Str) else (match j.pos with | none => some ("nowhere" : Str) | some _ => none) := rfl
        by_cases c1 : j.slots ≤ s
        · refine iteT' (decide_eq_true c1) ?_
          rw [er, if_pos c1] at q
          exact q _ sm
        refine iteF' (decide_eq_false c1) ?_
        rw [er, if_neg c1] at q
        refine ⟨_, rfl, rfl, _, rfl, iteF' (by decide +kernel) ?_⟩
        refine ⟨_, rfl, p, CJ, dx, _, _, rfl, ej2, T.cl, T.nP, rfl, rfl, _, rfl, ?_⟩
        cases hp : j.pos with
        | none =>
          refine iteT' rfl ?_
          rw [hp] at q
          exact q _ sm
        | some i =>
          refine iteF' rfl ?_
          rw [hp] at q
          refine ⟨_, rfl, rfl, _, rfl, iteF' (by decide +kernel) ?_⟩
          refine iteF ?_
          refine ⟨_, rfl, rfl, _, rfl, iteF' (by decide +kernel) ?_⟩
          refine iteF ?_
          exact q _ sm
      | restore s =>
        obtain ⟨va, xs, rfl, sq, u1, r1, rfl, t1, u2, r2, rfl, t2, rfl⟩ := tx1
        cases t1
        cases t2
        refine ⟨_, rfl, va, _, 0, _, rfl, rfl, sq, rfl, ?_⟩
        refine ⟨_, rfl, two, fun t ht => ⟨t, _, rfl, .inr (SqT.of upd_same), rfl, rfl, _, rfl, ?_⟩⟩
        refine iteT' (by decide +kernel) ?_
        have sm := s1.trans (same_alloc (o := .tup [V.str "keep", V.str "restore"]) ht)
        have ej2 : (upd H1 t (.tup [V.str "keep", V.str "restore"])) p = _ := same_alloc ht _ _ ej
        have ek2 : (upd H1 t (.tup [V.str "keep", V.str "restore"])) d = _ := same_alloc ht _ _ ek
        have sq2 := same_carry (K := K) (same_alloc (o := .tup [V.str "keep", V.str "restore"]) ht) _ _ sq
        refine ⟨_, rfl, va, _, 1, _, rfl, rfl, sq2, rfl, _, rfl, p, CJ, dx, _, _, rfl, ej2, T.cl, T.nS, rfl, _, _, rfl, rfl, _, rfl, ?_⟩
        rw [rea_act ha c0] at q
        have er : reasonA j (Act.restore s) = if j.slots ≤ s then some ("slot" : Str) else if (valV j.kvs (Sum.inl s : Key)).isSome = true then none else some ("empty" : Str) := rfl
        by_cases c1 : j.slots ≤ s
        · refine iteT' (decide_eq_true c1) ?_
          rw [er, if_pos c1] at q
          exact q _ sm
        refine iteF' (decide_eq_false c1) ?_
        rw [er, if_neg c1] at q
        refine ⟨_, rfl, rfl, _, rfl, iteT' (by decide +kernel) ?_⟩
        refine ⟨_, rfl, va, _, 1, _, rfl, rfl, sq2, rfl, _, rfl, p, CJ, dx, _, _, rfl, ej2, T.cl, T.nK, rfl, d, _, rfl, DGet.k (k := Sum.inl s) ek2, _, rfl, ?_⟩
        cases hv : (valV j.kvs (Sum.inl s : Key)).isSome with
        | true =>
          refine iteT' rfl ?_
          rw [hv, if_pos rfl] at q
          exact q _ sm
        | false =>
          refine iteF' rfl ?_
          rw [hv, if_neg Bool.false_ne_true] at q
          exact q _ sm
      | advance n =>
        obtain ⟨va, xs, rfl, sq, u1, r1, rfl, t1, u2, r2, rfl, t2, rfl⟩ := tx1
        cases t1
        cases t2
        refine ⟨_, rfl, va, _, 0, _, rfl, rfl, sq, rfl, ?_⟩
        refine ⟨_, rfl, two, fun t ht => ⟨t, _, rfl, .inr (SqT.of upd_same), rfl, rfl, _, rfl, ?_⟩⟩
        refine iteF' (by decide +kernel) ?_
        have sm := s1.trans (same_alloc (o := .tup [V.str "keep", V.str "restore"]) ht)
        have ej2 : (upd H1 t (.tup [V.str "keep", V.str "restore"])) p = _ := same_alloc ht _ _ ej
        have sq2 := same_carry (K := K) (same_alloc (o := .tup [V.str "keep", V.str "restore"]) ht) _ _ sq
        refine iteF ?_
        rw [rea_act ha c0] at q
        refine ⟨_, rfl, rfl, _, rfl, iteF' (by decide +kernel) ?_⟩
        refine ⟨_, rfl, p, CJ, dx, _, _, rfl, ej2, T.cl, T.nP, rfl, rfl, _, rfl, ?_⟩
        have er : reasonA j (Act.advance n) = match j.pos with | none => some ("nowhere" : Str) | some p => if j.front ≤ p + n then some ("beyond" : Str) else none := rfl
        rw [er] at q
        cases hp : j.pos with
        | none =>
          refine iteT' rfl ?_
          rw [hp] at q
          exact q _ sm
        | some i =>
          refine iteF' rfl ?_
          rw [hp] at q ej2
          refine ⟨_, rfl, rfl, _, rfl, iteT' (by decide +kernel) ?_⟩
          refine ⟨_, rfl, p, CJ, dx, _, _, rfl, ej2, T.cl, T.nP, rfl, _, rfl, va, _, 1, _, rfl, rfl, sq2, rfl, _, _, rfl, rfl, _, rfl, p, CJ, dx, _, _, rfl, ej2, T.cl, T.nF, rfl, _, _, rfl, rfl, _, rfl, ?_⟩
          by_cases c1 : j.front ≤ i + n
          · refine iteT' (decide_eq_true c1) ?_
            have q' := q _ sm
            rw [show (match some i with | none => some ("nowhere" : Str) | some p => if j.front ≤ p + n then some ("beyond" : Str) else none) = some ("beyond" : Str) from if_pos c1] at q'
            exact q'
          · refine iteF' (decide_eq_false c1) ?_
            refine ⟨_, rfl, rfl, _, rfl, iteF' (by decide +kernel) ?_⟩
            refine iteF ?_
            have q' := q _ sm
            rw [show (match some i with | none => some ("nowhere" : Str) | some p => if j.front ≤ p + n then some ("beyond" : Str) else none) = none from if_neg c1] at q'
            exact q'
      | turn =>
        obtain ⟨va, xs, rfl, sq, u1, r1, rfl, t1, rfl⟩ := tx1
        cases t1
        refine ⟨_, rfl, va, _, 0, _, rfl, rfl, sq, rfl, ?_⟩
        refine ⟨_, rfl, two, fun t ht => ⟨t, _, rfl, .inr (SqT.of upd_same), rfl, rfl, _, rfl, ?_⟩⟩
        refine iteF' (by decide +kernel) ?_
        have sm := s1.trans (same_alloc (o := .tup [V.str "keep", V.str "restore"]) ht)
        have ej2 : (upd H1 t (.tup [V.str "keep", V.str "restore"])) p = _ := same_alloc ht _ _ ej
        refine iteF ?_
        rw [rea_act ha c0] at q
        refine ⟨_, rfl, rfl, _, rfl, iteF' (by decide +kernel) ?_⟩
        refine ⟨_, rfl, p, CJ, dx, _, _, rfl, ej2, T.cl, T.nP, rfl, rfl, _, rfl, ?_⟩
        have er : reasonA j Act.turn = match j.pos with | none => some ("nowhere" : Str) | some p => if p = j.front - 1 then none else some ("turn" : Str) := rfl
        rw [er] at q
        cases hp : j.pos with
        | none =>
          refine iteT' rfl ?_
          rw [hp] at q
          exact q _ sm
        | some i =>
          refine iteF' rfl ?_
          rw [hp] at q ej2
          refine ⟨_, rfl, rfl, _, rfl, iteF' (by decide +kernel) ?_⟩
          refine iteF ?_
          refine ⟨_, rfl, rfl, _, rfl, iteT' (by decide +kernel) ?_⟩
          refine ⟨_, rfl, p, CJ, dx, _, _, rfl, ej2, T.cl, T.nP, rfl, _, rfl, p, CJ, dx, _, _, rfl, ej2, T.cl, T.nF, rfl, _, _, rfl, rfl, rfl, _, rfl, ?_⟩
          by_cases c1 : i = j.front - 1
          · refine iteF' (by simp [posV, c1]) ?_
            have q' := q _ sm
            rw [show (match some i with | none => some ("nowhere" : Str) | some p => if p = j.front - 1 then none else some ("turn" : Str)) = none from if_pos c1] at q'
            exact q'
          · refine iteT' (by simp [posV, c1]) ?_
            have q' := q _ sm
            rw [show (match some i with | none => some ("nowhere" : Str) | some p => if p = j.front - 1 then none else some ("turn" : Str)) = some ("turn" : Str) from if_neg c1] at q'
            exact q'
theorem scFol : FnScope ["self", "action", "head"] ["self", "action"] (defScope sFol) := ⟨rfl, rfl, rfl, by decide +kernel, rfl, by decide +kernel, by decide +kernel⟩
theorem ok_fol {f : Addr} {fd : FuncData} (F : Fun K "follow" "Judge.follow" sFol f fd) (T : JTxt K CJ) : FnOk P w K mg base CX0 1 f fd ["self", "action"] (spFol K CJ) := by
  refine F.ok scFol (fun vs H Q E h => ?_) (fun cdv A outer s H vs Q E hr h => ?_)
  · obtain ⟨p, d, j, x, v, a, rfl, _⟩ := h
    rfl
  · obtain ⟨p, d, j, x, v, a, rfl, hj, npd, tx, ha, hrs, ki, hl, q⟩ := h
    have nd := scFol.nd
    obtain ⟨dx, ej⟩ := hj.ob
    have ek := hj.dc
    obtain ⟨rfl, hok⟩ := act_some ha
    have c0 : ¬ j.front = 0 := fun z => by rw [rea_done ha z] at hrs; cases hrs
    rw [rea_act ha c0] at hrs
    refine ⟨_, pss_cons (ps_set (i := 2) nd rfl (.inl rfl) (pe_ix ix_tup (pv 1) pe_int (fun _ _ => rfl)))
      (pss_one (ps_if (pt_cmpR op_eq (pv 2) pe_str (nomark _)) (pss_one (ps_dput (hu_of hr) (pe_fld (pv 0) rfl) (pe_ix ix_tup (pv 1) pe_int (fun _ _ => rfl)) (pe_fld (pv 0) rfl) rfl)) (pss_one (ps_if (pt_cmpR op_eq (pv 2) pe_str (nomark _)) (pss_one (ps_fld (pv 0) (pe_dget (hu_of hr) (pe_fld (pv 0) rfl) (pe_ix ix_tup (pv 1) pe_int (fun _ _ => rfl)) (fun _ _ => rfl)) rfl)) (pss_one (ps_if (pt_cmpR op_eq (pv 2) pe_str (nomark _)) (pss_cons (ps_fldaug (pv 0) (pe_ix ix_tup (pv 1) pe_int (fun _ _ => rfl)) in_add)
      (pss_one (ps_fldaug (pv 0) (pe_ix ix_tup (pv 1) pe_int (fun _ _ => rfl)) in_add))) (pss_cons (ps_fld (pv 0) pe_non rfl)
      (pss_one (ps_fldaug (pv 0) pe_int in_sub))))))))), ?_⟩
    cases a with
    | keep s =>
      obtain ⟨va, xs, rfl, sq, u1, r1, rfl, t1, u2, r2, rfl, t2, rfl⟩ := tx
      cases t1
      cases t2
      refine ⟨_, rfl, va, _, 0, _, rfl, rfl, sq, rfl, ?_⟩
      refine ⟨_, rfl, rfl, _, rfl, iteT' (by decide +kernel) ?_⟩
      refine ⟨_, rfl, p, CJ, dx, _, _, rfl, ej, T.cl, T.nP, rfl, _, rfl, p, CJ, dx, _, _, rfl, ej, T.cl, T.nK, rfl, _, rfl, va, _, 1, _, rfl, rfl, sq, rfl, d, _, rfl, DPut.k (k := Sum.inl s) ek (Nat.lt_of_le_of_lt hl (by decide)), ?_⟩
      refine q _ ⟨⟨dx, ?_⟩, upd_same⟩ (fun c o e h1 h2 => by rw [upd_ne h2]; exact e)
      rw [upd_ne npd]
      exact ej
    | restore s =>
      obtain ⟨va, xs, rfl, sq, u1, r1, rfl, t1, u2, r2, rfl, t2, rfl⟩ := tx
      cases t1
      cases t2
      have hv : ∃ i, valV j.kvs (Sum.inl s : Key) = some (.int i) := by
        have er : reasonA j (Act.restore s) = if j.slots ≤ s then some ("slot" : Str) else if (valV j.kvs (Sum.inl s : Key)).isSome = true then none else some ("empty" : Str) := rfl
        rw [er] at hrs
        split at hrs
        · cases hrs
        · split at hrs
          · rename_i hs
            obtain ⟨v, hv⟩ := Option.isSome_iff_exists.mp hs
            obtain ⟨i, rfl⟩ := ki _ _ hv
            exact ⟨i, hv⟩
          · cases hrs
      obtain ⟨i, hv⟩ := hv
      refine ⟨_, rfl, va, _, 0, _, rfl, rfl, sq, rfl, ?_⟩
      refine ⟨_, rfl, rfl, _, rfl, iteF' (by decide +kernel) ?_⟩
      refine ⟨_, rfl, rfl, _, rfl, iteT' (by decide +kernel) ?_⟩
      refine ⟨_, rfl, p, CJ, dx, _, _, rfl, ej, T.cl, T.nK, rfl, _, rfl, va, _, 1, _, rfl, rfl, sq, rfl, d, .int i, rfl, hv ▸ DGet.k (k := Sum.inl s) ek, ?_⟩
      refine ⟨_, rfl, p, CJ, dx, _, rfl, ej, T.cl, T.nP, (by show 5 < 1000; decide), ?_⟩
      have ef : follow j (.restore s) = { j with pos := some i } := by
        show { j with pos := match valV j.kvs (Sum.inl s : Key) with | some (.int i) => some i | _ => none } = _
        rw [hv]
      refine q _ ⟨⟨dx, ?_⟩, ?_⟩ (fun c o e h1 h2 => by rw [upd_ne h1]; exact e)
      · rw [upd_same, ef]
        rfl
      · rw [upd_ne npd.symm, ef]
        exact ek
    | advance n =>
      obtain ⟨va, xs, rfl, sq, u1, r1, rfl, t1, u2, r2, rfl, t2, rfl⟩ := tx
      cases t1
      cases t2
      obtain ⟨i, hp⟩ : ∃ i, j.pos = some i := by
        cases hp : j.pos with
        | none =>
          have er : reasonA j (Act.advance n) = match j.pos with | none => some ("nowhere" : Str) | some p => if j.front ≤ p + n then some ("beyond" : Str) else none := rfl
          rw [er, hp] at hrs
          cases hrs
        | some i => exact ⟨i, rfl⟩
      have ef : follow j (.advance n) = { j with pos := some (i + n), cost := j.cost + n } := by
        show (match j.pos with | some p => { j with pos := some (p + n), cost := j.cost + n } | none => j) = _
        rw [hp]
      rw [hp] at ej
      refine ⟨_, rfl, va, _, 0, _, rfl, rfl, sq, rfl, ?_⟩
      refine ⟨_, rfl, rfl, _, rfl, iteF' (by decide +kernel) ?_⟩
      refine ⟨_, rfl, rfl, _, rfl, iteF' (by decide +kernel) ?_⟩
      refine ⟨_, rfl, rfl, _, rfl, iteT' (by decide +kernel) ?_⟩
      have sq2 : SqT K (upd H p (.ins CJ dx (putF "position" (.int (i + n)) (jf j.front j.slots (posV (some i)) d j.cost)))) va [.str "advance", .int n] := by
        rcases sq with (q1 | ⟨o, q1⟩) | q1
        · exact .inl (.inl (by rw [upd_ne (ne_of q1 ej (by intro z; cases z))]; exact q1))
        · exact .inl (.inr ⟨o, by rw [upd_ne (ne_of q1 ej (by intro z; cases z))]; exact q1⟩)
        · exact .inr q1
      refine ⟨_, rfl, p, CJ, dx, _, _, rfl, ej, T.cl, T.nP, rfl, _, rfl, va, _, 1, _, rfl, rfl, sq, rfl, _, _, rfl, rfl, dx, _, ej, (by show 5 < 1000; decide), ?_⟩
      refine ⟨_, rfl, p, CJ, dx, _, _, rfl, upd_same, T.cl, T.nC, rfl, _, rfl, va, _, 1, _, rfl, rfl, sq2, rfl, _, _, rfl, rfl, dx, _, upd_same, (by show 5 < 1000; decide), ?_⟩
      rw [upd_upd]
      refine q _ ⟨⟨dx, ?_⟩, ?_⟩ (fun c o e h1 h2 => by rw [upd_ne h1]; exact e)
      · rw [upd_same, ef]
        rfl
      · rw [upd_ne npd.symm, ef]
        exact ek
    | turn =>
      obtain ⟨va, xs, rfl, sq, u1, r1, rfl, t1, rfl⟩ := tx
      cases t1
      refine ⟨_, rfl, va, _, 0, _, rfl, rfl, sq, rfl, ?_⟩
      refine ⟨_, rfl, rfl, _, rfl, iteF' (by decide +kernel) ?_⟩
      refine ⟨_, rfl, rfl, _, rfl, iteF' (by decide +kernel) ?_⟩
      refine ⟨_, rfl, rfl, _, rfl, iteF' (by decide +kernel) ?_⟩
      refine ⟨_, rfl, p, CJ, dx, _, rfl, ej, T.cl, T.nP, (by show 5 < 1000; decide), ?_⟩
      refine ⟨_, rfl, p, CJ, dx, _, _, rfl, upd_same, T.cl, T.nF, rfl, _, _, rfl, rfl, dx, _, upd_same, (by show 5 < 1000; decide), ?_⟩
      rw [upd_upd]
      refine q _ ⟨⟨dx, ?_⟩, ?_⟩ (fun c o e h1 h2 => by rw [upd_ne h1]; exact e)
      · rw [upd_same]
        rfl
      · rw [upd_ne npd.symm]
        exact ek
end
end Sd

/-! ## judge -/
namespace Sd
open PySem L2 Tr Pu PyProof.Rows
/-- an action that is right where it stands, followed -/
def stepJ (j : JS) (x : PyData) : Option JS :=
  match reason j x with
  | some _ => none
  | none => match act? x with
    | some a => some (follow j a)
    | none => none
def runJ (j : JS) : List PyData → Option JS
  | [] => some j
  | x :: r => match stepJ j x with
    | some j' => runJ j' r
    | none => none
theorem runJ_app (j : JS) (l : List PyData) (x : PyData) {j' : JS} (h : runJ j l = some j') : runJ j (l ++ [x]) = stepJ j' x := by
  induction l generalizing j with
  | nil =>
    have e : j = j' := Option.some.inj h
    subst e
    show (match stepJ j x with | some j' => some j' | none => none) = _
    cases stepJ j x <;> rfl
  | cons y r ih =>
    show (match stepJ j y with | some j' => runJ j' (r ++ [x]) | none => none) = _
    have h' : (match stepJ j y with | some j' => runJ j' r | none => none) = some j' := h
    cases e : stepJ j y with
    | none => rw [e] at h'; cases h'
    | some j2 =>
      rw [e] at h'
      exact ih j2 h'
theorem runJ_pre (j : JS) (l r : List PyData) {j' : JS} (h : runJ j (l ++ r) = some j') : ∃ j1, runJ j l = some j1 := by
  induction l generalizing j with
  | nil => exact ⟨j, rfl⟩
  | cons y l ih =>
    have h' : (match stepJ j y with | some j1 => runJ j1 (l ++ r) | none => none) = some j' := h
    cases e : stepJ j y with
    | none => rw [e] at h'; cases h'
    | some j2 =>
      rw [e] at h'
      obtain ⟨j1, h1⟩ := ih j2 h'
      refine ⟨j1, ?_⟩
      show (match stepJ j y with | some j1 => runJ j1 l | none => none) = some j1
      rw [e]
      exact h1
/-- where the whole is right no action is wrong -/
theorem run_fine {j0 j j' : JS} {ds : List PyData} {i : Nat} {x : PyData} {r : Str} (h : runJ j0 ds = some j) (hi : ds[i]? = some x) (hp : runJ j0 (ds.take i) = some j') (hr : reason j' x = some r) : False := by
  have e : ds = ds.take (i + 1) ++ ds.drop (i + 1) := (List.take_append_drop _ _).symm
  rw [e] at h
  obtain ⟨j1, h1⟩ := runJ_pre _ _ _ h
  have tk : ds.take (i + 1) = ds.take i ++ [x] := by rw [List.take_add_one, hi]; rfl
  rw [tk, runJ_app _ _ _ hp] at h1
  unfold stepJ at h1
  rw [hr] at h1
  cases h1
def js0 (b s : Int) : JS := ⟨b, s, some 0, [], 0⟩
theorem ki_step {j : JS} {a : Act} {x : PyData} (h : KI j) (ha : act? x = some a) (hr : reason j x = none) : KI (follow j a) := by
  have c0 : ¬ j.front = 0 := fun z => by rw [rea_done ha z] at hr; cases hr
  rw [rea_act ha c0] at hr
  cases a with
  | keep s =>
    intro k v hv
    have hv' : valV (putK j.kvs (Sum.inl s : Key) (posV j.pos)) k = some v := hv
    rw [valV_put] at hv'
    split at hv'
    · cases hp : j.pos with
      | none =>
        have er : reasonA j (Act.keep s) = if j.slots ≤ s then some ("slot" : Str) else (match j.pos with | none => some ("nowhere" : Str) | some _ => none) := rfl
        rw [er, hp] at hr
        split at hr <;> cases hr
      | some i =>
        rw [hp] at hv'
        exact ⟨i, (Option.some.inj hv').symm⟩
    · exact h _ _ hv'
  | restore s => exact h
  | advance n =>
    intro k v hv
    refine h k v ?_
    have e : (follow j (.advance n)).kvs = j.kvs := by
      show (match j.pos with | some p => { j with pos := some (p + n), cost := j.cost + n } | none => j).kvs = _
      cases j.pos <;> rfl
    rw [e] at hv
    exact hv
  | turn => exact h
theorem put_len (c : List (Key × V)) (k : Key) (x : V) : (putK c k x).length ≤ c.length + 1 := by
  unfold putK
  split
  · rw [List.length_map]; exact Nat.le_succ _
  · rw [List.length_append]; exact Nat.le_refl _
theorem kvs_len (j : JS) (a : Act) : (follow j a).kvs.length ≤ j.kvs.length + 1 := by
  cases a with
  | keep s => exact put_len _ _ _
  | restore s => exact Nat.le_succ _
  | advance n =>
    have e : (follow j (.advance n)).kvs = j.kvs := by
      show (match j.pos with | some p => { j with pos := some (p + n), cost := j.cost + n } | none => j).kvs = _
      cases j.pos <;> rfl
    rw [e]
    exact Nat.le_succ _
  | turn => exact Nat.le_succ _
def spJudge (K : PySem.W.Frag) (CS CA : Addr) : Sp := fun vs H Q E => ∃ (v : V) (sd bd nd : PyData) (u1 u2 : V), vs = [v, u1, u2] ∧ Tv K H sd v ∧ Tv K H bd u1 ∧ Tv K H nd u2 ∧
  (∀ ds, sd = .tuple ds → (∀ x ∈ ds, flatHead x = true) ∧ ds.length ≤ 2000) ∧
  (btw bd 0 40 = false → ∀ d H', Same H H' → H' d = some (.xd [("reason", .str "beats")]) → E (.ref CA) (some d) H') ∧
  (btw bd 0 40 = true → btw nd 0 8 = false → ∀ d H', Same H H' → H' d = some (.xd [("reason", .str "slots")]) → E (.ref CA) (some d) H') ∧
  ∀ b s : Int, bd = .int b → nd = .int s → btw bd 0 40 = true → btw nd 0 8 = true →
    ((∀ ds, sd ≠ .tuple ds) → ∀ d H', Same H H' → H' d = some (.xd [("reason", .str "form"), ("number", .int (-1))]) → E (.ref CS) (some d) H') ∧
    ∀ ds, sd = .tuple ds →
      (∀ j H', runJ (js0 b s) ds = some j → j.front = 0 → Same H H' → Q (.int j.cost) H') ∧
      (∀ (i : Nat) x j r d H', ds[i]? = some x → runJ (js0 b s) (ds.take i) = some j → reason j x = some r → Same H H' → H' d = some (.xd [("reason", .str r), ("number", .int (i : Int))]) → E (.ref CS) (some d) H') ∧
      (∀ j d H', runJ (js0 b s) ds = some j → ¬ j.front = 0 → Same H H' → H' d = some (.xd [("reason", .str "unfinished"), ("number", .int (ds.length : Int))]) → E (.ref CS) (some d) H')
/-- the error of a schedule being raised -/
theorem err_S {K : PySem.W.Frag} {C : Addr} {H H1 : Hp} {W : XK} {n : Int} {r : Str} (sm : Same H H1) (hn : n.natAbs < 10 ^ 12) (hr : r.length ≤ 1000) (k : ∀ d H', Same H H' → H' d = some (.xd [("reason", .str r), ("number", .int n)]) → W (.ref C) (some d) H') :
    [V.int n, V.str r].length ≤ 1000 ∧ ∀ a, H1 a = none → Er.spSE K C (.ref a :: ([V.int n, V.str r] ++ [])) (upd H1 a (exo a C none))
      (fun v H2 => v = .non ∧ ∃ (d : Addr) (fs : List (Str × V)), H2 a = some (exo a C (some d)) ∧ H2 d = some (exd d fs) ∧ H1 d = none ∧ W (.ref C) (some d) (upd (del H2 a) d (.xd fs))) (fun _ _ _ => False) := by
  refine ⟨(show 2 ≤ 1000 by decide), fun a ha => ⟨a, n, r, rfl, hn, hr, upd_same, fun dx hdx ne => ⟨rfl, dx, _, ?_, upd_same, (by rw [upd_ne ne] at hdx; exact hdx), ?_⟩⟩⟩
  · rw [upd_ne ne.symm]
    exact upd_same
  rw [upd_ne ne] at hdx
  refine k dx _ (fun b u e => ?_) upd_same
  have e1 := sm _ _ e
  have nb : b ≠ a := ne_of_none e1 ha
  have nb2 : b ≠ dx := ne_of_none e1 hdx
  rw [upd_ne nb2, del_ne nb, upd_ne nb2, upd_ne nb, upd_ne nb2, upd_ne nb]
  exact e1
theorem rea_short {j : JS} {x : PyData} {r : Str} (h : reason j x = some r) : r.length ≤ 1000 := by
  have all : ∀ z ∈ (["form", "done", "slot", "nowhere", "empty", "beyond", "turn"] : List Str), z.length ≤ 1000 := by decide +kernel
  refine all r ?_
  unfold reason at h
  split at h
  · cases h; decide +kernel
  · rename_i a _
    split at h
    · cases h; decide +kernel
    · cases a with
      | keep s =>
        have h' : (if j.slots ≤ s then some ("slot" : Str) else (match j.pos with | none => some ("nowhere" : Str) | some _ => none)) = some r := h
        split at h'
        · cases h'; decide +kernel
        · split at h' <;> cases h'
          decide +kernel
      | restore s =>
        have h' : (if j.slots ≤ s then some ("slot" : Str) else if (valV j.kvs (Sum.inl s : Key)).isSome = true then none else some ("empty" : Str)) = some r := h
        split at h'
        · cases h'; decide +kernel
        · split at h' <;> cases h'
          decide +kernel
      | advance n =>
        have h' : (match j.pos with | none => some ("nowhere" : Str) | some p => if j.front ≤ p + n then some ("beyond" : Str) else none) = some r := h
        split at h'
        · cases h'; decide +kernel
        · split at h' <;> cases h'
          decide +kernel
      | turn =>
        have h' : (match j.pos with | none => some ("nowhere" : Str) | some p => if p = j.front - 1 then none else some ("turn" : Str)) = some r := h
        split at h'
        · cases h'; decide +kernel
        · split at h' <;> cases h'
          decide +kernel
def isTupD : PyData → Bool
  | .tuple _ => true
  | _ => false
abbrev sJudge : Stmt := top 13
structure Mth (P : Program) (w : World) (K : PySem.W.Frag) (mg : Str → Option Value) (base : Heap) (C : Addr) (k : Nat) (m : Str) (ps : List Str) (sp : Sp) where
  f : Addr
  fd : FuncData
  ok : FnOk P w K mg base CX0 k f fd ps sp
  b : Binds K fd ps []
  cl : Cls K C
  mt : Meth K C m f
structure Mkr (P : Program) (w : World) (K : PySem.W.Frag) (mg : Str → Option Value) (base : Heap) (x : Str) (C : Addr) (k : Nat) (ps : List Str) (sp : Sp) where
  f : Addr
  fd : FuncData
  ok : FnOk P w K mg base CX0 k f fd ps sp
  b : Binds K fd ps []
  mke : L2.Mk K C f
  m : mg x = some (.ref C)
section
variable {P : Program} {w : World} {K : PySem.W.Frag} {mg : Str → Option Value} {base : Heap} {CJ CS CA : Addr}
theorem scJudge : FnScope ["schedule", "beats", "slots", "judging", "number", "action", "reason"] ["schedule", "beats", "slots"] (defScope sJudge) := ⟨rfl, rfl, rfl, by decide +kernel, rfl, by decide +kernel, by decide +kernel⟩
theorem int_of_btw {x : PyData} {a b : Int} (h : btw x a b = true) : ∃ i, x = .int i ∧ a ≤ i ∧ i ≤ b := by
  cases x with
  | int i =>
    have h' : (decide (a ≤ i) && decide (i ≤ b)) = true := h
    rw [Bool.and_eq_true] at h'
    exact ⟨i, rfl, of_decide_eq_true h'.1, of_decide_eq_true h'.2⟩
  | none => cases h
  | bool c => cases h
  | str s => cases h
  | tuple l => cases h
  | list l => cases h
  | dict l => cases h
theorem ok_judge {f : Addr} {fd : FuncData} (F : Fun K "judge" "judge" sJudge f fd) (T : Bi mg) (JT : JTxt K CJ) (zEn : mg "enumerate" = none) (c_ckn : Cal P w K mg base (L2.CX P w) 4 "check_numbers" ["beats", "slots"] (spCkn K CA))
    (c_J : Mkr P w K mg base "Judge" CJ 1 ["self", "beats", "slots"] (spJin CJ)) (c_fr : Mth P w K mg base CJ 3 "find_reason" ["self", "action"] (spFind K CJ)) (c_fo : Mth P w K mg base CJ 1 "follow" ["self", "action"] (spFol K CJ))
    (c_mkS : Mk P w K mg base "ScheduleError" CS ["self", "number", "reason"] (Er.spSE K CS)) : FnOk P w K mg base (L2.CX P w) 5 f fd ["schedule", "beats", "slots"] (spJudge K CS CA) := by
  refine F.okX scJudge (fun vs H Q E h => ?_) (fun cdv A outer s H vs Q E hr h => ?_)
  · obtain ⟨v, sd, bd, nd, u1, u2, rfl, _⟩ := h
    rfl
  · obtain ⟨v, sd, bd, sld, u1, u2, rfl, ts, tb, tn, hds, qb, qs, q⟩ := h
    have nd := scJudge.nd
    refine ⟨_, pss_cons (ps_expr (pe_call c_ckn.ok (hr.mono (by first | decide | omega)) rfl c_ckn.m c_ckn.kp c_ckn.b .nil (passes_call (takes_of rfl rfl rfl rfl) (fun _ _ _ _ h => h)) (pa_cons (pv 1) (pa_cons (pv 2) pa_nil))))
      (pss_cons (ps_if (pt_not (pt_val (pe_callB call_isi rfl T.isinstance PyProof.Rows.boot_isinstance (pa_cons (pv 0) (pa_cons (pe_bltn (v := .ty "tuple") rfl T.tuple PyProof.Rows.boot_tuple rfl) pa_nil))))) (pss_one (ps_raise rfl (takes_of rfl rfl rfl rfl) (pmk_oex c_mkS.ex c_mkS.iC c_mkS.tI c_mkS.ok (hr.mono (by first | decide | omega)) c_mkS.b .nil pass0 rfl c_mkS.m (pa_cons (pe_un un_neg pe_int) (pa_cons pe_str pa_nil))))) pss_nil)
      (pss_cons (ps_set (i := 3) nd rfl (.inl rfl) (pe_make c_J.mke c_J.ok (hr.mono (by first | decide | omega)) rfl c_J.m c_J.b .nil pass0 (pa_cons (pv 1) (pa_cons (pv 2) pa_nil))))
      (pss_cons (ps_for (passes_of rfl) rfl (Et.pi_enumT rfl zEn (pa_cons (pv 0) pa_nil)) (pg_tup (by rfl) (pgs_cons (pg_name (i := 4) nd rfl (.inl rfl)) (pgs_cons (pg_name (i := 5) nd rfl (.inl rfl)) pgs_nil))) (pss_cons (ps_set (i := 6) nd rfl (.inl rfl) (pe_meth (pv 3) c_fr.cl c_fr.mt c_fr.ok (hr.mono (by first | decide | omega)) c_fr.b .nil pass0 (pa_cons (pv 5) pa_nil)))
      (pss_cons (ps_if (pt_cmpR op_notN (pv 6) pe_non (nomark _)) (pss_one (ps_raise rfl (takes_of rfl rfl rfl rfl) (pmk_oex c_mkS.ex c_mkS.iC c_mkS.tI c_mkS.ok (hr.mono (by first | decide | omega)) c_mkS.b .nil pass0 rfl c_mkS.m (pa_cons (pv 4) (pa_cons (pv 6) pa_nil))))) pss_nil)
      (pss_one (ps_expr (pe_meth (pv 3) c_fo.cl c_fo.mt c_fo.ok (hr.mono (by first | decide | omega)) c_fo.b .nil pass0 (pa_cons (pv 5) pa_nil)))))))
      (pss_cons (ps_if (pt_cmpR op_ne (pe_fld (pv 3) rfl) pe_int (nomark _)) (pss_one (ps_raise rfl (takes_of rfl rfl rfl rfl) (pmk_oex c_mkS.ex c_mkS.iC c_mkS.tI c_mkS.ok (hr.mono (by first | decide | omega)) c_mkS.b .nil pass0 rfl c_mkS.m (pa_cons (pe_callB call_len_seq rfl T.len PySem.boot_len (pa_cons (pv 0) pa_nil)) (pa_cons pe_str pa_nil))))) pss_nil)
      (pss_one (ps_ret (pe_fld (pv 3) rfl))))))), ?_⟩
    refine ⟨_, rfl, _, rfl, u1, u2, bd, sld, rfl, tb, tn, fun c1 c2 H1 s1 => ?_, fun c1 d H' s1 e => qb c1 d H' s1 e, fun c1 c2 d H' s1 e => qs c1 c2 d H' s1 e⟩
    obtain ⟨b, rfl, b0, b1⟩ := int_of_btw c1
    obtain ⟨sl, rfl, sl0, sl1⟩ := int_of_btw c2
    cases tb
    cases tn
    obtain ⟨qf, q⟩ := q b sl rfl rfl c1 c2
    have ts1 := ts.carry (same_carry s1)
    refine ⟨_, rfl, v, .ty "tuple", .type (tyD sd), .type "tuple", isTupD sd, rfl, .ty _, tyx_tv ts1, ?_, _, rfl, ?_⟩
    · cases sd with
      | tuple l => exact kit_ty (show kitB "tuple" "tuple" = some true by decide +kernel)
      | none => exact kit_ty (show kitB "NoneType" "tuple" = some false by decide +kernel)
      | bool b => exact kit_ty (show kitB "bool" "tuple" = some false by decide +kernel)
      | int i => exact kit_ty (show kitB "int" "tuple" = some false by decide +kernel)
      | str z => exact kit_ty (show kitB "str" "tuple" = some false by decide +kernel)
      | list l => exact False.elim ts
      | dict l => exact kit_ty (show kitB "list" "tuple" = some false by decide +kernel)
    by_cases ct : ∃ ds, sd = .tuple ds
    · obtain ⟨ds, rfl⟩ := ct
      refine iteF' rfl ?_
      obtain ⟨fh, dl⟩ := hds ds rfl
      obtain ⟨qo, qr, qu⟩ := q ds rfl
      obtain ⟨sa, xs, rfl, sq, tl⟩ := ts1
      have lx := tvl_len tl
      refine ⟨_, rfl, _, rfl, fun p dx hp hdx ne => ⟨p, dx, b, sl, rfl, upd_same, fun d H2 hd ndp hj keep => ⟨rfl, ?_⟩⟩⟩
      have ndd : d ≠ dx := fun z => by rw [z, upd_ne ne, upd_same] at hd; cases hd
      have hd1 : H1 d = none := by rw [upd_ne ndp, upd_ne ndd] at hd; exact hd
      have s2 : Same H1 H2 := fun c o e => keep c o (by rw [upd_ne (ne_of_none e hp), upd_ne (ne_of_none e hdx)]; exact e) (ne_of_none e hp)
      refine ⟨_, rfl, sa, xs, rfl, same_carry s2 _ _ sq, Et.for_enumT (K := K) (a := sa) (xs := xs)
        (fun i σ H' => Same H1 H' ∧ (∃ j, JAt CJ H' p d j ∧ runJ (js0 b sl) (ds.take i) = some j ∧ KI j ∧ j.kvs.length ≤ i) ∧ ∃ w4 w5 w6 : Option V, σ = [some (.ref sa), some (.int b), some (.int sl), some (.ref p), w4, w5, w6])
        ⟨s2, ⟨_, hj, rfl, (fun k v h => by cases h), Nat.le_refl _⟩, _, _, _, rfl⟩ (fun i σ H' _ h => same_carry h.1 _ _ sq) ?_ ?_⟩
      · rintro i x σ H3 T hx hT ⟨s3, ⟨j, hj3, hrun, ki, kl⟩, w4, w5, w6, rfl⟩
        have hil : i < xs.length := (List.getElem?_eq_some_iff.mp hx).1
        obtain ⟨dx', hdx'⟩ : ∃ dx', ds[i]? = some dx' := ⟨_, List.getElem?_eq_getElem (by omega)⟩
        obtain ⟨x2, hx2, tx⟩ := tvl_get (TvL.carry (same_carry s3) _ _ tl) hdx'
        rw [hx] at hx2
        cases hx2
        have sT : Same H3 (upd H3 T (.tup [.int (i : Nat), x])) := same_alloc hT
        refine ⟨T, _, rfl, SqT.of upd_same, rfl, _, _, rfl, _, _, rfl, rfl, ?_⟩
        obtain ⟨dxj, ej⟩ := (hj3.next sT).ob
        refine ⟨_, rfl, p, dxj, _, rfl, ej, rfl, _, rfl, p, d, j, dx', x, rfl, hj3.next sT, tx.carry (same_carry sT), fh dx' (List.mem_of_getElem? hdx'), fun H4 s4 => ?_⟩
        refine ⟨_, rfl, rfl, _, rfl, ?_⟩
        have hj4 := (hj3.next sT).next s4
        have sm := ((s1.trans s3).trans sT).trans s4
        cases hre : reason j dx' with
        | some r =>
          refine iteT' rfl ?_
          refine ⟨_, rfl, _, rfl, ?_⟩
          exact err_S sm (by omega) (rea_short hre) fun d' H' s5 e => qr i dx' j r d' H' hdx' hrun hre s5 e
        | none =>
          refine iteF' rfl ?_
          obtain ⟨dx4, ej4⟩ := hj4.ob
          obtain ⟨a, haa⟩ : ∃ a, act? dx' = some a := by
            cases h : act? dx' with
            | none => rw [rea_none h] at hre; cases hre
            | some a => exact ⟨a, rfl⟩
          have npd : p ≠ d := fun z => by subst z; exact ndp rfl
          refine ⟨_, rfl, p, dx4, _, rfl, ej4, rfl, _, rfl, p, d, j, dx', x, a, rfl, hj4, npd, (tx.carry (same_carry sT)).carry (same_carry s4), haa, hre, ki, by omega, fun H5 hj5 keep5 => ?_⟩
          refine ⟨fun c o e => ?_, ⟨follow j a, hj5, ?_, ki_step ki haa hre, Nat.le_trans (kvs_len j a) (Nat.succ_le_succ kl)⟩, _, _, _, rfl⟩
          · exact keep5 c o (s4 _ _ (sT _ _ (s3 _ _ e))) (ne_of_none e hp) (ne_of_none e hd1)
          · have tk : ds.take (i + 1) = ds.take i ++ [dx'] := by rw [List.take_add_one, hdx']; rfl
            rw [tk, runJ_app _ _ _ hrun]
            unfold stepJ
            rw [hre, haa]
      · rintro σ H3 ⟨s3, ⟨j, hj3, hrun, ki, kl⟩, w4, w5, w6, rfl⟩
        rw [lx, List.take_length] at hrun
        obtain ⟨dx3, ej3⟩ := hj3.ob
        refine ⟨_, rfl, p, CJ, dx3, _, _, rfl, ej3, JT.cl, JT.nF, rfl, rfl, _, rfl, ?_⟩
        by_cases c : j.front = 0
        · refine iteF' (by simp [c]) ?_
          exact ⟨_, rfl, p, CJ, dx3, _, _, rfl, ej3, JT.cl, JT.nC, rfl, qo j H3 hrun c (s1.trans s3)⟩
        · refine iteT' (by simp [c]) ?_
          refine ⟨_, rfl, sa, xs, rfl, .inr (same_carry s3 _ _ sq), ?_⟩
          rw [lx]
          exact err_S (s1.trans s3) (by omega) (by decide +kernel) fun d' H' s5 e => qu j d' H' hrun c s5 e
    · have nt : ∀ ds, sd ≠ .tuple ds := fun ds e => ct ⟨ds, e⟩
      have e0 : isTupD sd = false := by
        cases sd with
        | tuple l => exact absurd rfl (nt l)
        | none => rfl
        | bool b => rfl
        | int i => rfl
        | str z => rfl
        | list l => rfl
        | dict l => rfl
      refine iteT' (by rw [e0]; rfl) ?_
      exact ⟨_, rfl, err_S s1 (by decide) (by decide +kernel) fun d' H' s5 e => qf nt d' H' s5 e⟩
end
end Sd

namespace Sd
open PySem L2 Tr Pu PyProof.Rows
/-- numbers from 0 on -/
structure NN (j : JS) : Prop where
  f : 0 ≤ j.front
  p : ∀ i, j.pos = some i → 0 ≤ i
  k : ∀ k v, valV j.kvs k = some v → ∃ i, v = .int i ∧ 0 ≤ i
theorem nn_step {j : JS} {a : Act} {x : PyData} (h : NN j) (ha : act? x = some a) (hr : reason j x = none) : NN (follow j a) := by
  have c0 : ¬ j.front = 0 := fun z => by rw [rea_done ha z] at hr; cases hr
  rw [rea_act ha c0] at hr
  obtain ⟨rfl, hok⟩ := act_some ha
  cases a with
  | keep s =>
    refine ⟨h.f, h.p, fun k v hv => ?_⟩
    have hv' : valV (putK j.kvs (Sum.inl s : Key) (posV j.pos)) k = some v := hv
    rw [valV_put] at hv'
    split at hv'
    · cases hp : j.pos with
      | none =>
        have er : reasonA j (Act.keep s) = if j.slots ≤ s then some ("slot" : Str) else (match j.pos with | none => some ("nowhere" : Str) | some _ => none) := rfl
        rw [er, hp] at hr
        split at hr <;> cases hr
      | some i =>
        rw [hp] at hv'
        exact ⟨i, (Option.some.inj hv').symm, h.p i hp⟩
    · exact h.k _ _ hv'
  | restore s =>
    refine ⟨h.f, fun i hi => ?_, h.k⟩
    have hi' : (match valV j.kvs (Sum.inl s : Key) with | some (.int i) => some i | _ => none) = some i := hi
    cases hv : valV j.kvs (Sum.inl s : Key) with
    | none => rw [hv] at hi'; cases hi'
    | some v =>
      obtain ⟨i2, rfl, h2⟩ := h.k _ _ hv
      rw [hv] at hi'
      cases hi'
      exact h2
  | advance n =>
    have hn : 1 ≤ n := hok
    cases hp : j.pos with
    | none =>
      have er : reasonA j (Act.advance n) = match j.pos with | none => some ("nowhere" : Str) | some p => if j.front ≤ p + n then some ("beyond" : Str) else none := rfl
      rw [er, hp] at hr
      cases hr
    | some i =>
      have ef : follow j (.advance n) = { j with pos := some (i + n), cost := j.cost + n } := by
        show (match j.pos with | some p => { j with pos := some (p + n), cost := j.cost + n } | none => j) = _
        rw [hp]
      rw [ef]
      refine ⟨h.f, fun k hk => ?_, h.k⟩
      have := h.p i hp
      cases hk
      omega
  | turn =>
    refine ⟨?_, (fun i hi => by cases hi), h.k⟩
    show 0 ≤ j.front - 1
    have := h.f
    omega
theorem fol_slots (j : JS) (a : Act) : (follow j a).slots = j.slots := by
  cases a with
  | advance n =>
    show (match j.pos with | some p => { j with pos := some (p + n), cost := j.cost + n } | none => j).slots = _
    cases j.pos <;> rfl
  | keep s => rfl
  | restore s => rfl
  | turn => rfl
theorem runJ_slots (l : List PyData) : ∀ (j j' : JS), runJ j l = some j' → j'.slots = j.slots := by
  induction l with
  | nil => intro j j' h; cases h; rfl
  | cons x r ih =>
    intro j j' h
    have h' : (match stepJ j x with | some j' => runJ j' r | none => none) = some j' := h
    cases e : stepJ j x with
    | none => rw [e] at h'; cases h'
    | some j2 =>
      rw [e] at h'
      rw [ih _ _ h']
      unfold stepJ at e
      cases hr : reason j x with
      | some r => rw [hr] at e; cases e
      | none =>
        rw [hr] at e
        cases ha : act? x with
        | none => rw [ha] at e; cases e
        | some a =>
          rw [ha] at e
          cases e
          exact fol_slots j a
theorem run_slots {b sl : Int} {l : List PyData} {j : JS} (h : runJ (js0 b sl) l = some j) : j.slots = sl := runJ_slots l _ _ h
end Sd

/-! ## the law's own judge -/
namespace Sd
open PySem L2 Tr Pu PyProof.Rows
def geI : PyData → Int → Bool
  | .int i, n => decide (n ≤ i)
  | _, _ => false
def dLin (ds : List PyData) (d : PyData) : Prop := ∃ (x : PyData) (n : Int), ds = [x, .int n] ∧ d = .bool (geI x n)
abbrev sLin : Stmt := top 19
abbrev sLac : Stmt := top 20
abbrev sLre : Stmt := top 21
abbrev sLju : Stmt := top 22
def plV : Option Int → Int
  | none => -1
  | some i => i
def spLre (K : PySem.W.Frag) : Sp := fun vs H Q _ => ∃ (d : Addr) (j : JS) (x : PyData) (v : V), vs = [v, .int (plV j.pos), .int j.front, .ref d, .int j.slots] ∧ H d = some (.dK j.kvs) ∧ Tv K H x v ∧ flatHead x = true ∧ (∀ i, j.pos = some i → 0 ≤ i) ∧
  ∀ H', Same H H' → Q (reaV (reason j x)) H'
def spLju (K : PySem.W.Frag) : Sp := fun vs H Q _ => ∃ (v : V) (sd : PyData) (b s : Int), vs = [v, .int b, .int s] ∧ Tv K H sd v ∧ 0 ≤ b ∧ (∀ ds, sd = .tuple ds → (∀ x ∈ ds, flatHead x = true) ∧ ds.length ≤ 2000) ∧
  ((∀ ds, sd ≠ .tuple ds) → ∀ u H', Same H H' → Tv K H' (.tuple [.int (-1), .str "form"]) u → Q u H') ∧
  ∀ ds, sd = .tuple ds →
    (∀ j H', runJ (js0 b s) ds = some j → j.front = 0 → Same H H' → Q (.int j.cost) H') ∧
    (∀ (i : Nat) x j r u H', ds[i]? = some x → runJ (js0 b s) (ds.take i) = some j → reason j x = some r → Same H H' → Tv K H' (.tuple [.int (i : Int), .str r]) u → Q u H') ∧
    (∀ j u H', runJ (js0 b s) ds = some j → ¬ j.front = 0 → Same H H' → Tv K H' (.tuple [.int (ds.length : Int), .str "unfinished"]) u → Q u H')
section
variable {P : Program} {w : World} {K : PySem.W.Frag} {mg : Str → Option Value} {base : Heap}
theorem scLin : FnScope ["value", "low"] ["value", "low"] (defScope sLin) := ⟨rfl, rfl, rfl, by decide +kernel, rfl, by decide +kernel, by decide +kernel⟩
theorem ok_lin {f : Addr} {fd : FuncData} (F : Fun K "_law_integer" "_law_integer" sLin f fd) (T : Bi mg) : FnOk P w K mg base CX0 1 f fd ["value", "low"] (spP K 2 dLin) := by
  refine ok_P F scLin (by decide) (fun cdv A outer s H E hr => ⟨_, pss_one (ps_ret (pe_and (pe_callB call_isi rfl T.isinstance PyProof.Rows.boot_isinstance (pa_cons (pv 0) (pa_cons (pe_bltn (v := .ty "int") rfl T.int PyProof.Rows.boot_int rfl) pa_nil))) (pe_and (pe_not (pe_callB call_isi rfl T.isinstance PyProof.Rows.boot_isinstance (pa_cons (pv 0) (pa_cons (pe_bltn (v := .ty "bool") rfl T.bool PyProof.Rows.boot_bool rfl) pa_nil)))) (pe_one (pe_cmpR op_ge (pv 0) (pv 1) (nomark _)))))), ?_⟩)
  rintro ds d - ⟨x, n, rfl, rfl⟩
  cases x with
  | none => exact dr_ret (de_andF (de_isi (de_var rfl) (show kitB "NoneType" "int" = some false by decide +kernel)))
  | bool b => exact dr_ret (de_andT (de_isi (de_var rfl) (show kitB "bool" "int" = some true by decide +kernel)) (de_andF (de_not (b := true) (de_isi (d := .bool b) (n := "bool") (b := true) (de_var rfl) (show kitB "bool" "bool" = some true by decide +kernel)))))
  | int i => exact dr_ret (de_andT (de_isi (de_var rfl) (show kitB "int" "int" = some true by decide +kernel)) (de_andT (de_not (b := false) (de_isi (d := .int i) (n := "bool") (b := false) (de_var rfl) (show kitB "int" "bool" = some false by decide +kernel))) (de_cmpI (p := fun i j => decide (j ≤ i)) (de_var rfl) (de_var rfl))))
  | str z => exact dr_ret (de_andF (de_isi (de_var rfl) (show kitB "str" "int" = some false by decide +kernel)))
  | tuple l => exact dr_ret (de_andF (de_isi (de_var rfl) (show kitB "tuple" "int" = some false by decide +kernel)))
  | list l => exact dr_ret (de_andF (de_isi (de_var rfl) (show kitB "list" "int" = some false by decide +kernel)))
  | dict l => exact dr_ret (de_andF (de_isi (de_var rfl) (show kitB "list" "int" = some false by decide +kernel)))
theorem pv_lin {x : PyData} {n : Int} : PV K (spP K 2 dLin) [x, .int n] (.bool (geI x n)) := pv_P ⟨x, n, rfl, rfl⟩
theorem scLac : FnScope ["action"] ["action"] (defScope sLac) := ⟨rfl, rfl, rfl, by decide +kernel, rfl, by decide +kernel, by decide +kernel⟩
theorem ok_lac {f : Addr} {fd : FuncData} (F : Fun K "_law_action" "_law_action" sLac f fd) (T : Bi mg) (c_lin : Cal P w K mg base CX0 1 "_law_integer" ["value", "low"] (spP K 2 dLin)) : FnOk P w K mg base CX0 2 f fd ["action"] (spP K 1 dAct) := by
  refine ok_P F scLac (by decide) (fun cdv A outer s H E hr => ⟨_, pss_cons (ps_if (PW.pt (pw_or (pt_not (pt_val (pe_callB call_isi rfl T.isinstance PyProof.Rows.boot_isinstance (pa_cons (pv 0) (pa_cons (pe_bltn (v := .ty "tuple") rfl T.tuple PyProof.Rows.boot_tuple rfl) pa_nil))))) (pw_or (pt_not (pt_truth (pv 0) (by intro _; rfl))) (pw_or1 (pt_not (pt_val (pe_callB call_isi rfl T.isinstance PyProof.Rows.boot_isinstance (pa_cons (pe_ix ix_tup (pv 0) pe_int (fun _ _ => rfl)) (pa_cons (pe_bltn (v := .ty "str") rfl T.str PyProof.Rows.boot_str rfl) pa_nil))))))))) (pss_one (ps_ret pe_bl)) pss_nil)
      (pss_cons (ps_if (pt_cmpR op_eq (pe_ix ix_tup (pv 0) pe_int (fun _ _ => rfl)) pe_str (nomark _)) (pss_one (ps_ret (pe_cmpR op_eq (pe_callB call_len_seq rfl T.len PySem.boot_len (pa_cons (pv 0) pa_nil)) pe_int (nomark _)))) pss_nil)
      (pss_cons (ps_if (pt_cmpR op_ne (pe_callB call_len_seq rfl T.len PySem.boot_len (pa_cons (pv 0) pa_nil)) pe_int (nomark _)) (pss_one (ps_ret pe_bl)) pss_nil)
      (pss_cons (ps_if (pt_cmpR op_eq (pe_ix ix_tup (pv 0) pe_int (fun _ _ => rfl)) pe_str (nomark _)) (pss_one (ps_ret (pe_call c_lin.ok (hr.mono (by first | decide | omega)) rfl c_lin.m c_lin.kp c_lin.b .nil pass0 (pa_cons (pe_ix ix_tup (pv 0) pe_int (fun _ _ => rfl)) (pa_cons pe_int pa_nil))))) pss_nil)
      (pss_one (ps_ret (pe_and (pe_cmpR (inK (K' := K) rfl) (pe_ix ix_tup (pv 0) pe_int (fun _ _ => rfl)) (pe_tup (pa_cons pe_str (pa_cons pe_str pa_nil))) (by rfl)) (pe_one (pe_call c_lin.ok (hr.mono (by first | decide | omega)) rfl c_lin.m c_lin.kp c_lin.b .nil pass0 (pa_cons (pe_ix ix_tup (pv 0) pe_int (fun _ _ => rfl)) (pa_cons pe_int pa_nil)))))))))), ?_⟩)
  rintro ds d - ⟨x, rfl, fh, rfl⟩
  have notup : ∀ n : String, tyD x = n → kitB n "tuple" = some false → ∀ tt : TT, ∀ tr : TS, DR K (tSeq (tIfS (tOr (tNot (tB (tCB (rIsi K) (tCons (tVar 0) (tCons (tC (.ty "tuple")) tNil))))) tt) (tRet (tC (.bl false))) tNext) tr) (List.map some [x] ++ List.replicate (1 - 1) none) (.bool false) := by
    intro n hn hk tt tr
    refine dr_whenT (dt_orT (dt_notT (dt_B (de_isi (de_var (d := x) rfl) (by rw [hn]; exact hk))))) (dr_ret de_bl)
  cases x with
  | none => exact notup "NoneType" rfl (by decide +kernel) _ _
  | bool b => exact notup "bool" rfl (by decide +kernel) _ _
  | int i => exact notup "int" rfl (by decide +kernel) _ _
  | str z => exact notup "str" rfl (by decide +kernel) _ _
  | list l => exact notup "list" rfl (by decide +kernel) _ _
  | dict l => exact notup "list" rfl (by decide +kernel) _ _
  | tuple l =>
    have isT : ∀ ρ : Rho, ∀ l : List PyData, ρ[0]? = some (some (.tuple l)) → DE K (tCB (rIsi K) (tCons (tVar 0) (tCons (tC (.ty "tuple")) tNil))) ρ (.bool true) := fun ρ l h => de_isi (de_var h) (show kitB "tuple" "tuple" = some true by decide +kernel)
    cases l with
    | nil => exact dr_whenT (dt_orF (dt_notF (dt_B (isT _ _ rfl))) (dt_orT (dt_notT (dt_truT (ds := []) (de_var rfl))))) (dr_ret de_bl)
    | cons h r =>
      have fl : flatD h = true := fh
      have hd0 : atI (h :: r) 0 = some h := atI_nat (xs := h :: r) (j := 0) rfl
      have H0 : DE K (tOp (rIxT K) (tVar 0) (tC (.int 0))) (List.map some [PyData.tuple (h :: r)] ++ List.replicate (1 - 1) none) h := de_ix (de_var rfl) de_int hd0
      have nostr : ∀ n : String, tyD h = n → kitB n "str" = some false → (act? (.tuple (h :: r))).isSome = false → ∀ tr : TS, DR K (tSeq (tIfS (tOr (tNot (tB (tCB (rIsi K) (tCons (tVar 0) (tCons (tC (.ty "tuple")) tNil))))) (tOr (tNot (fun σ H Q => tVar 0 σ H fun x H' => ∃ k, TruV K x H' k ∧ Q k H')) (tNot (tB (tCB (rIsi K) (tCons (tOp (rIxT K) (tVar 0) (tC (.int 0))) (tCons (tC (.ty "str")) tNil))))))) (tRet (tC (.bl false))) tNext) tr) (List.map some [PyData.tuple (h :: r)] ++ List.replicate (1 - 1) none) (.bool (act? (.tuple (h :: r))).isSome) := by
        intro n hn hk e tr
        rw [e]
        exact dr_whenT (dt_orF (dt_notF (dt_B (isT _ _ rfl))) (dt_orF (dt_notF (dt_truT (ds := h :: r) (de_var rfl))) (dt_notT (dt_B (de_isi H0 (by rw [hn]; exact hk)))))) (dr_ret de_bl)
      have noa : (∀ z, h ≠ .str z) → (act? (.tuple (h :: r))).isSome = false := by
        intro ns
        cases h with
        | str z => exact absurd rfl (ns z)
        | none => rcases r with _ | ⟨y, _ | ⟨y2, r⟩⟩ <;> first | rfl | (cases y <;> rfl)
        | bool b => rcases r with _ | ⟨y, _ | ⟨y2, r⟩⟩ <;> first | rfl | (cases y <;> rfl)
        | int i => rcases r with _ | ⟨y, _ | ⟨y2, r⟩⟩ <;> first | rfl | (cases y <;> rfl)
        | tuple l => cases fl
        | list l => cases fl
        | dict l => cases fl
      cases h with
      | none => exact nostr "NoneType" rfl (by decide +kernel) (noa (fun z q => by cases q)) _
      | bool b => exact nostr "bool" rfl (by decide +kernel) (noa (fun z q => by cases q)) _
      | int i => exact nostr "int" rfl (by decide +kernel) (noa (fun z q => by cases q)) _
      | tuple l => cases fl
      | list l => cases fl
      | dict l => cases fl
      | str z =>
        refine dr_whenF (dt_orF (dt_notF (dt_B (isT _ _ rfl))) (dt_orF (dt_notF (dt_truT (ds := .str z :: r) (de_var rfl))) (dt_notF (dt_B (de_isi H0 (show kitB "str" "str" = some true by decide +kernel)))))) ?_
        have LEN : ∀ {q : List V → Hp → VK → Prop}, (∀ p ys H (Q : VK), SqT K H p ys → Q (.int ys.length) H → q [.ref p] H Q) → DE K (tCB q (tCons (tVar 0) tNil)) (List.map some [PyData.tuple (.str z :: r)] ++ List.replicate (1 - 1) none) (.int ((PyData.str z :: r).length : Int)) := fun hq => de_lenT hq (de_var rfl)
        by_cases ct : z = "turn"
        · subst ct
          refine dr_whenT (dt_test (de_eqS (b := true) H0 de_str (by decide +kernel))) (dr_ret ?_)
          have e : (act? (.tuple (PyData.str "turn" :: r))).isSome = decide ((((PyData.str "turn" :: r).length : Nat) : Int) = 1) := by
            rcases r with _ | ⟨y, r⟩
            · rfl
            · have : ¬ ((((PyData.str "turn" :: y :: r).length : Nat) : Int) = 1) := by simp; omega
              rw [decide_eq_false this]
              rcases r with _ | ⟨y2, r⟩
              · cases y <;> rfl
              · cases y <;> rfl
          rw [e]
          exact de_eqI (LEN (fun p ys H Q h q => ⟨p, ys, rfl, .inr h, q⟩)) de_int
        · refine dr_whenF (dt_test (de_eqS (b := false) H0 de_str (decide_eq_false ct))) ?_
          rcases r with _ | ⟨y, r⟩
          · refine dr_whenT (dt_test (b := true) (de_neI (K := K) (LEN (fun p ys H Q h q => ⟨p, ys, rfl, .inr h, q⟩)) (de_int (i := 2)))) ?_
            have e : (act? (.tuple [PyData.str z])).isSome = false := by
              show (if z = "turn" then some Act.turn else none).isSome = false
              rw [if_neg ct]
              rfl
            rw [e]
            exact dr_ret de_bl
          rcases r with _ | ⟨y2, r⟩
          · refine dr_whenF (dt_test (b := false) (de_neI (K := K) (LEN (fun p ys H Q h q => ⟨p, ys, rfl, .inr h, q⟩)) (de_int (i := 2)))) ?_
            have H1 : DE K (tOp (rIxT K) (tVar 0) (tC (.int 1))) (List.map some [PyData.tuple [.str z, y]] ++ List.replicate (1 - 1) none) y := de_ix (de_var rfl) de_int rfl
            by_cases ca : z = "advance"
            · subst ca
              refine dr_whenT (dt_test (de_eqS (b := true) H0 de_str (by decide +kernel))) (dr_ret ?_)
              have e : (act? (.tuple [PyData.str "advance", y])).isSome = geI y 1 := by
                cases y with
                | int n =>
                  show (if ("advance" : Str) = "advance" then (if 1 ≤ n then some (Act.advance n) else none) else if ("advance" : Str) = "keep" then (if 0 ≤ n then some (.keep n) else none) else if ("advance" : Str) = "restore" then (if 0 ≤ n then some (.restore n) else none) else none).isSome = decide (1 ≤ n)
                  rw [if_pos rfl]
                  by_cases c2 : 1 ≤ n
                  · rw [if_pos c2, decide_eq_true c2]; rfl
                  · rw [if_neg c2, decide_eq_false c2]; rfl
                | none => rfl
                | bool b => rfl
                | str s => rfl
                | tuple l => rfl
                | list l => rfl
                | dict l => rfl
              rw [e]
              exact de_call (K := K) (E := fun _ _ _ => False) (da_cons H1 (da_one de_int)) pv_lin
            · refine dr_whenF (dt_test (de_eqS (b := false) H0 de_str (decide_eq_false ca))) (dr_ret ?_)
              have IN : DE K (tTup (tCons (tC (.str "keep")) (tCons (tC (.str "restore")) tNil))) (List.map some [PyData.tuple [.str z, y]] ++ List.replicate (1 - 1) none) (.tuple [.str "keep", .str "restore"]) := de_tup (da_cons de_str (da_one de_str))
              by_cases ci : z ∈ (["keep", "restore"] : List Str)
              · refine de_andT (de_in (b := true) H0 IN rfl (decide_eq_true ci)) ?_
                have e : (act? (.tuple [PyData.str z, y])).isSome = geI y 0 := by
                  cases y with
                  | int n =>
                    show (if z = "advance" then (if 1 ≤ n then some (Act.advance n) else none) else if z = "keep" then (if 0 ≤ n then some (.keep n) else none) else if z = "restore" then (if 0 ≤ n then some (.restore n) else none) else none).isSome = decide (0 ≤ n)
                    rw [if_neg ca]
                    by_cases c3 : z = "keep"
                    · rw [if_pos c3]
                      by_cases c2 : 0 ≤ n
                      · rw [if_pos c2, decide_eq_true c2]; rfl
                      · rw [if_neg c2, decide_eq_false c2]; rfl
                    · rw [if_neg c3]
                      have c4 : z = "restore" := by
                        rcases List.mem_cons.mp ci with h | h
                        · exact absurd h c3
                        · exact List.mem_singleton.mp h
                      rw [if_pos c4]
                      by_cases c2 : 0 ≤ n
                      · rw [if_pos c2, decide_eq_true c2]; rfl
                      · rw [if_neg c2, decide_eq_false c2]; rfl
                  | none => rfl
                  | bool b => rfl
                  | str s => rfl
                  | tuple l => rfl
                  | list l => rfl
                  | dict l => rfl
                rw [e]
                exact de_call (K := K) (E := fun _ _ _ => False) (da_cons H1 (da_one de_int)) pv_lin
              · have e : (act? (.tuple [PyData.str z, y])).isSome = false := by
                  cases y with
                  | int n =>
                    show (if z = "advance" then (if 1 ≤ n then some (Act.advance n) else none) else if z = "keep" then (if 0 ≤ n then some (.keep n) else none) else if z = "restore" then (if 0 ≤ n then some (.restore n) else none) else none).isSome = false
                    rw [if_neg ca, if_neg (fun q => ci (by rw [q]; simp)), if_neg (fun q => ci (by rw [q]; simp))]
                    rfl
                  | none => rfl
                  | bool b => rfl
                  | str s => rfl
                  | tuple l => rfl
                  | list l => rfl
                  | dict l => rfl
                rw [e]
                exact de_andF (de_in (b := false) H0 IN rfl (decide_eq_false ci))
          · have e : (act? (.tuple (PyData.str z :: y :: y2 :: r))).isSome = false := by cases y <;> rfl
            rw [e]
            refine dr_whenT (dt_test (b := true) ?_) (dr_ret de_bl)
            refine de_of ?_ (de_neI (K := K) (LEN (fun p ys H Q h q => ⟨p, ys, rfl, .inr h, q⟩)) (de_int (i := 2)))
            have : ¬ ((((PyData.str z :: y :: y2 :: r).length : Nat) : Int) = 2) := by simp; omega
            rw [decide_eq_false this]
            rfl
end
end Sd

namespace Sd
open PySem L2 Tr Pu PyProof.Rows
section
variable {P : Program} {w : World} {K : PySem.W.Frag} {mg : Str → Option Value} {base : Heap}
theorem scLre : FnScope ["action", "place", "front", "full", "slots"] ["action", "place", "front", "full", "slots"] (defScope sLre) := ⟨rfl, rfl, rfl, by decide +kernel, rfl, by decide +kernel, by decide +kernel⟩
theorem ok_lre {f : Addr} {fd : FuncData} (F : Fun K "_law_reason" "_law_reason" sLre f fd) (c_lac : Cal P w K mg base CX0 2 "_law_action" ["action"] (spP K 1 dAct)) : FnOk P w K mg base CX0 3 f fd ["action", "place", "front", "full", "slots"] (spLre K) := by
  refine F.ok scLre (fun vs H Q E h => ?_) (fun cdv A outer s H vs Q E hr h => ?_)
  · obtain ⟨d, j, x, v, rfl, _⟩ := h
    rfl
  · obtain ⟨d, j, x, v, rfl, hd, tx, fh, hp0, q⟩ := h
    refine ⟨_, pss_cons (ps_if (pt_not (pt_val (pe_call c_lac.ok (hr.mono (by first | decide | omega)) rfl c_lac.m c_lac.kp c_lac.b .nil pass0 (pa_cons (pv 0) pa_nil)))) (pss_one (ps_ret pe_str)) pss_nil)
      (pss_cons (ps_if (pt_cmpR op_eq (pv 2) pe_int (nomark _)) (pss_one (ps_ret pe_str)) pss_nil)
      (pss_cons (ps_if (PW.pt (pw_and (pt_cmpR (inK (K' := K) rfl) (pe_ix ix_tup (pv 0) pe_int (fun _ _ => rfl)) (pe_tup (pa_cons pe_str (pa_cons pe_str pa_nil))) (by rfl)) (pw_and1 (pt_cmpR op_ge (pe_ix ix_tup (pv 0) pe_int (fun _ _ => rfl)) (pv 4) (nomark _))))) (pss_one (ps_ret pe_str)) pss_nil)
      (pss_cons (ps_if (PW.pt (pw_and (pt_cmpR op_eq (pe_ix ix_tup (pv 0) pe_int (fun _ _ => rfl)) pe_str (nomark _)) (pw_and1 (pt_cmp (pc_dnotin (hu_of hr) (pe_ix ix_tup (pv 0) pe_int (fun _ _ => rfl)) (pv 3)))))) (pss_one (ps_ret pe_str)) pss_nil)
      (pss_cons (ps_if (PW.pt (pw_and (pt_cmpR op_ne (pe_ix ix_tup (pv 0) pe_int (fun _ _ => rfl)) pe_str (nomark _)) (pw_and1 (pt_cmpR op_lt (pv 1) pe_int (nomark _))))) (pss_one (ps_ret pe_str)) pss_nil)
      (pss_cons (ps_if (PW.pt (pw_and (pt_cmpR op_eq (pe_ix ix_tup (pv 0) pe_int (fun _ _ => rfl)) pe_str (nomark _)) (pw_and1 (pt_cmpR op_ge (pe_op op_add (pv 1) (pe_ix ix_tup (pv 0) pe_int (fun _ _ => rfl))) (pv 2) (nomark _))))) (pss_one (ps_ret pe_str)) pss_nil)
      (pss_cons (ps_if (PW.pt (pw_and (pt_cmpR op_eq (pe_ix ix_tup (pv 0) pe_int (fun _ _ => rfl)) pe_str (nomark _)) (pw_and1 (pt_cmpR op_ne (pv 1) (pe_op op_sub (pv 2) pe_int) (nomark _))))) (pss_one (ps_ret pe_str)) pss_nil)
      (pss_one (ps_ret pe_non)))))))), ?_⟩
    refine ⟨_, rfl, [x], _, rfl, ⟨_, _, rfl, tx, rfl⟩, ⟨x, rfl, fh, rfl⟩, fun u H1 s1 tu => ?_⟩
    cases tu
    refine ⟨_, rfl, ?_⟩
    cases ha : act? x with
    | none =>
      refine iteT' rfl ?_
      rw [rea_none ha] at q
      exact q H1 s1
    | some a =>
      refine iteF' rfl ?_
      have ek := s1 _ _ hd
      have tx1 := tx.carry (same_carry s1)
      obtain ⟨rfl, hok⟩ := act_some ha
      refine ⟨_, rfl, rfl, _, rfl, ?_⟩
      by_cases c0 : j.front = 0
      · refine iteT' (by simp [c0]) ?_
        rw [rea_done ha c0] at q
        exact q H1 s1
      refine iteF' (by simp [c0]) ?_
      have two : 2 ≤ sizeLine := by decide
      rw [rea_act ha c0] at q
      have PL : ∀ i, j.pos = some i → ¬ plV j.pos < 0 := fun i h => by
        have := hp0 i h
        rw [h]
        show ¬ i < 0
        omega
      have PN : j.pos = none → plV j.pos < 0 := fun h => by rw [h]; show (-1 : Int) < 0; omega
      cases a with
      | keep s =>
        obtain ⟨va, xs, rfl, sq, u1, r1, rfl, t1, u2, r2, rfl, t2, rfl⟩ := tx1
        cases t1
        cases t2
        refine ⟨_, rfl, va, _, 0, _, rfl, rfl, sq, rfl, two, fun t ht => ⟨t, _, rfl, .inr (SqT.of upd_same), rfl, rfl, _, rfl, ?_⟩⟩
        refine iteT' (by decide +kernel) ?_
        have sm := s1.trans (same_alloc (o := .tup [V.str "keep", V.str "restore"]) ht)
        have sq2 := same_carry (K := K) (same_alloc (o := .tup [V.str "keep", V.str "restore"]) ht) _ _ sq
        have er : reasonA j (Act.keep s) = if j.slots ≤ s then some ("slot" : Str) else (match j.pos with | none => some ("nowhere" : Str) | some _ => none) := rfl
        refine ⟨_, rfl, va, _, 1, _, rfl, rfl, sq2, rfl, _, rfl, _, _, rfl, rfl, _, rfl, ?_⟩
        by_cases c1 : j.slots ≤ s
        · refine iteT' (decide_eq_true c1) ?_
          rw [er, if_pos c1] at q
          exact q _ sm
        refine iteF' (decide_eq_false c1) ?_
        rw [er, if_neg c1] at q
        refine ⟨_, rfl, va, _, 0, _, rfl, rfl, sq2, rfl, rfl, _, rfl, iteF' (by decide +kernel) ?_⟩
        refine iteF ?_
        refine ⟨_, rfl, va, _, 0, _, rfl, rfl, sq2, rfl, rfl, _, rfl, iteT' (by decide +kernel) ?_⟩
        refine ⟨_, rfl, _, _, rfl, rfl, _, rfl, ?_⟩
        cases hp : j.pos with
        | none =>
          refine iteT' (decide_eq_true (by have := PN hp; rw [hp] at this; exact this)) ?_
          rw [hp] at q
          exact q _ sm
        | some i =>
          refine iteF' (decide_eq_false (by have := PL i hp; rw [hp] at this; exact this)) ?_
          rw [hp] at q
          refine ⟨_, rfl, va, _, 0, _, rfl, rfl, sq2, rfl, rfl, _, rfl, iteF' (by decide +kernel) ?_⟩
          refine iteF ?_
          refine ⟨_, rfl, va, _, 0, _, rfl, rfl, sq2, rfl, rfl, _, rfl, iteF' (by decide +kernel) ?_⟩
          refine iteF ?_
          exact q _ sm
      | restore s =>
        obtain ⟨va, xs, rfl, sq, u1, r1, rfl, t1, u2, r2, rfl, t2, rfl⟩ := tx1
        cases t1
        cases t2
        refine ⟨_, rfl, va, _, 0, _, rfl, rfl, sq, rfl, two, fun t ht => ⟨t, _, rfl, .inr (SqT.of upd_same), rfl, rfl, _, rfl, ?_⟩⟩
        refine iteT' (by decide +kernel) ?_
        have sm := s1.trans (same_alloc (o := .tup [V.str "keep", V.str "restore"]) ht)
        have sq2 := same_carry (K := K) (same_alloc (o := .tup [V.str "keep", V.str "restore"]) ht) _ _ sq
        have ek2 : (upd H1 t (.tup [V.str "keep", V.str "restore"])) d = _ := same_alloc ht _ _ ek
        have er : reasonA j (Act.restore s) = if j.slots ≤ s then some ("slot" : Str) else if (valV j.kvs (Sum.inl s : Key)).isSome = true then none else some ("empty" : Str) := rfl
        refine ⟨_, rfl, va, _, 1, _, rfl, rfl, sq2, rfl, _, rfl, _, _, rfl, rfl, _, rfl, ?_⟩
        by_cases c1 : j.slots ≤ s
        · refine iteT' (decide_eq_true c1) ?_
          rw [er, if_pos c1] at q
          exact q _ sm
        refine iteF' (decide_eq_false c1) ?_
        rw [er, if_neg c1] at q
        refine ⟨_, rfl, va, _, 0, _, rfl, rfl, sq2, rfl, rfl, _, rfl, iteT' (by decide +kernel) ?_⟩
        refine ⟨_, rfl, va, _, 1, _, rfl, rfl, sq2, rfl, _, rfl, d, _, rfl, DGet.k (k := Sum.inl s) ek2, _, rfl, ?_⟩
        cases hv : (valV j.kvs (Sum.inl s : Key)).isSome with
        | false =>
          refine iteT' rfl ?_
          rw [hv, if_neg Bool.false_ne_true] at q
          exact q _ sm
        | true =>
          refine iteF' rfl ?_
          rw [hv, if_pos rfl] at q
          refine ⟨_, rfl, va, _, 0, _, rfl, rfl, sq2, rfl, rfl, _, rfl, iteF' (by decide +kernel) ?_⟩
          refine iteF ?_
          refine ⟨_, rfl, va, _, 0, _, rfl, rfl, sq2, rfl, rfl, _, rfl, iteF' (by decide +kernel) ?_⟩
          refine iteF ?_
          refine ⟨_, rfl, va, _, 0, _, rfl, rfl, sq2, rfl, rfl, _, rfl, iteF' (by decide +kernel) ?_⟩
          refine iteF ?_
          exact q _ sm
      | advance n =>
        obtain ⟨va, xs, rfl, sq, u1, r1, rfl, t1, u2, r2, rfl, t2, rfl⟩ := tx1
        cases t1
        cases t2
        refine ⟨_, rfl, va, _, 0, _, rfl, rfl, sq, rfl, two, fun t ht => ⟨t, _, rfl, .inr (SqT.of upd_same), rfl, rfl, _, rfl, ?_⟩⟩
        refine iteF' (by decide +kernel) ?_
        refine iteF ?_
        have sm := s1.trans (same_alloc (o := .tup [V.str "keep", V.str "restore"]) ht)
        have sq2 := same_carry (K := K) (same_alloc (o := .tup [V.str "keep", V.str "restore"]) ht) _ _ sq
        have er : reasonA j (Act.advance n) = match j.pos with | none => some ("nowhere" : Str) | some p => if j.front ≤ p + n then some ("beyond" : Str) else none := rfl
        rw [er] at q
        refine ⟨_, rfl, va, _, 0, _, rfl, rfl, sq2, rfl, rfl, _, rfl, iteF' (by decide +kernel) ?_⟩
        refine iteF ?_
        refine ⟨_, rfl, va, _, 0, _, rfl, rfl, sq2, rfl, rfl, _, rfl, iteT' (by decide +kernel) ?_⟩
        refine ⟨_, rfl, _, _, rfl, rfl, _, rfl, ?_⟩
        cases hp : j.pos with
        | none =>
          refine iteT' (decide_eq_true (by have := PN hp; rw [hp] at this; exact this)) ?_
          rw [hp] at q
          exact q _ sm
        | some i =>
          refine iteF' (decide_eq_false (by have := PL i hp; rw [hp] at this; exact this)) ?_
          rw [hp] at q
          refine ⟨_, rfl, va, _, 0, _, rfl, rfl, sq2, rfl, rfl, _, rfl, iteT' (by decide +kernel) ?_⟩
          refine ⟨_, rfl, _, rfl, va, _, 1, _, rfl, rfl, sq2, rfl, _, _, rfl, rfl, _, rfl, _, _, rfl, rfl, _, rfl, ?_⟩
          by_cases c1 : j.front ≤ i + n
          · refine iteT' (decide_eq_true c1) ?_
            have q' := q _ sm
            rw [show (match some i with | none => some ("nowhere" : Str) | some p => if j.front ≤ p + n then some ("beyond" : Str) else none) = some ("beyond" : Str) from if_pos c1] at q'
            exact q'
          · refine iteF' (decide_eq_false c1) ?_
            refine ⟨_, rfl, va, _, 0, _, rfl, rfl, sq2, rfl, rfl, _, rfl, iteF' (by decide +kernel) ?_⟩
            refine iteF ?_
            have q' := q _ sm
            rw [show (match some i with | none => some ("nowhere" : Str) | some p => if j.front ≤ p + n then some ("beyond" : Str) else none) = none from if_neg c1] at q'
            exact q'
      | turn =>
        obtain ⟨va, xs, rfl, sq, u1, r1, rfl, t1, rfl⟩ := tx1
        cases t1
        refine ⟨_, rfl, va, _, 0, _, rfl, rfl, sq, rfl, two, fun t ht => ⟨t, _, rfl, .inr (SqT.of upd_same), rfl, rfl, _, rfl, ?_⟩⟩
        refine iteF' (by decide +kernel) ?_
        refine iteF ?_
        have sm := s1.trans (same_alloc (o := .tup [V.str "keep", V.str "restore"]) ht)
        have sq2 := same_carry (K := K) (same_alloc (o := .tup [V.str "keep", V.str "restore"]) ht) _ _ sq
        have er : reasonA j Act.turn = match j.pos with | none => some ("nowhere" : Str) | some p => if p = j.front - 1 then none else some ("turn" : Str) := rfl
        rw [er] at q
        refine ⟨_, rfl, va, _, 0, _, rfl, rfl, sq2, rfl, rfl, _, rfl, iteF' (by decide +kernel) ?_⟩
        refine iteF ?_
        refine ⟨_, rfl, va, _, 0, _, rfl, rfl, sq2, rfl, rfl, _, rfl, iteT' (by decide +kernel) ?_⟩
        refine ⟨_, rfl, _, _, rfl, rfl, _, rfl, ?_⟩
        cases hp : j.pos with
        | none =>
          refine iteT' (decide_eq_true (by have := PN hp; rw [hp] at this; exact this)) ?_
          rw [hp] at q
          exact q _ sm
        | some i =>
          refine iteF' (decide_eq_false (by have := PL i hp; rw [hp] at this; exact this)) ?_
          rw [hp] at q
          refine ⟨_, rfl, va, _, 0, _, rfl, rfl, sq2, rfl, rfl, _, rfl, iteF' (by decide +kernel) ?_⟩
          refine iteF ?_
          refine ⟨_, rfl, va, _, 0, _, rfl, rfl, sq2, rfl, rfl, _, rfl, iteT' (by decide +kernel) ?_⟩
          refine ⟨_, rfl, _, rfl, _, _, rfl, rfl, rfl, _, rfl, ?_⟩
          by_cases c1 : i = j.front - 1
          · refine iteF' (by simp [plV, c1]) ?_
            have q' := q _ sm
            rw [show (match some i with | none => some ("nowhere" : Str) | some p => if p = j.front - 1 then none else some ("turn" : Str)) = none from if_pos c1] at q'
            exact q'
          · refine iteT' (by simp [plV, c1]) ?_
            have q' := q _ sm
            rw [show (match some i with | none => some ("nowhere" : Str) | some p => if p = j.front - 1 then none else some ("turn" : Str)) = some ("turn" : Str) from if_neg c1] at q'
            exact q'
theorem scLju : FnScope ["schedule", "beats", "slots", "place", "front", "full", "cost", "k", "action", "reason"] ["schedule", "beats", "slots"] (defScope sLju) := ⟨rfl, rfl, rfl, by decide +kernel, rfl, by decide +kernel, by decide +kernel⟩
theorem ok_lju {f : Addr} {fd : FuncData} (F : Fun K "_law_judge" "_law_judge" sLju f fd) (T : Bi mg) (c_lre : Cal P w K mg base CX0 3 "_law_reason" ["action", "place", "front", "full", "slots"] (spLre K)) : FnOk P w K mg base CX0 4 f fd ["schedule", "beats", "slots"] (spLju K) := by
  refine F.ok scLju (fun vs H Q E h => ?_) (fun cdv A outer s H vs Q E hr h => ?_)
  · obtain ⟨v, sd, b, sl, rfl, _⟩ := h
    rfl
  · obtain ⟨v, sd, b, sl, rfl, ts, b0, hds, qf, q⟩ := h
    have nd := scLju.nd
    have two : 2 ≤ sizeLine := by decide
    refine ⟨_, pss_cons (ps_if (pt_not (pt_val (pe_callB call_isi rfl T.isinstance PyProof.Rows.boot_isinstance (pa_cons (pv 0) (pa_cons (pe_bltn (v := .ty "tuple") rfl T.tuple PyProof.Rows.boot_tuple rfl) pa_nil))))) (pss_one (ps_ret (pe_tup (pa_cons (pe_un un_neg pe_int) (pa_cons pe_str pa_nil))))) pss_nil)
      (pss_cons (ps_set (i := 3) nd rfl (.inl rfl) pe_int)
      (pss_cons (ps_set (i := 4) nd rfl (.inl rfl) (pv 1))
      (pss_cons (ps_set (i := 5) nd rfl (.inl rfl) pe_dnewK)
      (pss_cons (ps_set (i := 6) nd rfl (.inl rfl) pe_int)
      (pss_cons (ps_for PassesOwn.never rfl (pi_range1 rfl T.range (pa_cons (pe_callB call_len_seq rfl T.len PySem.boot_len (pa_cons (pv 0) pa_nil)) pa_nil)) (pg_name (i := 7) nd rfl (.inl rfl)) (pss_cons (ps_set (i := 8) nd rfl (.inl rfl) (pe_ix ix_tup (pv 0) (pv 7) (fun _ _ => rfl)))
      (pss_cons (ps_set (i := 9) nd rfl (.inl rfl) (pe_call c_lre.ok (hr.mono (by first | decide | omega)) rfl c_lre.m c_lre.kp c_lre.b .nil pass0 (pa_cons (pv 8) (pa_cons (pv 3) (pa_cons (pv 4) (pa_cons (pv 5) (pa_cons (pv 2) pa_nil)))))))
      (pss_cons (ps_if (pt_cmpR op_notN (pv 9) pe_non (nomark _)) (pss_one (ps_ret (pe_tup (pa_cons (pv 7) (pa_cons (pv 9) pa_nil))))) pss_nil)
      (pss_one (ps_if (pt_cmpR op_eq (pe_ix ix_tup (pv 8) pe_int (fun _ _ => rfl)) pe_str (nomark _)) (pss_one (ps_dput (hu_of hr) (pv 5) (pe_ix ix_tup (pv 8) pe_int (fun _ _ => rfl)) (pv 3) rfl)) (pss_one (ps_if (pt_cmpR op_eq (pe_ix ix_tup (pv 8) pe_int (fun _ _ => rfl)) pe_str (nomark _)) (pss_one (ps_set (i := 3) nd rfl (.inl rfl) (pe_dget (hu_of hr) (pv 5) (pe_ix ix_tup (pv 8) pe_int (fun _ _ => rfl)) (fun _ _ => rfl)))) (pss_one (ps_if (pt_cmpR op_eq (pe_ix ix_tup (pv 8) pe_int (fun _ _ => rfl)) pe_str (nomark _)) (pss_cons (ps_set (i := 3) nd rfl (.inl rfl) (pe_op op_add (pv 3) (pe_ix ix_tup (pv 8) pe_int (fun _ _ => rfl))))
      (pss_one (ps_set (i := 6) nd rfl (.inl rfl) (pe_op op_add (pv 6) (pe_ix ix_tup (pv 8) pe_int (fun _ _ => rfl)))))) (pss_cons (ps_set (i := 4) nd rfl (.inl rfl) (pe_op op_sub (pv 4) pe_int))
      (pss_one (ps_set (i := 3) nd rfl (.inl rfl) (pe_un un_neg pe_int))))))))))))))
      (pss_cons (ps_if (pt_cmpR op_gt (pv 4) pe_int (nomark _)) (pss_one (ps_ret (pe_tup (pa_cons (pe_callB call_len_seq rfl T.len PySem.boot_len (pa_cons (pv 0) pa_nil)) (pa_cons pe_str pa_nil))))) pss_nil)
      (pss_one (ps_ret (pv 6))))))))), ?_⟩
    refine ⟨_, rfl, v, .ty "tuple", .type (tyD sd), .type "tuple", isTupD sd, rfl, .ty _, tyx_tv ts, ?_, _, rfl, ?_⟩
    · cases sd with
      | tuple l => exact kit_ty (show kitB "tuple" "tuple" = some true by decide +kernel)
      | none => exact kit_ty (show kitB "NoneType" "tuple" = some false by decide +kernel)
      | bool b => exact kit_ty (show kitB "bool" "tuple" = some false by decide +kernel)
      | int i => exact kit_ty (show kitB "int" "tuple" = some false by decide +kernel)
      | str z => exact kit_ty (show kitB "str" "tuple" = some false by decide +kernel)
      | list l => exact False.elim ts
      | dict l => exact kit_ty (show kitB "list" "tuple" = some false by decide +kernel)
    by_cases ct : ∃ ds, sd = .tuple ds
    · obtain ⟨ds, rfl⟩ := ct
      refine iteF' rfl ?_
      obtain ⟨fh, dl⟩ := hds ds rfl
      obtain ⟨qo, qr, qu⟩ := q ds rfl
      obtain ⟨sa, xs, rfl, sq, tl⟩ := ts
      have lx := tvl_len tl
      refine ⟨_, rfl, fun d hd => ?_⟩
      have big : (xs.length : Int) ≤ 2000 := by omega
      have tn : ((xs.length : Int)).toNat = ds.length := by rw [lx]; rfl
      refine ⟨_, rfl, sa, xs, rfl, .inr (same_carry (same_alloc hd) _ _ sq), (xs.length : Int), rfl, by omega, by omega, for_range (lo := 0) (n := ((xs.length : Int)).toNat)
        (fun i σ H' => Same H H' ∧ (∃ j w7 w8 w9, runJ (js0 b sl) (ds.take i) = some j ∧ NN j ∧ j.kvs.length ≤ i ∧ H' d = some (.dK j.kvs) ∧
          σ = [some (.ref sa), some (.int b), some (.int sl), some (.int (plV j.pos)), some (.int j.front), some (.ref d), some (.int j.cost), w7, w8, w9])) ⟨same_alloc hd, js0 b sl, none, none, none, rfl, ⟨b0, (fun i h => by cases h; exact Int.le_refl _), (fun k v h => by cases h)⟩, Nat.le_refl _, upd_same, rfl⟩ ?_ ?_⟩
      · rintro i σ H1 hi ⟨sm, j, w7, w8, w9, hrun, nn, kl, eD, rfl⟩
        rw [tn] at hi
        obtain ⟨dx, hdx⟩ : ∃ dx, ds[i]? = some dx := ⟨_, List.getElem?_eq_getElem hi⟩
        obtain ⟨x, hx, tx⟩ := tvl_get (TvL.carry (same_carry sm) _ _ tl) hdx
        have hx' : atI xs (0 + (i : Int)) = some x := by rw [show (0 : Int) + (i : Int) = (i : Int) by omega]; exact atI_nat hx
        refine ⟨_, rfl, _, rfl, sa, xs, _, x, rfl, rfl, same_carry sm _ _ sq, hx', ?_⟩
        refine ⟨_, rfl, _, rfl, _, rfl, _, rfl, _, rfl, d, j, dx, x, (by rw [run_slots hrun]; rfl), eD, tx, fh dx (List.mem_of_getElem? hdx), nn.p, fun H2 s2 => ?_⟩
        refine ⟨_, rfl, rfl, _, rfl, ?_⟩
        have sm2 := sm.trans s2
        have eD2 := s2 _ _ eD
        have tk : ds.take (i + 1) = ds.take i ++ [dx] := by rw [List.take_add_one, hdx]; rfl
        cases hre : reason j dx with
        | some r =>
          refine iteT' rfl ?_
          refine ⟨_, rfl, _, rfl, two, fun t ht => ?_⟩
          refine qr i dx j r _ _ hdx hrun hre (sm2.trans (same_alloc ht)) (tv2 upd_same ?_ rfl)
          show V.int _ = V.int _
          rw [show (0 : Int) + (i : Int) = (i : Int) by omega]
        | none =>
          refine iteF' rfl ?_
          obtain ⟨a, haa⟩ : ∃ a, act? dx = some a := by
            cases h : act? dx with
            | none => rw [rea_none h] at hre; cases hre
            | some a => exact ⟨a, rfl⟩
          have hrun' : runJ (js0 b sl) (ds.take (i + 1)) = some (follow j a) := by
            rw [tk, runJ_app _ _ _ hrun]
            unfold stepJ
            rw [hre, haa]
          have nn' := nn_step nn haa hre
          have kl' := Nat.le_trans (kvs_len j a) (Nat.succ_le_succ kl)
          have tx2 := tx.carry (same_carry s2)
          have c0 : ¬ j.front = 0 := fun z => by rw [rea_done haa z] at hre; cases hre
          rw [rea_act haa c0] at hre
          obtain ⟨rfl, hok⟩ := act_some haa
          cases a with
          | keep s =>
            obtain ⟨va, ys, rfl, sq2, u1, r1, rfl, t1, u2, r2, rfl, t2, rfl⟩ := tx2
            cases t1
            cases t2
            obtain ⟨p0, hp⟩ : ∃ i, j.pos = some i := by
              cases hp : j.pos with
              | none =>
                have er : reasonA j (Act.keep s) = if j.slots ≤ s then some ("slot" : Str) else (match j.pos with | none => some ("nowhere" : Str) | some _ => none) := rfl
                rw [er, hp] at hre
                split at hre <;> cases hre
              | some i => exact ⟨i, rfl⟩
            have ef : follow j (.keep s) = { j with kvs := putK j.kvs (Sum.inl s : Key) (posV j.pos) } := rfl
            rw [ef, hp] at nn' kl' hrun'
            rw [hp]
            refine ⟨_, rfl, va, _, 0, _, rfl, rfl, sq2, rfl, rfl, _, rfl, iteT' (by decide +kernel) ?_⟩
            refine ⟨_, rfl, _, rfl, _, rfl, va, _, 1, _, rfl, rfl, sq2, rfl, d, _, rfl, DPut.k (k := Sum.inl s) eD2 (Nat.lt_of_le_of_lt (Nat.le_trans kl (Nat.le_of_lt hi)) (Nat.lt_of_le_of_lt dl (by decide))), ?_⟩
            refine ⟨same_put sm2 hd, _, some (.int (0 + (i : Int))), some (.ref va), some .non, hrun', nn', kl', upd_same, ?_⟩
            rfl
          | restore s =>
            obtain ⟨va, ys, rfl, sq2, u1, r1, rfl, t1, u2, r2, rfl, t2, rfl⟩ := tx2
            cases t1
            cases t2
            have hv : ∃ i, valV j.kvs (Sum.inl s : Key) = some (.int i) := by
              have er : reasonA j (Act.restore s) = if j.slots ≤ s then some ("slot" : Str) else if (valV j.kvs (Sum.inl s : Key)).isSome = true then none else some ("empty" : Str) := rfl
              rw [er] at hre
              split at hre
              · cases hre
              · split at hre
                · rename_i hs
                  obtain ⟨v, hv⟩ := Option.isSome_iff_exists.mp hs
                  obtain ⟨i, rfl, _⟩ := nn.k _ _ hv
                  exact ⟨i, hv⟩
                · cases hre
            obtain ⟨p0, hv⟩ := hv
            have ef : follow j (.restore s) = { j with pos := some p0 } := by
              show { j with pos := match valV j.kvs (Sum.inl s : Key) with | some (.int i) => some i | _ => none } = _
              rw [hv]
            rw [ef] at nn' kl' hrun'
            refine ⟨_, rfl, va, _, 0, _, rfl, rfl, sq2, rfl, rfl, _, rfl, iteF' (by decide +kernel) ?_⟩
            refine ⟨_, rfl, va, _, 0, _, rfl, rfl, sq2, rfl, rfl, _, rfl, iteT' (by decide +kernel) ?_⟩
            refine ⟨_, rfl, _, rfl, va, _, 1, _, rfl, rfl, sq2, rfl, d, .int p0, rfl, hv ▸ DGet.k (k := Sum.inl s) eD2, ?_⟩
            refine ⟨sm2, _, some (.int (0 + (i : Int))), some (.ref va), some .non, hrun', nn', kl', eD2, ?_⟩
            rfl
          | advance n =>
            obtain ⟨va, ys, rfl, sq2, u1, r1, rfl, t1, u2, r2, rfl, t2, rfl⟩ := tx2
            cases t1
            cases t2
            obtain ⟨p0, hp⟩ : ∃ i, j.pos = some i := by
              cases hp : j.pos with
              | none =>
                have er : reasonA j (Act.advance n) = match j.pos with | none => some ("nowhere" : Str) | some p => if j.front ≤ p + n then some ("beyond" : Str) else none := rfl
                rw [er, hp] at hre
                cases hre
              | some i => exact ⟨i, rfl⟩
            have ef : follow j (.advance n) = { j with pos := some (p0 + n), cost := j.cost + n } := by
              show (match j.pos with | some p => { j with pos := some (p + n), cost := j.cost + n } | none => j) = _
              rw [hp]
            rw [ef] at nn' kl' hrun'
            rw [hp]
            refine ⟨_, rfl, va, _, 0, _, rfl, rfl, sq2, rfl, rfl, _, rfl, iteF' (by decide +kernel) ?_⟩
            refine ⟨_, rfl, va, _, 0, _, rfl, rfl, sq2, rfl, rfl, _, rfl, iteF' (by decide +kernel) ?_⟩
            refine ⟨_, rfl, va, _, 0, _, rfl, rfl, sq2, rfl, rfl, _, rfl, iteT' (by decide +kernel) ?_⟩
            refine ⟨_, rfl, _, rfl, va, _, 1, _, rfl, rfl, sq2, rfl, _, _, rfl, rfl, ?_⟩
            refine ⟨_, rfl, _, rfl, va, _, 1, _, rfl, rfl, sq2, rfl, _, _, rfl, rfl, ?_⟩
            refine ⟨sm2, _, some (.int (0 + (i : Int))), some (.ref va), some .non, hrun', nn', kl', eD2, ?_⟩
            rfl
          | turn =>
            obtain ⟨va, ys, rfl, sq2, u1, r1, rfl, t1, rfl⟩ := tx2
            cases t1
            have ef : follow j .turn = { j with pos := none, front := j.front - 1 } := rfl
            rw [ef] at nn' kl' hrun'
            refine ⟨_, rfl, va, _, 0, _, rfl, rfl, sq2, rfl, rfl, _, rfl, iteF' (by decide +kernel) ?_⟩
            refine ⟨_, rfl, va, _, 0, _, rfl, rfl, sq2, rfl, rfl, _, rfl, iteF' (by decide +kernel) ?_⟩
            refine ⟨_, rfl, va, _, 0, _, rfl, rfl, sq2, rfl, rfl, _, rfl, iteF' (by decide +kernel) ?_⟩
            refine ⟨_, rfl, _, _, rfl, rfl, _, rfl, ?_⟩
            refine ⟨sm2, _, some (.int (0 + (i : Int))), some (.ref va), some .non, hrun', nn', kl', eD2, ?_⟩
            rfl
      · rintro σ H1 ⟨sm, j, w7, w8, w9, hrun, nn, kl, eD, rfl⟩
        rw [tn, List.take_length] at hrun
        refine ⟨_, rfl, _, _, rfl, rfl, _, rfl, ?_⟩
        have f0 := nn.f
        by_cases c : j.front = 0
        · refine iteF' (decide_eq_false (by omega)) ?_
          exact ⟨_, rfl, qo j H1 hrun c sm⟩
        · refine iteT' (decide_eq_true (by omega)) ?_
          refine ⟨_, rfl, sa, xs, rfl, .inr (same_carry sm _ _ sq), two, fun t ht => ?_⟩
          refine qu j _ _ hrun c (sm.trans (same_alloc ht)) (tv2 upd_same ?_ rfl)
          show V.int _ = V.int _
          rw [lx]
    · have nt : ∀ ds, sd ≠ .tuple ds := fun ds e => ct ⟨ds, e⟩
      have e0 : isTupD sd = false := by
        cases sd with
        | tuple l => exact absurd rfl (nt l)
        | none => rfl
        | bool b => rfl
        | int i => rfl
        | str z => rfl
        | list l => rfl
        | dict l => rfl
      refine iteT' (by rw [e0]; rfl) ?_
      refine ⟨_, rfl, two, fun t ht => ?_⟩
      exact qf nt _ _ (same_alloc ht) (tv2 upd_same rfl rfl)
end
end Sd

namespace Sd
open PySem L2 Tr Pu PyProof.Rows
/-! ### numbers drawn from a script, kept in a list of four -/
section
variable {K : PySem.W.Frag} {H H' : Hp}
/-- the state of the draws: a list of the script's numbers, the rest of one, the next one's place, the seed -/
structure Dw (K : PySem.W.Frag) (H : Hp) (p l : Addr) : Prop where
  it : ∃ (ns : List Int) (r j s : Int), H p = some (.lst [.ref l, .int r, .int j, .int s]) ∧ H l = some (.lst (ns.map V.int)) ∧ 0 ≤ j ∧ l ≠ p
theorem Dw.at_ {p l : Addr} (h : Dw K H p l) : ∃ xs, H p = some (.lst xs) := by
  obtain ⟨ns, r, j, s, e, _⟩ := h.it
  exact ⟨_, e⟩
theorem Dw.at2 {p l : Addr} (h : Dw K H p l) : ∃ xs, H l = some (.lst xs) := by
  obtain ⟨ns, r, j, s, _, e, _⟩ := h.it
  exact ⟨_, e⟩
/-- all but the list at p stands, and p is a state of draws -/
theorem Dw.same {p l : Addr} (h : Dw K H p l) (s : Same H H') : Dw K H' p l := by
  obtain ⟨ns, r, j, t, e, f, g, n⟩ := h.it
  exact ⟨ns, r, j, t, s _ _ e, s _ _ f, g, n⟩
theorem Dw.upd {p l q : Addr} {o : HO} (h : Dw K H p l) (np : q ≠ p) (nl : q ≠ l) : Dw K (L2.upd H q o) p l := by
  obtain ⟨ns, r, j, t, e, f, g, n⟩ := h.it
  exact ⟨ns, r, j, t, by rw [upd_ne np.symm]; exact e, by rw [upd_ne nl.symm]; exact f, g, n⟩
theorem Dw.new {p l q : Addr} {o : HO} (h : Dw K H p l) (n : H q = none) : Dw K (L2.upd H q o) p l := h.same fun b u e => by rw [upd_ne (ne_of_none e n)]; exact e
def spDrw (K : PySem.W.Frag) : Sp := fun vs H Q _ => ∃ (p l : Addr) (m : Int), vs = [.ref p, .int m] ∧ Dw K H p l ∧ 0 < m ∧ m < 1000000 ∧ ∀ v H', 0 ≤ v → v < m → Stays p H H' → Dw K H' p l → Q (.int v) H'
def spStart (K : PySem.W.Frag) : Sp := fun vs H Q _ => ∃ (a : Addr) (ns : List Int), vs = [.ref a] ∧ SqL K H a (ns.map V.int) ∧ ns.length ≤ 1000 ∧ ∀ p l H', Same H H' → H p = none → Dw K H' p l → Q (.ref p) H'
end
abbrev sStart : Stmt := top 17
abbrev sDrw : Stmt := top 18
section
variable {P : Program} {w : World} {K : PySem.W.Frag} {mg : Str → Option Value} {base : Heap}
theorem at_in {α : Type} {xs : List α} {j : Int} (h0 : 0 ≤ j) (h : j < (xs.length : Int)) : ∃ x, atI xs j = some x ∧ xs[j.toNat]? = some x := by
  have e : j = ((j.toNat : Nat) : Int) := by omega
  have hk : j.toNat < xs.length := by omega
  have q : atI xs ((j.toNat : Nat) : Int) = some xs[j.toNat] := atI_nat (List.getElem?_eq_getElem hk)
  rw [← e] at q
  exact ⟨_, q, List.getElem?_eq_getElem hk⟩
theorem at_int {ns : List Int} {j : Int} (h0 : 0 ≤ j) (h : j < (ns.length : Int)) : ∃ n, atI (ns.map V.int) j = some (.int n) := by
  obtain ⟨x, hx, hx2⟩ := at_in (xs := ns.map V.int) h0 (by rw [List.length_map]; exact h)
  rw [List.getElem?_map] at hx2
  cases e : ns[j.toNat]? with
  | none => rw [e] at hx2; cases hx2
  | some n => rw [e] at hx2; cases Option.some.inj hx2; exact ⟨n, hx⟩
theorem scStart : FnScope ["script", "seed", "cell"] ["script"] (defScope sStart) := ⟨rfl, rfl, rfl, by decide +kernel, rfl, by decide +kernel, by decide +kernel⟩
theorem scDrw : FnScope ["state", "many", "value"] ["state", "many"] (defScope sDrw) := ⟨rfl, rfl, rfl, by decide +kernel, rfl, by decide +kernel, by decide +kernel⟩
theorem ok_start {f : Addr} {fd : FuncData} (F : Fun K "_law_start" "_law_start" sStart f fd) (T : Bi mg) : FnOk P w K mg base CX0 1 f fd ["script"] (spStart K) := by
  refine F.ok scStart (fun vs H Q E h => ?_) (fun cdv A outer s H vs Q E hr h => ?_)
  · obtain ⟨a, ns, rfl, _⟩ := h
    rfl
  · obtain ⟨a, ns, rfl, hS, hl, q⟩ := h
    have nd := scStart.nd
    refine ⟨_, pss_cons (ps_set (i := 1) nd rfl (.inl rfl) pe_int)
      (pss_cons (ps_for PassesOwn.never rfl (pi_list (pv 0)) (pg_name (i := 2) nd rfl (.inl rfl)) (pss_one (ps_set (i := 1) nd rfl (.inl rfl) (pe_op op_add (pe_op op_mod (pe_callTy call_int1 rfl T.int PyProof.Rows.boot_int (pa_cons (pe_op op_add (pe_op op_mul (pv 1) pe_int) (pv 2)) pa_nil)) pe_int) pe_int))))
      (pss_one (ps_ret (pe_lst (pa_cons (pe_callTy call_list_of rfl T.list PyProof.Rows.boot_list (pa_cons (pv 0) pa_nil)) (pa_cons pe_int (pa_cons pe_int (pa_cons (pv 1) pa_nil)))))))), ?_⟩
    refine ⟨_, rfl, a, rfl, ⟨_, hS⟩, for_list (K := K) (a := a) (xs := ns.map V.int) (fun i σ H' => H' = H ∧ ∃ (z : Int) (c : Option V), σ = [some (.ref a), some (.int z), c]) ⟨rfl, 7, none, rfl⟩ (fun i σ H' _ h => by rw [h.1]; exact hS) ?_ ?_⟩
    · rintro i x σ H' hi ⟨hH, z, c, rfl⟩
      cases hH
      rw [List.getElem?_map] at hi
      obtain ⟨n, rfl⟩ : ∃ n, x = V.int n := by
        cases e : ns[i]? with
        | none => rw [e] at hi; cases hi
        | some n => rw [e] at hi; exact ⟨n, (Option.some.inj hi).symm⟩
      refine ⟨_, rfl, _, _, rfl, rfl, .inr ⟨by decide, by decide⟩, _, rfl, _, _, rfl, rfl, .inl ⟨_, rfl, _, _, rfl, rfl, (show (0:Int) < 2147483629 by decide), _, _, rfl, rfl, rfl, _, _, rfl⟩⟩
    · rintro σ H' ⟨hH, z, c, rfl⟩
      cases hH
      refine ⟨_, rfl, a, _, rfl, .inl hS, fun l hl2 => ⟨_, rfl, (show 4 ≤ sizeLine by decide), fun p hp => ?_⟩⟩
      have sm : Same H (upd (upd H l (.lst (ns.map V.int))) p (.lst [V.ref l, V.int 0, V.int 0, V.int z])) := fun b u e => by rw [upd_ne (ne_of_none (by rw [upd_ne (ne_of_none e hl2)]; exact e) hp), upd_ne (ne_of_none e hl2)]; exact e
      have hp0 : H p = none := by
        by_cases z : p = l
        · rw [z]; exact hl2
        · rw [upd_ne z] at hp; exact hp
      refine q p l _ sm hp0 ⟨ns, 0, 0, z, upd_same, ?_, Int.le_refl _, ne_of_none upd_same hp⟩
      rw [upd_ne (ne_of_none upd_same hp)]
      exact upd_same
theorem ok_drw {f : Addr} {fd : FuncData} (F : Fun K "_law_draw" "_law_draw" sDrw f fd) (T : Bi mg) : FnOk P w K mg base CX0 1 f fd ["state", "many"] (spDrw K) := by
  refine F.ok scDrw (fun vs H Q E h => ?_) (fun cdv A outer s H vs Q E hr h => ?_)
  · obtain ⟨p, l, m, rfl, _⟩ := h
    rfl
  · obtain ⟨p, l, m, rfl, D, m0, m1, q⟩ := h
    have nd := scDrw.nd
    obtain ⟨ns, r, j, t, e, f', j0, n⟩ := D.it
    have hp : SqL K H p [.ref l, .int r, .int j, .int t] := SqL.of e
    refine ⟨_, pss_cons (ps_if (PW.pt (pw_and (pt_cmpR op_eq (pe_ix ix_list (pv 0) pe_int (fun _ _ => rfl)) pe_int (nomark _)) (pw_and1 (pt_cmpR op_ge (pe_ix ix_list (pv 0) pe_int (fun _ _ => rfl)) (pe_callB call_len_seq rfl T.len PySem.boot_len (pa_cons (pe_ix ix_list (pv 0) pe_int (fun _ _ => rfl)) pa_nil)) (nomark _))))) (pss_cons (ps_asg (pe_op op_mod (pe_callTy call_int1 rfl T.int PyProof.Rows.boot_int (pa_cons (pe_op op_add (pe_op op_mul (pe_ix ix_list (pv 0) pe_int (fun _ _ => rfl)) pe_int) pe_int) pa_nil)) pe_int) (pg_sub (pv 0) pe_int set_list))
      (pss_one (ps_ret (pe_op op_mod (pe_callTy call_int1 rfl T.int PyProof.Rows.boot_int (pa_cons (pe_op op_fdiv (pe_ix ix_list (pv 0) pe_int (fun _ _ => rfl)) pe_int) pa_nil)) (pv 1))))) pss_nil)
      (pss_cons (ps_if (pt_cmpR op_eq (pe_ix ix_list (pv 0) pe_int (fun _ _ => rfl)) pe_int (nomark _)) (pss_cons (ps_asg (pe_callB call_abs rfl T.abs PyProof.Rows.boot_abs (pa_cons (pe_ix ix_list (pe_ix ix_list (pv 0) pe_int (fun _ _ => rfl)) (pe_ix ix_list (pv 0) pe_int (fun _ _ => rfl)) (fun _ _ => rfl)) pa_nil)) (pg_sub (pv 0) pe_int set_list))
      (pss_one (ps_asg (pe_op op_add (pe_ix ix_list (pv 0) pe_int (fun _ _ => rfl)) pe_int) (pg_sub (pv 0) pe_int set_list)))) pss_nil)
      (pss_cons (ps_set (i := 2) nd rfl (.inl rfl) (pe_op op_mod (pe_callTy call_int1 rfl T.int PyProof.Rows.boot_int (pa_cons (pe_ix ix_list (pv 0) pe_int (fun _ _ => rfl)) pa_nil)) (pv 1)))
      (pss_cons (ps_asg (pe_op op_fdiv (pe_ix ix_list (pv 0) pe_int (fun _ _ => rfl)) (pv 1)) (pg_sub (pv 0) pe_int set_list))
      (pss_one (ps_ret (pv 2)))))), ?_⟩
    -- the last three rows
    have tail : ∀ (H2 : Hp) (r2 j2 t2 : Int) (w : Option V), Stays p H H2 → H2 p = some (.lst [.ref l, .int r2, .int j2, .int t2]) → 0 ≤ j2 → ∃ v, 0 ≤ v ∧ v < m ∧ r2 % m = v ∧
        Stays p H (upd H2 p (.lst [.ref l, .int (r2 / m), .int j2, .int t2])) ∧ Dw K (upd H2 p (.lst [.ref l, .int (r2 / m), .int j2, .int t2])) p l := by
      intro H2 r2 j2 t2 w s2 e2 j2'
      refine ⟨r2 % m, Int.emod_nonneg _ (by omega), Int.emod_lt_of_pos _ m0, rfl, s2.trans stays_upd, ns, _, _, _, upd_same, ?_, j2', n⟩
      rw [upd_ne n]
      exact s2 _ _ n f'
    have m0' : (fun _ j : Int => 0 < j) r m := m0
    refine ⟨_, rfl, p, _, _, _, rfl, rfl, hp, rfl, rfl, _, rfl, ?_⟩
    by_cases r0 : r = 0
    · refine iteT' (decide_eq_true (congrArg V.int r0)) ⟨_, rfl, p, _, _, _, rfl, rfl, hp, rfl, _, rfl, p, _, _, _, rfl, rfl, hp, rfl, l, _, rfl, .inl (SqL.of f'), _, _, rfl, rfl, _, rfl, ?_⟩
      rw [List.length_map]
      by_cases c : j ≥ (ns.length : Int)
      · refine iteT' (decide_eq_true c) ?_
        refine ⟨_, rfl, p, _, _, _, rfl, rfl, hp, rfl, _, _, rfl, rfl, .inr ⟨by decide, by decide⟩, _, _, rfl, rfl, .inl ⟨_, rfl, _, _, rfl, rfl, (show (0:Int) < 2147483629 by decide), _, rfl, p, _, _, _, rfl, rfl, e, rfl, ?_⟩⟩
        refine ⟨_, rfl, p, _, _, _, rfl, rfl, SqL.of upd_same, rfl, _, _, rfl, rfl, ⟨by decide, by decide⟩, .inl ⟨_, rfl, _, rfl, _, _, rfl, rfl, m0, ?_⟩⟩
        refine q _ _ (Int.emod_nonneg _ (by omega)) (Int.emod_lt_of_pos _ m0) stays_upd ⟨ns, _, _, _, upd_same, ?_, j0, n⟩
        rw [upd_ne n]
        exact f'
      · refine iteF' (decide_eq_false c) ?_
        refine ⟨_, rfl, p, _, _, _, rfl, rfl, hp, rfl, rfl, _, rfl, iteT' (decide_eq_true (congrArg V.int r0)) ?_⟩
        obtain ⟨x, hx⟩ := at_int (ns := ns) j0 (by omega)
        refine ⟨_, rfl, p, _, _, _, rfl, rfl, hp, rfl, _, rfl, p, _, _, _, rfl, rfl, hp, rfl, l, _, _, _, rfl, rfl, SqL.of f', hx, x, rfl, _, rfl, p, _, _, _, rfl, rfl, e, rfl, ?_⟩
        refine ⟨_, rfl, p, _, _, _, rfl, rfl, SqL.of upd_same, rfl, _, _, rfl, rfl, _, rfl, p, _, _, _, rfl, rfl, upd_same, rfl, ?_⟩
        obtain ⟨v, v0, v1, ev, s3, d3⟩ := tail _ (if x < 0 then -x else x) (j + 1) t none (stays_upd.trans stays_upd) upd_same (by omega)
        refine ⟨_, rfl, p, _, _, _, rfl, rfl, SqL.of upd_same, rfl, .inl ⟨_, rfl, _, rfl, _, _, rfl, rfl, m0, ?_⟩⟩
        refine ⟨_, rfl, p, _, _, _, rfl, rfl, SqL.of upd_same, rfl, _, rfl, _, _, rfl, rfl, ⟨m0, by omega⟩, _, rfl, p, _, _, _, rfl, rfl, upd_same, rfl, _, rfl, ?_⟩
        subst ev
        exact q _ _ v0 v1 s3 d3
    · refine iteF' (decide_eq_false (fun y => r0 (V.int.inj y))) ?_
      refine ⟨_, rfl, p, _, _, _, rfl, rfl, hp, rfl, rfl, _, rfl, iteF' (decide_eq_false (fun y => r0 (V.int.inj y))) ?_⟩
      obtain ⟨v, v0, v1, ev, s3, d3⟩ := tail _ r j t none (Stays.refl _ _) e j0
      refine ⟨_, rfl, p, _, _, _, rfl, rfl, hp, rfl, .inl ⟨_, rfl, _, rfl, _, _, rfl, rfl, m0, ?_⟩⟩
      refine ⟨_, rfl, p, _, _, _, rfl, rfl, hp, rfl, _, rfl, _, _, rfl, rfl, ⟨m0, by omega⟩, _, rfl, p, _, _, _, rfl, rfl, e, rfl, _, rfl, ?_⟩
      subst ev
      exact q _ _ v0 v1 s3 d3
end

end Sd

namespace Sd
open PySem L2 Tr Pu PyProof.Rows
/-- a list of what may be actions -/
def GL (K : PySem.W.Frag) (H : Hp) (L : Addr) (n : Nat) : Prop := ∃ ys ds, H L = some (.lst ys) ∧ TvL K H ds ys ∧ (∀ x ∈ ds, flatHead x = true) ∧ ds.length ≤ n
section
variable {K : PySem.W.Frag} {H H' : Hp}
theorem dw_carry {p dl : Addr} (D : Dw K H p dl) (s : Stays p H H') (D' : Dw K H' p dl) : Carry K H H' := by
  obtain ⟨xs, e⟩ := D.at_
  obtain ⟨zs, e2⟩ := D'.at_
  exact s.carryL e e2
theorem carry_lst {E : Addr} {ys zs : List V} (h : H E = some (.lst ys)) : Carry K H (upd H E (.lst zs)) := Stays.carryL (p := E) stays_upd h upd_same
theorem tvl_snoc {ds : List PyData} {xs : List V} {d : PyData} {x : V} (h : TvL K H ds xs) (hx : Tv K H d x) : TvL K H (ds ++ [d]) (xs ++ [x]) := tvl_app h ⟨x, [], rfl, hx, rfl⟩
theorem GL.next {L : Addr} {n : Nat} (h : GL K H L n) (s : Same H H') : GL K H' L n := by
  obtain ⟨ys, ds, e, t, f, l⟩ := h
  exact ⟨ys, ds, s _ _ e, TvL.carry (same_carry s) _ _ t, f, l⟩
theorem GL.stays {L p dl : Addr} {n : Nat} (h : GL K H L n) (s : Stays p H H') (np : L ≠ p) (D : Dw K H p dl) (D' : Dw K H' p dl) : GL K H' L n := by
  obtain ⟨ys, ds, e2, t, f, l⟩ := h
  exact ⟨ys, ds, s _ _ np e2, TvL.carry (dw_carry D s D') _ _ t, f, l⟩
theorem GL.mono {L : Addr} {n m : Nat} (h : GL K H L n) (l : n ≤ m) : GL K H L m := by
  obtain ⟨ys, ds, e, t, f, l2⟩ := h
  exact ⟨ys, ds, e, t, f, Nat.le_trans l2 l⟩
theorem gl_sl {L : Addr} {n : Nat} {lo hi : Option Int} {Q : VK} (h : GL K H L n) (k : ∀ q H1, H q = none → Same H H1 → GL K H1 q n → Q (.ref q) H1) : rSlL K (.ref L) lo hi H Q := by
  obtain ⟨ys, ds, e, t, f, l⟩ := h
  refine ⟨L, ys, rfl, SqL.of e, fun q hq => k q _ hq (same_alloc hq) ⟨_, (ds.drop (HT.sIx ys.length 0 lo)).take (HT.sIx ys.length ys.length hi - HT.sIx ys.length 0 lo), upd_same, TvL.carry (carry_new hq) _ _ (tvl_take _ (tvl_drop _ t)), fun x hx => f x (List.mem_of_mem_drop (List.mem_of_mem_take hx)), ?_⟩⟩
  rw [List.length_take, List.length_drop]
  omega
theorem gl_cat {L M : Addr} {n m : Nat} {Q : VK} (h : GL K H L n) (g : GL K H M m) (hm : n + m ≤ 5000) (k : ∀ q H1, H q = none → Same H H1 → GL K H1 q (n + m) → Q (.ref q) H1) : rCat (.ref L) (.ref M) H Q := by
  obtain ⟨ys, ds, e, t, f, l⟩ := h
  obtain ⟨zs, es, e2, t2, f2, l2⟩ := g
  refine ⟨L, M, ys, zs, rfl, rfl, e, e2, ?_, fun q hq => k q _ hq (same_alloc hq) ⟨_, ds ++ es, upd_same, TvL.carry (carry_new hq) _ _ (tvl_app t t2), fun x hx => ?_, ?_⟩⟩
  · rw [tvl_len t, tvl_len t2]
    exact Nat.le_trans (show _ ≤ 5000 by omega) (by decide)
  · rcases List.mem_append.mp hx with hx | hx
    · exact f x hx
    · exact f2 x hx
  · rw [List.length_append]
    omega
theorem noP {σ : L2.St} {Q : Option Int → Hp → Prop} (h : Q none H) : tNoPart σ H Q := h
theorem gl_one {q : Addr} {x : V} {d : PyData} (hq : H q = none) (t : Tv K H d x) (f : flatHead d = true) : GL K (upd H q (.lst [x])) q 1 :=
  ⟨_, [d], upd_same, ⟨_, _, rfl, t.carry (carry_new hq), rfl⟩, fun y hy => by rw [List.mem_singleton.mp hy]; exact f, Nat.le_refl _⟩
end
theorem set_k {te : TE} {i : Nat} {tu : TS} {D : Ends} {σ : L2.St} {H : Hp} (Pr : V → Hp → Prop) (h : ∀ Q' : VK, (∀ v H', Pr v H' → Q' v H') → te σ H Q') (k : ∀ v H', Pr v H' → tu D (σ.set i (some v)) H') : tSeq (tAsg te (gName i)) tu D σ H := h _ fun v H' p => k v H' p
theorem if_k {t : TT} {ts tu : TS} {D : Ends} {σ : L2.St} {H : Hp} (Pr : L2.St → Hp → Prop) (h : ∀ D' : Ends, D'.rt = D.rt → (∀ σ' H', Pr σ' H' → D'.nx σ' H') → tIfS t ts tNext D' σ H) (k : ∀ σ' H', Pr σ' H' → tu D σ' H') : tSeq (tIfS t ts tNext) tu D σ H := h { D with nx := tu D } rfl k
theorem seq_k {ts tu : TS} {D : Ends} {σ : L2.St} {H : Hp} (Pr : L2.St → Hp → Prop) (h : ∀ D' : Ends, D'.rt = D.rt → (∀ σ' H', Pr σ' H' → D'.nx σ' H') → ts D' σ H) (k : ∀ σ' H', Pr σ' H' → tu D σ' H') : tSeq ts tu D σ H := h { D with nx := tu D } rfl k
end Sd
namespace Sd
open PySem L2 Tr Pu PyProof.Rows
theorem stays_put {p q : Addr} {o : HO} {H H' : Hp} (s : Stays p H H') (h : H q = none) : Stays p H (upd H' q o) := fun b u n e => by rw [upd_ne (ne_of_none e h)]; exact s b u n e
end Sd
namespace Sd
open PySem L2 Tr Pu PyProof.Rows
theorem ifs_T {K : PySem.W.Frag} {H : Hp} {σ : L2.St} {ρ : Rho} {D : Ends} {t : TT} {ts tu : TS} (h : DT K t ρ true) (en : En K H σ ρ) (k : ∀ H2, Same H H2 → ts D σ H2) : tIfS t ts tu D σ H := h σ H _ en fun H1 s1 => k H1 s1
theorem ifs_F {K : PySem.W.Frag} {H : Hp} {σ : L2.St} {ρ : Rho} {D : Ends} {t : TT} {ts tu : TS} (h : DT K t ρ false) (en : En K H σ ρ) (k : ∀ H2, Same H H2 → tu D σ H2) : tIfS t ts tu D σ H := h σ H _ en fun H1 s1 => k H1 s1
theorem en_0 {K : PySem.W.Frag} {H : Hp} : En K H [] [] := ⟨rfl, fun i d h => by simp at h⟩
theorem en_s {K : PySem.W.Frag} {H : Hp} {σ : L2.St} {ρ : Rho} {d : PyData} {v : V} (t : Tv K H d v) (h : En K H σ ρ) : En K H (some v :: σ) (some d :: ρ) := ⟨congrArg (· + 1) h.1, fun i e q => by
  cases i with
  | zero => cases q; exact ⟨v, rfl, t⟩
  | succ i => exact h.2 i e q⟩
theorem en_n {K : PySem.W.Frag} {H : Hp} {σ : L2.St} {ρ : Rho} {x : Option V} (h : En K H σ ρ) : En K H (x :: σ) (none :: ρ) := ⟨congrArg (· + 1) h.1, fun i e q => by
  cases i with
  | zero => cases q
  | succ i => exact h.2 i e q⟩
end Sd

namespace Sd
open PySem L2 Tr Pu PyProof.Rows
/-- the keys are whole numbers -/
def KK (kvs : List (Key × V)) : Prop := ∀ e ∈ kvs, ∃ s : Int, e.1 = Sum.inl s
def spNext (K : PySem.W.Frag) : Sp := fun vs H Q _ => ∃ (p dl d : Addr) (j : JS), vs = [.ref p, .int (plV j.pos), .int j.front, .ref d, .int j.slots] ∧ Dw K H p dl ∧ H d = some (.dK j.kvs) ∧ KK j.kvs ∧ j.kvs.length ≤ 500 ∧ j.slots ≤ 8 ∧ j.front ≤ 40 ∧ NN j ∧
  ∀ v x H', Tv K H' x v → flatHead x = true → Stays p H H' → Dw K H' p dl → Q v H'
abbrev sNext : Stmt := top 23
section
variable {P : Program} {w : World} {K : PySem.W.Frag} {mg : Str → Option Value} {base : Heap}
theorem scNext : FnScope ["state", "place", "front", "full", "slots", "choice"] ["state", "place", "front", "full", "slots"] (defScope sNext) := ⟨rfl, rfl, rfl, by decide +kernel, rfl, by decide +kernel, by decide +kernel⟩
theorem ok_next {f : Addr} {fd : FuncData} (F : Fun K "_law_next" "_law_next" sNext f fd) (T : Bi mg) (c_draw : Cal P w K mg base CX0 1 "_law_draw" ["state", "many"] (spDrw K)) : FnOk P w K mg base CX0 2 f fd ["state", "place", "front", "full", "slots"] (spNext K) := by
  refine F.ok scNext (fun vs H Q E h => ?_) (fun cdv A outer s H vs Q E hr h => ?_)
  · obtain ⟨p, dl, d, j, rfl, _⟩ := h
    rfl
  · obtain ⟨p, dl, d, j, rfl, D, hd, kk, kl, sl8, f40, nn, q⟩ := h
    have nd := scNext.nd
    have one : 1 ≤ sizeLine := by decide
    have two : 2 ≤ sizeLine := by decide
    have four : 4 ≤ sizeLine := by decide
    have f0 := nn.f
    have np : d ≠ p := fun z => by
      obtain ⟨xs, e⟩ := D.at_
      rw [z, e] at hd
      cases hd
    have pl1 : -1 ≤ plV j.pos := by
      cases h : j.pos with
      | none => exact Int.le_refl _
      | some i => have := nn.p i h; show -1 ≤ i; omega
    refine ⟨_, pss_cons (ps_set (i := 5) nd rfl (.inl rfl) (pe_call c_draw.ok (hr.mono (by first | decide | omega)) rfl c_draw.m c_draw.kp c_draw.b .nil pass0 (pa_cons (pv 0) (pa_cons pe_int pa_nil))))
      (pss_cons (ps_if (pt_cmpR op_eq (pv 5) pe_int (nomark _)) (pss_one (ps_ret (pe_ix ix_list (pe_lst (pa_cons (pe_tup (pa_cons pe_str (pa_cons (pe_call c_draw.ok (hr.mono (by first | decide | omega)) rfl c_draw.m c_draw.kp c_draw.b .nil pass0 (pa_cons (pv 0) (pa_cons pe_int pa_nil))) pa_nil))) (pa_cons (pe_tup (pa_cons pe_str (pa_cons (pe_call c_draw.ok (hr.mono (by first | decide | omega)) rfl c_draw.m c_draw.kp c_draw.b .nil pass0 (pa_cons (pv 0) (pa_cons pe_int pa_nil))) pa_nil))) (pa_cons (pe_tup (pa_cons pe_str (pa_cons (pe_call c_draw.ok (hr.mono (by first | decide | omega)) rfl c_draw.m c_draw.kp c_draw.b .nil pass0 (pa_cons (pv 0) (pa_cons pe_int pa_nil))) pa_nil))) (pa_cons (pe_tup (pa_cons pe_str pa_nil)) pa_nil))))) (pe_call c_draw.ok (hr.mono (by first | decide | omega)) rfl c_draw.m c_draw.kp c_draw.b .nil pass0 (pa_cons (pv 0) (pa_cons pe_int pa_nil))) (fun _ _ => rfl)))) pss_nil)
      (pss_cons (ps_if (pt_cmpR op_lt (pv 1) pe_int (nomark _)) (pss_cons (ps_if (pt_not (pt_truth (pv 3) (by intro _; rfl))) (pss_one (ps_ret (pe_tup (pa_cons pe_str pa_nil)))) pss_nil)
      (pss_one (ps_ret (pe_tup (pa_cons pe_str (pa_cons (pe_ix ix_list (pe_callTy (call_list_dK rfl) rfl T.list PyProof.Rows.boot_list (pa_cons (pv 3) pa_nil)) (pe_call c_draw.ok (hr.mono (by first | decide | omega)) rfl c_draw.m c_draw.kp c_draw.b .nil pass0 (pa_cons (pv 0) (pa_cons (pe_callB call_lenD rfl T.len PySem.boot_len (pa_cons (pv 3) pa_nil)) pa_nil))) (fun _ _ => rfl)) pa_nil)))))) pss_nil)
      (pss_cons (ps_if (PW.pt (pw_and (pt_cmpR op_eq (pv 1) (pe_op op_sub (pv 2) pe_int) (nomark _)) (pw_and1 (pt_cmpR op_lt (pv 5) pe_int (nomark _))))) (pss_one (ps_ret (pe_tup (pa_cons pe_str pa_nil)))) pss_nil)
      (pss_cons (ps_if (PW.pt (pw_and (pt_cmpR op_lt (pv 5) pe_int (nomark _)) (pw_and1 (pt_cmpR op_gt (pv 4) pe_int (nomark _))))) (pss_one (ps_ret (pe_tup (pa_cons pe_str (pa_cons (pe_call c_draw.ok (hr.mono (by first | decide | omega)) rfl c_draw.m c_draw.kp c_draw.b .nil pass0 (pa_cons (pv 0) (pa_cons (pv 4) pa_nil))) pa_nil))))) pss_nil)
      (pss_one (ps_ret (pe_tup (pa_cons pe_str (pa_cons (pe_op op_add pe_int (pe_call c_draw.ok (hr.mono (by first | decide | omega)) rfl c_draw.m c_draw.kp c_draw.b .nil pass0 (pa_cons (pv 0) (pa_cons (pe_callB (call_max2 rfl) rfl T.max (by decide +kernel) (pa_cons pe_int (pa_cons (pe_op op_sub (pe_op op_sub (pv 2) pe_int) (pv 1)) pa_nil))) pa_nil)))) pa_nil))))))))), ?_⟩
    refine ⟨_, rfl, p, dl, 12, rfl, D, by decide, by decide, fun c H1 c0 c1 s1 D1 => ?_⟩
    have hd1 := s1 _ _ np hd
    refine ⟨_, rfl, rfl, _, rfl, ?_⟩
    by_cases z : c = 0
    · refine iteT' (decide_eq_true (congrArg V.int z)) ?_
      refine ⟨_, rfl, p, dl, 5, rfl, D1, by decide, by decide, fun v1 H2 _ _ s2 D2 => ⟨two, fun t1 n1 => ?_⟩⟩
      have D2' := D2.new (o := .tup [V.str "advance", V.int v1]) n1
      refine ⟨_, rfl, p, dl, 9, rfl, D2', by decide, by decide, fun v2 H3 _ _ s3 D3 => ⟨two, fun t2 n2 => ?_⟩⟩
      have D3' := D3.new (o := .tup [V.str "keep", V.int v2]) n2
      refine ⟨_, rfl, p, dl, 9, rfl, D3', by decide, by decide, fun v3 H4 _ _ s4 D4 => ⟨two, fun t3 n3 => ⟨one, fun t4 n4 => ⟨four, fun l nl => ?_⟩⟩⟩⟩
      have D4' := D4.new (o := .tup [V.str "restore", V.int v3]) n3
      have D5' := D4'.new (o := .tup [V.str "turn"]) n4
      have D6' := D5'.new (o := .lst [V.ref t1, V.ref t2, V.ref t3, V.ref t4]) nl
      have np2 : l ≠ p := fun z => by
        obtain ⟨xs, e⟩ := D5'.at_
        rw [z, e] at nl
        cases nl
      refine ⟨_, rfl, p, dl, 4, rfl, D6', by decide, by decide, fun i H5 i0 i1 s5 D5 => ?_⟩
      -- the four
      have T1 : Tv K _ (.tuple [.str "advance", .int v1]) (.ref t1) := tv2 (upd_same (H := H2)) rfl rfl
      have T1 := T1.carry (dw_carry D2' s3 D3)
      have T1 := (T1.carry (carry_new n2)).carry (dw_carry D3' s4 D4)
      have T2 : Tv K _ (.tuple [.str "keep", .int v2]) (.ref t2) := tv2 (upd_same (H := H3)) rfl rfl
      have T2 := T2.carry (dw_carry D3' s4 D4)
      have T3 : Tv K _ (.tuple [.str "restore", .int v3]) (.ref t3) := tv2 (upd_same (H := H4)) rfl rfl
      have T4 : Tv K _ (.tuple [.str "turn"]) (.ref t4) := tv1 (upd_same (H := upd H4 t3 (.tup [V.str "restore", V.int v3]))) rfl
      have TL : TvL K H5 [.tuple [.str "advance", .int v1], .tuple [.str "keep", .int v2], .tuple [.str "restore", .int v3], .tuple [.str "turn"]] [V.ref t1, V.ref t2, V.ref t3, V.ref t4] := by
        have C5 := dw_carry D6' s5 D5
        refine ⟨_, _, rfl, ?_, _, _, rfl, ?_, _, _, rfl, ?_, _, _, rfl, ?_, rfl⟩
        · exact (((T1.carry (carry_new n3)).carry (carry_new n4)).carry (carry_new nl)).carry C5
        · exact (((T2.carry (carry_new n3)).carry (carry_new n4)).carry (carry_new nl)).carry C5
        · exact ((T3.carry (carry_new n4)).carry (carry_new nl)).carry C5
        · exact (T4.carry (carry_new nl)).carry C5
      obtain ⟨x, hx, hx2⟩ := at_in (xs := [V.ref t1, V.ref t2, V.ref t3, V.ref t4]) i0 i1
      obtain ⟨dd, hdd⟩ : ∃ dd, ([.tuple [.str "advance", .int v1], .tuple [.str "keep", .int v2], .tuple [.str "restore", .int v3], .tuple [.str "turn"]] : List PyData)[i.toNat]? = some dd := ⟨_, List.getElem?_eq_getElem (show i.toNat < 4 by omega)⟩
      obtain ⟨y, hy, ty⟩ := tvl_get TL hdd
      rw [hx2] at hy
      cases hy
      have fl : flatHead dd = true := by
        have m := List.mem_of_getElem? hdd
        simp only [List.mem_cons, List.not_mem_nil, or_false] at m
        rcases m with rfl | rfl | rfl | rfl <;> rfl
      refine ⟨l, _, _, x, rfl, rfl, SqL.of (s5 _ _ np2 upd_same), hx, ?_⟩
      refine q x dd H5 ty fl ?_ D5
      exact ((((((((s1.trans s2).trans (stays_new n1)).trans s3).trans (stays_new n2)).trans s4).trans (stays_new n3)).trans (stays_new n4)).trans (stays_new nl)).trans s5
    refine iteF' (decide_eq_false (fun y => z (V.int.inj y))) ?_
    have turn : ∀ H2, H2 = H1 → ∀ t, H2 t = none → Q (.ref t) (upd H2 t (.tup [V.str "turn"])) := fun H2 e t n => by
      subst e
      exact q _ (.tuple [.str "turn"]) _ (tv1 upd_same rfl) rfl (s1.trans (stays_new n)) (D1.new n)
    have pair : ∀ (a : Str) (v : Int) (H2 : Hp) (t : Addr), Stays p H1 H2 → Dw K H2 p dl → H2 t = none → Q (.ref t) (upd H2 t (.tup [V.str a, V.int v])) := fun a v H2 t s2 D2 n =>
      q _ (.tuple [.str a, .int v]) _ (tv2 upd_same rfl rfl) rfl ((s1.trans s2).trans (stays_new n)) (D2.new n)
    refine ⟨_, rfl, _, _, rfl, rfl, _, rfl, ?_⟩
    by_cases pn : plV j.pos < 0
    · refine iteT' (decide_eq_true pn) ?_
      refine ⟨_, rfl, _, .inr (.inr ⟨_, hd1, rfl⟩), ?_⟩
      cases ek : j.kvs.isEmpty with
      | true =>
        refine iteT' rfl ?_
        exact ⟨one, fun t n => turn _ rfl t n⟩
      | false =>
        refine iteF' rfl ?_
        refine ⟨_, rfl, d, _, rfl, hd1, fun l nl => ?_⟩
        have Dl := D1.new (o := .lst (j.kvs.map fun kv => kV kv.1)) nl
        have hdl : (upd H1 l (.lst (j.kvs.map fun kv => kV kv.1))) d = some (.dK j.kvs) := by rw [upd_ne (ne_of_none hd1 nl)]; exact hd1
        have kpos : 0 < j.kvs.length := by
          cases hk : j.kvs with
          | nil => rw [hk] at ek; cases ek
          | cons a r => exact Nat.succ_pos _
        have np2 : l ≠ p := fun z => by
          obtain ⟨xs, e⟩ := D1.at_
          rw [z, e] at nl
          cases nl
        refine ⟨_, rfl, _, rfl, d, _, rfl, hdl, p, dl, (j.kvs.length : Int), rfl, Dl, by omega, by omega, fun i H2 i0 i1 s2 D2 => ?_⟩
        obtain ⟨x, hx, hx2⟩ := at_in (xs := j.kvs.map fun kv => kV kv.1) i0 (by rw [List.length_map]; exact i1)
        rw [List.getElem?_map] at hx2
        obtain ⟨s, rfl⟩ : ∃ s : Int, x = .int s := by
          cases e : j.kvs[i.toNat]? with
          | none => rw [e] at hx2; cases hx2
          | some kv =>
            rw [e] at hx2
            obtain ⟨s, hs⟩ := kk kv (List.mem_of_getElem? e)
            refine ⟨s, ?_⟩
            have := Option.some.inj hx2
            rw [← this]
            show kV kv.1 = _
            rw [hs]
            rfl
        refine ⟨l, _, _, _, rfl, rfl, SqL.of (s2 _ _ np2 upd_same), hx, ?_⟩
        exact ⟨two, fun t n => pair "restore" s H2 t ((stays_new nl).trans s2) D2 n⟩
    refine iteF' (decide_eq_false pn) ?_
    unfold tNext
    dsimp only
    refine if_k (fun σ' H' => H1 = H' ∧ σ' = [some (.ref p), some (.int (plV j.pos)), some (.int j.front), some (.ref d), some (.int j.slots), some (.int c)]) (fun D' hD k => ?_) ?_
    · refine ⟨_, rfl, _, rfl, _, _, rfl, rfl, rfl, _, rfl, ?_⟩
      by_cases a : plV j.pos = j.front - 1
      · refine iteT' (decide_eq_true (congrArg V.int a)) ?_
        refine ⟨_, rfl, _, _, rfl, rfl, _, rfl, ?_⟩
        by_cases b : c < 10
        · refine iteT' (decide_eq_true b) ?_
          refine ⟨one, fun t n => ?_⟩
          rw [hD]
          exact turn _ rfl t n
        · refine iteF' (decide_eq_false b) ?_
          exact k _ _ ⟨rfl, rfl⟩
      · refine iteF' (decide_eq_false (fun y => a (V.int.inj y))) ?_
        refine iteF ?_
        exact k _ _ ⟨rfl, rfl⟩
    rintro _ _ ⟨rfl, rfl⟩
    refine if_k (fun σ' H' => H1 = H' ∧ σ' = [some (.ref p), some (.int (plV j.pos)), some (.int j.front), some (.ref d), some (.int j.slots), some (.int c)]) (fun D' hD k => ?_) ?_
    · refine ⟨_, rfl, _, _, rfl, rfl, _, rfl, ?_⟩
      by_cases a : c < 4
      · refine iteT' (decide_eq_true a) ?_
        refine ⟨_, rfl, _, _, rfl, rfl, _, rfl, ?_⟩
        by_cases b : 0 < j.slots
        · refine iteT' (decide_eq_true b) ?_
          refine ⟨_, rfl, _, rfl, p, dl, j.slots, rfl, D1, b, by omega, fun v H2 _ _ s2 D2 => ⟨two, fun t n => ?_⟩⟩
          rw [hD]
          exact pair "keep" v H2 t s2 D2 n
        · refine iteF' (decide_eq_false b) ?_
          exact k _ _ ⟨rfl, rfl⟩
      · refine iteF' (decide_eq_false a) ?_
        refine iteF ?_
        exact k _ _ ⟨rfl, rfl⟩
    rintro _ _ ⟨rfl, rfl⟩
    refine ⟨_, rfl, _, rfl, _, _, rfl, rfl, _, rfl, _, _, rfl, rfl, _, _, rfl, p, dl, _, rfl, D1, ?_, ?_, fun v H2 _ _ s2 D2 => ⟨_, _, rfl, rfl, ⟨two, fun t n => pair "advance" (1 + v) H2 t s2 D2 n⟩⟩⟩
    · split <;> omega
    · split <;> omega
end
end Sd

namespace Sd
open PySem L2 Tr Pu PyProof.Rows
def spMade (K : PySem.W.Frag) : Sp := fun vs H Q _ => ∃ (p dl : Addr) (b s : Int), vs = [.ref p, .int b, .int s] ∧ Dw K H p dl ∧ 0 ≤ b ∧ b ≤ 40 ∧ s ≤ 8 ∧
  ∀ L H', H L = none → Stays p H H' → Dw K H' p dl → GL K H' L 100 → Q (.ref L) H'
abbrev sMade : Stmt := top 24
theorem kk_put {kvs : List (Key × V)} {s : Int} {v : V} (h : KK kvs) : KK (putK kvs (Sum.inl s : Key) v) := by
  intro e he
  unfold putK at he
  split at he
  · obtain ⟨a, ha, rfl⟩ := List.mem_map.mp he
    obtain ⟨t, ht⟩ := h a ha
    refine ⟨t, ?_⟩
    split <;> exact ht
  · rcases List.mem_append.mp he with he | he
    · exact h e he
    · rw [List.mem_singleton.mp he]
      exact ⟨s, rfl⟩
section
variable {K : PySem.W.Frag} {H H' : Hp}
theorem tvl_front : ∀ {ds : List PyData} {xs : List V} {d : PyData} {x : V}, TvL K H (ds ++ [d]) (xs ++ [x]) → TvL K H ds xs := by
  intro ds
  induction ds with
  | nil =>
    intro xs d x h
    have l := tvl_len h
    rw [List.length_append, List.length_append] at l
    have : xs = [] := List.length_eq_zero_iff.mp (Nat.succ.inj l)
    subst this
    rfl
  | cons e ds ih =>
    intro xs d x h
    cases xs with
    | nil =>
      have l := tvl_len h
      rw [List.length_append, List.length_append] at l
      simp at l
    | cons y xs =>
      obtain ⟨y', xs', e1, t, r⟩ := h
      cases e1
      exact ⟨_, _, rfl, t, ih r⟩
theorem carry_dk {q : Addr} {kvs kws : List (Key × V)} (h : H q = some (.dK kvs)) : Carry K H (upd H q (.dK kws)) := by
  refine ⟨fun a xs s => ?_, fun a ys e => ⟨ys, ?_⟩⟩
  · rcases s with (s | ⟨o, s⟩) | s
    · exact .inl (.inl (by rw [upd_ne (ne_of s h (by intro z; cases z))]; exact s))
    · exact .inl (.inr ⟨o, by rw [upd_ne (ne_of s h (by intro z; cases z))]; exact s⟩)
    · exact .inr s
  · rw [upd_ne (ne_of e h (by intro z; cases z))]
    exact e
/-- the rows so far, the dict of the full slots, the draws -/
structure MD (K : PySem.W.Frag) (H H' : Hp) (p dl L d : Addr) (b s : Int) (n : Nat) (j : JS) : Prop where
  st : Stays p H H'
  dw : Dw K H' p dl
  sl : j.slots = s
  nn : NN j
  fr : j.front ≤ b
  kk : KK j.kvs
  kl : j.kvs.length ≤ n
  dc : H' d = some (.dK j.kvs)
theorem md_stays {H2 : Hp} {p dl L d : Addr} {b s : Int} {n : Nat} {j : JS} (h : MD K H H' p dl L d b s n j) (nd : d ≠ p) (t : Stays p H' H2) (D : Dw K H2 p dl) : MD K H H2 p dl L d b s n j :=
  ⟨h.st.trans t, D, h.sl, h.nn, h.fr, h.kk, h.kl, t _ _ nd h.dc⟩
end
section
variable {P : Program} {w : World} {K : PySem.W.Frag} {mg : Str → Option Value} {base : Heap}
theorem scMade : FnScope ["state", "beats", "slots", "rows", "place", "front", "full", "k", "action"] ["state", "beats", "slots"] (defScope sMade) := ⟨rfl, rfl, rfl, by decide +kernel, rfl, by decide +kernel, by decide +kernel⟩
theorem ok_made {f : Addr} {fd : FuncData} (F : Fun K "_law_made" "_law_made" sMade f fd) (T : Bi mg) (c_draw : Cal P w K mg base CX0 1 "_law_draw" ["state", "many"] (spDrw K))
    (c_next : Cal P w K mg base CX0 2 "_law_next" ["state", "place", "front", "full", "slots"] (spNext K)) (c_lre : Cal P w K mg base CX0 3 "_law_reason" ["action", "place", "front", "full", "slots"] (spLre K)) :
    FnOk P w K mg base CX0 4 f fd ["state", "beats", "slots"] (spMade K) := by
  refine F.ok scMade (fun vs H Q E h => ?_) (fun cdv A outer s H vs Q E hr h => ?_)
  · obtain ⟨p, dl, b, s, rfl, _⟩ := h
    rfl
  · obtain ⟨p, dl, b, sl, rfl, D, b0, b40, s8, q⟩ := h
    have nd := scMade.nd
    refine ⟨_, pss_cons (ps_set (i := 3) nd rfl (.inl rfl) (pe_lst pa_nil))
      (pss_cons (ps_set (i := 4) nd rfl (.inl rfl) pe_int)
      (pss_cons (ps_set (i := 5) nd rfl (.inl rfl) (pv 1))
      (pss_cons (ps_set (i := 6) nd rfl (.inl rfl) pe_dnewK)
      (pss_cons (ps_for PassesOwn.never rfl (pi_range1 rfl T.range (pa_cons (pe_op op_add pe_int (pe_call c_draw.ok (hr.mono (by first | decide | omega)) rfl c_draw.m c_draw.kp c_draw.b .nil pass0 (pa_cons (pv 0) (pa_cons pe_int pa_nil)))) pa_nil)) (pg_name (i := 7) nd rfl (.inl rfl)) (pss_cons (ps_if (PW.pt (pw_and (pt_cmpR op_eq (pv 5) pe_int (nomark _)) (pw_and1 (pt_cmpR op_gt (pe_call c_draw.ok (hr.mono (by first | decide | omega)) rfl c_draw.m c_draw.kp c_draw.b .nil pass0 (pa_cons (pv 0) (pa_cons pe_int pa_nil))) pe_int (nomark _))))) (pss_one (ps_ret (pv 3))) pss_nil)
      (pss_cons (ps_set (i := 8) nd rfl (.inl rfl) (pe_call c_next.ok (hr.mono (by first | decide | omega)) rfl c_next.m c_next.kp c_next.b .nil pass0 (pa_cons (pv 0) (pa_cons (pv 4) (pa_cons (pv 5) (pa_cons (pv 6) (pa_cons (pv 2) pa_nil)))))))
      (pss_cons (ps_expr (pe_bm PySem.F.plainAttrs_list PySem.F.slot_list_append PySem.F.type_list_append mt_append (pv 3) (pa_cons (pv 8) pa_nil)))
      (pss_one (ps_if (pt_cmpR op_isN (pe_call c_lre.ok (hr.mono (by first | decide | omega)) rfl c_lre.m c_lre.kp c_lre.b .nil pass0 (pa_cons (pv 8) (pa_cons (pv 4) (pa_cons (pv 5) (pa_cons (pv 6) (pa_cons (pv 2) pa_nil)))))) pe_non (nomark _)) (pss_one (ps_if (pt_cmpR op_eq (pe_ix ix_tup (pv 8) pe_int (fun _ _ => rfl)) pe_str (nomark _)) (pss_one (ps_dput (hu_of hr) (pv 6) (pe_ix ix_tup (pv 8) pe_int (fun _ _ => rfl)) (pv 4) rfl)) (pss_one (ps_if (pt_cmpR op_eq (pe_ix ix_tup (pv 8) pe_int (fun _ _ => rfl)) pe_str (nomark _)) (pss_one (ps_set (i := 4) nd rfl (.inl rfl) (pe_dget (hu_of hr) (pv 6) (pe_ix ix_tup (pv 8) pe_int (fun _ _ => rfl)) (fun _ _ => rfl)))) (pss_one (ps_if (pt_cmpR op_eq (pe_ix ix_tup (pv 8) pe_int (fun _ _ => rfl)) pe_str (nomark _)) (pss_one (ps_set (i := 4) nd rfl (.inl rfl) (pe_op op_add (pv 4) (pe_ix ix_tup (pv 8) pe_int (fun _ _ => rfl))))) (pss_cons (ps_set (i := 5) nd rfl (.inl rfl) (pe_op op_sub (pv 5) pe_int))
      (pss_one (ps_set (i := 4) nd rfl (.inl rfl) (pe_un un_neg pe_int)))))))))) (pss_one (ps_if (pt_cmpR op_gt (pe_call c_draw.ok (hr.mono (by first | decide | omega)) rfl c_draw.m c_draw.kp c_draw.b .nil pass0 (pa_cons (pv 0) (pa_cons pe_int pa_nil))) pe_int (nomark _)) (pss_one (ps_expr (pe_bm0 PySem.F.plainAttrs_list PySem.F.slot_list_pop PySem.F.type_list_pop mt_pop (pv 3)))) pss_nil))))))))
      (pss_one (ps_ret (pv 3))))))), ?_⟩
    refine ⟨Nat.zero_le _, fun L nL => ⟨_, rfl, fun d nd0 => ?_⟩⟩
    have D0 := D.new (o := .lst []) nL
    have npL : L ≠ p := fun z => by
      obtain ⟨xs, e⟩ := D.at_
      rw [z, e] at nL
      cases nL
    have npd : d ≠ p := fun z => by
      obtain ⟨xs, e⟩ := D0.at_
      rw [z, e] at nd0
      cases nd0
    have ndL : d ≠ L := fun z => by rw [z, upd_same] at nd0; cases nd0
    have nd1 : H d = none := by rw [upd_ne ndL] at nd0; exact nd0
    have D1 := D0.new (o := .dK []) nd0
    refine ⟨_, rfl, p, dl, 90, rfl, D1, by decide, by decide, fun v H1 v0 v1 s1 D1' => ?_⟩
    have eL1 : H1 L = some (.lst []) := s1 _ _ npL (by rw [upd_ne ndL.symm]; exact upd_same)
    have ed1 : H1 d = some (.dK []) := s1 _ _ npd upd_same
    have tn : ((3 + v).toNat : Int) = 3 + v := by omega
    refine ⟨_, _, rfl, rfl, 3 + v, rfl, by omega, by omega, for_range (lo := 0) (n := (3 + v).toNat)
      (fun i σ H' => ∃ j w7 w8, MD K H H' p dl L d b sl i j ∧ GL K H' L i ∧ σ = [some (.ref p), some (.int b), some (.int sl), some (.ref L), some (.int (plV j.pos)), some (.int j.front), some (.ref d), w7, w8])
      ⟨js0 b sl, none, none, ⟨((stays_new nL).trans (stays_new nd0)).trans s1, D1', rfl, ⟨b0, (fun i h => by cases h; exact Int.le_refl _), (fun k v h => by cases h)⟩, Int.le_refl _, (fun e he => by cases he), Nat.le_refl _, ed1⟩, ⟨[], [], eL1, rfl, (fun x h => by cases h), Nat.le_refl _⟩, rfl⟩ ?_ ?_⟩
    · rintro i σ H2 hi ⟨j, w7, w8, md, gl, rfl⟩
      have hi' : i < 93 := by omega
      refine if_k (fun σ' H' => MD K H H' p dl L d b sl i j ∧ GL K H' L i ∧ σ' = [some (.ref p), some (.int b), some (.int sl), some (.ref L), some (.int (plV j.pos)), some (.int j.front), some (.ref d), some (.int (0 + (i : Int))), w8]) (fun D' hD k => ?_) ?_
      · refine ⟨_, rfl, rfl, _, rfl, ?_⟩
        by_cases c0 : j.front = 0
        · refine iteT' (decide_eq_true (congrArg V.int c0)) ?_
          refine ⟨_, rfl, p, dl, 9, rfl, md.dw, by decide, by decide, fun v2 H3 _ _ s3 D3 => ⟨_, _, rfl, rfl, _, rfl, ?_⟩⟩
          have g3 := gl.stays s3 npL md.dw D3
          by_cases c1 : 0 < v2
          · refine iteT' (decide_eq_true c1) ?_
            refine ⟨_, rfl, ?_⟩
            rw [hD]
            exact q L H3 nL (md.st.trans s3) D3 (g3.mono (by omega))
          · refine iteF' (decide_eq_false c1) ?_
            exact k _ _ ⟨md_stays md npd s3 D3, g3, rfl⟩
        · refine iteF' (decide_eq_false (fun y => c0 (V.int.inj y))) ?_
          refine iteF ?_
          exact k _ _ ⟨md, gl, rfl⟩
      clear md gl
      rintro _ H3 ⟨md, gl, rfl⟩
      refine ⟨_, rfl, _, rfl, _, rfl, _, rfl, _, rfl, p, dl, d, j, (by rw [md.sl]; rfl), md.dw, md.dc, md.kk, by have := md.kl; omega, by rw [md.sl]; exact s8, Int.le_trans md.fr b40, md.nn, fun x dx H4 tx fx s4 D4 => ?_⟩
      have md4 := md_stays md npd s4 D4
      obtain ⟨ys, ds, eL4, tl4, fl4, ll4⟩ := gl.stays s4 npL md.dw D4
      have ly : ys.length < sizeLine := by
        rw [tvl_len tl4]
        exact Nat.lt_of_le_of_lt (show ds.length ≤ 100 by omega) (by decide)
      refine ⟨_, rfl, .inl ⟨rfl, _, SqL.of eL4⟩, _, rfl, ?_⟩
      refine ⟨L, ys, x, rfl, rfl, eL4, ly, ?_⟩
      have npl : L ≠ dl := fun z => by
        obtain ⟨xs, e⟩ := D.at2
        rw [z, e] at nL
        cases nL
      have ndl : d ≠ dl := fun z => by
        obtain ⟨xs, e⟩ := D.at2
        rw [z, e] at nd1
        cases nd1
      have D5 := md4.dw.upd (q := L) (o := .lst (ys ++ [x])) npL npl
      have ed5 : (upd H4 L (.lst (ys ++ [x]))) d = some (.dK j.kvs) := by rw [upd_ne ndL]; exact md4.dc
      have st5 : Stays p H (upd H4 L (.lst (ys ++ [x]))) := stays_put md4.st nL
      have C5 : Carry K H4 (upd H4 L (.lst (ys ++ [x]))) := carry_lst eL4
      have tx5 := tx.carry C5
      have tl5 : TvL K (upd H4 L (.lst (ys ++ [x]))) (ds ++ [dx]) (ys ++ [x]) := tvl_snoc (TvL.carry C5 _ _ tl4) tx5
      have eL5 : (upd H4 L (.lst (ys ++ [x]))) L = some (.lst (ys ++ [x])) := upd_same
      have fl5 : ∀ y ∈ ds ++ [dx], flatHead y = true := fun y hy => by
        rcases List.mem_append.mp hy with hy | hy
        · exact fl4 y hy
        · rw [List.mem_singleton.mp hy]; exact fx
      have ll5 : (ds ++ [dx]).length ≤ i + 1 := by rw [List.length_append]; exact Nat.succ_le_succ ll4
      clear tx
      generalize upd H4 L (.lst (ys ++ [x])) = H5 at *
      refine ⟨_, rfl, _, rfl, _, rfl, _, rfl, _, rfl, d, j, dx, x, (by rw [md.sl]; rfl), ed5, tx5, fx, md.nn.p, fun H6 s6 => ⟨rfl, _, rfl, ?_⟩⟩
      have st6 := st5.trans (same_stays s6)
      have D6 := D5.same s6
      have ed6 := s6 _ _ ed5
      have eL6 := s6 _ _ eL5
      have tl6 := TvL.carry (same_carry s6) _ _ tl5
      have tx6 := tx5.carry (same_carry s6)
      have kl := md.kl
      cases hre : reason j dx with
      | some r =>
        refine iteF' rfl ?_
        refine ⟨_, rfl, p, dl, 4, rfl, D6, by decide, by decide, fun v2 H7 _ _ s7 D7 => ⟨_, _, rfl, rfl, _, rfl, ?_⟩⟩
        have C7 := dw_carry D6 s7 D7
        have eL7 := s7 _ _ npL eL6
        have ed7 := s7 _ _ npd ed6
        have tl7 := TvL.carry C7 _ _ tl6
        by_cases c : 0 < v2
        · refine iteT' (decide_eq_true c) ?_
          refine ⟨_, rfl, .inl ⟨rfl, _, SqL.of eL7⟩, L, ys ++ [x], x, rfl, rfl, eL7, ?_, ?_⟩
          · rw [List.length_append]
            show (ys ++ [x])[ys.length + 1 - 1]? = some x
            rw [Nat.add_sub_cancel, List.getElem?_append_right (Nat.le_refl _), Nat.sub_self]
            rfl
          · have ed : (ys ++ [x]).dropLast = ys := List.dropLast_concat
            rw [ed]
            have C8 : Carry K H7 (upd H7 L (.lst ys)) := carry_lst eL7
            refine ⟨j, _, _, ⟨stays_put (st6.trans s7) nL, D7.upd npL npl, md.sl, md.nn, md.fr, md.kk, by omega, ?_⟩, ⟨ys, ds, upd_same, TvL.carry C8 _ _ (tvl_front tl7), fl4, by omega⟩, rfl⟩
            rw [upd_ne ndL]
            exact ed7
        · refine iteF' (decide_eq_false c) ?_
          exact ⟨j, _, _, ⟨st6.trans s7, D7, md.sl, md.nn, md.fr, md.kk, by omega, ed7⟩, ⟨_, _, eL7, tl7, fl5, ll5⟩, rfl⟩
      | none =>
        refine iteT' rfl ?_
        obtain ⟨a, haa⟩ : ∃ a, act? dx = some a := by
          cases h : act? dx with
          | none => rw [rea_none h] at hre; cases hre
          | some a => exact ⟨a, rfl⟩
        have nn' := nn_step md.nn haa hre
        have sl' := (fol_slots j a).trans md.sl
        have c0 : ¬ j.front = 0 := fun z => by rw [rea_done haa z] at hre; cases hre
        rw [rea_act haa c0] at hre
        obtain ⟨rfl, hok⟩ := act_some haa
        have gl6 : GL K H6 L (i + 1) := ⟨_, _, eL6, tl6, fl5, ll5⟩
        cases a with
        | keep s =>
          obtain ⟨va, ys, rfl, sq2, u1, r1, rfl, t1, u2, r2, rfl, t2, rfl⟩ := tx6
          cases t1
          cases t2
          obtain ⟨p0, hp⟩ : ∃ i, j.pos = some i := by
            cases hp : j.pos with
            | none =>
              have er : reasonA j (Act.keep s) = if j.slots ≤ s then some ("slot" : Str) else (match j.pos with | none => some ("nowhere" : Str) | some _ => none) := rfl
              rw [er, hp] at hre
              split at hre <;> cases hre
            | some i => exact ⟨i, rfl⟩
          have ef : follow j (.keep s) = { j with kvs := putK j.kvs (Sum.inl s : Key) (posV j.pos) } := rfl
          rw [ef, hp] at nn' sl'
          rw [hp]
          refine ⟨_, rfl, va, _, 0, _, rfl, rfl, sq2, rfl, rfl, _, rfl, iteT' (by decide +kernel) ?_⟩
          refine ⟨_, rfl, _, rfl, _, rfl, va, _, 1, _, rfl, rfl, sq2, rfl, d, _, rfl, DPut.k (k := Sum.inl s) ed6 (Nat.lt_of_le_of_lt (show j.kvs.length ≤ 100 by omega) (by decide)), ?_⟩
          refine ⟨_, _, _, ⟨stays_put st6 nd1, D6.upd npd ndl, sl', nn', md.fr, kk_put md.kk, Nat.le_trans (put_len _ _ _) (Nat.succ_le_succ kl), upd_same⟩, ?_, rfl⟩
          obtain ⟨xs0, ds0, e0, t0, f0', l0⟩ := gl6
          refine ⟨xs0, ds0, by rw [upd_ne ndL.symm]; exact e0, TvL.carry (carry_dk ed6) _ _ t0, f0', l0⟩
        | restore s =>
          obtain ⟨va, ys, rfl, sq2, u1, r1, rfl, t1, u2, r2, rfl, t2, rfl⟩ := tx6
          cases t1
          cases t2
          have hv : ∃ i, valV j.kvs (Sum.inl s : Key) = some (.int i) := by
            have er : reasonA j (Act.restore s) = if j.slots ≤ s then some ("slot" : Str) else if (valV j.kvs (Sum.inl s : Key)).isSome = true then none else some ("empty" : Str) := rfl
            rw [er] at hre
            split at hre
            · cases hre
            · split at hre
              · rename_i hs
                obtain ⟨v, hv⟩ := Option.isSome_iff_exists.mp hs
                obtain ⟨i, rfl, _⟩ := md.nn.k _ _ hv
                exact ⟨i, hv⟩
              · cases hre
          obtain ⟨p0, hv⟩ := hv
          have ef : follow j (.restore s) = { j with pos := some p0 } := by
            show { j with pos := match valV j.kvs (Sum.inl s : Key) with | some (.int i) => some i | _ => none } = _
            rw [hv]
          rw [ef] at nn' sl'
          refine ⟨_, rfl, va, _, 0, _, rfl, rfl, sq2, rfl, rfl, _, rfl, iteF' (by decide +kernel) ?_⟩
          refine ⟨_, rfl, va, _, 0, _, rfl, rfl, sq2, rfl, rfl, _, rfl, iteT' (by decide +kernel) ?_⟩
          refine ⟨_, rfl, _, rfl, va, _, 1, _, rfl, rfl, sq2, rfl, d, .int p0, rfl, hv ▸ DGet.k (k := Sum.inl s) ed6, ?_⟩
          exact ⟨_, _, _, ⟨st6, D6, sl', nn', md.fr, md.kk, Nat.le_succ_of_le kl, ed6⟩, gl6, rfl⟩
        | advance n =>
          obtain ⟨va, ys, rfl, sq2, u1, r1, rfl, t1, u2, r2, rfl, t2, rfl⟩ := tx6
          cases t1
          cases t2
          obtain ⟨p0, hp⟩ : ∃ i, j.pos = some i := by
            cases hp : j.pos with
            | none =>
              have er : reasonA j (Act.advance n) = match j.pos with | none => some ("nowhere" : Str) | some p => if j.front ≤ p + n then some ("beyond" : Str) else none := rfl
              rw [er, hp] at hre
              cases hre
            | some i => exact ⟨i, rfl⟩
          have ef : follow j (.advance n) = { j with pos := some (p0 + n), cost := j.cost + n } := by
            show (match j.pos with | some p => { j with pos := some (p + n), cost := j.cost + n } | none => j) = _
            rw [hp]
          rw [ef] at nn' sl'
          rw [hp]
          refine ⟨_, rfl, va, _, 0, _, rfl, rfl, sq2, rfl, rfl, _, rfl, iteF' (by decide +kernel) ?_⟩
          refine ⟨_, rfl, va, _, 0, _, rfl, rfl, sq2, rfl, rfl, _, rfl, iteF' (by decide +kernel) ?_⟩
          refine ⟨_, rfl, va, _, 0, _, rfl, rfl, sq2, rfl, rfl, _, rfl, iteT' (by decide +kernel) ?_⟩
          refine ⟨_, rfl, _, rfl, va, _, 1, _, rfl, rfl, sq2, rfl, _, _, rfl, rfl, ?_⟩
          exact ⟨_, _, _, ⟨st6, D6, sl', nn', md.fr, md.kk, Nat.le_succ_of_le kl, ed6⟩, gl6, rfl⟩
        | turn =>
          obtain ⟨va, ys, rfl, sq2, u1, r1, rfl, t1, rfl⟩ := tx6
          cases t1
          have ef : follow j .turn = { j with pos := none, front := j.front - 1 } := rfl
          rw [ef] at nn' sl'
          refine ⟨_, rfl, va, _, 0, _, rfl, rfl, sq2, rfl, rfl, _, rfl, iteF' (by decide +kernel) ?_⟩
          refine ⟨_, rfl, va, _, 0, _, rfl, rfl, sq2, rfl, rfl, _, rfl, iteF' (by decide +kernel) ?_⟩
          refine ⟨_, rfl, va, _, 0, _, rfl, rfl, sq2, rfl, rfl, _, rfl, iteF' (by decide +kernel) ?_⟩
          refine ⟨_, rfl, _, _, rfl, rfl, _, rfl, ?_⟩
          have fr' : j.front - 1 ≤ b := by have := md.fr; omega
          exact ⟨_, _, _, ⟨st6, D6, sl', nn', fr', md.kk, Nat.le_succ_of_le kl, ed6⟩, gl6, rfl⟩
    · rintro σ H2 ⟨j, w7, w8, md, gl, rfl⟩
      exact ⟨_, rfl, q L H2 nL md.st md.dw (gl.mono (by omega))⟩
end
end Sd

namespace Sd
open PySem L2 Tr Pu PyProof.Rows
section
variable {K : PySem.W.Frag} {H H' : Hp} {σ : L2.St} {ρ : Rho}
theorem de_neg {te : TE} {i : Int} (h : DE K te ρ (.int i)) : DE K (tUn (rU fun i => .int (-i)) te) ρ (.int (-i)) := fun σ H Q en q =>
  h σ H _ en fun v H1 s1 tv => ⟨i, tv, q _ H1 s1 rfl⟩
theorem de_lst {ta : TA} {ds : List PyData} (h : DA K ta ρ ds) (hl : ds.length ≤ 1000 := by decide) : DE K (tLst ta) ρ (.dict []) := fun σ H Q en q =>
  h σ H _ en fun vs H1 s1 tv => ⟨by rw [tvl_len tv]; exact Nat.le_of_lt (small1000 hl), fun p hp => q _ _ (s1.trans (same_put hp)) ⟨p, vs, rfl, upd_same⟩⟩
theorem lst_da {ta : TA} {ds : List PyData} {Q : VK} (da : DA K ta ρ ds) (en : En K H σ ρ) (hl : ds.length ≤ 1000) (k : ∀ xs H1 S, Same H H1 → TvL K H1 ds xs → H1 S = none → Q (.ref S) (upd H1 S (.lst xs))) : tLst ta σ H Q :=
  da σ H _ en fun xs H1 s1 tl => ⟨by rw [tvl_len tl]; exact Nat.le_of_lt (small1000 hl), fun S nS => k xs H1 S s1 tl nS⟩
/-- one of a list of data, drawn -/
theorem pick {ta : TA} {ds : List PyData} {i n : Nat} {p dl : Addr} {Q : VK} (da : DA K ta ρ ds) (en : En K H σ ρ) (D : Dw K H p dl) (hi : σ[i]? = some (some (.ref p))) (hn : n = ds.length) (pos : 0 < n) (hl : n ≤ 1000)
    (k : ∀ x d H', d ∈ ds → Tv K H' d x → Stays p H H' → Dw K H' p dl → Q x H') : tOp (rIxL K) (tLst ta) (tCall (spDrw K) [] E0 (tCons (tVar i) (tCons (tC (.int (n : Int))) tNil))) σ H Q := by
  refine da σ H _ en fun xs H1 s1 tl => ⟨by rw [tvl_len tl]; exact Nat.le_of_lt (small1000 (hn ▸ hl)), fun S nS => ?_⟩
  have D1 := (D.same s1).new (o := .lst xs) nS
  have np : S ≠ p := fun z => by
    obtain ⟨ys, e⟩ := (D.same s1).at_
    rw [z, e] at nS
    cases nS
  refine ⟨_, hi, p, dl, (n : Int), rfl, D1, by omega, by omega, fun v H2 v0 v1 s2 D2 => ?_⟩
  have lx := tvl_len tl
  obtain ⟨x, hx, hx2⟩ := at_in (xs := xs) v0 (by rw [lx]; omega)
  obtain ⟨d, hd⟩ : ∃ d, ds[v.toNat]? = some d := ⟨_, List.getElem?_eq_getElem (by omega)⟩
  have C2 := dw_carry D1 s2 D2
  obtain ⟨y, hy, ty⟩ := tvl_get (TvL.carry C2 _ _ (TvL.carry (carry_new nS) _ _ tl)) hd
  rw [hx2] at hy
  cases hy
  exact ⟨S, xs, v, x, rfl, rfl, SqL.of (s2 _ _ np upd_same), hx, k x d H2 (List.mem_of_getElem? hd) ty ((same_stays (s1.trans (same_alloc nS))).trans s2) D2⟩
end
def spSpoilt (K : PySem.W.Frag) : Sp := fun vs H Q _ => ∃ (p dl L : Addr), vs = [.ref p, .ref L] ∧ Dw K H p dl ∧ GL K H L 100 ∧ L ≠ p ∧
  ∀ v sd H', Tv K H' sd v → (∀ ds, sd = .tuple ds → (∀ x ∈ ds, flatHead x = true) ∧ ds.length ≤ 2000) → Stays p H H' → Dw K H' p dl → Q v H'
abbrev sSpoilt : Stmt := top 25
def strangeD : List PyData := [.int 0, .int (-1), .none, .bool true, .str "turn", .tuple [], .tuple [.str "turn", .int 0], .tuple [.str "advance", .bool true], .tuple [.str "keep"], .dict [], .tuple [.str "restore", .str "0"], .tuple [.int 1, .int 2]]
theorem strange_flat : ∀ d ∈ strangeD, flatHead d = true := by
  intro d h
  simp only [strangeD, List.mem_cons, List.not_mem_nil, or_false] at h
  rcases h with rfl | rfl | rfl | rfl | rfl | rfl | rfl | rfl | rfl | rfl | rfl | rfl <;> rfl
section
variable {P : Program} {w : World} {K : PySem.W.Frag} {mg : Str → Option Value} {base : Heap}
theorem scSpoilt : FnScope ["state", "rows", "strange", "what", "place"] ["state", "rows"] (defScope sSpoilt) := ⟨rfl, rfl, rfl, by decide +kernel, rfl, by decide +kernel, by decide +kernel⟩
theorem ok_spoilt {f : Addr} {fd : FuncData} (F : Fun K "_law_spoilt" "_law_spoilt" sSpoilt f fd) (T : Bi mg) (c_draw : Cal P w K mg base CX0 1 "_law_draw" ["state", "many"] (spDrw K)) : FnOk P w K mg base CX0 2 f fd ["state", "rows"] (spSpoilt K) := by
  refine F.ok scSpoilt (fun vs H Q E h => ?_) (fun cdv A outer s H vs Q E hr h => ?_)
  · obtain ⟨p, dl, L, rfl, _⟩ := h
    rfl
  · obtain ⟨p, dl, L, rfl, D, gl, np, q⟩ := h
    have nd := scSpoilt.nd
    have one : 1 ≤ sizeLine := by decide
    have en : En K H [some (V.ref p), some (V.ref L), none, none, none] [none, none, none, none, none] := en_n (en_n (en_n (en_n (en_n en_0))))
    have DAL : ∀ {ρ : Rho}, DA K (tCons (tC (.int 0)) (tCons (tUn (rU fun i => .int (-i)) (tC (.int 1))) (tCons (tC .non) (tCons (tC (.bl true)) (tCons (tC (.str "turn")) (tCons (tTup tNil) (tCons (tTup (tCons (tC (.str "turn")) (tCons (tC (.int 0)) tNil)))
        (tCons (tTup (tCons (tC (.str "advance")) (tCons (tC (.bl true)) tNil))) (tCons (tTup (tCons (tC (.str "keep")) tNil)) (tCons (tLst (tCons (tC (.str "turn")) tNil)) (tCons (tTup (tCons (tC (.str "restore")) (tCons (tC (.str "0")) tNil))) (tCons (tTup (tCons (tC (.int 1)) (tCons (tC (.int 2)) tNil))) tNil)))))))))))) ρ strangeD :=
      da_cons de_int (da_cons (de_neg de_int) (da_cons de_non (da_cons de_bl (da_cons de_str (da_cons (de_tup da_nil) (da_cons (de_tup (da_cons de_str (da_one de_int))) (da_cons (de_tup (da_cons de_str (da_one de_bl))) (da_cons (de_tup (da_one de_str)) (da_cons (de_lst (da_one de_str)) (da_cons (de_tup (da_cons de_str (da_one de_str))) (da_one (de_tup (da_cons de_int (da_one de_int))))))))))))))
    refine ⟨_, pss_cons (ps_set (i := 2) nd rfl (.inl rfl) (pe_lst (pa_cons pe_int (pa_cons (pe_un un_neg pe_int) (pa_cons pe_non (pa_cons pe_bl (pa_cons pe_str (pa_cons (pe_tup pa_nil) (pa_cons (pe_tup (pa_cons pe_str (pa_cons pe_int pa_nil))) (pa_cons (pe_tup (pa_cons pe_str (pa_cons pe_bl pa_nil))) (pa_cons (pe_tup (pa_cons pe_str pa_nil)) (pa_cons (pe_lst (pa_cons pe_str pa_nil)) (pa_cons (pe_tup (pa_cons pe_str (pa_cons pe_str pa_nil))) (pa_cons (pe_tup (pa_cons pe_int (pa_cons pe_int pa_nil))) pa_nil))))))))))))))
      (pss_cons (ps_set (i := 3) nd rfl (.inl rfl) (pe_ix ix_list (pv 2) (pe_call c_draw.ok (hr.mono (by first | decide | omega)) rfl c_draw.m c_draw.kp c_draw.b .nil pass0 (pa_cons (pv 0) (pa_cons pe_int pa_nil))) (fun _ _ => rfl)))
      (pss_cons (ps_set (i := 4) nd rfl (.inl rfl) (pe_call c_draw.ok (hr.mono (by first | decide | omega)) rfl c_draw.m c_draw.kp c_draw.b .nil pass0 (pa_cons (pv 0) (pa_cons (pe_op op_add (pe_callB call_len_seq rfl T.len PySem.boot_len (pa_cons (pv 1) pa_nil)) pe_int) pa_nil))))
      (pss_cons (ps_if (pt_cmpR op_eq (pe_call c_draw.ok (hr.mono (by first | decide | omega)) rfl c_draw.m c_draw.kp c_draw.b .nil pass0 (pa_cons (pv 0) (pa_cons pe_int pa_nil))) pe_int (nomark _)) (pss_one (ps_ret (pv 1))) pss_nil)
      (pss_one (ps_ret (pe_callTy call_tuple_of rfl T.tuple PyProof.Rows.boot_tuple (pa_cons (pe_op op_cat (pe_op op_cat (pe_slice sl_list (pv 1) po_none (po_some (pv 4))) (pe_lst (pa_cons (pv 3) pa_nil))) (pe_slice sl_list (pv 1) (po_some (pe_op op_add (pv 4) (pe_call c_draw.ok (hr.mono (by first | decide | omega)) rfl c_draw.m c_draw.kp c_draw.b .nil pass0 (pa_cons (pv 0) (pa_cons pe_int pa_nil))))) po_none)) pa_nil))))))), ?_⟩
    refine set_k (fun v H2 => ∃ xs H1 S, v = .ref S ∧ H2 = upd H1 S (.lst xs) ∧ Same H H1 ∧ TvL K H1 strangeD xs ∧ H1 S = none) (fun Q' k => lst_da DAL en (show 12 ≤ 1000 by decide) fun xs H1 S s1 tl nS => k _ _ ⟨xs, H1, S, rfl, rfl, s1, tl, nS⟩) ?_
    rintro _ _ ⟨xs, H1, S, rfl, rfl, s1, tl, nS⟩
    have D1 := (D.same s1).new (o := .lst xs) nS
    have npS : S ≠ p := fun z => by
      obtain ⟨ys, e⟩ := (D.same s1).at_
      rw [z, e] at nS
      cases nS
    have g1 := (gl.next s1).next (same_alloc (o := .lst xs) nS)
    have lx : xs.length = 12 := tvl_len tl
    refine ⟨_, rfl, _, rfl, p, dl, 12, rfl, D1, by decide, by decide, fun v H2 v0 v1 s2 D2 => ?_⟩
    obtain ⟨x, hx, hx2⟩ := at_in (xs := xs) v0 (by rw [lx]; exact v1)
    obtain ⟨dd, hdd⟩ : ∃ dd, strangeD[v.toNat]? = some dd := ⟨_, List.getElem?_eq_getElem (show v.toNat < 12 by omega)⟩
    obtain ⟨y, hy, ty⟩ := tvl_get (TvL.carry (dw_carry D1 s2 D2) _ _ (TvL.carry (carry_new nS) _ _ tl)) hdd
    rw [hx2] at hy
    cases hy
    refine ⟨S, xs, v, x, rfl, rfl, SqL.of (s2 _ _ npS upd_same), hx, ?_⟩
    have g2 := g1.stays s2 np D1 D2
    have st2 : Stays p H H2 := (same_stays (s1.trans (same_alloc nS))).trans s2
    obtain ⟨ys, ds, eL, tL, fL, lL⟩ := g2
    have ly : ys.length ≤ 100 := by rw [tvl_len tL]; exact lL
    have fl := strange_flat _ (List.mem_of_getElem? hdd)
    clear tl hx hx2
    refine ⟨_, rfl, _, rfl, L, ys, rfl, .inl (SqL.of eL), _, _, rfl, rfl, p, dl, (ys.length : Int) + 1, rfl, D2, by omega, by omega, fun pl H3 p0 p1 s3 D3 => ?_⟩
    have g3 : GL K H3 L 100 := GL.stays ⟨ys, ds, eL, tL, fL, lL⟩ s3 np D2 D3
    have ty3 := ty.carry (dw_carry D2 s3 D3)
    refine ⟨_, rfl, p, dl, 6, rfl, D3, by decide, by decide, fun c H4 c0 c1 s4 D4 => ⟨rfl, _, rfl, ?_⟩⟩
    have g4 := g3.stays s4 np D3 D4
    have ty4 := ty3.carry (dw_carry D3 s4 D4)
    have st4 := (st2.trans s3).trans s4
    by_cases c5 : c = 5
    · refine iteT' (decide_eq_true (congrArg V.int c5)) ?_
      obtain ⟨zs, es, eL4, _⟩ := g4
      exact ⟨_, rfl, q _ (.dict []) _ ⟨L, zs, rfl, eL4⟩ (fun ds e => by cases e) st4 D4⟩
    refine iteF' (decide_eq_false (fun y => c5 (V.int.inj y))) ?_
    unfold tNext
    dsimp only
    refine ⟨_, rfl, _, rfl, _, rfl, gl_sl g4 fun q1 H5 n1 s5 l1 => ?_⟩
    refine ⟨_, rfl, one, fun q2 n2 => ?_⟩
    have D5 := D4.same s5
    have l2 := gl_one n2 (ty4.carry (same_carry s5)) fl
    have s6 := same_alloc (o := .lst [x]) n2
    refine gl_cat (l1.next s6) l2 (by decide) fun q3 H7 n3 s7 l3 => ?_
    have D7 := (D5.same s6).same s7
    have g7 := ((g4.next s5).next s6).next s7
    have np3 : q3 ≠ p := fun z => by
      obtain ⟨ws, e⟩ := (D5.same s6).at_
      rw [z, e] at n3
      cases n3
    refine ⟨_, rfl, _, rfl, _, rfl, p, dl, 2, rfl, D7, by decide, by decide, fun v2 H8 _ _ s8 D8 => ?_⟩
    have l8 := l3.stays s8 np3 D7 D8
    have g8 := g7.stays s8 np D7 D8
    refine ⟨_, _, rfl, rfl, _, rfl, noP (gl_sl g8 fun q4 H9 n4 s9 l9 => ?_)⟩
    refine gl_cat (l8.next s9) l9 (by decide) fun q5 H10 n5 s10 l10 => ?_
    obtain ⟨zs, es, e10, t10, f10, len10⟩ := l10
    refine ⟨q5, zs, rfl, .inl ⟨SqL.of e10, fun t nt => ?_⟩⟩
    refine q _ (.tuple es) _ ⟨t, zs, rfl, SqT.of upd_same, TvL.carry (carry_new nt) _ _ t10⟩ (fun ds e => by cases e; exact ⟨f10, by omega⟩) ?_ ?_
    · exact ((st4.trans (same_stays ((s5.trans s6).trans s7))).trans s8).trans (same_stays ((s9.trans s10).trans (same_alloc nt)))
    · exact ((D8.same s9).same s10).new nt
end
end Sd

namespace Rp
open PySem PySem.Spec PyProof.Rows L2
section
variable {X : Cx}
/-- repr(x), x a whole number, or a tuple or a list of data, where no repr is under way -/
def spReprD (K : PySem.W.Frag) : List V → Hp → VK → Prop := fun xs H Q => spRepr K xs H Q ∨ ∃ i : Int, xs = [.int i] ∧ i.natAbs.log2 < 1920 ∧ Q (.str (toString i)) H
theorem cr_reprD (gd : X.A.guards = some []) (hu : X.A.units + 200 < cLine) : CallR X (.builtin "repr") (spReprD X.K) := by
  intro pins s σ H xs us Q I r h
  rcases h with h | ⟨i, rfl, hz, q⟩
  · exact cr_repr gd hu pins s σ H xs us Q I r h
  · obtain ⟨u, rfl, t, rfl⟩ := vals1 r
    exact PySem.P.repr_of_int hz ⟨.str _, H, I.tok _, ⟨_, rfl⟩, q⟩
theorem cr_reprK {K' : PySem.W.Frag} (h : X.K = K') (gd : X.A.guards = some []) (hu : X.A.units + 200 < cLine) : CallR X (.builtin "repr") (spReprD K') := by
  subst h
  exact cr_reprD gd hu
end
end Rp

namespace Tr
open PySem L2
mutual
theorem Tv.dv {K : PySem.W.Frag} {H : Hp} : ∀ (d : PyData) (v : V), PyData.canLay0 d = true → Tv K H d v → Rp.Dv K H d v
  | .none, _, _, h => h
  | .bool _, _, _, h => h
  | .int _, _, _, h => h
  | .str _, _, _, h => h
  | .tuple ds, _, c, h => by
    obtain ⟨a, xs, e, s, l⟩ := h
    exact ⟨a, xs, e, s, TvL.dv ds xs c l⟩
  | .list _, _, _, h => False.elim h
  | .dict _, _, c, h => by cases c
theorem TvL.dv {K : PySem.W.Frag} {H : Hp} : ∀ (ds : List PyData) (vs : List V), PyData.canLayAll0 ds = true → TvL K H ds vs → Rp.DvL K H ds vs
  | [], _, _, h => h
  | d :: ds, _, c, h => by
    obtain ⟨x, xs, e, t, l⟩ := h
    have c' : (PyData.canLay0 d && PyData.canLayAll0 ds) = true := c
    rw [Bool.and_eq_true] at c'
    exact ⟨x, xs, e, Tv.dv d x c'.1 t, TvL.dv ds xs c'.2 l⟩
end
end Tr

namespace Sd
open PySem L2 Tr Pu PyProof.Rows
/-- what a run of the judge comes to -/
def Out (b s : Nat) (ds : List PyData) (d : PyData) : Prop :=
  (∃ j, runJ (js0 b s) ds = some j ∧ j.front = 0 ∧ d = .int j.cost) ∨
  (∃ (i : Nat) (x : PyData) (j : JS) (r : Str), ds[i]? = some x ∧ runJ (js0 b s) (ds.take i) = some j ∧ reason j x = some r ∧ d = .tuple [.int (i : Int), .str r]) ∨
  (∃ j, runJ (js0 b s) ds = some j ∧ ¬ j.front = 0 ∧ d = .tuple [.int (ds.length : Int), .str "unfinished"])
theorem out_lt {b s : Nat} {ds : List PyData} {i i' : Nat} {x : PyData} {j j' : JS} {r : Str} (hx : ds[i]? = some x) (hj : runJ (js0 b s) (ds.take i) = some j) (hr : reason j x = some r) (hj' : runJ (js0 b s) (ds.take i') = some j') (h : i < i') : False := by
  refine run_fine (ds := ds.take i') (i := i) hj' (by rw [List.getElem?_take_of_lt h]; exact hx) ?_ hr
  rw [List.take_take, Nat.min_eq_left (Nat.le_of_lt h)]
  exact hj
theorem out_one {b s : Nat} {ds : List PyData} {d d' : PyData} (h : Out b s ds d) (h' : Out b s ds d') : d = d' := by
  rcases h with ⟨j, a1, a2, rfl⟩ | ⟨i, x, j, r, a1, a2, a3, rfl⟩ | ⟨j, a1, a2, rfl⟩
  · rcases h' with ⟨j', b1, b2, rfl⟩ | ⟨i', x', j', r', b1, b2, b3, rfl⟩ | ⟨j', b1, b2, rfl⟩
    · rw [a1] at b1; cases b1; rfl
    · exact (run_fine a1 b1 b2 b3).elim
    · rw [a1] at b1; cases b1; exact absurd a2 b2
  · rcases h' with ⟨j', b1, b2, rfl⟩ | ⟨i', x', j', r', b1, b2, b3, rfl⟩ | ⟨j', b1, b2, rfl⟩
    · exact (run_fine b1 a1 a2 a3).elim
    · rcases Nat.lt_trichotomy i i' with h | h | h
      · exact (out_lt a1 a2 a3 b2 h).elim
      · subst h
        rw [a1] at b1
        cases b1
        rw [a2] at b2
        cases b2
        rw [a3] at b3
        cases b3
        rfl
      · exact (out_lt b1 b2 b3 a2 h).elim
    · exact (run_fine b1 a1 a2 a3).elim
  · rcases h' with ⟨j', b1, b2, rfl⟩ | ⟨i', x', j', r', b1, b2, b3, rfl⟩ | ⟨j', b1, b2, rfl⟩
    · rw [a1] at b1; cases b1; exact absurd b2 a2
    · exact (run_fine a1 b1 b2 b3).elim
    · rfl
/-- the same of any schedule -/
def OutX (b s : Nat) (sd d : PyData) : Prop := ((∀ ds, sd ≠ .tuple ds) ∧ d = .tuple [.int (-1), .str "form"]) ∨ ∃ ds, sd = .tuple ds ∧ Out b s ds d
theorem outx_one {b s : Nat} {sd d d' : PyData} (h : OutX b s sd d) (h' : OutX b s sd d') : d = d' := by
  rcases h with ⟨n, rfl⟩ | ⟨ds, rfl, o⟩
  · rcases h' with ⟨_, rfl⟩ | ⟨ds, rfl, _⟩
    · rfl
    · exact absurd rfl (n ds)
  · rcases h' with ⟨n, _⟩ | ⟨ds', e, o'⟩
    · exact absurd rfl (n ds)
    · cases e
      exact out_one o o'
theorem pair_show {i : Int} {r : Str} (hi : i.natAbs ≤ 5000) (hs : r ∈ (["form", "done", "slot", "nowhere", "empty", "beyond", "turn", "unfinished"] : List Str)) :
    (PyData.tuple [.int i, .str r]).showable = true ∧ (PyData.tuple [.int i, .str r]).shown.length ≤ sizeLine ∧ (PyData.tuple [.int i, .str r]).depth ≤ 90 := by
  have hb : i.natAbs.log2 < 1920 := by
    by_cases z : i.natAbs = 0
    · rw [z]; decide
    · exact Nat.lt_trans ((Nat.log2_lt z).mpr (Nat.lt_trans (show i.natAbs < 1000000 by omega) (show 1000000 < 2 ^ 20 by decide))) (by decide)
  refine ⟨by simp only [PyData.showable, PyData.showableAll, hb, decide_true, Bool.and_self], ?_, by simp [PyData.depth, PyData.depthAll]⟩
  have e : PyData.shown (.tuple [.int i, .str r]) = tupleText (PyData.shownAll [.int i, .str r]) := by simp only [PyData.shown]
  rw [e]
  have h1 := tupleText_len_le (PyData.shownAll [.int i, .str r])
  have h3 : (PyData.shown (.int i)).length ≤ 13 := PyData.shown_int_le (Nat.lt_of_le_of_lt hi (by decide))
  have all : ∀ z ∈ (["form", "done", "slot", "nowhere", "empty", "beyond", "turn", "unfinished"] : List Str), (reprText z).length ≤ 100 := by decide +kernel
  have h2 := all r hs
  have e2 : PyData.shownAll [.int i, .str r] = [PyData.shown (.int i), reprText r] := by simp only [PyData.shownAll, PyData.shown]
  rw [e2] at h1 ⊢
  simp only [List.map_cons, List.map_nil, List.sum_cons, List.sum_nil, List.length_cons, List.length_nil] at h1
  exact Nat.le_trans (show _ ≤ 1000 by omega) (by decide)
theorem rea_in {j : JS} {x : PyData} {r : Str} (h : reason j x = some r) : r ∈ (["form", "done", "slot", "nowhere", "empty", "beyond", "turn", "unfinished"] : List Str) := by
  unfold reason at h
  split at h
  · cases h; simp
  · rename_i a _
    split at h
    · cases h; simp
    · cases a with
      | keep s =>
        have h' : (if j.slots ≤ s then some ("slot" : Str) else (match j.pos with | none => some ("nowhere" : Str) | some _ => none)) = some r := h
        split at h'
        · cases h'; simp
        · split at h' <;> cases h'
          simp
      | restore s =>
        have h' : (if j.slots ≤ s then some ("slot" : Str) else if (valV j.kvs (Sum.inl s : Key)).isSome = true then none else some ("empty" : Str)) = some r := h
        split at h'
        · cases h'; simp
        · split at h' <;> cases h'
          simp
      | advance n =>
        have h' : (match j.pos with | none => some ("nowhere" : Str) | some p => if j.front ≤ p + n then some ("beyond" : Str) else none) = some r := h
        split at h'
        · cases h'; simp
        · split at h' <;> cases h'
          simp
      | turn =>
        have h' : (match j.pos with | none => some ("nowhere" : Str) | some p => if p = j.front - 1 then none else some ("turn" : Str)) = some r := h
        split at h'
        · cases h'; simp
        · split at h' <;> cases h'
          simp
structure TxtB (K : PySem.W.Frag) (mg : Str → Option Value) (CS CA CB : Addr) : Prop where
  gS : mg "ScheduleError" = some (.ref CS)
  gA : mg "ArgumentError" = some (.ref CA)
  gB : mg "CountermarchError" = some (.ref CB)
  xf : XfC K CS
  nN : PySem.W.findIn K (.ref CS) "number" = some none
  nR : PySem.W.findIn K (.ref CS) "reason" = some none
  xfA : XfC K CA
  nRA : PySem.W.findIn K (.ref CA) "reason" = some none
  ec : ExcC K CS
  exA : PySem.W.exmOne K (.ref CA) (.ref CA) = some true
  exB : PySem.W.exmOne K (.ref CS) (.ref CB) = some true
  k1 : PySem.W.kitOne K (.ref CS) (.ref CS) = some true
  k2 : PySem.W.kitOne K (.ref CS) (.type "ValueError") = some true
  k3 : PySem.W.kitOne K (.ref CS) (.ref CA) = some false
def hdsOk (sd : PyData) : Prop := ∀ ds, sd = .tuple ds → (∀ x ∈ ds, flatHead x = true) ∧ ds.length ≤ 2000
def spArg (K : PySem.W.Frag) : Sp := fun vs H Q _ => ∃ (v u1 u2 : V) (sd bd nd : PyData) (r : Str), vs = [v, u1, u2, .str r] ∧ Tv K H sd v ∧ Tv K H bd u1 ∧ Tv K H nd u2 ∧ hdsOk sd ∧
  ((btw bd 0 40 = false ∧ r = "beats") ∨ (btw bd 0 40 = true ∧ btw nd 0 8 = false ∧ r = "slots")) ∧ ∀ H', Same H H' → Q (.bl true) H'
abbrev sArg : Stmt := top 26
section
variable {P : Program} {w : World} {K : PySem.W.Frag} {mg : Str → Option Value} {base : Heap} {CS CA CB : Addr}
theorem scArg : FnScope ["schedule", "beats", "slots", "reason", "e"] ["schedule", "beats", "slots", "reason"] (defScope sArg) := ⟨rfl, rfl, rfl, by decide +kernel, rfl, by decide +kernel, by decide +kernel⟩
theorem ok_arg {f : Addr} {fd : FuncData} (F : Fun K "_law_argument" "_law_argument" sArg f fd) (E' : TxtB K mg CS CA CB) (c_judge : Cal P w K mg base (L2.CX P w) 5 "judge" ["schedule", "beats", "slots"] (spJudge K CS CA)) : FnOk P w K mg base CX0 6 f fd ["schedule", "beats", "slots", "reason"] (spArg K) := by
  refine F.ok scArg (fun vs H Q E h => ?_) (fun cdv A outer s H vs Q E hr h => ?_)
  · obtain ⟨v, u1, u2, sd, bd, nd, r, rfl, _⟩ := h
    rfl
  · obtain ⟨v, u1, u2, sd, bd, sld, r, rfl, ts, tb, tn, hds, hc, q⟩ := h
    have nd := scArg.nd
    have hand : ∀ (a0 d : Addr) (H' : Hp) (σ : L2.St) (D : Ends), σ[4]? = some (some (.ref a0)) → σ[3]? = some (some (.str r)) → H' d = some (.xd [("reason", .str r)]) → D.rt (.bl true) H' →
        (tRet (tOp rEq (tXf a0 (.ref CA) (some d) CA "reason" (tVar 4)) (tVar 3)) : TS) D σ H' := by
      intro a0 d H' σ D h4 h3 hd k
      refine ⟨_, h4, rfl, rfl, d, _, .str r, rfl, hd, rfl, _, h3, rfl, ?_⟩
      rw [decide_eq_true rfl]
      exact k
    refine ⟨_, pss_cons (ps_try_as (i := 4) rfl rfl nd rfl rfl ⟨rfl, by decide, Or.inl E'.gA⟩ takes0
        (fun W pn xe tk _ => pss_one (ps_expr (by exact (pe_callS c_judge.ok (hr.mono (by first | decide | omega)) rfl c_judge.m c_judge.kp c_judge.b (fun σ => passAt tk σ) (by exact (pa_cons (pv 0) (pa_cons (pv 1) (pa_cons (pv 2) pa_nil))))))))
        (fun a oe cls d pn hz hf => pss_one (ps_ret (by exact (pe_cmpR op_eq (pe_xf E'.xfA E'.nRA hz hf (pv 4)) (pv 3) (nomark _))))))
      (pss_one (ps_ret pe_bl)), ?_⟩
    refine ⟨_, rfl, _, rfl, _, rfl, v, sd, bd, sld, _, _, rfl, ts, tb, tn, hds, fun z d H' sm ed => ?_, fun z1 z2 d H' sm ed => ?_, fun b' s' h1 h2 z1 z2 => ?_⟩
    · refine ⟨true, E'.exA, fun _ a0 _ => ?_, fun z => nomatch z⟩
      rcases hc with ⟨_, rfl⟩ | ⟨c, _⟩
      · exact hand a0 d H' _ _ rfl rfl ed (q _ sm)
      · rw [c] at z; cases z
    · refine ⟨true, E'.exA, fun _ a0 _ => ?_, fun z => nomatch z⟩
      rcases hc with ⟨c, _⟩ | ⟨_, _, rfl⟩
      · rw [c] at z1; cases z1
      · exact hand a0 d H' _ _ rfl rfl ed (q _ sm)
    · rcases hc with ⟨c, _⟩ | ⟨_, c, _⟩
      · rw [c] at z1; cases z1
      · rw [c] at z2; cases z2
end
end Sd

namespace Sd
open PySem L2 Tr Pu PyProof.Rows
def spLaw (K : PySem.W.Frag) : Sp := fun vs H Q _ => ∃ (a : Addr) (ns : List Int), vs = [.ref a] ∧ SqL K H a (ns.map V.int) ∧ ns.length ≤ 63 ∧ ∀ H', Q (.bl true) H'
abbrev sLaw : Stmt := top 27
abbrev nLaw : List Str := ["script", "state", "beats", "slots", "rows", "schedule", "wrong", "due", "actual", "e"]
def wrongD : List PyData := [.int (-1), .int 41, .none, .bool true, .str "3", .tuple [.int 2]]
theorem wrong_bad : ∀ d ∈ wrongD, btw d 0 40 = false ∧ btw d 0 8 = false := by
  intro d h
  simp only [wrongD, List.mem_cons, List.not_mem_nil, or_false] at h
  rcases h with rfl | rfl | rfl | rfl | rfl | rfl <;> exact ⟨by decide +kernel, by decide +kernel⟩
theorem nilP {σ : L2.St} {H : Hp} {Q : List V → Hp → Prop} (h : Q [] H) : tNil σ H Q := h
section
variable {P : Program} {w : World} {K : PySem.W.Frag} {mg : Str → Option Value} {base : Heap} {CS CA CB : Addr}
theorem scLaw : FnScope nLaw ["script"] (defScope sLaw) := ⟨rfl, rfl, rfl, by decide +kernel, rfl, by decide +kernel, by decide +kernel⟩
theorem ok_law {f : Addr} {fd : FuncData} (F : Fun K "law" "law" sLaw f fd) (T : Bi mg) (zr : mg "repr" = none) (zVE : mg "ValueError" = none) (E' : TxtB K mg CS CA CB)
    (c_start : Cal P w K mg base CX0 1 "_law_start" ["script"] (spStart K)) (c_draw : Cal P w K mg base CX0 1 "_law_draw" ["state", "many"] (spDrw K))
    (c_made : Cal P w K mg base CX0 4 "_law_made" ["state", "beats", "slots"] (spMade K)) (c_spoilt : Cal P w K mg base CX0 2 "_law_spoilt" ["state", "rows"] (spSpoilt K))
    (c_arg : Cal P w K mg base CX0 6 "_law_argument" ["schedule", "beats", "slots", "reason"] (spArg K)) (c_lju : Cal P w K mg base CX0 4 "_law_judge" ["schedule", "beats", "slots"] (spLju K))
    (c_judge : Cal P w K mg base (L2.CX P w) 5 "judge" ["schedule", "beats", "slots"] (spJudge K CS CA)) : Gd.GFn P w K mg base CX0 8 f fd ["script"] (spLaw K) := by
  refine Gd.gfn0 F scLaw (fun vs H Q E h => ?_) (fun cdv A outer s H vs Q E gd hr h => ?_)
  · obtain ⟨a, ns, rfl, _⟩ := h
    rfl
  · obtain ⟨a, ns, rfl, hS, hl, q⟩ := h
    have nd := scLaw.nd
    have hu : (A.deeper (PyProof.Rows.envOfC "law" (defScope sLaw) s.heap.objs.size f cdv)).units + 200 < cLine := by have := hr.un; omega
    have one : 1 ≤ sizeLine := by decide
    have two : 2 ≤ sizeLine := by decide
    refine ⟨_, pss_cons (ps_set (i := 1) nd rfl (.inl rfl) (pe_call c_start.ok (hr.mono (by first | decide | omega)) rfl c_start.m c_start.kp c_start.b .nil pass0 (pa_cons (pv 0) pa_nil)))
      (pss_cons (ps_set (i := 2) nd rfl (.inl rfl) (pe_ifExp (pt_cmpR op_eq (pe_call c_draw.ok (hr.mono (by first | decide | omega)) rfl c_draw.m c_draw.kp c_draw.b .nil pass0 (pa_cons (pv 1) (pa_cons pe_int pa_nil))) pe_int (nomark _)) (pe_call c_draw.ok (hr.mono (by first | decide | omega)) rfl c_draw.m c_draw.kp c_draw.b .nil pass0 (pa_cons (pv 1) (pa_cons pe_int pa_nil))) (pe_call c_draw.ok (hr.mono (by first | decide | omega)) rfl c_draw.m c_draw.kp c_draw.b .nil pass0 (pa_cons (pv 1) (pa_cons pe_int pa_nil)))))
      (pss_cons (ps_set (i := 3) nd rfl (.inl rfl) (pe_call c_draw.ok (hr.mono (by first | decide | omega)) rfl c_draw.m c_draw.kp c_draw.b .nil pass0 (pa_cons (pv 1) (pa_cons pe_int pa_nil))))
      (pss_cons (ps_set (i := 4) nd rfl (.inl rfl) (pe_call c_made.ok (hr.mono (by first | decide | omega)) rfl c_made.m c_made.kp c_made.b .nil pass0 (pa_cons (pv 1) (pa_cons (pv 2) (pa_cons (pv 3) pa_nil)))))
      (pss_cons (ps_set (i := 5) nd rfl (.inl rfl) (pe_callTy call_tuple_of rfl T.tuple PyProof.Rows.boot_tuple (pa_cons (pv 4) pa_nil)))
      (pss_cons (ps_if (pt_cmpR op_eq (pe_call c_draw.ok (hr.mono (by first | decide | omega)) rfl c_draw.m c_draw.kp c_draw.b .nil pass0 (pa_cons (pv 1) (pa_cons pe_int pa_nil))) pe_int (nomark _)) (pss_one (ps_set (i := 5) nd rfl (.inl rfl) (pe_call c_spoilt.ok (hr.mono (by first | decide | omega)) rfl c_spoilt.m c_spoilt.kp c_spoilt.b .nil pass0 (pa_cons (pv 1) (pa_cons (pv 4) pa_nil))))) pss_nil)
      (pss_cons (ps_set (i := 6) nd rfl (.inl rfl) (pe_ix ix_list (pe_lst (pa_cons (pe_un un_neg pe_int) (pa_cons pe_int (pa_cons pe_non (pa_cons pe_bl (pa_cons pe_str (pa_cons (pe_tup (pa_cons pe_int pa_nil)) pa_nil))))))) (pe_call c_draw.ok (hr.mono (by first | decide | omega)) rfl c_draw.m c_draw.kp c_draw.b .nil pass0 (pa_cons (pv 1) (pa_cons pe_int pa_nil))) (fun _ _ => rfl)))
      (pss_cons (ps_if (PW.pt (pw_or (pt_not (pt_val (pe_call c_arg.ok (hr.mono (by first | decide | omega)) rfl c_arg.m c_arg.kp c_arg.b .nil pass0 (pa_cons (pv 5) (pa_cons (pv 6) (pa_cons (pv 6) (pa_cons pe_str pa_nil))))))) (pw_or1 (pt_not (pt_val (pe_call c_arg.ok (hr.mono (by first | decide | omega)) rfl c_arg.m c_arg.kp c_arg.b .nil pass0 (pa_cons (pv 5) (pa_cons (pv 2) (pa_cons (pe_ix ix_list (pe_lst (pa_cons (pv 6) (pa_cons pe_int (pa_cons (pe_un un_neg pe_int) pa_nil)))) (pe_call c_draw.ok (hr.mono (by first | decide | omega)) rfl c_draw.m c_draw.kp c_draw.b .nil pass0 (pa_cons (pv 1) (pa_cons pe_int pa_nil))) (fun _ _ => rfl)) (pa_cons pe_str pa_nil)))))))))) (pss_one (ps_ret pe_bl)) pss_nil)
      (pss_cons (ps_set (i := 7) nd rfl (.inl rfl) (pe_call c_lju.ok (hr.mono (by first | decide | omega)) rfl c_lju.m c_lju.kp c_lju.b .nil pass0 (pa_cons (pv 5) (pa_cons (pv 2) (pa_cons (pv 3) pa_nil)))))
      (pss_cons (ps_try_as (i := 9) rfl rfl nd rfl rfl ⟨rfl, by decide, Or.inl E'.gB⟩ takes0
        (fun W pn xe tk _ => pss_one (ps_set (i := 8) nd rfl (.inl rfl) (by exact (pe_callS c_judge.ok (hr.mono (by first | decide | omega)) rfl c_judge.m c_judge.kp c_judge.b (fun σ => passAt tk σ) (by exact (pa_cons (pv 5) (pa_cons (pv 2) (pa_cons (pv 3) pa_nil))))))))
        (fun a oe cls d pn hz hf => pss_cons (ps_if (PW.pt (pw_or (pt_not (pt_val (pe_callB (Ca.call_isEr E'.ec hz hf) rfl T.isinstance PyProof.Rows.boot_isinstance (pa_cons (pv 9) (pa_cons (pe_glob (v := .ref CS) rfl E'.gS rfl) pa_nil))))) (pw_or (pt_not (pt_val (pe_callB (Ca.call_isEr E'.ec hz hf) rfl T.isinstance PyProof.Rows.boot_isinstance (pa_cons (pv 9) (pa_cons (pe_bltn (v := .ty "ValueError") rfl zVE (by decide +kernel) rfl) pa_nil))))) (pw_or1 (pt_val (pe_callB (Ca.call_isEr E'.ec hz hf) rfl T.isinstance PyProof.Rows.boot_isinstance (pa_cons (pv 9) (pa_cons (pe_glob (v := .ref CA) rfl E'.gA rfl) pa_nil)))))))) (pss_one (ps_ret pe_bl)) pss_nil)
      (pss_one (ps_ret (pe_cmpR op_eq (pe_callB (Rp.cr_reprK (K' := K) rfl gd hu) rfl zr PyProof.Rows.boot_repr (pa_cons (pe_tup (pa_cons (pe_xf E'.xf E'.nN hz hf (pv 9)) (pa_cons (pe_xf E'.xf E'.nR hz hf (pv 9)) pa_nil))) pa_nil)) (pe_callB (Rp.cr_reprK (K' := K) rfl gd hu) rfl zr PyProof.Rows.boot_repr (pa_cons (pv 7) pa_nil)) (nomark _))))))
      (pss_one (ps_ret (pe_and (pe_callB call_isi rfl T.isinstance PyProof.Rows.boot_isinstance (pa_cons (pv 8) (pa_cons (pe_bltn (v := .ty "int") rfl T.int PyProof.Rows.boot_int rfl) pa_nil))) (pe_and (pe_not (pe_callB call_isi rfl T.isinstance PyProof.Rows.boot_isinstance (pa_cons (pv 8) (pa_cons (pe_bltn (v := .ty "bool") rfl T.bool PyProof.Rows.boot_bool rfl) pa_nil)))) (pe_one (pe_cmpR op_eq (pv 8) (pv 7) (nomark _)))))))))))))))), ?_⟩
    refine set_k (fun v H' => ∃ p dl, v = .ref p ∧ Dw K H' p dl) (fun Q' k => ⟨_, rfl, a, ns, rfl, hS, Nat.le_trans hl (by decide), fun p dl H1 _ _ D1 => k _ _ ⟨p, dl, rfl, D1⟩⟩) ?_
    rintro _ H1 ⟨p, dl, rfl, D1⟩
    refine set_k (fun v H' => ∃ b : Nat, v = .int (b : Int) ∧ b ≤ 40 ∧ Dw K H' p dl) (fun Q' k => ?_) ?_
    · refine ⟨_, rfl, p, dl, 3, rfl, D1, by decide, by decide, fun v H2 v0 v1 s2 D2 => ⟨rfl, _, rfl, ?_⟩⟩
      by_cases c : v = 2
      · refine iteT' (decide_eq_true (by rw [c])) ?_
        exact ⟨_, rfl, p, dl, 41, rfl, D2, by decide, by decide, fun v2 H3 w0 w1 s3 D3 => k _ _ ⟨v2.toNat, by rw [show ((v2.toNat : Nat) : Int) = v2 by omega], by omega, D3⟩⟩
      · refine iteF' (decide_eq_false (fun z => c (V.int.inj z))) ?_
        exact ⟨_, rfl, p, dl, 9, rfl, D2, by decide, by decide, fun v2 H3 w0 w1 s3 D3 => k _ _ ⟨v2.toNat, by rw [show ((v2.toNat : Nat) : Int) = v2 by omega], by omega, D3⟩⟩
    rintro _ H2 ⟨b, rfl, hb, D2⟩
    refine set_k (fun v H' => ∃ n : Nat, v = .int (n : Int) ∧ n ≤ 8 ∧ Dw K H' p dl) (fun Q' k => ⟨_, rfl, p, dl, 9, rfl, D2, by decide, by decide, fun v2 H3 w0 w1 s3 D3 => k _ _ ⟨v2.toNat, by rw [show ((v2.toNat : Nat) : Int) = v2 by omega], by omega, D3⟩⟩) ?_
    rintro _ H3 ⟨n, rfl, hn, D3⟩
    -- rows
    refine set_k (fun v H' => ∃ L, v = .ref L ∧ L ≠ p ∧ Dw K H' p dl ∧ GL K H' L 100) (fun Q' k => ⟨_, rfl, _, rfl, _, rfl, p, dl, (b : Int), (n : Int), rfl, D3, by omega, by omega, by omega, fun L H4 nL s4 D4 g4 => k _ _ ⟨L, rfl, ?_, D4, g4⟩⟩) ?_
    · intro z
      obtain ⟨xs, e⟩ := D3.at_
      rw [z, e] at nL
      cases nL
    rintro _ H4 ⟨L, rfl, npL, D4, g4⟩
    refine set_k (fun v H' => ∃ ds, Tv K H' (.tuple ds) v ∧ hdsOk (.tuple ds) ∧ Dw K H' p dl ∧ GL K H' L 100) (fun Q' k => ?_) ?_
    · obtain ⟨ys, ds, e, t, fl, len⟩ := g4
      refine ⟨_, rfl, L, ys, rfl, .inl ⟨SqL.of e, fun l hl => k _ _ ⟨ds, ⟨l, ys, rfl, SqT.of upd_same, TvL.carry (carry_new hl) _ _ t⟩, (fun ds' e => by cases e; exact ⟨fl, by omega⟩), D4.new hl, GL.next ⟨ys, ds, e, t, fl, len⟩ (same_alloc hl)⟩⟩⟩
    rintro v5 H5 ⟨ds, tv5, hd5, D5, g5⟩
    refine if_k (fun σ' H' => ∃ v sd, Tv K H' sd v ∧ hdsOk sd ∧ Dw K H' p dl ∧ σ' = [some (.ref a), some (.ref p), some (.int (b : Int)), some (.int (n : Int)), some (.ref L), some v, none, none, none, none]) (fun D' hD k => ?_) ?_
    · refine ⟨_, rfl, p, dl, 3, rfl, D5, by decide, by decide, fun v H6 v0 v1 s6 D6 => ⟨rfl, _, rfl, ?_⟩⟩
      by_cases c : v = 2
      · refine iteT' (decide_eq_true (by rw [c])) ?_
        refine ⟨_, rfl, _, rfl, p, dl, L, rfl, D6, g5.stays s6 npL D5 D6, npL, fun v sd H7 t7 h7 s7 D7 => k _ _ ⟨v, sd, t7, h7, D7, rfl⟩⟩
      · refine iteF' (decide_eq_false (fun z => c (V.int.inj z))) ?_
        exact k _ _ ⟨v5, .tuple ds, tv5.carry (dw_carry D5 s6 D6), hd5, D6, rfl⟩
    clear tv5 hd5 D5 g5 g4
    rintro _ H6 ⟨v, sd, tv, hds, D6, rfl⟩
    -- wrong
    have en6 : En K H6 [some (.ref a), some (.ref p), some (.int (b : Int)), some (.int (n : Int)), some (.ref L), some v, none, none, none, none] [none, none, none, none, none, none, none, none, none, none] := en_n (en_n (en_n (en_n (en_n (en_n (en_n (en_n (en_n (en_n en_0)))))))))
    refine set_k (fun x H' => ∃ wd, wd ∈ wrongD ∧ Tv K H' wd x ∧ Stays p H6 H' ∧ Dw K H' p dl) (fun Q' k => ?_) ?_
    · exact pick (n := 6) (ds := wrongD) (da_cons (de_neg de_int) (da_cons de_int (da_cons de_non (da_cons de_bl (da_cons de_str (da_one (de_tup (da_one de_int)))))))) en6 D6 rfl rfl (by decide) (by decide) fun x d H' hd t s' D' => k _ _ ⟨d, hd, t, s', D'⟩
    rintro x H7 ⟨wd, hwd, tw, s7, D7⟩
    obtain ⟨bad1, bad2⟩ := wrong_bad wd hwd
    have tv7 := tv.carry (dw_carry D6 s7 D7)
    have b40 : btw (.int (b : Int)) 0 40 = true := btw_nat (m := 40) hb
    have n8 : btw (.int (n : Int)) 0 8 = true := btw_nat (m := 8) hn
    refine if_k (fun σ' H' => Tv K H' sd v ∧ σ' = [some (.ref a), some (.ref p), some (.int (b : Int)), some (.int (n : Int)), some (.ref L), some v, some x, none, none, none]) (fun D' hD k => ?_) ?_
    · refine ⟨_, rfl, _, rfl, _, rfl, v, x, x, sd, wd, wd, "beats", rfl, tv7, tw, tw, hds, .inl ⟨bad1, rfl⟩, fun H8 s8 => ⟨true, rfl, ?_⟩⟩
      have tw8 := tw.carry (same_carry s8)
      have tv8 := tv7.carry (same_carry s8)
      have D8 := D7.same s8
      have en8 : En K H8 [some (.ref a), some (.ref p), some (.int (b : Int)), some (.int (n : Int)), some (.ref L), some v, some x, none, none, none] [none, none, none, none, none, none, some wd, none, none, none] := en_n (en_n (en_n (en_n (en_n (en_n (en_s tw8 (en_n (en_n (en_n en_0)))))))))
      refine iteF' rfl ?_
      refine ⟨_, rfl, _, rfl, pick (n := 3) (ds := [wd, .int 9, .int (-1)]) (da_cons (de_var rfl) (da_cons de_int (da_one (de_neg de_int)))) en8 D8 rfl rfl (by decide) (by decide) fun y d H9 hd t9 s9 D9 => ?_⟩
      have tv9 := tv8.carry (dw_carry D8 s9 D9)
      have bad : btw d 0 8 = false := by
        simp only [List.mem_cons, List.not_mem_nil, or_false] at hd
        rcases hd with rfl | rfl | rfl
        · exact bad2
        · decide +kernel
        · decide +kernel
      refine ⟨v, .int (b : Int), y, sd, .int (b : Int), d, "slots", rfl, tv9, rfl, t9, hds, .inr ⟨b40, bad, rfl⟩, fun H10 s10 => ⟨true, rfl, ?_⟩⟩
      refine iteF' rfl ?_
      exact k _ _ ⟨tv9.carry (same_carry s10), rfl⟩
    clear tv tv7
    rintro _ H8 ⟨tv, rfl⟩
    -- what the law's own judge says
    refine set_k (fun z H' => Same H8 H' ∧ ∃ d, Tv K H' d z ∧ OutX b n sd d) (fun Q' k => ⟨_, rfl, _, rfl, _, rfl, nilP ⟨v, sd, (b : Int), (n : Int), rfl, tv, Int.natCast_nonneg b, hds, fun z u H' sm tu => k _ _ ⟨sm, _, tu, .inl ⟨z, rfl⟩⟩, fun ds e => ?_⟩⟩) ?_
    · exact ⟨fun j H' h1 h2 sm => k _ _ ⟨sm, .int j.cost, rfl, .inr ⟨ds, e, .inl ⟨j, h1, h2, rfl⟩⟩⟩, fun i x j r u H' h1 h2 h3 sm t => k _ _ ⟨sm, _, t, .inr ⟨ds, e, .inr (.inl ⟨i, x, j, r, h1, h2, h3, rfl⟩)⟩⟩,
        fun j u H' h1 h2 sm t => k _ _ ⟨sm, _, t, .inr ⟨ds, e, .inr (.inr ⟨j, h1, h2, rfl⟩)⟩⟩⟩
    rintro z H9 ⟨s9, dd, tz, od⟩
    have tv9 := tv.carry (same_carry s9)
    -- the handler
    have hand : ∀ (i : Int) (r : Str) (a0 d : Addr) (H' : Hp) (D : Ends) (σ : L2.St), D.rt = Q → σ[9]? = some (some (.ref a0)) → σ[7]? = some (some z) → H' d = some (.xd [("reason", .str r), ("number", .int i)]) → Same H9 H' → OutX b n sd (.tuple [.int i, .str r]) →
        i.natAbs ≤ 5000 → r ∈ (["form", "done", "slot", "nowhere", "empty", "beyond", "turn", "unfinished"] : List Str) →
        (tSeq (tIfS (tOr (tNot (tB (tCB (fun xs H Q => Value.ref CS = .ref CS ∧ (∃ dd fs, some d = some dd ∧ H dd = some (HO.xd fs)) ∧ rIsE K CS a0 xs H Q) (tCons (tVar 9) (tCons (tC (.ref CS)) tNil)))))
          (tOr (tNot (tB (tCB (fun xs H Q => Value.ref CS = .ref CS ∧ (∃ dd fs, some d = some dd ∧ H dd = some (HO.xd fs)) ∧ rIsE K CS a0 xs H Q) (tCons (tVar 9) (tCons (tC (.ty "ValueError")) tNil)))))
            (tB (tCB (fun xs H Q => Value.ref CS = .ref CS ∧ (∃ dd fs, some d = some dd ∧ H dd = some (HO.xd fs)) ∧ rIsE K CS a0 xs H Q) (tCons (tVar 9) (tCons (tC (.ref CA)) tNil)))))) (tRet (tC (.bl false))) tNext)
          (tRet (tOp rEq (tCB (Rp.spReprD K) (tCons (tTup (tCons (tXf a0 (.ref CS) (some d) CS "number" (tVar 9)) (tCons (tXf a0 (.ref CS) (some d) CS "reason" (tVar 9)) tNil))) tNil)) (tCB (Rp.spReprD K) (tCons (tVar 7) tNil)))) : TS) D σ H' := by
      intro i r a0 d H' D σ hD h9 h7 hd sm ox hi hr'
      have ed := outx_one od ox
      subst ed
      refine ⟨_, h9, rfl, ⟨d, _, rfl, hd⟩, .ref CS, .ref CS, true, rfl, fun _ z => z, E'.k1, true, rfl, iteF' rfl ?_⟩
      refine ⟨_, h9, rfl, ⟨d, _, rfl, hd⟩, .ty "ValueError", .type "ValueError", true, rfl, fun _ z => z, E'.k2, true, rfl, iteF' rfl ?_⟩
      refine ⟨_, h9, rfl, ⟨d, _, rfl, hd⟩, .ref CA, .ref CA, false, rfl, fun _ z => z, E'.k3, false, rfl, iteF' rfl ?_⟩
      obtain ⟨w1, w2, w3⟩ := pair_show hi hr'
      have lay : (PyData.tuple [.int i, .str r]).canLay0 = true := by
        have all : ∀ z ∈ (["form", "done", "slot", "nowhere", "empty", "beyond", "turn", "unfinished"] : List Str), PyData.strOk z = true := by decide +kernel
        show (true && (PyData.strOk r && true)) = true
        rw [all r hr']
        rfl
      refine ⟨_, h9, rfl, rfl, d, _, .int i, rfl, hd, rfl, _, h9, rfl, rfl, d, _, .str r, rfl, hd, rfl, two, fun t ht => ?_⟩
      have tz' : Tv K (upd H' t (.tup [V.int i, V.str r])) (.tuple [.int i, .str r]) z := tz.carry (same_carry (sm.trans (same_alloc ht)))
      have tt : Tv K (upd H' t (.tup [V.int i, V.str r])) (.tuple [.int i, .str r]) (.ref t) := tv2 upd_same rfl rfl
      obtain ⟨az, xz, ez, _⟩ := id tz'
      refine .inl ⟨t, .tuple [.int i, .str r], rfl, Tv.dv (.tuple [.int i, .str r]) _ lay tt, w1, w2, w3, ?_⟩
      refine ⟨_, h7, .inl ⟨az, .tuple [.int i, .str r], by rw [ez], by rw [← ez]; exact Tv.dv (.tuple [.int i, .str r]) _ lay tz', w1, w2, w3, rfl, ?_⟩⟩
      rw [hD, decide_eq_true rfl]
      exact q _
    refine ⟨_, rfl, _, rfl, _, rfl, v, sd, .int (b : Int), .int (n : Int), _, _, rfl, tv9, rfl, rfl, hds, fun z => ?_, fun _ z => ?_, fun b' s' h1 h2 _ _ => ?_⟩
    · rw [b40] at z; cases z
    · rw [n8] at z; cases z
    · cases h1
      cases h2
      refine ⟨fun z d H' sm ed => ⟨true, E'.exB, fun _ a0 _ => ?_, fun z => nomatch z⟩, fun ds e => ?_⟩
      · exact hand (-1) "form" a0 d H' _ _ rfl rfl rfl ed sm (.inl ⟨z, rfl⟩) (by decide) (by simp)
      · have ln := (hds ds e).2
        refine ⟨fun j H' h1 h2 sm => ?_, fun i x j r d H' hi h1 h2 sm ed => ⟨true, E'.exB, fun _ a0 _ => ?_, fun z => nomatch z⟩, fun j d H' h1 h2 sm ed => ⟨true, E'.exB, fun _ a0 _ => ?_, fun z => nomatch z⟩⟩
        · have ed := outx_one od (.inr ⟨ds, e, .inl ⟨j, h1, h2, rfl⟩⟩)
          subst ed
          cases tz
          refine ⟨_, rfl, .int j.cost, .ty "int", .type "int", .type "int", true, rfl, .ty _, .base (.int _), kit_ty (show kitB "int" "int" = some true by decide +kernel), true, rfl, iteT ?_⟩
          refine ⟨_, rfl, .int j.cost, .ty "bool", .type "int", .type "bool", false, rfl, .ty _, .base (.int _), kit_ty (show kitB "int" "bool" = some false by decide +kernel), false, rfl, true, rfl, iteT ?_⟩
          refine ⟨_, rfl, _, rfl, rfl, ?_⟩
          rw [decide_eq_true rfl]
          exact q _
        · have il := (List.getElem?_eq_some_iff.mp hi).1
          exact hand i r a0 d H' _ _ rfl rfl rfl ed sm (.inr ⟨ds, e, .inr (.inl ⟨i, x, j, r, hi, h1, h2, rfl⟩)⟩) (by omega) (rea_in h2)
        · exact hand ds.length "unfinished" a0 d H' _ _ rfl rfl rfl ed sm (.inr ⟨ds, e, .inr (.inr ⟨j, h1, h2, rfl⟩)⟩) (by omega) (by simp)
end
end Sd

namespace Sd
open PySem L2 Tr Pu PyProof.Rows
section
theorem all_mk {l : PySem.W.OpenLaw} {w : World} {K : PySem.W.Frag} {h : Heap} {mg : Str → Option Value} {fa f1 f2 f3 f4 f5 f6 f7 f8 f9 f10 f11 f12 f13 f14 f15 f16 f17 : Addr} (X : K.In h) (G : h.Ns mainGlobals mg) (hfa : mg "law" = some (.ref fa))
    {od1 an1 od2 an2 od3 an3 od4 an4 od5 an5 od6 an6 od7 an7 od8 an8 od9 an9 od10 an10 od11 an11 od12 an12 od13 an13 od14 an14 od15 an15 od16 an16 od17 an17 : Option Addr} {sl1 sl2 sl3 sl4 sl5 sl6 sl7 sl8 sl9 sl10 sl11 sl12 sl13 sl14 sl15 sl16 sl17 : Array (Option Value)} {oc1 kV1 dc1 pm1 cd1 ct1 oc2 kV2 dc2 pm2 cd2 ct2 oc3 kV3 dc3 pm3 cd3 ct3 oc4 kV4 dc4 pm4 cd4 ct4 oc5 kV5 dc5 pm5 cd5 ct5 oc6 kV6 dc6 pm6 cd6 ct6 oc7 kV7 dc7 pm7 cd7 ct7 oc8 kV8 dc8 pm8 cd8 ct8 oc9 kV9 dc9 pm9 cd9 ct9 oc10 kV10 dc10 pm10 cd10 ct10 oc11 kV11 dc11 pm11 cd11 ct11 oc12 kV12 dc12 pm12 cd12 ct12 oc13 kV13 dc13 pm13 cd13 ct13 oc14 kV14 dc14 pm14 cd14 ct14 oc15 kV15 dc15 pm15 cd15 ct15 oc16 kV16 dc16 pm16 cd16 ct16 oc17 kV17 dc17 pm17 cd17 ct17 : Value}
    (a1 : PySem.W.nsIn K mainGlobals "is_integer" = some (some (.ref f1))) (l1 : K.lookup f1 = some ⟨oc1, od1, .func (PySem.W.fnOf "is_integer" "is_integer" (defArgs sIsi) (defBody sIsi) (defScope sIsi) .none kV1 dc1 pm1 an1 cd1 ct1), sl1⟩) (c1 : PySem.W.codeIn K cd1 "is_integer" = true) (k1 : PySem.W.keepIn K (.ref f1) = true)
    (a2 : PySem.W.nsIn K mainGlobals "is_between" = some (some (.ref f2))) (l2 : K.lookup f2 = some ⟨oc2, od2, .func (PySem.W.fnOf "is_between" "is_between" (defArgs sBtw) (defBody sBtw) (defScope sBtw) .none kV2 dc2 pm2 an2 cd2 ct2), sl2⟩) (c2 : PySem.W.codeIn K cd2 "is_between" = true) (k2 : PySem.W.keepIn K (.ref f2) = true)
    (a3 : PySem.W.nsIn K mainGlobals "check_beats" = some (some (.ref f3))) (l3 : K.lookup f3 = some ⟨oc3, od3, .func (PySem.W.fnOf "check_beats" "check_beats" (defArgs sCkb) (defBody sCkb) (defScope sCkb) .none kV3 dc3 pm3 an3 cd3 ct3), sl3⟩) (c3 : PySem.W.codeIn K cd3 "check_beats" = true) (k3 : PySem.W.keepIn K (.ref f3) = true)
    (a4 : PySem.W.nsIn K mainGlobals "judge" = some (some (.ref f4))) (l4 : K.lookup f4 = some ⟨oc4, od4, .func (PySem.W.fnOf "judge" "judge" (defArgs sJudge) (defBody sJudge) (defScope sJudge) .none kV4 dc4 pm4 an4 cd4 ct4), sl4⟩) (c4 : PySem.W.codeIn K cd4 "judge" = true) (k4 : PySem.W.keepIn K (.ref f4) = true)
    (a5 : PySem.W.nsIn K mainGlobals "check_numbers" = some (some (.ref f5))) (l5 : K.lookup f5 = some ⟨oc5, od5, .func (PySem.W.fnOf "check_numbers" "check_numbers" (defArgs sCkn) (defBody sCkn) (defScope sCkn) .none kV5 dc5 pm5 an5 cd5 ct5), sl5⟩) (c5 : PySem.W.codeIn K cd5 "check_numbers" = true) (k5 : PySem.W.keepIn K (.ref f5) = true)
    (a6 : PySem.W.nsIn K mainGlobals "is_action" = some (some (.ref f6))) (l6 : K.lookup f6 = some ⟨oc6, od6, .func (PySem.W.fnOf "is_action" "is_action" (defArgs sAct) (defBody sAct) (defScope sAct) .none kV6 dc6 pm6 an6 cd6 ct6), sl6⟩) (c6 : PySem.W.codeIn K cd6 "is_action" = true) (k6 : PySem.W.keepIn K (.ref f6) = true)
    (a7 : PySem.W.nsIn K mainGlobals "_law_start" = some (some (.ref f7))) (l7 : K.lookup f7 = some ⟨oc7, od7, .func (PySem.W.fnOf "_law_start" "_law_start" (defArgs sStart) (defBody sStart) (defScope sStart) .none kV7 dc7 pm7 an7 cd7 ct7), sl7⟩) (c7 : PySem.W.codeIn K cd7 "_law_start" = true) (k7 : PySem.W.keepIn K (.ref f7) = true)
    (a8 : PySem.W.nsIn K mainGlobals "_law_draw" = some (some (.ref f8))) (l8 : K.lookup f8 = some ⟨oc8, od8, .func (PySem.W.fnOf "_law_draw" "_law_draw" (defArgs sDrw) (defBody sDrw) (defScope sDrw) .none kV8 dc8 pm8 an8 cd8 ct8), sl8⟩) (c8 : PySem.W.codeIn K cd8 "_law_draw" = true) (k8 : PySem.W.keepIn K (.ref f8) = true)
    (a9 : PySem.W.nsIn K mainGlobals "_law_integer" = some (some (.ref f9))) (l9 : K.lookup f9 = some ⟨oc9, od9, .func (PySem.W.fnOf "_law_integer" "_law_integer" (defArgs sLin) (defBody sLin) (defScope sLin) .none kV9 dc9 pm9 an9 cd9 ct9), sl9⟩) (c9 : PySem.W.codeIn K cd9 "_law_integer" = true) (k9 : PySem.W.keepIn K (.ref f9) = true)
    (a10 : PySem.W.nsIn K mainGlobals "_law_action" = some (some (.ref f10))) (l10 : K.lookup f10 = some ⟨oc10, od10, .func (PySem.W.fnOf "_law_action" "_law_action" (defArgs sLac) (defBody sLac) (defScope sLac) .none kV10 dc10 pm10 an10 cd10 ct10), sl10⟩) (c10 : PySem.W.codeIn K cd10 "_law_action" = true) (k10 : PySem.W.keepIn K (.ref f10) = true)
    (a11 : PySem.W.nsIn K mainGlobals "_law_reason" = some (some (.ref f11))) (l11 : K.lookup f11 = some ⟨oc11, od11, .func (PySem.W.fnOf "_law_reason" "_law_reason" (defArgs sLre) (defBody sLre) (defScope sLre) .none kV11 dc11 pm11 an11 cd11 ct11), sl11⟩) (c11 : PySem.W.codeIn K cd11 "_law_reason" = true) (k11 : PySem.W.keepIn K (.ref f11) = true)
    (a12 : PySem.W.nsIn K mainGlobals "_law_judge" = some (some (.ref f12))) (l12 : K.lookup f12 = some ⟨oc12, od12, .func (PySem.W.fnOf "_law_judge" "_law_judge" (defArgs sLju) (defBody sLju) (defScope sLju) .none kV12 dc12 pm12 an12 cd12 ct12), sl12⟩) (c12 : PySem.W.codeIn K cd12 "_law_judge" = true) (k12 : PySem.W.keepIn K (.ref f12) = true)
    (a13 : PySem.W.nsIn K mainGlobals "_law_next" = some (some (.ref f13))) (l13 : K.lookup f13 = some ⟨oc13, od13, .func (PySem.W.fnOf "_law_next" "_law_next" (defArgs sNext) (defBody sNext) (defScope sNext) .none kV13 dc13 pm13 an13 cd13 ct13), sl13⟩) (c13 : PySem.W.codeIn K cd13 "_law_next" = true) (k13 : PySem.W.keepIn K (.ref f13) = true)
    (a14 : PySem.W.nsIn K mainGlobals "_law_made" = some (some (.ref f14))) (l14 : K.lookup f14 = some ⟨oc14, od14, .func (PySem.W.fnOf "_law_made" "_law_made" (defArgs sMade) (defBody sMade) (defScope sMade) .none kV14 dc14 pm14 an14 cd14 ct14), sl14⟩) (c14 : PySem.W.codeIn K cd14 "_law_made" = true) (k14 : PySem.W.keepIn K (.ref f14) = true)
    (a15 : PySem.W.nsIn K mainGlobals "_law_spoilt" = some (some (.ref f15))) (l15 : K.lookup f15 = some ⟨oc15, od15, .func (PySem.W.fnOf "_law_spoilt" "_law_spoilt" (defArgs sSpoilt) (defBody sSpoilt) (defScope sSpoilt) .none kV15 dc15 pm15 an15 cd15 ct15), sl15⟩) (c15 : PySem.W.codeIn K cd15 "_law_spoilt" = true) (k15 : PySem.W.keepIn K (.ref f15) = true)
    (a16 : PySem.W.nsIn K mainGlobals "_law_argument" = some (some (.ref f16))) (l16 : K.lookup f16 = some ⟨oc16, od16, .func (PySem.W.fnOf "_law_argument" "_law_argument" (defArgs sArg) (defBody sArg) (defScope sArg) .none kV16 dc16 pm16 an16 cd16 ct16), sl16⟩) (c16 : PySem.W.codeIn K cd16 "_law_argument" = true) (k16 : PySem.W.keepIn K (.ref f16) = true)
    (a17 : PySem.W.nsIn K mainGlobals "law" = some (some (.ref f17))) (l17 : K.lookup f17 = some ⟨oc17, od17, .func (PySem.W.fnOf "law" "law" (defArgs sLaw) (defBody sLaw) (defScope sLaw) .none kV17 dc17 pm17 an17 cd17 ct17), sl17⟩) (c17 : PySem.W.codeIn K cd17 "law" = true) (k17 : PySem.W.keepIn K (.ref f17) = true)
    {B : Addr} (aB0 : PySem.W.nsIn K mainGlobals "CountermarchError" = some (some (.ref B)))
    {A : Addr} (aA : PySem.W.nsIn K mainGlobals "ArgumentError" = some (some (.ref A)))
    {nmA qA : Str} {NA : Addr} {bsA sbA : List Value} {snA : List Str} {abA : Bool} {clA : Option Bool} {ddA : Option Addr} {k0A k1A k2A k3A k5A : Option Value} (xA : K.lookup A = some (excClassObj nmA qA A NA bsA [.ref B, .type "ValueError", .type "Exception", .type "BaseException", .type "object"] true snA sbA abA clA ddA k0A k1A k2A k3A k5A "ValueError.__new__"))
    (saA : PySem.W.findIn K (.ref A) "__setattr__" = some (some (.builtin "object.__setattr__")))
    (bA : PySem.W.subIn K (.ref A) (.type "BaseException") = some true)
    (tA : PySem.W.typeIn K (.ref A) = some (.type "type"))
    (kA : PySem.W.keepIn K (.ref A) = true)
    {fA : Addr} (iA : PySem.W.findIn K (.ref A) "__init__" = some (some (.ref fA)))
    (jA : PySem.W.typeIn K (.ref fA) = some (.type "function"))
    {ocA kVA dcA pmA ctA : Value} {odA anA : Option Addr} {cdA ccA : Addr} {slA : Array (Option Value)} (lA : K.lookup fA = some ⟨ocA, odA, .func (PySem.W.ksFn "__init__" "ArgumentError.__init__" (defArgs Er.sAE) (defBody Er.sAE) (defScope Er.sAE) .none kVA dcA pmA anA (.ref cdA) ctA ccA), slA⟩)
    (cA : PySem.W.codeIn K (.ref cdA) "ArgumentError.__init__" = true)
    (uA : PySem.W.ks_superIn K A A "__init__" = some (some (.builtin "ValueError.__init__")))
    (yA : PySem.W.nsIn K cStatics "thirdparty.any" = some none)
    (vA : PySem.W.subIn K (.ref A) (.type "ValueError") = some true)
    {ceA : Value} {cgA : Option Addr} {chA : Array (Option Value)} (oA : K.lookup ccA = some ⟨ceA, cgA, .cell (some (.ref A)), chA⟩)
    (mA : PySem.W.mroIn K A (.ref A) = some true)
    (pA : PySem.W.nsIn K mainGlobals "super" = some none)
    {daA : Value} {dbA : Option Addr} {dvA : Array Value} {dwA : Array (Option Value)} (dA : K.lookup cdA = some ⟨daA, dbA, .fields dvA, dwA⟩)
    {flA : Str} {tfA : Tok} (eA : dvA[2]? = some (.str flA tfA))
    (wA : ((l.prog.main.file : Str) == flA) = true)
    (gA : (l.prog.main.scope.names.lookup ("super" : Str)).isSome = false)
    (nA_reason : PySem.W.findIn K (.ref A) "reason" = some none)
    {S : Addr} (aS : PySem.W.nsIn K mainGlobals "ScheduleError" = some (some (.ref S)))
    {nmS qS : Str} {NS : Addr} {bsS sbS : List Value} {snS : List Str} {abS : Bool} {clS : Option Bool} {ddS : Option Addr} {k0S k1S k2S k3S k5S : Option Value} (xS : K.lookup S = some (excClassObj nmS qS S NS bsS [.ref B, .type "ValueError", .type "Exception", .type "BaseException", .type "object"] true snS sbS abS clS ddS k0S k1S k2S k3S k5S "ValueError.__new__"))
    (saS : PySem.W.findIn K (.ref S) "__setattr__" = some (some (.builtin "object.__setattr__")))
    (bS : PySem.W.subIn K (.ref S) (.type "BaseException") = some true)
    (tS : PySem.W.typeIn K (.ref S) = some (.type "type"))
    (kS : PySem.W.keepIn K (.ref S) = true)
    {fS : Addr} (iS : PySem.W.findIn K (.ref S) "__init__" = some (some (.ref fS)))
    (jS : PySem.W.typeIn K (.ref fS) = some (.type "function"))
    {ocS kVS dcS pmS ctS : Value} {odS anS : Option Addr} {cdS ccS : Addr} {slS : Array (Option Value)} (lS : K.lookup fS = some ⟨ocS, odS, .func (PySem.W.ksFn "__init__" "ScheduleError.__init__" (defArgs Er.sSE) (defBody Er.sSE) (defScope Er.sSE) .none kVS dcS pmS anS (.ref cdS) ctS ccS), slS⟩)
    (cS : PySem.W.codeIn K (.ref cdS) "ScheduleError.__init__" = true)
    (uS : PySem.W.ks_superIn K S S "__init__" = some (some (.builtin "ValueError.__init__")))
    (yS : PySem.W.nsIn K cStatics "thirdparty.any" = some none)
    (vS : PySem.W.subIn K (.ref S) (.type "ValueError") = some true)
    {ceS : Value} {cgS : Option Addr} {chS : Array (Option Value)} (oS : K.lookup ccS = some ⟨ceS, cgS, .cell (some (.ref S)), chS⟩)
    (mS : PySem.W.mroIn K S (.ref S) = some true)
    (pS : PySem.W.nsIn K mainGlobals "super" = some none)
    {daS : Value} {dbS : Option Addr} {dvS : Array Value} {dwS : Array (Option Value)} (dS : K.lookup cdS = some ⟨daS, dbS, .fields dvS, dwS⟩)
    {flS : Str} {tfS : Tok} (eS : dvS[2]? = some (.str flS tfS))
    (wS : ((l.prog.main.file : Str) == flS) = true)
    (gS : (l.prog.main.scope.names.lookup ("super" : Str)).isSome = false)
    (nS_number : PySem.W.findIn K (.ref S) "number" = some none)
    (nS_reason : PySem.W.findIn K (.ref S) "reason" = some none)
    {J : Addr} (aJ : PySem.W.nsIn K mainGlobals "Judge" = some (some (.ref J)))
    {fJ0 : Addr} (aJ0 : PySem.W.findIn K (.ref J) "__init__" = some (some (.ref fJ0)))
    (iJ0 : PySem.W.isFn K (.ref fJ0) = true)
    {ocJ0 kVJ0 dcJ0 pmJ0 cdJ0 ctJ0 : Value} {odJ0 anJ0 : Option Addr} {slJ0 : Array (Option Value)} (lJ0 : K.lookup fJ0 = some ⟨ocJ0, odJ0, .func (PySem.W.fnOf "__init__" "Judge.__init__" (defArgs sJin) (defBody sJin) (defScope sJin) .none kVJ0 dcJ0 pmJ0 anJ0 cdJ0 ctJ0), slJ0⟩)
    (cJ0 : PySem.W.codeIn K cdJ0 "Judge.__init__" = true)
    (kJ0 : PySem.W.keepIn K (.ref fJ0) = true)
    {fJ1 : Addr} (aJ1 : PySem.W.findIn K (.ref J) "find_reason" = some (some (.ref fJ1)))
    (iJ1 : PySem.W.isFn K (.ref fJ1) = true)
    {ocJ1 kVJ1 dcJ1 pmJ1 cdJ1 ctJ1 : Value} {odJ1 anJ1 : Option Addr} {slJ1 : Array (Option Value)} (lJ1 : K.lookup fJ1 = some ⟨ocJ1, odJ1, .func (PySem.W.fnOf "find_reason" "Judge.find_reason" (defArgs sFind) (defBody sFind) (defScope sFind) .none kVJ1 dcJ1 pmJ1 anJ1 cdJ1 ctJ1), slJ1⟩)
    (cJ1 : PySem.W.codeIn K cdJ1 "Judge.find_reason" = true)
    (kJ1 : PySem.W.keepIn K (.ref fJ1) = true)
    {fJ2 : Addr} (aJ2 : PySem.W.findIn K (.ref J) "follow" = some (some (.ref fJ2)))
    (iJ2 : PySem.W.isFn K (.ref fJ2) = true)
    {ocJ2 kVJ2 dcJ2 pmJ2 cdJ2 ctJ2 : Value} {odJ2 anJ2 : Option Addr} {slJ2 : Array (Option Value)} (lJ2 : K.lookup fJ2 = some ⟨ocJ2, odJ2, .func (PySem.W.fnOf "follow" "Judge.follow" (defArgs sFol) (defBody sFol) (defScope sFol) .none kVJ2 dcJ2 pmJ2 anJ2 cdJ2 ctJ2), slJ2⟩)
    (cJ2 : PySem.W.codeIn K cdJ2 "Judge.follow" = true)
    (kJ2 : PySem.W.keepIn K (.ref fJ2) = true)
    (pgJ : PySem.W.plainGet K J Str.empty = true)
    (hdJ : PySem.W.hasDictIn K J = true)
    (poJ : PySem.W.plainOver K J = true)
    (saJ : PySem.W.findIn K (.ref J) "__setattr__" = some (some (.builtin "object.__setattr__")))
    (mkJ : PySem.W.makesIn K J = true)
    (kcJ : PySem.W.keepIn K (.ref J) = true)
    (nJ_front : PySem.W.findIn K (.ref J) "front" = some none)
    (nJ_slots : PySem.W.findIn K (.ref J) "slots" = some none)
    (nJ_position : PySem.W.findIn K (.ref J) "position" = some none)
    (nJ_kept : PySem.W.findIn K (.ref J) "kept" = some none)
    (nJ_cost : PySem.W.findIn K (.ref J) "cost" = some none)
    (z_len : PySem.W.nsIn K mainGlobals "len" = some none)
    (z_int : PySem.W.nsIn K mainGlobals "int" = some none)
    (z_range : PySem.W.nsIn K mainGlobals "range" = some none)
    (z_tuple : PySem.W.nsIn K mainGlobals "tuple" = some none)
    (z_list : PySem.W.nsIn K mainGlobals "list" = some none)
    (z_str : PySem.W.nsIn K mainGlobals "str" = some none)
    (z_isinstance : PySem.W.nsIn K mainGlobals "isinstance" = some none)
    (z_bool : PySem.W.nsIn K mainGlobals "bool" = some none)
    (z_abs : PySem.W.nsIn K mainGlobals "abs" = some none)
    (z_max : PySem.W.nsIn K mainGlobals "max" = some none)
    (z_enumerate : PySem.W.nsIn K mainGlobals "enumerate" = some none)
    (z_repr : PySem.W.nsIn K mainGlobals "repr" = some none)
    (z_ValueError : PySem.W.nsIn K mainGlobals "ValueError" = some none)
    {t_MAX_BEATS : Tok} (g_MAX_BEATS : PySem.W.nsIn K mainGlobals "MAX_BEATS" = some (some (.int 40 t_MAX_BEATS)))
    {t_MAX_KEPT : Tok} (g_MAX_KEPT : PySem.W.nsIn K mainGlobals "MAX_KEPT" = some (some (.int 8 t_MAX_KEPT)))
    (exq1 : PySem.W.subIn K (.ref S) (.type "BaseException") = some true)
    (exq2 : PySem.W.hasDictIn K S = true)
    (exq3 : PySem.W.typeIn K (.ref S) = some (.type "type"))
    (exq4 : PySem.W.subIn K (.ref S) (.ref S) = some true)
    (exq5 : PySem.W.findIn K (.ref S) "__getattribute__" = some (some (.builtin "BaseException.__getattribute__")))
    (exq6 : PySem.W.findIn K (.ref S) "__getattr__" = some none)
    (exa1 : PySem.W.subIn K (.ref A) (.type "BaseException") = some true)
    (exa2 : PySem.W.hasDictIn K A = true)
    (exa3 : PySem.W.typeIn K (.ref A) = some (.type "type"))
    (exa4 : PySem.W.subIn K (.ref A) (.ref A) = some true)
    (exa5 : PySem.W.findIn K (.ref A) "__getattribute__" = some (some (.builtin "BaseException.__getattribute__")))
    (exa6 : PySem.W.findIn K (.ref A) "__getattr__" = some none)
    (exb1 : PySem.W.subIn K (.ref B) (.type "BaseException") = some true)
    (exb2 : PySem.W.hasDictIn K B = true)
    (exb3 : PySem.W.typeIn K (.ref B) = some (.type "type"))
    (exb4 : PySem.W.subIn K (.ref S) (.ref B) = some true)
    (exc5 : PySem.W.findIn K (.ref S) "__class__" = some (some (.builtin "object.__class__")))
    (exc6 : PySem.W.specialIn K (.builtin "object.__class__") "__get__" = some (some (.builtin "getset_descriptor.__get__")))
    (exc7 : PySem.W.takesIn K (.builtin "object.__class__") = some true)
    (exc8 : PySem.W.mroIn K S (.type "object") = some true)
    (kit1 : PySem.W.kitOne K (.ref S) (.ref S) = some true)
    (kit2 : PySem.W.kitOne K (.ref S) (.type "ValueError") = some true)
    (kit3 : PySem.W.kitOne K (.ref S) (.ref A) = some false) :
    ∃ fd : FuncData, (∀ (s : Shared) (v : Value), BindsTo s fd ⟨[v], []⟩ [("script", v)]) ∧ ∀ base : Heap, K.In base → base.Ns mainGlobals mg → Gd.GFn l.prog w K mg base CX0 8 fa fd ["script"] (spLaw K) := by
  have e := hfa.symm.trans (PySem.W.mg_of X G a17)
  cases e
  have F1 := fun_mk (st := sIsi) l1 c1 k1
  have b1 := F1.binds (ps := ["value"]) fun _ _ _ _ _ _ us hl => match us, hl with | [_], _ => rfl
  have m1 := PySem.W.mg_of X G a1
  have F2 := fun_mk (st := sBtw) l2 c2 k2
  have b2 := F2.binds (ps := ["value", "least", "most"]) fun _ _ _ _ _ _ us hl => match us, hl with | [_, _, _], _ => rfl
  have m2 := PySem.W.mg_of X G a2
  have F3 := fun_mk (st := sCkb) l3 c3 k3
  have b3 := F3.binds (ps := ["beats"]) fun _ _ _ _ _ _ us hl => match us, hl with | [_], _ => rfl
  have m3 := PySem.W.mg_of X G a3
  have F4 := fun_mk (st := sJudge) l4 c4 k4
  have b4 := F4.binds (ps := ["schedule", "beats", "slots"]) fun _ _ _ _ _ _ us hl => match us, hl with | [_, _, _], _ => rfl
  have m4 := PySem.W.mg_of X G a4
  have F5 := fun_mk (st := sCkn) l5 c5 k5
  have b5 := F5.binds (ps := ["beats", "slots"]) fun _ _ _ _ _ _ us hl => match us, hl with | [_, _], _ => rfl
  have m5 := PySem.W.mg_of X G a5
  have F6 := fun_mk (st := sAct) l6 c6 k6
  have b6 := F6.binds (ps := ["value"]) fun _ _ _ _ _ _ us hl => match us, hl with | [_], _ => rfl
  have m6 := PySem.W.mg_of X G a6
  have F7 := fun_mk (st := sStart) l7 c7 k7
  have b7 := F7.binds (ps := ["script"]) fun _ _ _ _ _ _ us hl => match us, hl with | [_], _ => rfl
  have m7 := PySem.W.mg_of X G a7
  have F8 := fun_mk (st := sDrw) l8 c8 k8
  have b8 := F8.binds (ps := ["state", "many"]) fun _ _ _ _ _ _ us hl => match us, hl with | [_, _], _ => rfl
  have m8 := PySem.W.mg_of X G a8
  have F9 := fun_mk (st := sLin) l9 c9 k9
  have b9 := F9.binds (ps := ["value", "low"]) fun _ _ _ _ _ _ us hl => match us, hl with | [_, _], _ => rfl
  have m9 := PySem.W.mg_of X G a9
  have F10 := fun_mk (st := sLac) l10 c10 k10
  have b10 := F10.binds (ps := ["action"]) fun _ _ _ _ _ _ us hl => match us, hl with | [_], _ => rfl
  have m10 := PySem.W.mg_of X G a10
  have F11 := fun_mk (st := sLre) l11 c11 k11
  have b11 := F11.binds (ps := ["action", "place", "front", "full", "slots"]) fun _ _ _ _ _ _ us hl => match us, hl with | [_, _, _, _, _], _ => rfl
  have m11 := PySem.W.mg_of X G a11
  have F12 := fun_mk (st := sLju) l12 c12 k12
  have b12 := F12.binds (ps := ["schedule", "beats", "slots"]) fun _ _ _ _ _ _ us hl => match us, hl with | [_, _, _], _ => rfl
  have m12 := PySem.W.mg_of X G a12
  have F13 := fun_mk (st := sNext) l13 c13 k13
  have b13 := F13.binds (ps := ["state", "place", "front", "full", "slots"]) fun _ _ _ _ _ _ us hl => match us, hl with | [_, _, _, _, _], _ => rfl
  have m13 := PySem.W.mg_of X G a13
  have F14 := fun_mk (st := sMade) l14 c14 k14
  have b14 := F14.binds (ps := ["state", "beats", "slots"]) fun _ _ _ _ _ _ us hl => match us, hl with | [_, _, _], _ => rfl
  have m14 := PySem.W.mg_of X G a14
  have F15 := fun_mk (st := sSpoilt) l15 c15 k15
  have b15 := F15.binds (ps := ["state", "rows"]) fun _ _ _ _ _ _ us hl => match us, hl with | [_, _], _ => rfl
  have m15 := PySem.W.mg_of X G a15
  have F16 := fun_mk (st := sArg) l16 c16 k16
  have b16 := F16.binds (ps := ["schedule", "beats", "slots", "reason"]) fun _ _ _ _ _ _ us hl => match us, hl with | [_, _, _, _], _ => rfl
  have m16 := PySem.W.mg_of X G a16
  have F17 := fun_mk (st := sLaw) l17 c17 k17
  refine ⟨PySem.W.fnOf "law" "law" (defArgs sLaw) (defBody sLaw) (defScope sLaw) .none kV17 dc17 pm17 an17 cd17 ct17, fun s v => .of_eq rfl, fun base _ _ => ?_⟩
  have SuA : Su.Sup l.prog K A ccA cdA := ⟨⟨⟨_, _, _, _, _, _, _, _, _, _, _, _, _, _, _, xA, rfl⟩, saA, bA, tA, kA⟩, uA, yA, vA, ⟨_, _, _, oA⟩, mA, pA, ⟨_, _, _, _, _, _, dA, eA, wA⟩, gA⟩
  have SuS : Su.Sup l.prog K S ccS cdS := ⟨⟨⟨_, _, _, _, _, _, _, _, _, _, _, _, _, _, _, xS, rfl⟩, saS, bS, tS, kS⟩, uS, yS, vS, ⟨_, _, _, oS⟩, mS, pS, ⟨_, _, _, _, _, _, dS, eS, wS⟩, gS⟩
  have FJ0 := fun_mk (st := sJin) lJ0 cJ0 kJ0
  have bJ0 := FJ0.binds (ps := ["self", "beats", "slots"]) fun _ _ _ _ _ _ us hl => match us, hl with | [_, _, _], _ => rfl
  have FJ1 := fun_mk (st := sFind) lJ1 cJ1 kJ1
  have bJ1 := FJ1.binds (ps := ["self", "action"]) fun _ _ _ _ _ _ us hl => match us, hl with | [_, _], _ => rfl
  have FJ2 := fun_mk (st := sFol) lJ2 cJ2 kJ2
  have bJ2 := FJ2.binds (ps := ["self", "action"]) fun _ _ _ _ _ _ us hl => match us, hl with | [_, _], _ => rfl
  have T : Bi mg := ⟨PySem.W.mg_none_of X G z_len, PySem.W.mg_none_of X G z_int, PySem.W.mg_none_of X G z_range, PySem.W.mg_none_of X G z_tuple, PySem.W.mg_none_of X G z_list, PySem.W.mg_none_of X G z_str, PySem.W.mg_none_of X G z_isinstance, PySem.W.mg_none_of X G z_bool, PySem.W.mg_none_of X G z_abs, PySem.W.mg_none_of X G z_max⟩
  have mkA : Mk l.prog w K mg base "ArgumentError" A ["self", "reason"] (Er.spAE K A) := ⟨fA, _, Er.ok_ae lA cA SuA nA_reason, .all (fun us hl => match us, hl with | [_, _], _ => rfl), SuA.ex, iA, jA, PySem.W.mg_of X G aA⟩
  have mkS : Mk l.prog w K mg base "ScheduleError" S ["self", "number", "reason"] (Er.spSE K S) := ⟨fS, _, Er.ok_se lS cS SuS nS_number nS_reason, .all (fun us hl => match us, hl with | [_, _, _], _ => rfl), SuS.ex, iS, jS, PySem.W.mg_of X G aS⟩
  have E' : TxtB K mg S A B := ⟨PySem.W.mg_of X G aS, PySem.W.mg_of X G aA, PySem.W.mg_of X G aB0, ⟨exq5, exq6, bS, exq2⟩, nS_number, nS_reason, ⟨exa5, exa6, bA, exa2⟩, nA_reason, ⟨exq5, exq6, bS, exq2, exc5, exc6, exc7, exc8⟩, PySem.W.exm_ref exa1 exa2 exa3 exa4, PySem.W.exm_ref exb1 exb2 exb3 exb4, kit1, kit2, kit3⟩
  have cIsi : Cal l.prog w K mg base CX0 1 "is_integer" ["value"] (spP K 1 dIsi) := ⟨f1, _, ok_isi F1 T, b1, k1, m1⟩
  have cBtw : Cal l.prog w K mg base CX0 2 "is_between" ["value", "least", "most"] (spP K 3 dBtw) := ⟨f2, _, ok_btw F2 cIsi, b2, k2, m2⟩
  have cCkb : Cal l.prog w K mg base (L2.CX l.prog w) 3 "check_beats" ["beats"] (spCkb K A) := ⟨f3, _, ok_ckb F3 (PySem.W.mg_of X G g_MAX_BEATS) cBtw mkA, b3, k3, m3⟩
  have cCkn : Cal l.prog w K mg base (L2.CX l.prog w) 4 "check_numbers" ["beats", "slots"] (spCkn K A) := ⟨f5, _, ok_ckn F5 (PySem.W.mg_of X G g_MAX_KEPT) cBtw cCkb mkA, b5, k5, m5⟩
  have cAct : Cal l.prog w K mg base CX0 2 "is_action" ["value"] (spP K 1 dAct) := ⟨f6, _, ok_act F6 T cIsi, b6, k6, m6⟩
  have JT : JTxt K J := ⟨⟨pgJ, hdJ, poJ, saJ⟩, nJ_front, nJ_slots, nJ_position, nJ_kept, nJ_cost⟩
  have cJ : Mkr l.prog w K mg base "Judge" J 1 ["self", "beats", "slots"] (spJin J) := ⟨fJ0, _, ok_jin FJ0 JT, bJ0, ⟨mkJ, aJ0, iJ0, kcJ⟩, PySem.W.mg_of X G aJ⟩
  have cFr : Mth l.prog w K mg base J 3 "find_reason" ["self", "action"] (spFind K J) := ⟨fJ1, _, ok_find FJ1 JT cAct, bJ1, ⟨pgJ, hdJ, poJ, saJ⟩, ⟨aJ1, iJ1, kJ1⟩⟩
  have cFo : Mth l.prog w K mg base J 1 "follow" ["self", "action"] (spFol K J) := ⟨fJ2, _, ok_fol FJ2 JT, bJ2, ⟨pgJ, hdJ, poJ, saJ⟩, ⟨aJ2, iJ2, kJ2⟩⟩
  have cJudge : Cal l.prog w K mg base (L2.CX l.prog w) 5 "judge" ["schedule", "beats", "slots"] (spJudge K S A) := ⟨f4, _, ok_judge F4 T JT (PySem.W.mg_none_of X G z_enumerate) cCkn cJ cFr cFo mkS, b4, k4, m4⟩
  have cStart : Cal l.prog w K mg base CX0 1 "_law_start" ["script"] (spStart K) := ⟨f7, _, ok_start F7 T, b7, k7, m7⟩
  have cDraw : Cal l.prog w K mg base CX0 1 "_law_draw" ["state", "many"] (spDrw K) := ⟨f8, _, ok_drw F8 T, b8, k8, m8⟩
  have cLin : Cal l.prog w K mg base CX0 1 "_law_integer" ["value", "low"] (spP K 2 dLin) := ⟨f9, _, ok_lin F9 T, b9, k9, m9⟩
  have cLac : Cal l.prog w K mg base CX0 2 "_law_action" ["action"] (spP K 1 dAct) := ⟨f10, _, ok_lac F10 T cLin, b10, k10, m10⟩
  have cLre : Cal l.prog w K mg base CX0 3 "_law_reason" ["action", "place", "front", "full", "slots"] (spLre K) := ⟨f11, _, ok_lre F11 cLac, b11, k11, m11⟩
  have cLju : Cal l.prog w K mg base CX0 4 "_law_judge" ["schedule", "beats", "slots"] (spLju K) := ⟨f12, _, ok_lju F12 T cLre, b12, k12, m12⟩
  have cNext : Cal l.prog w K mg base CX0 2 "_law_next" ["state", "place", "front", "full", "slots"] (spNext K) := ⟨f13, _, ok_next F13 T cDraw, b13, k13, m13⟩
  have cMade : Cal l.prog w K mg base CX0 4 "_law_made" ["state", "beats", "slots"] (spMade K) := ⟨f14, _, ok_made F14 T cDraw cNext cLre, b14, k14, m14⟩
  have cSpoilt : Cal l.prog w K mg base CX0 2 "_law_spoilt" ["state", "rows"] (spSpoilt K) := ⟨f15, _, ok_spoilt F15 T cDraw, b15, k15, m15⟩
  have cArg : Cal l.prog w K mg base CX0 6 "_law_argument" ["schedule", "beats", "slots", "reason"] (spArg K) := ⟨f16, _, ok_arg F16 E' cJudge, b16, k16, m16⟩
  exact ok_law F17 T (PySem.W.mg_none_of X G z_repr) (PySem.W.mg_none_of X G z_ValueError) E' cStart cDraw cMade cSpoilt cArg cLju cJudge
end
theorem walk {l : PySem.W.OpenLaw} {q : Program} {loose : List Str} {XP : (Str → Option Value) → Heap → Prop} {YP : World → Heap → Prop} {d : DefRec} {K : Params → PySem.W.Frag} (hn : l.most = some 63) (hdf : d.params.defaults = [])
    (hY : ∀ (w : World) (h : Heap), YP w h → (K w.params).In h)
    (F : ∀ (w : World) (mg : Str → Option Value) (fa : Addr) (h : Heap), (K w.params).In h → h.Ns mainGlobals mg → mg d.name = some (.ref fa) →
      ∃ fd : FuncData, (∀ (s : Shared) (u : Value), BindsTo s fd ⟨[u], []⟩ [("script", u)]) ∧ ∀ base : Heap, (K w.params).In base → base.Ns mainGlobals mg → Gd.GFn l.prog w (K w.params) mg base CX0 8 fa fd ["script"] (spLaw (K w.params))) :
    PySem.W.WalkO q loose XP YP l.row.toRowW d [] (fun f vs => PySem.call f vs) :=
  Gd.walk (n := 63) (k := 8) (x := "script") (CX := fun _ => CX0) (sp := fun w => spLaw (K w.params)) hn (by decide) hdf ⟨rfl, by decide, by decide⟩ hY F (fun _ _ a ns hl _ hS => ⟨a, ns, rfl, hS, hl, fun _ => rfl⟩) fun _ _ _ _ _ z => z
end Sd
open PySem PySem.W PyProof.Rows
set_option maxRecDepth 100000 in
set_option maxHeartbeats 0 in
theorem PySem.Challenge.cw_countermarch_k51_whole_any_schedule_is_j_holds : PySem.Challenge.rw_countermarch_k51_whole_any_schedule_is_j.Holds := by
  w_on; o_law; k_head; (case hw => w_witness2)
  k_fill
  refine Sd.walk (l := PySem.Challenge.rw_countermarch_k51_whole_any_schedule_is_j) rfl rfl (fun w h Y => PySem.W.kIn_of Y) ?F
  case F =>
    intro w mg fa h KX G hmg
    refine' Sd.all_mk KX G hmg ?a1 ?l1 ?c1 ?k1 ?a2 ?l2 ?c2 ?k2 ?a3 ?l3 ?c3 ?k3 ?a4 ?l4 ?c4 ?k4 ?a5 ?l5 ?c5 ?k5 ?a6 ?l6 ?c6 ?k6 ?a7 ?l7 ?c7 ?k7 ?a8 ?l8 ?c8 ?k8 ?a9 ?l9 ?c9 ?k9 ?a10 ?l10 ?c10 ?k10 ?a11 ?l11 ?c11 ?k11 ?a12 ?l12 ?c12 ?k12 ?a13 ?l13 ?c13 ?k13 ?a14 ?l14 ?c14 ?k14 ?a15 ?l15 ?c15 ?k15 ?a16 ?l16 ?c16 ?k16 ?a17 ?l17 ?c17 ?k17 ?aB0 ?aA ?xA ?saA ?bA ?tA ?kA ?iA ?jA ?lA ?cA ?uA ?yA ?vA ?oA ?mA ?pA ?dA ?eA ?wA ?gA ?nA_reason ?aS ?xS ?saS ?bS ?tS ?kS ?iS ?jS ?lS ?cS ?uS ?yS ?vS ?oS ?mS ?pS ?dS ?eS ?wS ?gS ?nS_number ?nS_reason ?aJ ?aJ0 ?iJ0 ?lJ0 ?cJ0 ?kJ0 ?aJ1 ?iJ1 ?lJ1 ?cJ1 ?kJ1 ?aJ2 ?iJ2 ?lJ2 ?cJ2 ?kJ2 ?pgJ ?hdJ ?poJ ?saJ ?mkJ ?kcJ ?nJ_front ?nJ_slots ?nJ_position ?nJ_kept ?nJ_cost ?z_len ?z_int ?z_range ?z_tuple ?z_list ?z_str ?z_isinstance ?z_bool ?z_abs ?z_max ?z_enumerate ?z_repr ?z_ValueError ?g_MAX_BEATS ?g_MAX_KEPT ?exq1 ?exq2 ?exq3 ?exq4 ?exq5 ?exq6 ?exa1 ?exa2 ?exa3 ?exa4 ?exa5 ?exa6 ?exb1 ?exb2 ?exb3 ?exb4 ?exc5 ?exc6 ?exc7 ?exc8 ?kit1 ?kit2 ?kit3
    (case a1 => k_is)
    (case l1 => k_is)
    (case c1 => k_is)
    (case k1 => k_is)
    (case a2 => k_is)
    (case l2 => k_is)
    (case c2 => k_is)
    (case k2 => k_is)
    (case a3 => k_is)
    (case l3 => k_is)
    (case c3 => k_is)
    (case k3 => k_is)
    (case a4 => k_is)
    (case l4 => k_is)
    (case c4 => k_is)
    (case k4 => k_is)
    (case a5 => k_is)
    (case l5 => k_is)
    (case c5 => k_is)
    (case k5 => k_is)
    (case a6 => k_is)
    (case l6 => k_is)
    (case c6 => k_is)
    (case k6 => k_is)
    (case a7 => k_is)
    (case l7 => k_is)
    (case c7 => k_is)
    (case k7 => k_is)
    (case a8 => k_is)
    (case l8 => k_is)
    (case c8 => k_is)
    (case k8 => k_is)
    (case a9 => k_is)
    (case l9 => k_is)
    (case c9 => k_is)
    (case k9 => k_is)
    (case a10 => k_is)
    (case l10 => k_is)
    (case c10 => k_is)
    (case k10 => k_is)
    (case a11 => k_is)
    (case l11 => k_is)
    (case c11 => k_is)
    (case k11 => k_is)
    (case a12 => k_is)
    (case l12 => k_is)
    (case c12 => k_is)
    (case k12 => k_is)
    (case a13 => k_is)
    (case l13 => k_is)
    (case c13 => k_is)
    (case k13 => k_is)
    (case a14 => k_is)
    (case l14 => k_is)
    (case c14 => k_is)
    (case k14 => k_is)
    (case a15 => k_is)
    (case l15 => k_is)
    (case c15 => k_is)
    (case k15 => k_is)
    (case a16 => k_is)
    (case l16 => k_is)
    (case c16 => k_is)
    (case k16 => k_is)
    (case a17 => k_is)
    (case l17 => k_is)
    (case c17 => k_is)
    (case k17 => k_is)
    (case aB0 => k_is)
    (case aA => k_is)
    (case xA => k_is)
    (case saA => k_is)
    (case bA => k_is)
    (case tA => k_is)
    (case kA => k_is)
    (case iA => k_is)
    (case jA => k_is)
    (case lA => k_is)
    (case cA => k_is)
    (case uA => first | ks_is | k_is)
    (case yA => k_is)
    (case vA => k_is)
    (case oA => k_is)
    (case mA => k_is)
    (case pA => k_is)
    (case dA => k_is)
    (case eA => rfl)
    (case wA => first | rfl | decide +kernel)
    (case gA => first | rfl | decide +kernel)
    (case nA_reason => k_is)
    (case aS => k_is)
    (case xS => k_is)
    (case saS => k_is)
    (case bS => k_is)
    (case tS => k_is)
    (case kS => k_is)
    (case iS => k_is)
    (case jS => k_is)
    (case lS => k_is)
    (case cS => k_is)
    (case uS => first | ks_is | k_is)
    (case yS => k_is)
    (case vS => k_is)
    (case oS => k_is)
    (case mS => k_is)
    (case pS => k_is)
    (case dS => k_is)
    (case eS => rfl)
    (case wS => first | rfl | decide +kernel)
    (case gS => first | rfl | decide +kernel)
    (case nS_number => k_is)
    (case nS_reason => k_is)
    (case aJ => k_is)
    (case aJ0 => k_is)
    (case iJ0 => k_is)
    (case lJ0 => k_is)
    (case cJ0 => k_is)
    (case kJ0 => k_is)
    (case aJ1 => k_is)
    (case iJ1 => k_is)
    (case lJ1 => k_is)
    (case cJ1 => k_is)
    (case kJ1 => k_is)
    (case aJ2 => k_is)
    (case iJ2 => k_is)
    (case lJ2 => k_is)
    (case cJ2 => k_is)
    (case kJ2 => k_is)
    (case pgJ => k_is)
    (case hdJ => k_is)
    (case poJ => k_is)
    (case saJ => k_is)
    (case mkJ => k_is)
    (case kcJ => k_is)
    (case nJ_front => k_is)
    (case nJ_slots => k_is)
    (case nJ_position => k_is)
    (case nJ_kept => k_is)
    (case nJ_cost => k_is)
    (case z_len => k_is)
    (case z_int => k_is)
    (case z_range => k_is)
    (case z_tuple => k_is)
    (case z_list => k_is)
    (case z_str => k_is)
    (case z_isinstance => k_is)
    (case z_bool => k_is)
    (case z_abs => k_is)
    (case z_max => k_is)
    (case z_enumerate => k_is)
    (case z_repr => k_is)
    (case z_ValueError => k_is)
    (case g_MAX_BEATS => k_is)
    (case g_MAX_KEPT => k_is)
    (case exq1 => k_is)
    (case exq2 => k_is)
    (case exq3 => k_is)
    (case exq4 => k_is)
    (case exq5 => k_is)
    (case exq6 => k_is)
    (case exa1 => k_is)
    (case exa2 => k_is)
    (case exa3 => k_is)
    (case exa4 => k_is)
    (case exa5 => k_is)
    (case exa6 => k_is)
    (case exb1 => k_is)
    (case exb2 => k_is)
    (case exb3 => k_is)
    (case exb4 => k_is)
    (case exc5 => k_is)
    (case exc6 => k_is)
    (case exc7 => k_is)
    (case exc8 => k_is)
    (case kit1 => kit_is)
    (case kit2 => kit_is)
    (case kit3 => kit_is)
#print axioms PySem.Challenge.cw_countermarch_k51_whole_any_schedule_is_j_holds

