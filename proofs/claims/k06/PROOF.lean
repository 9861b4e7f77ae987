import PyProof.Rows.All
import Wide.All
import OpenK.AllK
import Wide.FinOn
import HandS.Base
import HandS.Call
import HandS.List
import HandS.Comp
import HandS.Ends
import HandS.Exc
import HandS.TryOnly
import HandS.ExcOwn
import HandS.Words
import HandS.WordsList
import HandS.WordsExc
import HandS.Flow
import HandS.Wide
import HandS.Style
import HandS.IsInst
import HandS.ExcIs
import KE.RegKIsAll
import HandS.Walk
import HandS.ExcInit
import HandS.ExcField
import HandS.FStr
import HandS.FStrTup
import KE.KExcSuper
import KE.KExcIs
import HandS.Text
import HandS.TupAny
import HandS.Evl
import HandS.Dict
import HandS.DictSub
import HandS.WordsDict
import KE.DatumOrd
import KE.GoesEnum
import HandS.Zip0
import HandS.Zip
import HandS.Conv
import HandS.Deep
import HandS.RaiseMore
import HandS.Codes
import HandS.Strs
import PySem.Challenge.RW_countermarch_k06_whole_read_back
set_option Elab.async false
set_option linter.all false
set_option maxRecDepth 100000
set_option maxHeartbeats 4000000
/-! ## repr of nested tuples and lists -/
namespace Rp
open PySem PySem.Spec PyProof.Rows L2
mutual
def Dv (K : PySem.W.Frag) (H : Hp) : PyData → V → Prop
  | .none, v => v = .non
  | .bool b, v => v = .bl b
  | .int i, v => v = .int i
  | .str s, v => v = .str s
  | .tuple ds, v => ∃ a xs, v = .ref a ∧ SqT K H a xs ∧ DvL K H ds xs
  | .list ds, v => ∃ a xs, v = .ref a ∧ SqL K H a xs ∧ DvL K H ds xs
  | .dict _, _ => False
def DvL (K : PySem.W.Frag) (H : Hp) : List PyData → List V → Prop
  | [], vs => vs = []
  | d :: ds, vs => ∃ x xs, vs = x :: xs ∧ Dv K H d x ∧ DvL K H ds xs
end
section
variable {X : Cx} {pins : List (Addr × Obj)} {σ : L2.St} {H : Hp} {s : Shared}
mutual
theorem Dv.reads (I : Inv X pins σ H s) : ∀ (d : PyData) (x : V) (v : Value), Dv X.K H d x → RelV x v → ∃ as, Reads s.heap v d as
  | .none, _, v, h, r => by
    cases h
    cases r
    exact ⟨_, .none⟩
  | .bool b, _, v, h, r => by
    cases h
    cases r
    exact ⟨_, .bool b⟩
  | .int i, _, v, h, r => by
    cases h
    obtain ⟨t, rfl⟩ := r
    exact ⟨_, .int i t⟩
  | .str x, _, v, h, r => by
    cases h
    obtain ⟨t, rfl⟩ := r
    exact ⟨_, .str x t⟩
  | .tuple ds, _, v, h, r => by
    obtain ⟨a, xs, rfl, st, l⟩ := h
    cases r
    obtain ⟨its, rv, ⟨o, ho, hc, n, hd⟩, _⟩ := I.tuple st
    obtain ⟨as, ra⟩ := DvL.reads I ds xs its l rv
    exact ⟨_, .tuple ho hc hd ra⟩
  | .list ds, _, v, h, r => by
    obtain ⟨a, xs, rfl, st, l⟩ := h
    cases r
    obtain ⟨its, rv, ⟨o, n, ho, hc, _, hd⟩, _⟩ := I.list st
    obtain ⟨as, ra⟩ := DvL.reads I ds xs its l rv
    exact ⟨_, .list ho hc hd ra⟩
  | .dict _, _, _, h, _ => False.elim h
theorem DvL.reads (I : Inv X pins σ H s) : ∀ (ds : List PyData) (xs : List V) (us : List Value), DvL X.K H ds xs → Vals xs us → ∃ as, ReadsAll s.heap us ds as
  | [], _, us, h, r => by
    cases h
    cases r
    exact ⟨_, .nil⟩
  | d :: ds, _, us, h, r => by
    obtain ⟨x, xs, rfl, hx, l⟩ := h
    cases r with
    | cons r1 r2 =>
      obtain ⟨as, ra⟩ := Dv.reads I d x _ hx r1
      obtain ⟨bs, rb⟩ := DvL.reads I ds xs _ l r2
      exact ⟨_, .cons ra rb⟩
end
variable {K : PySem.W.Frag}
mutual
theorem Dv.nodict : ∀ (d : PyData) (x : V), Dv K H d x → d.hasDict = false
  | .none, _, _ => by simp [PyData.hasDict]
  | .bool b, _, _ => by simp [PyData.hasDict]
  | .int i, _, _ => by simp [PyData.hasDict]
  | .str x, _, _ => by simp [PyData.hasDict]
  | .tuple ds, _, h => by
    obtain ⟨a, xs, _, _, l⟩ := h
    simp only [PyData.hasDict]
    exact DvL.nodict ds xs l
  | .list ds, _, h => by
    obtain ⟨a, xs, _, _, l⟩ := h
    simp only [PyData.hasDict]
    exact DvL.nodict ds xs l
  | .dict _, _, h => False.elim h
theorem DvL.nodict : ∀ (ds : List PyData) (xs : List V), DvL K H ds xs → PyData.hasDictAll ds = false
  | [], _, _ => by simp [PyData.hasDictAll]
  | d :: ds, _, h => by
    obtain ⟨x, xs, _, hx, l⟩ := h
    simp only [PyData.hasDictAll, Dv.nodict d x hx, DvL.nodict ds xs l, Bool.or_self]
end
/-- repr(x), x a tuple or a list of data, where no repr is under way -/
def spRepr (K : PySem.W.Frag) : List V → Hp → VK → Prop := fun xs H Q => ∃ (a : Addr) (d : PyData), xs = [.ref a] ∧ Dv K H d (.ref a) ∧ d.showable = true ∧ d.shown.length ≤ sizeLine ∧ d.depth ≤ 90 ∧ Q (.str d.shown) H
theorem cr_repr (gd : X.A.guards = some []) (hu : X.A.units + 200 < cLine) : CallR X (.builtin "repr") (spRepr X.K) := by
  intro pins s σ H xs us Q I r h
  obtain ⟨a, d, rfl, hd, sh, fit, dp, q⟩ := h
  obtain ⟨u, rfl, rv⟩ := vals1 r
  cases rv
  obtain ⟨as, ra⟩ := Dv.reads I d _ _ hd rfl
  have nd := Dv.nodict d _ hd
  exact repr_of_reads' ra sh (fun z => by rw [nd] at z; cases z) gd (by omega) (fun _ _ e => e) (fun h' u tk hk => ⟨.str d.shown, H, I.kept hk, ⟨_, rfl⟩, q⟩) fit
end
end Rp

/-! ## A law's own def, called where nothing is being shown: so that repr tells the whole -/
namespace Gd
open PySem PySem.Spec PyProof.Rows L2
section
variable {P : Program} {w : World} {K : PySem.W.Frag} {mg : Str → Option Value}
structure GFn (P : Program) (w : World) (K : PySem.W.Frag) (mg : Str → Option Value) (ground : Heap) (CX : CXT) (k : Nat) (f : Addr) (fd : FuncData) (ps : List Str) (sp : Sp) : Prop where
  count : ∀ vs H Q E, sp vs H Q E → vs.length = ps.length
  does : ∀ (A : Around) (out : List Env) (s : Shared) (H : Hp) (ar : Args) (us : List Value) (vs : List V) (Q : VK) (E : XK), A.guards = some [] → Room k A → Env0 P w K mg ground A out s H → BindsTo s fd ar (ps.zip us) → Vals vs us →
    sp vs H Q E → codeAny (model P w) A (.call (.ref f) ar) (CR CX out P w H s Q E) s
theorem gfn_of {CX : CXT} {ground : Heap} {x qual : Str} {st : Stmt} {f : Addr} {fd : FuncData} {N ps : List Str} {k : Nat} {sp : Sp} (F : Fun K x qual st f fd) (S : FnScope N ps (defScope st)) (len : ∀ vs H Q E, sp vs H Q E → vs.length = ps.length)
    (inner : ∀ (cdv : Value) (A : Around) (out : List Env) (s : Shared) (H : Hp) (vs : List V) (Q : VK) (E : XK), A.guards = some [] → Room k (A.deeper (envOfC qual (defScope st) s.heap.objs.size f cdv)) → sp vs H Q E →
      ∃ t, PSs (cxOf CX P w K mg ground N qual (defScope st) f cdv A out s H E) (defBody st) t ∧ t { rt := Q, nx := fun _ => Q V.non } (start N vs) H) : GFn P w K mg ground CX (k + 1) f fd ps sp := by
  obtain ⟨_, _, _, _, _, _, cdv, _, _, rfl, look, code⟩ := F.ex
  constructor
  · exact len
  intro A out s H ar us vs Q E gd room en bd rel told
  have many := len _ _ _ _ told
  have isK : K.In s.heap := en.mod.kin.keeps (fun b o e => (en.bs b o e).1)
  have nolim : s.heap.NoLimit := en.mod.nolimit.keeps (fun b o e => (en.bs b o e).1)
  refine codeAny_call_function room.depth (isK _ _ look) rfl S.co S.gen rfl (PySem.W.codeRec_of isK code) (bd _ _ _ _ ?_)
  refine wpAny_newFunctionEnv_cells S.kind (fun y hy => ?_) (fun en1 he s1 x => ?_)
  · obtain ⟨n, v⟩ := y
    cases S.par n (List.of_mem_zip hy).1 with
    | inl q => exact Or.inl q
    | inr q => exact Or.inr ⟨q, PySem.W.cellsFrom_some _ _ _ (Or.inl q)⟩
  cases he
  refine ⟨nolim.keeps x.toInCall.keep, codeAny_func ?_⟩
  obtain ⟨t, ht, hq⟩ := inner cdv A out s H vs Q E gd (room.deeper _) told
  have I0 : Inv (cxOf CX P w K mg ground N qual (defScope st) f cdv A out s H E) [] (start N vs) H s1 := inv_start S room.hd en many rel x
  refine wpAny_mono (ht.run [] s1 (start N vs) H _ I0 hq) (fun fl s' hs => ?_) (fun _ _ hs => hs)
  match fl, hs with
  | .ret _, ⟨v, _, H', J, rv, q⟩ => exact ⟨v, H', J.os, J.bare, J.base, J.hok, rv, q⟩
  | .next, ⟨_, H', J, q⟩ => exact ⟨V.non, H', J.os, J.bare, J.base, J.hok, rfl, q⟩
  | .brk, ⟨_, _, _, q⟩ => exact q.elim
  | .cont, ⟨_, _, _, q⟩ => exact q.elim
/-- the same for a def that lets no exception out -/
theorem gfn0 {ground : Heap} {x qual : Str} {st : Stmt} {f : Addr} {fd : FuncData} {N ps : List Str} {k : Nat} {sp : Sp} (F : Fun K x qual st f fd) (S : FnScope N ps (defScope st)) (len : ∀ vs H Q E, sp vs H Q E → vs.length = ps.length)
    (inner : ∀ (cdv : Value) (A : Around) (out : List Env) (s : Shared) (H : Hp) (vs : List V) (Q : VK) (E : XK), A.guards = some [] → Room k (A.deeper (envOfC qual (defScope st) s.heap.objs.size f cdv)) → sp vs H Q E →
      ∃ t, PSs (cxOf CX0 P w K mg ground N qual (defScope st) f cdv A out s H E).nox (defBody st) t ∧ t { rt := Q, nx := fun _ => Q V.non } (start N vs) H) : GFn P w K mg ground CX0 (k + 1) f fd ps sp :=
  gfn_of F S len fun cdv A out s H vs Q E gd room told => by
    obtain ⟨t, h, q⟩ := inner cdv A out s H vs Q E gd room told
    exact ⟨t, h.nox, q⟩
/-- the law's def behind the top -/
theorem enter {mb : Str → Option Value} {CX : CXT} {k : Nat} {fa a : Addr} {fd : FuncData} {x : Str} {sp : Sp} {s₁ : Shared} {vs : List Value} {ns : List Int}
    (isK : K.In s₁.heap) (glo : s₁.heap.Ns mainGlobals mg) (bui : s₁.heap.Ns builtinsNs mb) (boot : ∀ x : Str, x ≠ "__name__" → mb x = bootBuiltins x) (nolim : s₁.heap.NoLimit) (nogen : s₁.gens = #[])
    (at_a : s₁.heap.get? a = some { cls := .type "list", data := .seq vs.toArray }) (are : IntsAre vs ns) (few : ns.length ≤ sizeLine) (room : Room k callerA)
    (G : ∀ ground : Heap, K.In ground → ground.Ns mainGlobals mg → GFn P w K mg ground CX k fa fd [x] sp) (bd : ∀ (s : Shared) (u : Value), BindsTo s fd ⟨[u], []⟩ [(x, u)])
    (told : ∀ H : Hp, Only H → SqL K H a (ns.map V.int) → sp [.ref a] H (fun v _ => v = .bl true) fun _ _ _ => False) (noexc : ∀ H e s', CX [] H s₁ (fun _ _ _ => False) e s' → False) :
    codeAny (model P w) callerA (.call (.ref fa) ⟨[.ref a], []⟩) (fun r s' => (r = .ok (.ret (.bool true)) ∧ OldK s₁.heap s'.heap) ∧ s'.os = s₁.os ∧ AllBare s'.gens) s₁ := by
  have rel := vals_ints are
  have cnt := are.length
  have main : ∀ H : Hp, Only H → SqL K H a (ns.map V.int) → HOk P w H s₁.heap → (∀ b, b ≠ a → H b = none) → (K.lookup a = none ∨ H a = none) →
      codeAny (model P w) callerA (.call (.ref fa) ⟨[.ref a], []⟩) (fun r s' => (r = .ok (.ret (.bool true)) ∧ OldK s₁.heap s'.heap) ∧ s'.os = s₁.os ∧ AllBare s'.gens) s₁ := by
    intro H only sq fine off known
    have off2 : ∀ (b : Addr) (o : Obj), s₁.heap.get? b = some o → (∀ (vs : Array Value) (n : Nat), o.data ≠ .seq vs n) → H b = none := fun b o e n => by
      by_cases z : b = a
      · rw [z, at_a] at e
        cases e
        exact absurd rfl (n _ _)
      · exact off b z
    have space : ∀ {b : Addr} {m : Str → Option Value}, s₁.heap.Ns b m → (hidT s₁.heap H).Ns b m := by
      rintro b m ⟨o, es, ep, e, d, r⟩
      exact ⟨o, es, ep, hidT_get e (off2 b o e fun vs n z => by rw [d] at z; cases z), d, r⟩
    have isK2 : K.In (hidT s₁.heap H) := by
      intro b o e
      refine hidT_get (isK b o e) ?_
      by_cases z : b = a
      · rcases known with q | q
        · rw [z, q] at e
          cases e
        · rw [z]
          exact q
      · exact off b z
    have modu : Mod K mg (hidT s₁.heap H) := by
      obtain ⟨mc, l1, l2⟩ := nolim
      exact ⟨isK2, space glo, ⟨mb, space bui, boot⟩, ⟨mc, space l1, l2⟩⟩
    have start0 : Env0 P w K mg (hidT s₁.heap H) callerA [] s₁ H := by
      refine ⟨rfl, modu, fun b o e => of_hidT e, Nat.le_of_eq (hidT_size _ _), trivial, fun b hb => ?_, fine, .of_eq nogen⟩
      have hb' : b ∈ ([] : List Addr) := hb
      cases hb'
    have ran := (G _ isK2 (space glo)).does callerA [] s₁ H ⟨[.ref a], []⟩ [.ref a] [.ref a] _ _ rfl room start0 (bd s₁ (.ref a)) (.cons rfl .nil) (told H only sq)
    refine codeAny_mono ran ?_
    rintro (e | (_ | _ | _ | u)) s' h
    · exact (noexc H e s' h).elim
    · exact h.elim
    · exact h.elim
    · exact h.elim
    · obtain ⟨v, H', os, bare, un, fine2, r', q⟩ := h
      obtain rfl : v = .bl true := q
      obtain rfl : u = Value.bool true := r'
      refine ⟨⟨rfl, OldK.of_keep fun b o e => ?_⟩, os, bare⟩
      rcases only b with z | ⟨ob, xs, z⟩
      · refine un.keep b o e z (fun hb => ?_) (by simp)
        have hb' : b ∈ ([] : List Addr) := hb
        cases hb'
      · have z2 := un.frzs b ob _ z
        have e1 := (fine b _ z).1
        have e2 := (fine2 b _ z2).1
        rw [e] at e1
        cases e1
        exact e2
  cases inK : K.lookup a with
  | none =>
    have eqa : ∀ u : HO, (fun b => if b = a then some u else none : Hp) a = some u := fun u => if_pos rfl
    refine main (fun b => if b = a then some (.frz { cls := .type "list", data := .seq vs.toArray } (.lst (ns.map V.int))) else none) (fun b => ?_) (.inl (.inr ⟨_, eqa _⟩)) (fun b u z => ?_) (fun b n => if_neg n) (.inl inK)
    · by_cases hb : b = a
      · rw [hb]
        exact .inr ⟨_, _, eqa _⟩
      · exact .inl (if_neg hb)
    · by_cases hb : b = a
      · subst hb
        cases (eqa _).symm.trans z
        exact ⟨at_a, by rw [List.length_map]; exact few, vs, _, rel, at_a⟩
      · cases (if_neg hb).symm.trans z
  | some o =>
    have e := isK a o inK
    rw [at_a] at e
    cases e
    refine main (fun _ => none) (fun _ => .inl rfl) (.inr ⟨_, vs.toArray, _, inK, rfl, rfl, rfl, ?_, by simpa using rel⟩) (fun b u z => ?_) (fun _ _ => rfl) (.inr rfl)
    · rw [List.size_toArray, cnt]
      exact few
    · have z' : (none : Option HO) = some u := z
      cases z'
theorem walk {l : PySem.W.OpenLaw} {n k : Nat} {q : Program} {loose : List Str} {XP : (Str → Option Value) → Heap → Prop} {YP : World → Heap → Prop} {d : DefRec} {K : Params → PySem.W.Frag} {CX : World → CXT} {sp : World → Sp} {x : Str}
    (most : l.most = some n) (fits : n ≤ sizeLine) (plain : d.params.defaults = []) (room : Room k callerA) (isK : ∀ (w : World) (h : Heap), YP w h → (K w.params).In h)
    (G : ∀ (w : World) (mg : Str → Option Value) (fa : Addr) (h : Heap), (K w.params).In h → h.Ns mainGlobals mg → mg d.name = some (.ref fa) →
      ∃ fd : FuncData, (∀ (s : Shared) (u : Value), BindsTo s fd ⟨[u], []⟩ [(x, u)]) ∧ ∀ ground : Heap, (K w.params).In ground → ground.Ns mainGlobals mg → GFn l.prog w (K w.params) mg ground (CX w) k fa fd [x] (sp w))
    (told : ∀ (w : World) (H : Hp) (a : Addr) (ns : List Int), ns.length ≤ n → Only H → SqL (K w.params) H a (ns.map V.int) → sp w [.ref a] H (fun v _ => v = .bl true) fun _ _ _ => False)
    (noexc : ∀ (w : World) (H : Hp) (s : Shared) (e : Value) (s' : Shared), CX w [] H s (fun _ _ _ => False) e s' → False) :
    PySem.W.WalkO q loose XP YP l.row.toRowW d [] (fun f vs => PySem.call f vs) := by
  apply Att.attach_call most plain
  intro w s₀ s₁ mg mb fa o pm cd doc a vs ns gr Y _ _ _ hmg obj are len nogen
  have kin := isK w _ Y
  obtain ⟨fd, bd, hG⟩ := G w mg fa _ kin gr.T.g hmg
  refine codeAny_mono (enter kin gr.T.g gr.T.b gr.T.builtins gr.T.nolimit nogen obj are (Nat.le_trans len fits) room hG bd (fun H only sq => told w H a ns len only sq) (fun H e s' => noexc w H s₁ e s')) ?_
  rintro r s' ⟨⟨h1, h2⟩, h3, h4⟩
  exact ⟨h1, h2, h3, h4⟩
end
end Gd

/-! ## The drawn trees: data, what carries it, the draws -/
namespace Tr
open PySem L2
def top (i : Nat) : Stmt := PySem.Challenge.pw_countermarch_k06_whole_read_back.main.body.getD i (.Pass ⟨0, 0, 0, 0⟩)
/-! ### tuples of tuples, None, truth values, whole numbers and texts, at any depth -/
mutual
def Tv (K : PySem.W.Frag) (H : Hp) : PyData → V → Prop
  | .none, v => v = .non
  | .bool b, v => v = .bl b
  | .int i, v => v = .int i
  | .str s, v => v = .str s
  | .tuple ds, v => ∃ a xs, v = .ref a ∧ SqT K H a xs ∧ TvL K H ds xs
  | .list _, _ => False
  | .dict _, v => ∃ p ys, v = .ref p ∧ H p = some (.lst ys)
def TvL (K : PySem.W.Frag) (H : Hp) : List PyData → List V → Prop
  | [], vs => vs = []
  | d :: ds, vs => ∃ x xs, vs = x :: xs ∧ Tv K H d x ∧ TvL K H ds xs
end
/-- no tuple is lost -/
structure Carry (K : PySem.W.Frag) (H H' : Hp) : Prop where
  t : ∀ a xs, SqT K H a xs → SqT K H' a xs
  l : ∀ a ys, H a = some (.lst ys) → ∃ zs, H' a = some (.lst zs)
instance {K : PySem.W.Frag} {H H' : Hp} : CoeFun (Carry K H H') (fun _ => ∀ a xs, SqT K H a xs → SqT K H' a xs) := ⟨fun c => c.t⟩
section
variable {K : PySem.W.Frag} {H H' H2 : Hp}
theorem Carry.trans (c : Carry K H H') (e : Carry K H' H2) : Carry K H H2 := ⟨fun a xs h => e.t a xs (c.t a xs h), fun a ys h => by obtain ⟨zs, hz⟩ := c.l a ys h; exact e.l a zs hz⟩
mutual
theorem Tv.carry (c : Carry K H H') : ∀ (d : PyData) (v : V), Tv K H d v → Tv K H' d v
  | .none, _, h => h
  | .bool _, _, h => h
  | .int _, _, h => h
  | .str _, _, h => h
  | .tuple ds, _, h => by
    obtain ⟨a, xs, e, s, l⟩ := h
    exact ⟨a, xs, e, c.t a xs s, TvL.carry c ds xs l⟩
  | .list _, _, h => False.elim h
  | .dict _, _, h => by
    obtain ⟨p, ys, e, hl⟩ := h
    obtain ⟨zs, hz⟩ := c.l p ys hl
    exact ⟨p, zs, e, hz⟩
theorem TvL.carry (c : Carry K H H') : ∀ (ds : List PyData) (vs : List V), TvL K H ds vs → TvL K H' ds vs
  | [], _, h => h
  | d :: ds, _, h => by
    obtain ⟨x, xs, e, t, l⟩ := h
    exact ⟨x, xs, e, Tv.carry c d x t, TvL.carry c ds xs l⟩
end
/-- all but the object at p stands as it stood -/
structure Stays (p : Addr) (H H' : Hp) : Prop where
  o : ∀ b o, b ≠ p → H b = some o → H' b = some o
  l : ∀ xs, H p = some (.lst xs) → ∃ zs, H' p = some (.lst zs)
instance {p : Addr} {H H' : Hp} : CoeFun (Stays p H H') (fun _ => ∀ b o, b ≠ p → H b = some o → H' b = some o) := ⟨fun c => c.o⟩
theorem Stays.refl (p : Addr) (H : Hp) : Stays p H H := ⟨fun _ _ _ h => h, fun xs h => ⟨xs, h⟩⟩
theorem Stays.trans {p : Addr} (s : Stays p H H') (t : Stays p H' H2) : Stays p H H2 := ⟨fun b o n h => t.o b o n (s.o b o n h), fun xs h => by obtain ⟨zs, hz⟩ := s.l xs h; exact t.l zs hz⟩
theorem same_stays {p : Addr} (s : Same H H') : Stays p H H' := ⟨fun b o _ h => s b o h, fun xs h => ⟨xs, s _ _ h⟩⟩
theorem stays_upd {p : Addr} {zs : List V} : Stays p H (upd H p (.lst zs)) := ⟨fun b u n h => by rw [upd_ne n]; exact h, fun xs h => ⟨zs, upd_same⟩⟩
theorem stays_new {p q : Addr} {o : HO} (h : H q = none) : Stays p H (upd H q o) := ⟨fun b u _ e => by rw [upd_ne (ne_of_none e h)]; exact e, fun xs e => ⟨xs, by rw [upd_ne (ne_of_none e h)]; exact e⟩⟩
/-- the counter of the draws -/
def AtL (H : Hp) (p : Addr) : Prop := ∃ j : Int, 0 ≤ j ∧ H p = some (.lst [.int j])
theorem AtL.new {p q : Addr} {o : HO} (h : AtL H p) (n : H q = none) : AtL (upd H q o) p := by
  obtain ⟨j, h0, e⟩ := h
  exact ⟨j, h0, by rw [upd_ne (ne_of_none e n)]; exact e⟩
theorem Stays.carryL {p : Addr} {xs zs : List V} (s : Stays p H H') (e : H p = some (.lst xs)) (e2 : H' p = some (.lst zs)) : Carry K H H' := by
  refine ⟨fun a xs q => ?_, fun a ys h => ?_⟩
  · rcases q with (q | ⟨o, q⟩) | q
    · exact .inl (.inl (s a _ (fun z => by rw [z, e] at q; cases q) q))
    · exact .inl (.inr ⟨o, s a _ (fun z => by rw [z, e] at q; cases q) q⟩)
    · exact .inr q
  · by_cases c : a = p
    · subst c; exact ⟨_, e2⟩
    · exact ⟨ys, s a _ c h⟩
theorem Stays.carry {p : Addr} (s : Stays p H H') (h : AtL H p) : Carry K H H' := by
  obtain ⟨j, _, e⟩ := h
  obtain ⟨zs, e2⟩ := s.l _ e
  exact s.carryL e e2
theorem stays_put {p q : Addr} {o : HO} (s : Stays p H H') (h : H q = none) : Stays p H (upd H' q o) := ⟨fun b u n e => by rw [upd_ne (ne_of_none e h)]; exact s.o b u n e, fun xs e => by
  obtain ⟨zs, hz⟩ := s.l xs e
  exact ⟨zs, by rw [upd_ne (ne_of_none e h)]; exact hz⟩⟩
theorem Stays.list {p a : Addr} {xs : List V} (s : Stays p H H') (n : a ≠ p) (h : SqL K H a xs) : SqL K H' a xs := by
  rcases h with (q | ⟨o, q⟩) | q
  · exact .inl (.inl (s a _ n q))
  · exact .inl (.inr ⟨o, s a _ n q⟩)
  · exact .inr q
theorem same_carry (s : Same H H') : Carry K H H' := by
  refine ⟨fun a xs q => ?_, fun a ys h => ⟨ys, s _ _ h⟩⟩
  rcases q with (q | ⟨o, q⟩) | q
  · exact .inl (.inl (s a _ q))
  · exact .inl (.inr ⟨o, s a _ q⟩)
  · exact .inr q
theorem carry_new {q : Addr} {o : HO} (h : H q = none) : Carry K H (upd H q o) := same_carry fun b u e => by rw [upd_ne (ne_of_none e h)]; exact e
theorem carry_lst {E : Addr} {ys zs : List V} (h : H E = some (.lst ys)) : Carry K H (upd H E (.lst zs)) := Stays.carryL (p := E) stays_upd h upd_same
end
theorem iteT' {c : Bool} {A B : Prop} (h : c = true) (a : A) : if c = true then A else B := by
  rw [if_pos h]
  exact a
theorem iteF' {c : Bool} {A B : Prop} (h : c = false) (b : B) : if c = true then A else B := by
  rw [h, if_neg Bool.false_ne_true]
  exact b
/-- the built-in names that no text of the program's stands before -/
structure Bi (mg : Str → Option Value) : Prop where
  len : mg "len" = none
  int : mg "int" = none
  range : mg "range" = none
  tuple : mg "tuple" = none
  list : mg "list" = none
  str : mg "str" = none
  isinstance : mg "isinstance" = none
  bool : mg "bool" = none
  abs : mg "abs" = none
  max : mg "max" = none
/-- a def of the text as its callers want it -/
structure Cal (P : Program) (w : World) (K : PySem.W.Frag) (mg : Str → Option Value) (base : Heap) (CX : CXT) (k : Nat) (x : Str) (ps : List Str) (sp : Sp) where
  f : Addr
  fd : FuncData
  ok : FnOk P w K mg base CX k f fd ps sp
  b : Binds K fd ps []
  kp : PySem.W.keepIn K (.ref f) = true
  m : mg x = some (.ref f)

end Tr

namespace Tr
open PySem L2
theorem ixT {X : Cx} {K' : PySem.W.Frag} (h : X.K = K') : IxR X (rIxT K') := by
  subst h
  exact ix_tup
theorem notInK {X : Cx} {K' : PySem.W.Frag} (h : X.K = K') : OpR X (compareOp .NotIn) (rIn K' true) := by
  subst h
  exact op_notIn_seq
theorem inK {X : Cx} {K' : PySem.W.Frag} (h : X.K = K') : OpR X (compareOp .In) (rIn K' false) := by
  subst h
  exact op_in_seq
theorem ixL {X : Cx} {K' : PySem.W.Frag} (h : X.K = K') : IxR X (rIxL K') := by
  subst h
  exact ix_list
end Tr

/-! ## Pure code over nested tuples: what an expression, a statement is worth, whatever the heap -/
namespace Pu
open PySem L2 Tr PyProof.Rows
theorem same_refl (H : Hp) : Same H H := fun _ _ h => h
/-- the slots hold these data -/
abbrev Rho := List (Option PyData)
def En (K : PySem.W.Frag) (H : Hp) (σ : L2.St) (ρ : List (Option PyData)) : Prop := σ.length = ρ.length ∧ ∀ (i : Nat) (d : PyData), ρ[i]? = some (some d) → ∃ v, σ[i]? = some (some v) ∧ Tv K H d v

def DE (K : PySem.W.Frag) (te : TE) (ρ : Rho) (d : PyData) : Prop := ∀ σ H (Q : VK), En K H σ ρ → (∀ v H2, Same H H2 → Tv K H2 d v → Q v H2) → te σ H Q
def DA (K : PySem.W.Frag) (ta : TA) (ρ : Rho) (ds : List PyData) : Prop := ∀ σ H (Q : List V → Hp → Prop), En K H σ ρ → (∀ vs H2, Same H H2 → TvL K H2 ds vs → Q vs H2) → ta σ H Q
def DT (K : PySem.W.Frag) (tt : TT) (ρ : Rho) (b : Bool) : Prop := ∀ σ H (Q : Bool → Hp → Prop), En K H σ ρ → (∀ H2, Same H H2 → Q b H2) → tt σ H Q
def DO (K : PySem.W.Frag) (to : TO) (ρ : Rho) (o : Option Int) : Prop := ∀ σ H (Q : Option Int → Hp → Prop), En K H σ ρ → (∀ H2, Same H H2 → Q o H2) → to σ H Q
/-- a block that returns; one that goes on -/
def DR (K : PySem.W.Frag) (ts : TS) (ρ : Rho) (d : PyData) : Prop := ∀ (D : Ends) σ H, En K H σ ρ → (∀ v H2, Same H H2 → Tv K H2 d v → D.rt v H2) → ts D σ H
def DN (K : PySem.W.Frag) (ts : TS) (ρ ρ' : Rho) : Prop := ∀ (D : Ends) σ H, En K H σ ρ → (∀ σ' H2, Same H H2 → En K H2 σ' ρ' → D.nx σ' H2) → ts D σ H
/-- what a call of a def with this promise is worth -/
def PV (K : PySem.W.Frag) (sp : Sp) (ds : List PyData) (d : PyData) : Prop := ∀ vs H (Q : VK) (E : XK), TvL K H ds vs → (∀ v H2, Same H H2 → Tv K H2 d v → Q v H2) → sp vs H Q E
theorem le_ble {a b : Nat} (h : Nat.ble a b = true) : a ≤ b := Nat.le_of_ble_eq_true h
section
variable {K : PySem.W.Frag} {H H' : Hp} {σ : L2.St} {ρ ρ' ρ2 : Rho} {te ta tb : TE} {tl tr : TA} {t u : TT} {x y d e : PyData} {ds es : List PyData} {b c : Bool} {ts tu tz : TS}
theorem En.next (h : En K H σ ρ) (s : Same H H') : En K H' σ ρ := ⟨h.1, fun i d q => by
  obtain ⟨v, h1, h2⟩ := h.2 i d q
  exact ⟨v, h1, h2.carry (same_carry s)⟩⟩
theorem En.put {i : Nat} {v : V} (h : En K H σ ρ) (hv : Tv K H d v) : En K H (σ.set i (some v)) (ρ.set i (some d)) := ⟨by rw [List.length_set, List.length_set]; exact h.1, fun j e q => by
  rw [List.getElem?_set] at q
  rw [List.getElem?_set]
  by_cases c : i = j
  · rw [if_pos c] at q ⊢
    by_cases c2 : i < ρ.length
    · rw [if_pos c2] at q
      cases q
      rw [if_pos (by rw [h.1]; exact c2)]
      exact ⟨v, rfl, hv⟩
    · rw [if_neg c2] at q
      cases q
  · rw [if_neg c] at q ⊢
    exact h.2 j e q⟩
theorem same_put {p : Addr} {o : HO} (h : H p = none) : Same H (upd H p o) := fun b u e => by rw [upd_ne (ne_of_none e h)]; exact e
theorem tvl_len : ∀ {ds : List PyData} {xs : List V}, TvL K H ds xs → xs.length = ds.length
  | [], _, h => by subst h; rfl
  | d :: ds, _, h => by
    obtain ⟨x, xs, rfl, _, l⟩ := h
    rw [List.length_cons, List.length_cons, tvl_len l]
theorem tvl_get : ∀ {ds : List PyData} {xs : List V} {j : Nat} {d : PyData}, TvL K H ds xs → ds[j]? = some d → ∃ x, xs[j]? = some x ∧ Tv K H d x
  | [], _, _, _, _, e => by simp at e
  | d :: ds, _, 0, _, h, e => by
    obtain ⟨x, xs, rfl, t, l⟩ := h
    simp at e
    subst e
    exact ⟨x, rfl, t⟩
  | d :: ds, _, j + 1, e', h, e => by
    obtain ⟨x, xs, rfl, t, l⟩ := h
    obtain ⟨y, h1, h2⟩ := tvl_get (j := j) l (by simpa using e)
    exact ⟨y, by simpa using h1, h2⟩
theorem tvl_drop : ∀ {ds : List PyData} {xs : List V} (n : Nat), TvL K H ds xs → TvL K H (ds.drop n) (xs.drop n)
  | _, _, 0, h => h
  | [], _, n + 1, h => by subst h; rfl
  | d :: ds, _, n + 1, h => by
    obtain ⟨x, xs, rfl, _, l⟩ := h
    exact tvl_drop n l
theorem tvl_take : ∀ {ds : List PyData} {xs : List V} (n : Nat), TvL K H ds xs → TvL K H (ds.take n) (xs.take n)
  | _, _, 0, h => rfl
  | [], _, n + 1, h => by subst h; rfl
  | d :: ds, _, n + 1, h => by
    obtain ⟨x, xs, rfl, t, l⟩ := h
    exact ⟨x, _, rfl, t, tvl_take n l⟩
theorem tvl_app : ∀ {ds es : List PyData} {xs ys : List V}, TvL K H ds xs → TvL K H es ys → TvL K H (ds ++ es) (xs ++ ys)
  | [], _, _, _, h, g => by subst h; exact g
  | d :: ds, _, _, _, h, g => by
    obtain ⟨x, xs, rfl, t, l⟩ := h
    exact ⟨x, _, rfl, t, tvl_app l g⟩
theorem tvl_atI {xs : List V} {i : Int} (l : TvL K H ds xs) (h : atI ds i = some d) : ∃ x, atI xs i = some x ∧ Tv K H d x := by
  unfold atI at h ⊢
  rw [tvl_len l]
  cases e : ixN ds.length i with
  | none => rw [e] at h; cases h
  | some j => rw [e] at h; exact tvl_get l h
/-! ### expressions -/
theorem de_var {i : Nat} (h : ρ[i]? = some (some d)) : DE K (tVar i) ρ d := fun σ H Q en q => by
  obtain ⟨v, h1, h2⟩ := en.2 i d h
  exact ⟨v, h1, q v H (same_refl H) h2⟩
theorem de_int {i : Int} : DE K (tC (.int i)) ρ (.int i) := fun σ H Q en q => q _ H (same_refl H) rfl
theorem de_str {z : Str} : DE K (tC (.str z)) ρ (.str z) := fun σ H Q en q => q _ H (same_refl H) rfl
theorem de_bl : DE K (tC (.bl b)) ρ (.bool b) := fun σ H Q en q => q _ H (same_refl H) rfl
theorem de_non : DE K (tC .non) ρ .none := fun σ H Q en q => q _ H (same_refl H) rfl
theorem da_nil : DA K tNil ρ [] := fun σ H Q en q => q _ H (same_refl H) rfl
theorem da_cons (h : DE K ta ρ d) (hr : DA K tr ρ ds) : DA K (tCons ta tr) ρ (d :: ds) := fun σ H Q en q =>
  h σ H _ en fun v H1 s1 tv => hr σ H1 _ (en.next s1) fun vs H2 s2 tl => q _ H2 (s1.trans s2) ⟨v, vs, rfl, tv.carry (same_carry s2), tl⟩
theorem da_one (h : DE K ta ρ d) : DA K (tCons ta tNil) ρ [d] := da_cons h da_nil
theorem de_tup (h : DA K tl ρ ds) (hl : ds.length ≤ 1000 := by decide) : DE K (tTup tl) ρ (.tuple ds) := fun σ H Q en q =>
  h σ H _ en fun vs H1 s1 tv => ⟨by rw [tvl_len tv]; exact Nat.le_of_lt (small1000 hl), fun p hp => q _ _ (s1.trans (same_put hp)) ⟨p, vs, rfl, SqT.of upd_same, TvL.carry (carry_new hp) _ _ tv⟩⟩
theorem de_ix {i : Int} (ha : DE K ta ρ (.tuple ds)) (hb : DE K tb ρ (.int i)) (h : atI ds i = some d := by rfl) : DE K (tOp (rIxT K) ta tb) ρ d := fun σ H Q en q =>
  ha σ H _ en fun v H1 s1 tv => hb σ H1 _ (en.next s1) fun w H2 s2 tw => by
    obtain ⟨a, xs, rfl, sq, l⟩ := tv.carry (same_carry s2)
    obtain ⟨x, hx, tx⟩ := tvl_atI l h
    have e : w = .int i := tw
    subst e
    exact ⟨a, xs, i, x, rfl, rfl, sq, hx, q x H2 (s1.trans s2) tx⟩
theorem de_cat {fs : List PyData} (ha : DE K ta ρ (.tuple ds)) (hb : DE K tb ρ (.tuple es)) (he : ds ++ es = fs := by rfl) (hl : ds.length + es.length ≤ 1000 := by decide) : DE K (tOp (rCatA K) ta tb) ρ (.tuple fs) := by
  subst he
  exact fun σ H Q en q => ha σ H _ en fun v H1 s1 tv => hb σ H1 _ (en.next s1) fun w H2 s2 tw => by
    obtain ⟨a, xs, rfl, sq, l⟩ := tv.carry (same_carry s2)
    obtain ⟨a2, ys, rfl, sq2, l2⟩ := tw
    refine ⟨a, a2, xs, ys, rfl, rfl, sq, sq2, by rw [tvl_len l, tvl_len l2]; exact Nat.le_of_lt (small1000 hl), fun z => ?_, fun z1 z2 => ?_, fun z1 z2 p hp => ?_⟩
    · refine q _ H2 (s1.trans s2) ⟨a2, ys, rfl, sq2, ?_⟩
      subst z
      have e : ds = [] := by
        have := tvl_len l
        cases ds with
        | nil => rfl
        | cons d r => simp at this
      rw [e]
      exact l2
    · refine q _ H2 (s1.trans s2) ⟨a, xs, rfl, sq, ?_⟩
      subst z2
      have e : es = [] := by
        have := tvl_len l2
        cases es with
        | nil => rfl
        | cons d r => simp at this
      rw [e, List.append_nil]
      exact l
    · exact q _ _ ((s1.trans s2).trans (same_put hp)) ⟨p, _, rfl, SqT.of upd_same, TvL.carry (carry_new hp) _ _ (tvl_app l l2)⟩
theorem do_none : DO K tNoPart ρ none := fun σ H Q en q => q H (same_refl H)
theorem do_some {i : Int} (h : DE K te ρ (.int i)) : DO K (tPart te) ρ (some i) := fun σ H Q en q => h σ H _ en fun v H1 s1 tv => ⟨i, tv, q H1 s1⟩
/-- t[lo:hi] of data -/
def cutD (ds : List PyData) (lo hi : Option Int) : List PyData := (ds.drop (HT.sIx ds.length 0 lo)).take (HT.sIx ds.length ds.length hi - HT.sIx ds.length 0 lo)
theorem de_sl {t1 t2 : TO} {lo hi : Option Int} (h : DE K te ρ (.tuple ds)) (h1 : DO K t1 ρ lo) (h2 : DO K t2 ρ hi) (he : cutD ds lo hi = es := by rfl) : DE K (tSl (rSlA K) te t1 t2) ρ (.tuple es) := fun σ H Q en q =>
  h σ H _ en fun v H1 s1 tv => h1 σ H1 _ (en.next s1) fun H2 s2 => h2 σ H2 _ (en.next (s1.trans s2)) fun H3 s3 => by
    obtain ⟨a, xs, rfl, sq, l⟩ := tv.carry (same_carry (s2.trans s3))
    have e := tvl_len l
    refine ⟨a, xs, rfl, sq, fun z => ?_, fun z p hp => ?_⟩
    · refine q _ H3 ((s1.trans s2).trans s3) ⟨a, xs, rfl, sq, ?_⟩
      rw [← he]
      unfold cutD
      rw [← e, z.1, z.2, List.drop_zero, Nat.sub_zero, e, List.take_length]
      exact l
    · refine q _ _ (((s1.trans s2).trans s3).trans (same_put hp)) ⟨p, _, rfl, SqT.of upd_same, TvL.carry (carry_new hp) _ _ ?_⟩
      rw [← he]
      unfold cutD cutV
      rw [← e]
      exact tvl_take _ (tvl_drop _ l)
/-! ### equality of texts, whole numbers; is None; in a tuple of texts -/
theorem de_eqS {p q : Str} (ha : DE K ta ρ (.str p)) (hb : DE K tb ρ (.str q)) (h : decide (p = q) = b := by first | rfl | decide) : DE K (tOp rEq ta tb) ρ (.bool b) := fun σ H Q en k =>
  ha σ H _ en fun v H1 s1 tv => hb σ H1 _ (en.next s1) fun w H2 s2 tw => by
    have e1 : v = .str p := tv
    have e2 : w = .str q := tw
    subst e1 e2
    refine ⟨rfl, k _ H2 (s1.trans s2) ?_⟩
    show V.bl (decide (V.str p = V.str q)) = .bl b
    rw [← h]
    congr 1
    simp
theorem de_neS {p q : Str} (ha : DE K ta ρ (.str p)) (hb : DE K tb ρ (.str q)) (h : (!decide (p = q)) = b := by first | rfl | decide) : DE K (tOp rNe ta tb) ρ (.bool b) := fun σ H Q en k =>
  ha σ H _ en fun v H1 s1 tv => hb σ H1 _ (en.next s1) fun w H2 s2 tw => by
    have e1 : v = .str p := tv
    have e2 : w = .str q := tw
    subst e1 e2
    refine ⟨rfl, k _ H2 (s1.trans s2) ?_⟩
    show V.bl (!decide (V.str p = V.str q)) = .bl b
    rw [← h]
    congr 2
    simp
theorem dec_V {i j : Int} : decide (V.int i = V.int j) = decide (i = j) := by simp
theorem de_eqI {i j : Int} (ha : DE K ta ρ (.int i)) (hb : DE K tb ρ (.int j)) : DE K (tOp rEq ta tb) ρ (.bool (decide (i = j))) := fun σ H Q en k =>
  ha σ H _ en fun v H1 s1 tv => hb σ H1 _ (en.next s1) fun w H2 s2 tw => by
    have e1 : v = .int i := tv
    have e2 : w = .int j := tw
    subst e1 e2
    exact ⟨rfl, k _ H2 (s1.trans s2) (by rw [dec_V]; rfl)⟩
def isNo : PyData → Bool
  | .none => true
  | _ => false
theorem isNo_tv {v : V} (h : Tv K H d v) : decide (v = .non) = isNo d := by
  cases d with
  | none => cases h; rfl
  | bool b => cases h; rfl
  | int i => cases h; rfl
  | str s => cases h; rfl
  | tuple ds => obtain ⟨a, xs, rfl, _⟩ := h; rfl
  | list ds => exact False.elim h
  | dict ds => obtain ⟨p, ys, rfl, _⟩ := h; rfl
theorem de_isN {r : R2} (hr : ∀ x H Q, Q (V.bl (decide (x = .non))) H → r x .non H Q) (ha : DE K ta ρ d) (h : isNo d = b := by rfl) : DE K (tOp r ta (tC .non)) ρ (.bool b) := fun σ H Q en k =>
  ha σ H _ en fun v H1 s1 tv => hr _ _ _ (k _ H1 s1 (by rw [isNo_tv tv, h]; rfl))
theorem de_notN {r : R2} (hr : ∀ x H Q, Q (V.bl (!decide (x = .non))) H → r x .non H Q) (ha : DE K ta ρ d) (h : (!isNo d) = b := by rfl) : DE K (tOp r ta (tC .non)) ρ (.bool b) := fun σ H Q en k =>
  ha σ H _ en fun v H1 s1 tv => hr _ _ _ (k _ H1 s1 (by rw [isNo_tv tv, h]; rfl))
def strsOf : List PyData → Option (List Str)
  | [] => some []
  | .str z :: r => (strsOf r).map (z :: ·)
  | _ :: _ => none
theorem strs_tv : ∀ {ds : List PyData} {zs : List Str} {xs : List V}, strsOf ds = some zs → TvL K H ds xs → xs = zs.map V.str
  | [], zs, xs, h, l => by
    simp only [strsOf] at h
    cases h
    exact l
  | d :: r, zs, xs, h, l => by
    obtain ⟨x, ys, rfl, tx, l2⟩ := l
    cases d with
    | str z =>
      simp only [strsOf] at h
      cases e : strsOf r with
      | none => rw [e] at h; cases h
      | some ws =>
        rw [e] at h
        cases h
        rw [List.map_cons, ← strs_tv e l2]
        rw [show x = V.str z from tx]
    | none => simp [strsOf] at h
    | bool b => simp [strsOf] at h
    | int i => simp [strsOf] at h
    | tuple ds => simp [strsOf] at h
    | list ds => simp [strsOf] at h
    | dict ds => simp [strsOf] at h
theorem all_flat (zs : List Str) : (zs.map V.str).all flatV = true := by
  induction zs with
  | nil => rfl
  | cons z r ih => rw [List.map_cons, List.all_cons, ih]; rfl
theorem in_strs (z : Str) (zs : List Str) : inV (.str z) (zs.map V.str) = decide (z ∈ zs) := by
  unfold inV
  rw [List.any_map]
  induction zs with
  | nil => rfl
  | cons y r ih =>
    rw [List.any_cons, ih]
    show (eqV (V.str y) (V.str z) || decide (z ∈ r)) = decide (z ∈ y :: r)
    have e : eqV (V.str y) (V.str z) = decide (z = y) := by
      show decide (y = z) = decide (z = y)
      by_cases c : y = z
      · rw [decide_eq_true c, decide_eq_true c.symm]
      · rw [decide_eq_false c, decide_eq_false (fun q => c q.symm)]
    rw [e, ← Bool.decide_or]
    congr 1
    rw [List.mem_cons]
theorem de_in {z : Str} {zs : List Str} (ha : DE K ta ρ (.str z)) (hb : DE K tb ρ (.tuple ds)) (hs : strsOf ds = some zs := by rfl) (h : decide (z ∈ zs) = b := by first | rfl | decide) : DE K (tOp (rIn K false) ta tb) ρ (.bool b) := fun σ H Q en k =>
  ha σ H _ en fun v H1 s1 tv => hb σ H1 _ (en.next s1) fun w H2 s2 tw => by
    have e1 : v = .str z := tv
    subst e1
    obtain ⟨a, xs, rfl, sq, l⟩ := tw
    have e2 := strs_tv hs l
    subst e2
    refine ⟨a, _, rfl, .inr sq, rfl, all_flat zs, ?_⟩
    rw [in_strs, h]
    exact k _ H2 (s1.trans s2) rfl
/-! ### truth -/
theorem dt_test (h : DE K te ρ (.bool b)) : DT K (tTest te) ρ b := fun σ H Q en q => h σ H _ en fun v H1 s1 tv => ⟨b, tv, q H1 s1⟩
theorem dt_B (h : DE K te ρ (.bool b)) : DT K (tB te) ρ b := fun σ H Q en q => h σ H _ en fun v H1 s1 tv => ⟨b, tv, q H1 s1⟩
theorem dt_not (h : DT K t ρ b) : DT K (tNot t) ρ (!b) := fun σ H Q en q => h σ H _ en fun H1 s1 => q H1 s1
theorem dt_notT (h : DT K t ρ false) : DT K (tNot t) ρ true := dt_not h
theorem dt_notF (h : DT K t ρ true) : DT K (tNot t) ρ false := dt_not h
theorem dt_andT (h : DT K t ρ true) (g : DT K u ρ b) : DT K (tAnd t u) ρ b := fun σ H Q en q => h σ H _ en fun H1 s1 => by
  show u σ H1 Q
  exact g σ H1 _ (en.next s1) fun H2 s2 => q H2 (s1.trans s2)
theorem dt_andF (h : DT K t ρ false) : DT K (tAnd t u) ρ false := fun σ H Q en q => h σ H _ en fun H1 s1 => by
  show Q false H1
  exact q H1 s1
theorem dt_orT (h : DT K t ρ true) : DT K (tOr t u) ρ true := fun σ H Q en q => h σ H _ en fun H1 s1 => by
  show Q true H1
  exact q H1 s1
theorem dt_orF (h : DT K t ρ false) (g : DT K u ρ b) : DT K (tOr t u) ρ b := fun σ H Q en q => h σ H _ en fun H1 s1 => by
  show u σ H1 Q
  exact g σ H1 _ (en.next s1) fun H2 s2 => q H2 (s1.trans s2)
theorem de_not (h : DE K ta ρ (.bool b)) : DE K (tNotV ta) ρ (.bool (!b)) := fun σ H Q en q => h σ H _ en fun v H1 s1 tv => ⟨b, tv, q _ H1 s1 rfl⟩
theorem de_andT (h : DE K ta ρ (.bool true)) (g : DE K tb ρ d) : DE K (tAndV ta tb) ρ d := fun σ H Q en q => h σ H _ en fun v H1 s1 tv => ⟨true, tv, by
  show tb σ H1 Q
  exact g σ H1 _ (en.next s1) fun v2 H2 s2 t2 => q v2 H2 (s1.trans s2) t2⟩
theorem de_andF (h : DE K ta ρ (.bool false)) : DE K (tAndV ta tb) ρ (.bool false) := fun σ H Q en q => h σ H _ en fun v H1 s1 tv => ⟨false, tv, by
  show Q (.bl false) H1
  exact q _ H1 s1 rfl⟩
theorem de_orT (h : DE K ta ρ (.bool true)) : DE K (tOrV ta tb) ρ (.bool true) := fun σ H Q en q => h σ H _ en fun v H1 s1 tv => ⟨true, tv, by
  show Q (.bl true) H1
  exact q _ H1 s1 rfl⟩
theorem de_orF (h : DE K ta ρ (.bool false)) (g : DE K tb ρ d) : DE K (tOrV ta tb) ρ d := fun σ H Q en q => h σ H _ en fun v H1 s1 tv => ⟨false, tv, by
  show tb σ H1 Q
  exact g σ H1 _ (en.next s1) fun v2 H2 s2 t2 => q v2 H2 (s1.trans s2) t2⟩
theorem de_ifT (h : DT K t ρ true) (g : DE K ta ρ d) : DE K (tIf t ta tb) ρ d := fun σ H Q en q => h σ H _ en fun H1 s1 => by
  show ta σ H1 Q
  exact g σ H1 _ (en.next s1) fun v2 H2 s2 t2 => q v2 H2 (s1.trans s2) t2
theorem de_ifF (h : DT K t ρ false) (g : DE K tb ρ d) : DE K (tIf t ta tb) ρ d := fun σ H Q en q => h σ H _ en fun H1 s1 => by
  show tb σ H1 Q
  exact g σ H1 _ (en.next s1) fun v2 H2 s2 t2 => q v2 H2 (s1.trans s2) t2
/-! ### calls -/
theorem de_call {sp : Sp} {E : XK} (h : DA K tl ρ ds) (g : PV K sp ds d) : DE K (tCall sp [] E tl) ρ d := fun σ H Q en q => h σ H _ en fun vs H1 s1 tv => by
  show sp (vs ++ []) H1 Q E
  rw [List.append_nil]
  exact g vs H1 Q E tv fun v H2 s2 t2 => q v H2 (s1.trans s2) t2
/-! ### statements -/
theorem dr_ret (h : DE K te ρ d) : DR K (tRet te) ρ d := fun D σ H en q => h σ H _ en q
theorem dr_seq (h : DN K ts ρ ρ') (g : DR K tu ρ' d) : DR K (tSeq ts tu) ρ d := fun D σ H en q => h { D with nx := tu D } σ H en fun σ' H1 s1 en1 => g D σ' H1 en1 fun v H2 s2 t2 => q v H2 (s1.trans s2) t2
theorem dr_stop (h : DR K ts ρ d) : DR K (tSeq ts tu) ρ d := fun D σ H en q => h { D with nx := tu D } σ H en q
theorem dn_seq (h : DN K ts ρ ρ') (g : DN K tu ρ' ρ2) : DN K (tSeq ts tu) ρ ρ2 := fun D σ H en q => h { D with nx := tu D } σ H en fun σ' H1 s1 en1 => g D σ' H1 en1 fun σ2 H2 s2 t2 => q σ2 H2 (s1.trans s2) t2
theorem dn_next : DN K tNext ρ ρ := fun D σ H en q => q σ H (same_refl H) en
theorem dr_ifT (h : DT K t ρ true) (g : DR K ts ρ d) : DR K (tIfS t ts tu) ρ d := fun D σ H en q => h σ H _ en fun H1 s1 => by
  show ts D σ H1
  exact g D σ H1 (en.next s1) fun v H2 s2 t2 => q v H2 (s1.trans s2) t2
theorem dr_ifF (h : DT K t ρ false) (g : DR K tu ρ d) : DR K (tIfS t ts tu) ρ d := fun D σ H en q => h σ H _ en fun H1 s1 => by
  show tu D σ H1
  exact g D σ H1 (en.next s1) fun v H2 s2 t2 => q v H2 (s1.trans s2) t2
theorem dn_ifT (h : DT K t ρ true) (g : DN K ts ρ ρ') : DN K (tIfS t ts tu) ρ ρ' := fun D σ H en q => h σ H _ en fun H1 s1 => by
  show ts D σ H1
  exact g D σ H1 (en.next s1) fun v H2 s2 t2 => q v H2 (s1.trans s2) t2
theorem dn_ifF (h : DT K t ρ false) (g : DN K tu ρ ρ') : DN K (tIfS t ts tu) ρ ρ' := fun D σ H en q => h σ H _ en fun H1 s1 => by
  show tu D σ H1
  exact g D σ H1 (en.next s1) fun v H2 s2 t2 => q v H2 (s1.trans s2) t2
theorem dn_set {i : Nat} (h : DE K te ρ d) : DN K (tAsg te (gName i)) ρ (ρ.set i (some d)) := fun D σ H en q => h σ H _ en fun v H1 s1 tv => q _ H1 s1 ((en.next s1).put tv)
theorem dn_un2 {i j : Nat} (h : DE K te ρ (.tuple [x, y])) : DN K (tAsg te (gTup K 2 (gCons (gName i) (gCons (gName j) gNil)))) ρ ((ρ.set i (some x)).set j (some y)) := fun D σ H en q => h σ H _ en fun v H1 s1 tv => by
  obtain ⟨a, xs, rfl, sq, v1, r1, rfl, t1, v2, r2, rfl, t2, rfl⟩ := tv
  exact ⟨a, _, rfl, sq, rfl, v1, _, rfl, v2, _, rfl, rfl, q _ H1 s1 (((en.next s1).put t1).put t2)⟩
theorem dn_un3 {i j l : Nat} (h : DE K te ρ (.tuple [x, y, d])) : DN K (tAsg te (gTup K 3 (gCons (gName i) (gCons (gName j) (gCons (gName l) gNil))))) ρ (((ρ.set i (some x)).set j (some y)).set l (some d)) := fun D σ H en q => h σ H _ en fun v H1 s1 tv => by
  obtain ⟨a, xs, rfl, sq, v1, r1, rfl, t1, v2, r2, rfl, t2, v3, r3, rfl, t3, rfl⟩ := tv
  exact ⟨a, _, rfl, sq, rfl, v1, _, rfl, v2, _, rfl, v3, _, rfl, rfl, q _ H1 s1 ((((en.next s1).put t1).put t2).put t3)⟩
theorem dr_set {i : Nat} (h : DE K te ρ d) (g : DR K tu (ρ.set i (some d)) e) : DR K (tSeq (tAsg te (gName i)) tu) ρ e := dr_seq (dn_set h) g
theorem dr_un2 {i j : Nat} (h : DE K te ρ (.tuple [x, y])) (g : DR K tu ((ρ.set i (some x)).set j (some y)) e) : DR K (tSeq (tAsg te (gTup K 2 (gCons (gName i) (gCons (gName j) gNil)))) tu) ρ e := dr_seq (dn_un2 h) g
theorem dr_un3 {i j l : Nat} (h : DE K te ρ (.tuple [x, y, d])) (g : DR K tu (((ρ.set i (some x)).set j (some y)).set l (some d)) e) : DR K (tSeq (tAsg te (gTup K 3 (gCons (gName i) (gCons (gName j) (gCons (gName l) gNil))))) tu) ρ e := dr_seq (dn_un3 h) g
theorem dr_whenF (h : DT K t ρ false) (g : DR K tu ρ d) : DR K (tSeq (tIfS t ts tNext) tu) ρ d := dr_seq (dn_ifF h dn_next) g
theorem dr_whenT (h : DT K t ρ true) (g : DR K ts ρ d) : DR K (tSeq (tIfS t ts tz) tu) ρ d := dr_stop (dr_ifT h g)
end
/-- the promise of a def that hands back data: f of the arguments, where dom holds -/
def spP (K : PySem.W.Frag) (n : Nat) (dom : List PyData → PyData → Prop) : Sp := fun vs H Q _ => ∃ (ds : List PyData) (d : PyData), ds.length = n ∧ TvL K H ds vs ∧ dom ds d ∧ ∀ v H2, Same H H2 → Tv K H2 d v → Q v H2
theorem pv_P {K : PySem.W.Frag} {n : Nat} {dom : List PyData → PyData → Prop} {ds : List PyData} {d : PyData} (h : dom ds d) (hn : ds.length = n := by rfl) : PV K (spP K n dom) ds d := fun vs H Q E tv q => ⟨ds, d, hn, tv, h, q⟩
theorem en_start {K : PySem.W.Frag} {H : Hp} : ∀ {ds : List PyData} {vs : List V} {N : List Str}, TvL K H ds vs → ds.length ≤ N.length → En K H (start N vs) (ds.map some ++ List.replicate (N.length - ds.length) none) := by
  intro ds vs N l hl
  have e := tvl_len l
  refine ⟨?_, fun i d q => ?_⟩
  · show (vs.map some ++ List.replicate (N.length - vs.length) none).length = _
    simp [e]
  · show ∃ v, (vs.map some ++ List.replicate (N.length - vs.length) none)[i]? = some (some v) ∧ Tv K H d v
    rw [List.getElem?_append] at q
    rw [List.getElem?_append, List.length_map]
    rw [List.length_map] at q
    by_cases c : i < ds.length
    · rw [if_pos c, List.getElem?_map] at q
      rw [if_pos (by rw [e]; exact c), List.getElem?_map]
      cases e2 : ds[i]? with
      | none => rw [e2] at q; cases q
      | some d' =>
        rw [e2] at q
        cases q
        obtain ⟨x, h1, h2⟩ := tvl_get l e2
        exact ⟨x, by rw [h1]; rfl, h2⟩
    · rw [if_neg c] at q
      rw [List.getElem?_replicate] at q
      split at q <;> cases q
section
variable {P : Program} {w : World} {K : PySem.W.Frag} {mg : Str → Option Value} {base : Heap}
/-- a def whose body is worth what dom says -/
theorem ok_P {x qual : Str} {st : Stmt} {f : Addr} {fd : FuncData} {N ps : List Str} {k : Nat} {dom : List PyData → PyData → Prop} (F : Fun K x qual st f fd) (S : FnScope N ps (defScope st))
    (hN : ps.length ≤ N.length) 
    (body : ∀ (cdv : Value) (A : Around) (outer : List Env) (s : Shared) (H : Hp) (E : XK), Room k (A.deeper (envOfC qual (defScope st) s.heap.objs.size f cdv)) →
      ∃ t, PSs (cxOf CX0 P w K mg base N qual (defScope st) f cdv A outer s H E).nox (defBody st) t ∧ ∀ ds d, ds.length = ps.length → dom ds d → DR K t (ds.map some ++ List.replicate (N.length - ds.length) none) d) :
    FnOk P w K mg base CX0 (k + 1) f fd ps (spP K ps.length dom) := by
  refine F.ok S (fun vs H Q E h => ?_) (fun cdv A outer s H vs Q E hr h => ?_)
  · obtain ⟨ds, d, hl, tl, _⟩ := h
    rw [tvl_len tl, hl]
  · obtain ⟨ds, d, hl, tl, hd, q⟩ := h
    obtain ⟨t, ht, hb⟩ := body cdv A outer s H E hr
    exact ⟨t, ht, hb ds d hl hd _ _ H (en_start tl (by rw [hl]; exact hN)) q⟩
end
end Pu

/-! ### pure data: isinstance, deep equality -/
namespace Pu
open PySem L2 Tr PyProof.Rows
def tyD : PyData → String
  | .none => "NoneType" | .bool _ => "bool" | .int _ => "int" | .str _ => "str" | .tuple _ => "tuple" | .list _ => "list" | .dict _ => "list"
section
variable {K : PySem.W.Frag} {H H' : Hp} {σ : L2.St} {ρ : Rho} {te ta tb : TE} {tl : TA} {d e : PyData} {ds : List PyData} {b : Bool}
theorem tyx_tup {a : Addr} {xs : List V} (h : SqT K H a xs) : TyX K H (.ref a) (.type "tuple") := by
  rcases h with (h | ⟨o, h⟩) | ⟨o, its, n, h, c, _⟩
  · exact .base (.tup h)
  · exact .fTuple h
  · exact .kTuple h c
theorem tyx_tv {v : V} (h : Tv K H d v) : TyX K H v (.type (tyD d)) := by
  cases d with
  | none => cases h; exact .base .non
  | bool b => cases h; exact .base (.bl b)
  | int i => cases h; exact .base (.int i)
  | str s => cases h; exact .base (.str s)
  | tuple ds => obtain ⟨a, xs, rfl, s, _⟩ := h; exact tyx_tup s
  | list ds => exact False.elim h
  | dict ds => obtain ⟨p, ys, rfl, e⟩ := h; exact .base (.lst e)
theorem de_isi {n : String} (ha : DE K ta ρ d) (h : kitB (tyD d) n = some b := by decide +kernel) : DE K (tCB (rIsi K) (tCons ta (tCons (tC (.ty n)) tNil))) ρ (.bool b) := fun σ H Q en k =>
  ha σ H _ en fun v H1 s1 tv => ⟨v, .ty n, .type (tyD d), .type n, b, rfl, .ty n, tyx_tv tv, kit_ty h, k _ H1 s1 rfl⟩
mutual
theorem dp_tv : ∀ (d : PyData) (v : V), PyData.canLay0 d = true → Tv K H d v → Dp K H v d
  | .none, v, _, h => by cases h; exact .non
  | .bool b, v, _, h => by cases h; exact .bl b
  | .int i, v, _, h => by cases h; exact .int i
  | .str s, v, _, h => by cases h; exact .str s
  | .tuple ds, v, c, h => by
    obtain ⟨a, xs, rfl, s, l⟩ := h
    exact .tup s (dps_tv ds xs c l)
  | .list ds, v, _, h => False.elim h
  | .dict ds, v, c, h => by cases c
theorem dps_tv : ∀ (ds : List PyData) (vs : List V), PyData.canLayAll0 ds = true → TvL K H ds vs → DpAll K H vs ds
  | [], vs, _, h => by cases h; exact .nil
  | d :: ds, vs, c, h => by
    obtain ⟨x, xs, rfl, t, l⟩ := h
    have c' : (PyData.canLay0 d && PyData.canLayAll0 ds) = true := c
    rw [Bool.and_eq_true] at c'
    exact .cons (dp_tv d x c'.1 t) (dps_tv ds xs c'.2 l)
end
/-- shaped data: no dict, texts are texts, of this depth at most -/
def Sh (n : Nat) (d : PyData) : Prop := d.canLay0 = true ∧ d.depth ≤ n
def ShL (n : Nat) (ds : List PyData) : Prop := PyData.canLayAll0 ds = true ∧ PyData.depthAll ds ≤ n
theorem Sh.mono {n m : Nat} (h : Sh n d) (l : n ≤ m) : Sh m d := ⟨h.1, Nat.le_trans h.2 l⟩
theorem sh_nil {n : Nat} : ShL n [] := ⟨rfl, Nat.zero_le _⟩
theorem sh_cons {n : Nat} (h : Sh n d) (g : ShL n ds) : ShL n (d :: ds) := ⟨by show (d.canLay0 && PyData.canLayAll0 ds) = true; rw [h.1, g.1]; rfl, Nat.max_le.mpr ⟨h.2, g.2⟩⟩
theorem sh_tup {n : Nat} (h : ShL n ds) : Sh (n + 1) (.tuple ds) := ⟨h.1, Nat.succ_le_succ h.2⟩
theorem sh_int {n : Nat} {i : Int} : Sh n (.int i) := ⟨rfl, Nat.zero_le _⟩
theorem sh_non {n : Nat} : Sh n .none := ⟨rfl, Nat.zero_le _⟩
theorem sh_bl {n : Nat} : Sh n (.bool b) := ⟨rfl, Nat.zero_le _⟩
theorem sh_str {n : Nat} {s : Str} (h : PyData.strOk s = true) : Sh n (.str s) := ⟨h, Nat.zero_le _⟩
theorem Sh.shaped {n : Nat} (h : Sh n d) (l : n ≤ 64) : SeqAt.shaped d = true := by
  unfold SeqAt.shaped
  rw [h.1, decide_eq_true (Nat.le_trans h.2 l)]
  rfl
/-- two reads of one shaped value are equal -/
theorem same_data {x y : V} {n : Nat} {Q : VK} (hx : Tv K H d x) (hy : Tv K H d y) (h : Sh n d) (l : n ≤ 64) (q : Q (.bl true) H) : rEqD K x y H Q :=
  ⟨d, d, dp_tv d x h.1 hx, dp_tv d y h.1 hy, h.shaped l, h.shaped l, by rw [SeqAt.eqv_refl d h.1]; exact q⟩
theorem same_dataN {x y : V} {n : Nat} {Q : VK} (hx : Tv K H d x) (hy : Tv K H d y) (h : Sh n d) (l : n ≤ 64) (q : Q (.bl false) H) : rNeD K x y H Q :=
  ⟨d, d, dp_tv d x h.1 hx, dp_tv d y h.1 hy, h.shaped l, h.shaped l, by rw [SeqAt.eqv_refl d h.1]; exact q⟩
end
end Pu

/-! ### pure data: whole numbers, lengths, truth -/
namespace Pu
open PySem L2 Tr PyProof.Rows
section
variable {K : PySem.W.Frag} {H H' : Hp} {σ : L2.St} {ρ : Rho} {te ta tb tc : TE} {tl : TA} {t u : TT} {d e : PyData} {ds : List PyData} {b c : Bool} {ts tu : TS}
theorem de_cmpI {p : Int → Int → Bool} {i j : Int} (ha : DE K ta ρ (.int i)) (hb : DE K tb ρ (.int j)) : DE K (tOp (rI0 fun i j => .bl (p i j)) ta tb) ρ (.bool (p i j)) := fun σ H Q en k =>
  ha σ H _ en fun v H1 s1 tv => hb σ H1 _ (en.next s1) fun w H2 s2 tw => ⟨i, j, tv, tw, k _ H2 (s1.trans s2) rfl⟩
theorem de_opI {g : Int → Int → Int} {i j : Int} (ha : DE K ta ρ (.int i)) (hb : DE K tb ρ (.int j)) : DE K (tOp (rI0 fun i j => .int (g i j)) ta tb) ρ (.int (g i j)) := fun σ H Q en k =>
  ha σ H _ en fun v H1 s1 tv => hb σ H1 _ (en.next s1) fun w H2 s2 tw => ⟨i, j, tv, tw, k _ H2 (s1.trans s2) rfl⟩
theorem de_chain {p q : Int → Int → Bool} {i j l : Int} (ha : DE K ta ρ (.int i)) (hb : DE K tb ρ (.int j)) (hc : DE K tc ρ (.int l)) :
    DE K (tChain (rI0 fun i j => .bl (p i j)) (rI0 fun i j => .bl (q i j)) ta tb tc) ρ (.bool (p i j && q j l)) := fun σ H Q en k =>
  ha σ H _ en fun v H1 s1 tv => hb σ H1 _ (en.next s1) fun w H2 s2 tw => ⟨i, j, tv, tw, p i j, rfl, by
    cases hp : p i j with
    | true =>
      show tc σ H2 _
      exact hc σ H2 _ (en.next (s1.trans s2)) fun z H3 s3 tz => ⟨j, l, tw, tz, k _ H3 ((s1.trans s2).trans s3) (by rw [hp]; rfl)⟩
    | false =>
      show Q (.bl false) H2
      exact k _ H2 (s1.trans s2) (by rw [hp]; rfl)⟩
/-- and, or: the second part where it is asked for -/
theorem de_and {x y : Bool} (h : DE K ta ρ (.bool x)) (g : x = true → DE K tb ρ (.bool y)) : DE K (tAndV ta tb) ρ (.bool (x && y)) := by
  cases x with
  | true => exact de_andT h (g rfl)
  | false => exact de_andF h
theorem de_or {x y : Bool} (h : DE K ta ρ (.bool x)) (g : x = false → DE K tb ρ (.bool y)) : DE K (tOrV ta tb) ρ (.bool (x || y)) := by
  cases x with
  | true => exact de_orT h
  | false => exact de_orF h (g rfl)
theorem dt_and {x y : Bool} (h : DT K t ρ x) (g : x = true → DT K u ρ y) : DT K (tAnd t u) ρ (x && y) := by
  cases x with
  | true => exact dt_andT h (g rfl)
  | false => exact dt_andF h
theorem dt_or {x y : Bool} (h : DT K t ρ x) (g : x = false → DT K u ρ y) : DT K (tOr t u) ρ (x || y) := by
  cases x with
  | true => exact dt_orT h
  | false => exact dt_orF h (g rfl)
theorem de_lenT {r : List V → Hp → VK → Prop} (hr : ∀ p ys H (Q : VK), SqT K H p ys → Q (.int ys.length) H → r [.ref p] H Q) (ha : DE K ta ρ (.tuple ds)) : DE K (tCB r (tCons ta tNil)) ρ (.int ds.length) := fun σ H Q en k =>
  ha σ H _ en fun v H1 s1 tv => by
    obtain ⟨a, xs, rfl, sq, l⟩ := tv
    refine hr a xs H1 Q sq ?_
    rw [tvl_len l]
    exact k _ H1 s1 rfl
/-- what a value counts for in a test -/
def truD : PyData → Bool
  | .none => false | .bool b => b | .int i => i != 0 | .str z => z.length != 0 | .tuple ds => ds.length != 0 | _ => false
theorem dt_truT (ha : DE K ta ρ (.tuple ds)) : DT K (fun σ H Q => ta σ H fun x H' => ∃ k, TruV K x H' k ∧ Q k H') ρ (!ds.isEmpty) := fun σ H Q en q =>
  ha σ H _ en fun v H1 s1 tv => by
    obtain ⟨a, xs, rfl, sq, l⟩ := tv
    refine ⟨!xs.isEmpty, .inr (.inl ⟨xs, sq, rfl⟩), ?_⟩
    have e : xs.isEmpty = ds.isEmpty := by
      have := tvl_len l
      cases xs <;> cases ds <;> first | rfl | simp at this
    rw [e]
    exact q H1 s1
theorem dr_when {x : Bool} (h : DT K t ρ x) (g1 : x = true → DR K ts ρ d) (g2 : x = false → DR K tu ρ d) : DR K (tSeq (tIfS t ts tNext) tu) ρ d := by
  cases x with
  | true => exact dr_whenT h (g1 rfl)
  | false => exact dr_whenF h (g2 rfl)
end
section
variable {X : Cx}
theorem ps_dead {st : Stmt} : PS X st (fun _ _ _ => False) := ⟨fun _ _ _ _ _ _ h => h.elim⟩
theorem pss_dead {sts : List Stmt} : PSs X sts (fun _ _ _ => False) := ⟨fun _ _ _ _ _ _ h => h.elim⟩
theorem passE0 {P : Program} {w : World} (h : X.prog = P) (h2 : X.w = w) : Passes (L2.CX P w) X (fun _ _ _ => False) := fun pins σ H s e s' I h => by
  obtain ⟨_, _, _, _, _, _, _, _, _, _, _, _, hE⟩ := h
  exact hE.elim
end
end Pu

/-! ### pure data: equality and membership of flat values -/
namespace Pu
open PySem L2 Tr PyProof.Rows
def flatD : PyData → Bool
  | .none | .bool _ | .int _ | .str _ => true
  | _ => false
def isStr (x : PyData) (q : Str) : Bool :=
  match x with
  | .str z => decide (z = q)
  | _ => false
def inStr (x : PyData) (zs : List Str) : Bool :=
  match x with
  | .str z => decide (z ∈ zs)
  | _ => false
section
variable {K : PySem.W.Frag} {H H' : Hp} {σ : L2.St} {ρ : Rho} {te ta tb tc : TE} {tl : TA} {t u : TT} {d e x : PyData} {ds : List PyData} {b c : Bool} {ts tu : TS}
theorem flat_tv {v : V} (h : Tv K H x v) (f : flatD x = true) (q : Str) : flatV v = true ∧ scal v (.str q) = true ∧ decide (v = V.str q) = isStr x q ∧ ∀ zs : List Str, inV v (zs.map V.str) = inStr x zs := by
  cases x with
  | none =>
    cases h
    refine ⟨rfl, rfl, rfl, fun zs => ?_⟩
    induction zs with
    | nil => rfl
    | cons z r ih => exact ih
  | bool b =>
    cases h
    refine ⟨rfl, rfl, rfl, fun zs => ?_⟩
    induction zs with
    | nil => rfl
    | cons z r ih => exact ih
  | int i =>
    cases h
    refine ⟨rfl, rfl, rfl, fun zs => ?_⟩
    induction zs with
    | nil => rfl
    | cons z r ih => exact ih
  | str s =>
    cases h
    refine ⟨rfl, rfl, ?_, fun zs => in_strs s zs⟩
    show decide (V.str s = V.str q) = decide (s = q)
    simp
  | tuple l => cases f
  | list l => cases f
  | dict l => cases f
theorem de_of (h : d = e) (g : DE K te ρ d) : DE K te ρ e := h ▸ g
theorem de_neI {i j : Int} (ha : DE K ta ρ (.int i)) (hb : DE K tb ρ (.int j)) : DE K (tOp rNe ta tb) ρ (.bool (!decide (i = j))) := fun σ H Q en k =>
  ha σ H _ en fun v H1 s1 tv => hb σ H1 _ (en.next s1) fun w H2 s2 tw => by
    have e1 : v = .int i := tv
    have e2 : w = .int j := tw
    subst e1 e2
    exact ⟨rfl, k _ H2 (s1.trans s2) (by rw [dec_V]; rfl)⟩
theorem de_eqX {q : Str} (ha : DE K ta ρ x) (hb : DE K tb ρ (.str q)) (f : flatD x = true) : DE K (tOp rEq ta tb) ρ (.bool (isStr x q)) := fun σ H Q en k =>
  ha σ H _ en fun v H1 s1 tv => hb σ H1 _ (en.next s1) fun w H2 s2 tw => by
    have e2 : w = .str q := tw
    subst e2
    obtain ⟨_, h2, h3, _⟩ := flat_tv (tv.carry (same_carry s2)) f q
    refine ⟨h2, k _ H2 (s1.trans s2) ?_⟩
    rw [h3]
    rfl
theorem de_inX {zs : List Str} (ha : DE K ta ρ x) (hb : DE K tb ρ (.tuple ds)) (hs : strsOf ds = some zs) (f : flatD x = true) : DE K (tOp (rIn K false) ta tb) ρ (.bool (inStr x zs)) := fun σ H Q en k =>
  ha σ H _ en fun v H1 s1 tv => hb σ H1 _ (en.next s1) fun w H2 s2 tw => by
    obtain ⟨a, xs, rfl, sq, l⟩ := tw
    have e2 := strs_tv hs l
    subst e2
    obtain ⟨h1, _, _, h4⟩ := flat_tv (tv.carry (same_carry s2)) f ""
    refine ⟨a, _, rfl, .inr sq, h1, all_flat zs, ?_⟩
    show Q (.bl (inV v (zs.map V.str))) H2
    rw [h4]
    exact k _ H2 (s1.trans s2) rfl
theorem de_ninX {zs : List Str} (ha : DE K ta ρ x) (hb : DE K tb ρ (.tuple ds)) (hs : strsOf ds = some zs) (f : flatD x = true) : DE K (tOp (rIn K true) ta tb) ρ (.bool (!inStr x zs)) := fun σ H Q en k =>
  ha σ H _ en fun v H1 s1 tv => hb σ H1 _ (en.next s1) fun w H2 s2 tw => by
    obtain ⟨a, xs, rfl, sq, l⟩ := tw
    have e2 := strs_tv hs l
    subst e2
    obtain ⟨h1, _, _, h4⟩ := flat_tv (tv.carry (same_carry s2)) f ""
    refine ⟨a, _, rfl, .inr sq, h1, all_flat zs, ?_⟩
    show Q (.bl (!inV v (zs.map V.str))) H2
    rw [h4]
    exact k _ H2 (s1.trans s2) rfl
end
end Pu

/-! ## enumerate of a tuple -/
namespace Et
open PySem PySem.Spec PyProof.Rows L2
set_option maxHeartbeats 1000000 in
theorem meets_new1 {v : Value} {o : Obj} {H : Heap → Prop} (B : Begins v o H) :
    Meets (Builtin.«enumerate.__new__» ⟨[.type "enumerate", v], []⟩) (fun _ R s => H s.heap ∧
      R (.ok (.ret (.ref (s.heap.push o).objs.size))) { s with heap := (s.heap.push o).push { cls := .type "enumerate", data := .fields #[.none, .bool false, .ref s.heap.objs.size, rawInt 0, .none, .none] } }) :=
  .of_wp fun prog w A R s h => by
    obtain ⟨hp, g, d, tk, os⟩ := s; obtain ⟨h1, h⟩ := h
    have hsub := sub_enumerate
    have q1 : ∀ {A' : Around} {E : Value → Shared → Prop} {Q : Value → Shared → Prop}, Q (.ref hp.objs.size) ⟨hp.push o, g, d, tk, os⟩ → wpAny (model prog w) A' (pyIter v) Q E ⟨hp, g, d, tk, os⟩ :=
      fun q => B.iter prog w _ _ ⟨hp, g, d, tk, os⟩ _ h1 q
    wp_walk using q1
    refine wpAny_stack_any fun st => wpAny_pure ?_
    split
    · rename_i c _ _ _ _ _
      cases (c == Value.type "enumerate")
      · wp_walk using q1
        exact ⟨_, rfl, h⟩
      · wp_walk using q1
        exact ⟨_, rfl, h⟩
    · wp_walk using q1
      exact ⟨_, rfl, h⟩
section
variable {prog : Program} {w : World} {A : Around} {E : Value → Shared → Prop} {s : Shared}
theorem call_enum1 {v : Value} {o : Obj} {H : Heap → Prop} {Q : Value → Shared → Prop} (B : Begins v o H) (h1 : H s.heap)
    (h : ∀ h', IsEnum h' (s.heap.objs.size + 1) s.heap.objs.size 0 .none → h'.get? s.heap.objs.size = some o → h'.objs.size = s.heap.objs.size + 2 →
      (∀ b o, s.heap.get? b = some o → h'.get? b = some o) → Q (.ref (s.heap.objs.size + 1)) { s with heap := h' }) :
    wpAny (model prog w) A (call (.type "enumerate") [v]) Q E s := by
  refine callType_new F.called_enumerate (by decide) (F.typeCall_enumerate_1 _) (F.newCall_enumerate_1 _) (fun obj => F.args_object_init_2 obj _) F.entry_enumerate_new
    (meets_new1 B) ⟨h1, ?_⟩
  have hz : (s.heap.push o).objs.size = s.heap.objs.size + 1 := Heap.size_push ..
  show _ ∧ _
  rw [hz]
  have he : IsEnum ((s.heap.push o).push { cls := .type "enumerate", data := .fields #[.none, .bool false, .ref s.heap.objs.size, rawInt 0, .none, .none] }) (s.heap.objs.size + 1) s.heap.objs.size 0 .none := by
    have := Heap.get?_push_size (s.heap.push o) (o := { cls := .type "enumerate", data := .fields #[.none, .bool false, .ref s.heap.objs.size, rawInt 0, .none, .none] }) rfl
    rw [hz] at this; exact this
  refine ⟨⟨_, he, rfl⟩, h _ he (Heap.get?_push_of_some _ (Heap.get?_push_size _ B.free)) (by rw [Heap.size_push, hz]) fun b o x => Heap.get?_push_of_some _ (Heap.get?_push_of_some _ x)⟩
theorem draws_tup (hh : A.handled = none) (it l : Addr) (hne : l ≠ it) (items : Array Value) :
    Draws prog w A it [it, l] items.size (fun i v => items[i]? = some v) (fun i h => h.IsTupleIter it l i ∧ h.IsTuple l items) where
  live := fun _ _ x => let ⟨o, ho, _⟩ := x.1; ⟨o, ho⟩
  frame := fun _ _ _ x k => ⟨x.1.at fun o e => k it (List.mem_cons_self ..) o e, x.2.at fun o e => k l (List.mem_cons_of_mem _ (List.mem_cons_self ..)) o e⟩
  item := fun i s Q E hi x k => RZ.nextOf_tuple_item x.1 x.2 (x := items[i]) (by simp [hi]) fun h' y c => k _ h' s.toks (by simp [hi]) ⟨y, x.2.extBut c.extBut hne⟩ c
  done := fun s Q E x k => RZ.nextOf_tuple_end hh x.1 x.2 (by simp) k
end
def Iut (K : PySem.W.Frag) (a : Addr) (xs : List V) : It :=
  ⟨fun i H => SqT K H a xs ∧ i < xs.length, fun i H v H' => ∃ T x, v = .ref T ∧ H T = none ∧ H' = upd H T (.tup [.int (i : Nat), x]) ∧ xs[i]? = some x, fun i H => SqT K H a xs ∧ xs.length ≤ i⟩
theorem tup_is {h : Heap} {a : Addr} {its : Array Value} (t : IsTup h a its) : h.IsTuple a its := let ⟨o, e, c, n, d⟩ := t; ⟨o, e, c, n, d⟩
theorem turn_enumT {P : Program} {w : World} {K : PySem.W.Frag} {elts : List Expr} {kk : Nat} {tpos : Pos} (a e it : Addr) (xs : List V) :
    Turn P w K (.Tuple elts kk tpos) (Iut K a xs) [e, it] e (fun i h => (∃ old, IsEnum h e it ((i : Nat) : Int) old) ∧ h.IsTupleIter it a i ∧ e ≠ it ∧ e ≠ a ∧ a ≠ it ∧ i ≤ xs.length) where
  mem := by simp
  obj := fun i h st b hb => by
    obtain ⟨⟨old, he⟩, ⟨o, ho, hc, hd⟩, _⟩ := st
    have e' : b = e ∨ b = it := by simpa using hb
    rcases e' with z | z
    · rw [z]; exact ⟨_, he, fun v q => nomatch q⟩
    · rw [z]; exact ⟨o, ho, fun v q => by rw [hd] at q; cases q⟩
  keep := fun i h h' st k => let ⟨⟨old, he⟩, hi, r⟩ := st; ⟨⟨old, k e (by simp) _ he⟩, hi.at fun o q => k it (by simp) o q, r⟩
  item := by
    intro X hP hw hK hc i pins s σ H E I hf st hg
    subst hP hw hK
    obtain ⟨⟨old, he⟩, hit, hne, hea, hai, _⟩ := st
    obtain ⟨hq, hlt⟩ := hg
    obtain ⟨its, rv, p, hz⟩ := I.tuple hq
    have hel : e < s.heap.objs.size := Heap.lt_size he
    have hil : it < s.heap.objs.size := by obtain ⟨_, q, _⟩ := hit; exact Heap.lt_size q
    have hn : its.toArray.size = xs.length := by simp [rv.length]
    refine wpAny_pyNext_enum_itemD (D := draws_tup (A := X.A.in1) (I.ok.hd hc) it a hai its.toArray) he ⟨hit, tup_is p⟩ (by omega) hne (by simp [hne, hea]) fun v h' tk hv ho hit' hT hsz hk => ?_
    obtain ⟨x, hx, ru⟩ : ∃ x, xs[i]? = some x ∧ RelV x v := by
      obtain ⟨u, h1, h2⟩ := rv.get (List.getElem?_eq_getElem hlt)
      have : u = v := by
        have hv' : its[i]? = some v := by simpa using hv
        rw [h1] at hv'
        exact Option.some.inj hv'
      subst this
      exact ⟨_, List.getElem?_eq_getElem hlt, h2⟩
    refine ⟨_, rfl, wpAny_letOwnedTupleGo_enum (s := { s with heap := h', toks := tk + 1 }) ho fun h'' he' sb => ?_⟩
    have hT2 : h''.get? s.heap.objs.size = some { cls := .type "tuple", data := .seq #[.int i tk, v] } := (sb.2 _ (Nat.ne_of_gt hel)).trans hT
    have new : ObjOk X.prog X.w (upd H s.heap.objs.size (.tup [.int (i : Nat), x])) h'' s.heap.objs.size (.tup [.int (i : Nat), x]) :=
      ⟨by show 2 ≤ sizeLine; decide, [.int i tk, v], .cons ⟨_, rfl⟩ (.cons ru .nil), ⟨_, hT2, rfl, _, rfl⟩⟩
    have I1 : Inv X pins σ (upd H s.heap.objs.size (.tup [.int (i : Nat), x])) { s with heap := h'', toks := tk + 1 } :=
      I.turnedNew (ch := [e, it]) (fun b ob hb q => (sb.2 b (fun z => hb (by simp [z]))).trans (hk b ob (fun z => hb (by simp [z])) (fun z => hb (by simp [z])) q)) hf (Nat.le_refl _) new
    refine ⟨.ref s.heap.objs.size, _, I1, rfl, ⟨_, x, rfl, I.hok.fresh (Nat.le_refl _), rfl, hx⟩, ⟨⟨v, ?_⟩, hit'.1.at fun o q => (sb.2 it (Ne.symm hne)).trans q, hne, hea, hai, hlt⟩, fun b hb => ?_⟩
    · have e1 : ((i + 1 : Nat) : Int) = (i : Int) + 1 := by omega
      rw [e1]; exact he'
    · have hb' : b < s.heap.objs.size := by
        have e' : b = e ∨ b = it := by simpa using hb
        rcases e' with z | z
        · rw [z]; exact hel
        · rw [z]; exact hil
      rw [upd_ne (Nat.ne_of_lt hb')]
      exact (hf b hb).1
  done := by
    intro X hP hw hK hc i pins s σ H E I hf st hg
    subst hP hw hK
    obtain ⟨⟨old, he⟩, hit, hne, hea, hai, hi⟩ := st
    obtain ⟨hq, hle⟩ := hg
    obtain ⟨its, rv, p, hz⟩ := I.tuple hq
    have hn : its.toArray.size = xs.length := by simp [rv.length]
    have ei : i = its.toArray.size := by omega
    obtain ⟨f0, f1, f2, f3, f4, f5⟩ := hf it (by simp)
    rw [ei] at hit he
    exact wpAny_pyNext_enum_endD (D := draws_tup (A := X.A.in1) (I.ok.hd hc) it a hai its.toArray) he ⟨hit, tup_is p⟩ fun h' eb => ⟨rfl, I.turned (t' := s.toks) (fun b o hb q => eb b o hb q) f0 f1 f3 f4 f5⟩
  self := fun A i s Q E st h => let ⟨⟨_, he⟩, _⟩ := st; wpAny_pyIter_enum he h
def iEnumT (K : PySem.W.Frag) (ta : TA) : TI := fun σ H R => ta σ H fun vs H1 => ∃ a xs, vs = [.ref a] ∧ SqT K H1 a xs ∧ R (Iut K a xs) H1
theorem pi_enumT {X : Cx} {e : Expr} {ta : TA} {p pos tpos : Pos} {elts : List Expr} {kk : Nat} (hg : Gl X "enumerate") (hm : X.mg "enumerate" = none) (ha : PA X [e] ta) (hs : starEach [e] X.env = [(false, eval e X.env)] := by rfl) :
    PI X (.Tuple elts kk tpos) (.Call (.Name "enumerate" p) [e] [] pos) (iEnumT X.K ta) := by
  refine ⟨fun pins s σ H R I h => ?_⟩
  refine Call_ (ld_blt I hg hm boot_enumerate (PyProof.Rows.callWith_type1 (thn (ha.run pos pins s σ H _ I h) fun us s1 ⟨vs, H1, I1, r1, q1⟩ => ?_) hs rfl))
  obtain ⟨a, xs, ex, hq, q⟩ := q1
  subst ex
  cases r1 with
  | cons r rr =>
    cases rr
    cases r
    obtain ⟨its, rv, p', hz⟩ := I1.tuple hq
    have la : a < s1.heap.objs.size := by obtain ⟨o, e, _⟩ := p'; exact Heap.lt_size e
    refine call_enum1 (begins_tuple a its.toArray) (tup_is p') fun h' he hit hsz hk => wpAny_pyIter_enum he ?_
    have I2 : Inv X pins σ H1 { s1 with heap := h' } := I1.kept (t' := s1.toks) hk
    refine ⟨s1.heap.objs.size + 1, [s1.heap.objs.size + 1, s1.heap.objs.size], _, _, H1, rfl, I2, turn_enumT a (s1.heap.objs.size + 1) s1.heap.objs.size xs, ⟨⟨.none, he⟩, ⟨_, hit, rfl, rfl⟩, Nat.succ_ne_self _, Nat.ne_of_gt (Nat.lt_succ_of_lt la), Nat.ne_of_lt la, Nat.zero_le _⟩, fun b hb => ?_, q⟩
    have e' : b = s1.heap.objs.size + 1 ∨ b = s1.heap.objs.size := by simpa using hb
    have hle : s1.heap.objs.size ≤ b := by
      rcases e' with z | z
      · rw [z]; exact Nat.le_add_right _ _
      · rw [z]; exact Nat.le_refl _
    exact I1.fpOk hle (I1.hok.fresh hle)
/-- a loop over the places and items of a tuple -/
theorem for_enumT {K : PySem.W.Frag} {a : Addr} {xs : List V} {g : TG} {tb : TS} {D : Ends} {σ : L2.St} {H : Hp} (Pv : Nat → L2.St → Hp → Prop) (h0 : Pv 0 σ H) (hl : ∀ i σ H, i ≤ xs.length → Pv i σ H → SqT K H a xs)
    (hb : ∀ (i : Nat) (x : V) (σ : L2.St) (H : Hp) (T : Addr), xs[i]? = some x → H T = none → Pv i σ H → g (.ref T) σ (upd H T (.tup [.int (i : Nat), x])) fun σ2 H2 => tb { D with nx := Pv (i + 1), ct := Pv (i + 1), bk := D.nx } σ2 H2)
    (hd : ∀ σ H, Pv xs.length σ H → D.nx σ H) :
    ∃ W : Nat → Nat → L2.St → Hp → Prop, (∃ m, W 0 m σ H) ∧ ∀ i m σ H, W i m σ H →
      ((Iut K a xs).stop i H ∧ D.nx σ H) ∨ ((Iut K a xs).go i H ∧ ∃ N : L2.St → Hp → Prop, (∀ σ' H', N σ' H' → ∃ m', m' < m ∧ W (i + 1) m' σ' H') ∧ ∀ v H', (Iut K a xs).yld i H v H' → g v σ H' fun σ2 H2 => tb { D with nx := N, ct := N, bk := D.nx } σ2 H2) := by
  refine ⟨fun i m σ H => m = xs.length - i ∧ i ≤ xs.length ∧ Pv i σ H, ⟨xs.length, by simp, Nat.zero_le _, h0⟩, ?_⟩
  rintro i m σ H ⟨rfl, hi, p⟩
  by_cases hlt : i < xs.length
  · refine .inr ⟨⟨hl i σ H hi p, hlt⟩, Pv (i + 1), fun σ' H' p' => ⟨xs.length - (i + 1), by omega, rfl, hlt, p'⟩, fun v H' y => ?_⟩
    obtain ⟨T, x, rfl, hT, rfl, hx⟩ := y
    exact hb i x σ H T hx hT p
  · have e : i = xs.length := by omega
    subst e
    exact .inl ⟨⟨hl _ σ H hi p, Nat.le_refl _⟩, hd σ H p⟩
end Et

/-! ## An own error's __init__ that begins with super().__init__(..), as a def of the hand layer -/
namespace Su
open PySem PySem.Spec PyProof.Rows L2
section
variable {P : Program} {w : World} {K : PySem.W.Frag} {mg : Str → Option Value} {base : Heap}
/-- the written part's word on the class at C, whose __init__ at f closes over the cell cc; its code at cda -/
structure Sup (P : Program) (K : PySem.W.Frag) (C cc cda : Addr) : Prop where
  ex : OexC K C
  up : PySem.W.ks_superIn K C C "__init__" = some (some (.builtin "ValueError.__init__"))
  noAny : PySem.W.nsIn K cStatics "thirdparty.any" = some none
  isV : PySem.W.subIn K (.ref C) (.type "ValueError") = some true
  cell : ∃ (cl : Value) (cld : Option Addr) (csl : Array (Option Value)), K.lookup cc = some ⟨cl, cld, .cell (some (.ref C)), csl⟩
  own : PySem.W.mroIn K C (.ref C) = some true
  plain : PySem.W.nsIn K mainGlobals "super" = some none
  code : ∃ (ccl : Value) (cdd : Option Addr) (vs : Array Value) (ccs : Array (Option Value)) (file : Str) (tf : Tok), K.lookup cda = some ⟨ccl, cdd, .fields vs, ccs⟩ ∧ vs[2]? = some (.str file tf) ∧ ((P.main.file : Str) == file) = true
  top : (P.main.scope.names.lookup ("super" : Str)).isSome = false
structure Scp (ps : List Str) (sc : Scope) : Prop where
  kind : sc.kind = .function
  co : sc.isCoroutine = false
  gen : sc.isGenerator = false
  nd : ps.Nodup
  par : ∀ x ∈ ps, sc.names.lookup x = some .local
  free : ∀ y ∈ sc.names, y.2 = .free → y.1 = "__class__"
  nocell : ∀ y ∈ sc.names, y.2 ≠ .cell
  sup : sc.names.lookup ("super" : Str) = some .globalImplicit
  kc : sc.names.lookup ("__class__" : Str) = some .free
def envS (qual : Str) (scope : Scope) (L f cda cc : Addr) : Env := PySem.W.ksEnv qual scope L f (.ref cda) cc
def cxS (P : Program) (w : World) (K : PySem.W.Frag) (mg : Str → Option Value) (base : Heap) (ps : List Str) (qual : Str) (scope : Scope) (f cda cc : Addr) (A : Around) (outer : List Env) (s : Shared) (H : Hp) : Cx where
  prog := P
  w := w
  K := K
  mg := mg
  base := base
  A := A.deeper (envS qual scope s.heap.objs.size f cda cc)
  N := ps
  s_0 := s
  H_0 := H
  env := envS qual scope s.heap.objs.size f cda cc
  outer := outer
  stack := envS qual scope s.heap.objs.size f cda cc :: outer
  ex := []
  fn := fun x => x != "__class__"
  calm := true
  pn := []
  xe := fun e s' => wpAny (model P w) (A.deeper (envS qual scope s.heap.objs.size f cda cc)) (leaving (envS qual scope s.heap.objs.size f cda cc) e) (fun _ _ => False) (fun _ _ => False) s'
theorem look_zip : ∀ {ps : List Str} {us : List Value} {i : Nat} {x : Str} {u : Value}, ps.Nodup → ps[i]? = some x → us[i]? = some u → (ps.zip us).reverse.lookup x = some u := by
  intro ps us i x u nd hp hu
  have key : ∀ (l : List (Str × Value)), (∀ p ∈ l, p.1 = x → p.2 = u) → (x, u) ∈ l → l.lookup x = some u := by
    intro l
    induction l with
    | nil => intro _ h; cases h
    | cons p l ih =>
      intro h1 h2
      obtain ⟨a, b⟩ := p
      by_cases e : x = a
      · subst e
        have := h1 (x, b) List.mem_cons_self rfl
        simp only at this
        rw [this]
        simp [List.lookup]
      · have e' : (x == a) = false := by simpa using e
        rw [show ((a, b) :: l).lookup x = l.lookup x by simp [List.lookup, e']]
        refine ih (fun p hp' => h1 p (List.mem_cons_of_mem _ hp')) ?_
        rcases List.mem_cons.mp h2 with z | z
        · cases z
          exact absurd rfl e
        · exact z
  refine key _ (fun p hp' hx => ?_) ?_
  · have hm := List.mem_reverse.mp hp'
    obtain ⟨j, hj⟩ := List.getElem?_of_mem hm
    obtain ⟨a, b⟩ := p
    have h1 := List.getElem?_zip_eq_some.mp hj
    simp only at h1 hx
    subst hx
    have hi : i < ps.length := (List.getElem?_eq_some_iff.mp hp).1
    have ij : j = i := by
      exact nodup_ix nd h1.1 hp
    subst ij
    rw [hu] at h1
    exact (Option.some.inj h1.2).symm
  · refine List.mem_reverse.mpr (List.mem_of_getElem? (i := i) ?_)
    exact List.getElem?_zip_eq_some.mpr ⟨hp, hu⟩
theorem inv_sup {ps : List Str} {qual : Str} {scope : Scope} {f cda cc C : Addr} {A : Around} {outer : List Env} {s : Shared} {H : Hp} {h1 : Heap} {us : List Value} {vs : List V} {tk : Nat} (S : Scp ps scope) (T : Sup P K C cc cda) (hd : A.handled = none)
    (e0 : Env0 P w K mg base A outer s H) (hl : vs.length = ps.length) (r : Vals vs us) (hns : h1.Ns s.heap.objs.size (fun x => (ps.zip us).reverse.lookup x)) (hk : ∀ b o, s.heap.get? b = some o → h1.get? b = some o) :
    Inv (cxS P w K mg base ps qual scope f cda cc A outer s H) [] (vs.map some) H { s with heap := h1, toks := tk } := by
  have none_in : ∀ b : Addr, b ∉ (cxS P w K mg base ps qual scope f cda cc A outer s H).ex := fun b z => by
    have z' : b ∈ ([] : List Addr) := z
    cases z'
  have one : ∀ {x : Str} {c : Addr}, (envS qual scope s.heap.objs.size f cda cc).cells.lookup x = some c → x = "__class__" ∧ c = cc := by
    intro x c h
    have h' : ([("__class__", cc)] : List (Str × Addr)).lookup x = some c := h
    by_cases e : x = "__class__"
    · subst e
      have : (some cc : Option Addr) = some c := by simpa [List.lookup] using h'
      exact ⟨rfl, (Option.some.inj this).symm⟩
    · have e' : (x == ("__class__" : Str)) = false := by simpa using e
      rw [show ([("__class__", cc)] : List (Str × Addr)).lookup x = none by simp [List.lookup, e']] at h'
      cases h'
  obtain ⟨cl, cld, csl, lcc⟩ := T.cell
  have kcc := e0.mod.kin cc _ lcc
  have hcc := e0.bs cc _ kcc
  have ltc : cc < s.heap.objs.size := Heap.lt_size hcc.1
  refine { ok := ?_, os := rfl, bare := e0.bare, base := Un.kept hk, loc := ⟨_, hns, fun i x v a b c => ?_⟩, cell := fun x c h => ?_, free := e0.hok.fresh (Nat.le_refl _), freeC := fun x c h => ?_, pin := fun p hp => ?_, hok := e0.hok.kept hk, len := ?_ }
  · refine { mod := e0.mod, kind := S.kind, glob := rfl, blt := rfl, above := Nat.le_refl _, inj := fun x y c a b => ?_, has := fun x h => ?_, cab := fun x c a b => ?_, hd := fun _ => hd, frames := Around.frames_deeper e0.frames, stk := .inr ⟨rfl, rfl⟩, exf := fun b z => absurd z (none_in b), bs := e0.bs, bsz := e0.bsz, noex := fun b _ _ => none_in b, exfs := fun b z => absurd z (none_in b), funs := e0.funs, frf := e0.frf }
    · rw [(one a).1, (one b).1]
    · have h' : scope.names.lookup x = some .cell ∨ scope.names.lookup x = some .free := h
      rcases h' with q | q
      · exact absurd rfl (S.nocell _ (PySem.mem_of_lookup q))
      · have : x = "__class__" := S.free _ (PySem.mem_of_lookup q) rfl
        subst this
        exact ⟨cc, by show ([(("__class__" : Str), cc)] : List (Str × Addr)).lookup ("__class__" : Str) = some cc; simp [List.lookup]⟩
    · have a' : (x != "__class__") = true := a
      rw [(one b).1] at a'
      simp at a'
  · have hi : ps[i]? = some x := a
    rw [List.getElem?_map] at b
    cases q : vs[i]? with
    | none => rw [q] at b; cases b
    | some y =>
      rw [q] at b
      cases b
      obtain ⟨u, hu, rv⟩ := r.get q
      exact ⟨u, rv, .inl ⟨S.par x (List.mem_of_getElem? hi), look_zip S.nd hi hu⟩⟩
  · rw [(one h).2]
    exact ⟨some (.ref C), _, hk _ _ hcc.1, rfl⟩
  · rw [(one h).2]
    exact hcc.2
  · have hp' : p ∈ ([] : List (Addr × Obj)) := hp
    cases hp'
  · rw [List.length_map]
    exact hl
/-- ValueError.__init__ bound to an error that is being made -/
theorem init_bound {X : Cx} {pins : List (Addr × Obj)} {σ : L2.St} {H : Hp} {s : Shared} {a u C : Addr} {us : List Value} {Q : Value → Shared → Prop} {E : Value → Shared → Prop} {A : Around} (T : OexC X.K C) (I : Inv X pins σ H s) (ea : H a = some (exo a C none))
    (hu : s.heap.get? u = some (PySem.W.kxs_mw "ValueError.__init__" a)) (fit : us.length ≤ sizeLine) (q : ∀ s', Inv X pins σ H s' → Q .none s') : wpAny (model X.prog X.w) A (call (.ref u) us) Q E s := by
  obtain ⟨nm, qn, N, bs, bm, sn, sub, ab, col, dd, k0, k1, k2, k3, k5, hC, hbm⟩ := T.cls
  have hC' := I.kIn _ _ hC
  obtain ⟨t1, ho⟩ := exo_at I.hok ea
  obtain ⟨hp, g, d, tk, os⟩ := s
  apply wpAny_call
  apply codeAny_of_tree
  change wpAny _ A.in1 (callAny (.ref u) ⟨us, []⟩) _ _ _
  unfold callAny
  apply wpAny_bind
  refine wpAny_load hu ?_
  have is1 : (Value.type "method-wrapper" == Value.type "method" || (Value.type "method-wrapper" == Value.type "builtin_function_or_method" || Value.type "method-wrapper" == Value.type "method-wrapper")) = true := by decide
  simp only [PySem.W.kxs_mw, Bool.or_assoc, is1, if_true]
  refine PySem.W.KFB.if_so (by decide) ?_
  apply wpAny_bind
  refine PySem.W.check_bound_init F.excBase_ValueError.toExcCallFacts hC' ho rfl ?_
  refine wpAny_bind (wpAny_pure (wpAny_pure ⟨plainId_quiet F.excBase_ValueError.init.plain _, codeAny_builtin F.excBase_ValueError.initEntry ?_⟩))
  refine PySem.W.exc_init_tree (cls := .ref C) (t0 := t1) (dv := none) (c2 := .none) (c3 := .none) (b4 := .bool false) ho fit fun h' k e' _ => ?_
  have J := I.write (t' := tk) (x := a) (e := a) (o := exo a C none) (by rw [ea]; exact True.intro) (.inl rfl) k ⟨_, e'⟩ (exo_ok e')
  have same : upd H a (exo a C none) = H := by
    funext b
    by_cases hb : b = a
    · subst hb
      rw [upd_same, ea]
    · exact upd_ne hb
  rw [same] at J
  exact q _ J
/-- super().__init__(..) and what follows -/
theorem fn_sup {ps : List Str} {name qual : Str} {params : Arguments} {scope : Scope} {f cda cc C : Addr} {k : Nat} {sp : Sp} {oc dV kV doc pm ct : Value} {od an : Option Addr} {osl : Array (Option Value)} {p0 p1 p2 p3 p4 : Pos} {e : Expr} {es : List Expr} {rest : List Stmt} {ar : Arg}
    (look : K.lookup f = some ⟨oc, od, .func (PySem.W.ksFn name qual params (.Expr (.Call (.Attribute (.Call (.Name "super" p0) [] [] p1) "__init__" p2) (e :: es) [] p3) p4 :: rest) scope dV kV doc pm an (.ref cda) ct cc), osl⟩)
    (code : PySem.W.codeIn K (.ref cda) qual = true) (S : Scp ps scope) (T : Sup P K C cc cda) (first : (params.posonlyargs ++ params.args).head? = some ar) (first' : ps[0]? = some ar.arg)
    (len : ∀ vs H Q E, sp vs H Q E → vs.length = ps.length)
    (inner : ∀ (A : Around) (outer : List Env) (s : Shared) (H : Hp) (vs : List V) (Q : VK) (E : XK), Room k (A.deeper (envS qual scope s.heap.objs.size f cda cc)) → sp vs H Q E →
      ∃ (a : Addr) (ta : TA) (tb : TS), vs[0]? = some (.ref a) ∧ H a = some (exo a C none) ∧ PA (cxS P w K mg base ps qual scope f cda cc A outer s H) (e :: es) ta ∧ PSs (cxS P w K mg base ps qual scope f cda cc A outer s H) rest tb ∧
        ta (vs.map some) H fun ws H1 => ws.length ≤ 1000 ∧ H1 a = some (exo a C none) ∧ tb { rt := Q, nx := fun _ => Q V.non } (vs.map some) H1)
    (he : ∀ env, starEach (e :: es) env = (false, eval e env) :: starEach es env := by intro; rfl) (hpl : ∀ (pos : Pos) (env : Env), (backTo pos (starEach es env)).any (·.1) = false := by intros; rfl)
    (hev : ∀ env, ∃ pl, eval (.Call (.Attribute (.Call (.Name "super" p0) [] [] p1) "__init__" p2) (e :: es) [] p3) env = (do
      let ov ← attributeBase (.Call (.Name "super" p0) [] [] p1) "__init__" env (eval (.Call (.Name "super" p0) [] [] p1) env)
      standAt p2.atName
      let (f, first) ← holding [ov] (getMethod ov "__init__" pl)
      callWith p3 f first (backTo p3 (starEach (e :: es) env)) []) := by intro; exact ⟨_, rfl⟩)
    (hsw : ∀ env, swapsWith (.Call (.Attribute (.Call (.Name "super" p0) [] [] p1) "__init__" p2) (e :: es) [] p3) none p4.line env = pure false := by intro; rfl) :
    FnOk P w K mg base CX0 (k + 1) f (PySem.W.ksFn name qual params (.Expr (.Call (.Attribute (.Call (.Name "super" p0) [] [] p1) "__init__" p2) (e :: es) [] p3) p4 :: rest) scope dV kV doc pm an (.ref cda) ct cc) ps sp := by
  refine ⟨len, fun A outer s H args us vs Q E room e0 bd rel told => ?_⟩
  have cnt := len _ _ _ _ told
  have isK : K.In s.heap := e0.mod.kin.keeps fun b o q => (e0.bs b o q).1
  refine PySem.ks_codeAny_call_defAt room.depth (isK _ _ look) rfl (e0.mod.nolimit.keeps fun b o q => (e0.bs b o q).1) (PySem.W.codeRec_of isK code) rfl bd S.nocell (fun y hy => ?_) (fun h1 hns hk1 => ?_) S.co S.gen S.kind
  · obtain ⟨n, v⟩ := y
    exact S.par n (List.of_mem_zip hy).1
  have I : Inv (cxS P w K mg base ps qual scope f cda cc A outer s H) [] (vs.map some) H { s with heap := h1, toks := s.toks + (ps.zip us).length } := inv_sup S T room.hd e0 cnt rel hns hk1
  obtain ⟨a, ta, tb, v0, ea, pa, pb, q⟩ := inner A outer s H vs Q E (room.deeper _) told
  have quietX := I.quiet
  obtain ⟨pl, ev⟩ := hev (envS qual scope s.heap.objs.size f cda cc)
  obtain ⟨ccl, cdd, vv, ccs, file, tf, hcode, hvs, hfile⟩ := T.code
  obtain ⟨cl, cld, csl, hcell⟩ := T.cell
  obtain ⟨nm, qn, N, bs, bm, sn, sub, ab, col, dd, k0, k1, k2, k3, k5, hC, hbm⟩ := T.ex.cls
  have isD : PySem.W.clsIn K C = some { name := nm, bases := bs, mro := .ref C :: bm, ns := N, qualname := qn, hasDict := true, slotNames := sn, subclasses := sub, abstract := ab, collection := col, hasDel := false } := by
    unfold PySem.W.clsIn
    rw [hC] <;> rfl
  obtain ⟨t1, ho⟩ := exo_at I.hok ea
  obtain ⟨mb, nsb, boots⟩ := e0.mod.blt
  have kp : ∀ {b : Addr} {o : Obj}, base.get? b = some o → h1.get? b = some o := fun {b o} z => hk1 _ _ (e0.bs _ _ z).1
  have us0 : us[0]? = some (.ref a) := by
    obtain ⟨u, hu, rv⟩ := rel.get v0
    cases rv
    exact hu
  have self := look_zip (us := us) S.nd first' us0
  refine PySem.ks_wpAt_execs_cons (PySem.ks_wpAt_Expr_any (PySem.ks_wpAt_MethodCall (pl := pl) ?_ ev) quietX (hsw _))
  refine PySem.ks_wpAt_super_base (env := envS qual scope s.heap.objs.size f cda cc) S.sup S.kc rfl rfl (hk1 _ _ (isK _ _ look)) rfl first rfl (hk1 _ _ (isK _ _ hcode)) rfl hvs hfile T.top ?_
  refine PySem.W.ks_loadName_global S.kind S.sup (PySem.Calls.loadGlobal_builtin (env := envS qual scope s.heap.objs.size f cda cc) (e0.mod.glob.keeps fun b o z => kp z) (PySem.W.mg_none_of e0.mod.kin e0.mod.glob T.plain) (nsb.keeps fun b o z => kp z) ((boots _ (by decide +kernel)).trans PyProof.Rows.Boot.«super») ⟨rfl, ?_⟩)
  refine wpAny_loadName_free (c := cc) (v := .ref C) S.kind S.kc (by show ([(("__class__" : Str), cc)] : List (Str × Addr)).lookup ("__class__" : Str) = some cc; simp [List.lookup]) ⟨_, hk1 _ _ (isK _ _ hcell), rfl⟩ ?_
  refine wpAny_loadName_local (m := fun x => (ps.zip us).reverse.lookup x) S.kind (S.par _ (List.mem_of_getElem? first')) hns self ?_
  refine PySem.ks_wpAny_isType_cls (hk1 _ _ (isK _ _ hC)) rfl ⟨rfl, ?_⟩
  refine PySem.ks_wpAny_call_super (hk1 _ _ (isK _ _ hC)) rfl ho rfl (fun c z => by cases z) (PySem.W.looks_mroIn (isK.keeps hk1) T.own) (fun h2 e2 kk2 => ?_)
  have I2 := I.kept (h' := h2) (t' := s.toks + (ps.zip us).length) kk2
  obtain ⟨t2, ho2⟩ := exo_at I2.hok ea
  have isK2 : K.In h2 := I2.kIn
  have up := T.up
  unfold PySem.W.ks_superIn at up
  rw [isD] at up
  have aC : a ≠ C := fun z => by
    have h3 := isK2 _ _ hC
    rw [← z, ho2] at h3
    cases h3
  have looksV : PySem.W.Looks (model P w) h2 (isInstance (.ref a) (.type "ValueError")) true :=
    (show PySem.W.InstAt h2 a _ C none from ⟨ho2, rfl, rfl, trivial⟩).type.andThen (PySem.W.looks_subIn isK2 T.isV)
  refine PySem.W.kxs_getMethod PySem.W.kxs_ValueError e2 (PySem.W.looks_opaque isK2 T.noAny) (l₀ := .ref C :: bm) (fun A Q E s k q => wpAny_bind ((PySem.W.looks_clsIn isK2 isD) A _ E s k (wpAny_pure q))) rfl isK2 up looksV aC rfl ?_
  have I3 := I2.kept (h' := h2.push (PySem.W.kxs_mw "ValueError.__init__" a)) (t' := s.toks + (ps.zip us).length + 1) (fun b o z => Heap.get?_push_of_some _ z)
  have eu : (h2.push (PySem.W.kxs_mw "ValueError.__init__" a)).get? h2.objs.size = some (PySem.W.kxs_mw "ValueError.__init__" a) := Heap.get?_push_at rfl rfl
  have I4 : Inv (cxS P w K mg base ps qual scope f cda cc A outer s H) [(h2.objs.size, PySem.W.kxs_mw "ValueError.__init__" a)] (vs.map some) H { s with heap := h2.push (PySem.W.kxs_mw "ValueError.__init__" a), toks := s.toks + (ps.zip us).length + 1 } := by
    refine I3.pins_of fun p hp => ?_
    cases List.mem_singleton.mp hp
    refine ⟨eu, I2.hok.fresh (Nat.le_refl _), fun z => ?_, I2.nofs (Nat.le_refl _), fun v z => by cases z⟩
    have := I2.lt
    rw [← z] at this
    exact absurd this (Nat.lt_irrefl _)
  refine PySem.W.kxs_callWith (i := "ValueError.__init__") (x := a) ?_ ?_
  · rw [he]
    exact hpl _ _
  have args : ∀ (R : Args → Shared → Prop) (Z : Value → Shared → Prop) (s4 : Shared), wpAny (model P w) (A.deeper (envS qual scope s.heap.objs.size f cda cc)) (spliced (backTo p3 (starEach (e :: es) (envS qual scope s.heap.objs.size f cda cc)))) (fun vs s' => R ⟨vs, []⟩ s') Z s4 →
      wpAny (model P w) (A.deeper (envS qual scope s.heap.objs.size f cda cc)) (evalArgs (.ref h2.objs.size) true (backTo p3 (starEach (e :: es) (envS qual scope s.heap.objs.size f cda cc))) []) R Z s4 := by
    intro R Z s4 h4
    rw [he] at h4 ⊢
    exact PySem.Calls.evalArgs_plain h4
  refine args _ _ _ (wpAny_mono (pa.run p3 _ _ _ _ _ I4 q) (fun ws s5 h5 => ?_) (fun _ _ z => z))
  obtain ⟨wv, H1, I5, r5, lw, ea5, q5⟩ := h5
  have pu := I5.pin (h2.objs.size, PySem.W.kxs_mw "ValueError.__init__" a) (List.mem_append_right _ (List.mem_singleton.mpr rfl))
  refine ⟨pu.1, ?_⟩
  refine init_bound T.ex I5 ea5 pu.1 ?_ (fun s6 I6 => ?_)
  · rw [List.nil_append, ← Paired.length r5, sizeLine_eq]
    omega
  have I7 : Inv (cxS P w K mg base ps qual scope f cda cc A outer s H) [] (vs.map some) H1 s6 := I6.pins_of fun p hp => by cases hp
  refine wpAt_of_wpAny (wpAny_mono (pb.run _ _ _ _ _ I7 q5) (fun fl s' hs => ?_) (fun _ _ z => z))
  cases fl with
  | ret u =>
    obtain ⟨v, _, H', J, rv, qq⟩ := hs
    exact ⟨v, H', J.os, J.bare, J.base, J.hok, rv, qq⟩
  | next =>
    obtain ⟨_, H', J, qq⟩ := hs
    exact ⟨V.non, H', J.os, J.bare, J.base, J.hok, rfl, qq⟩
  | brk =>
    obtain ⟨_, _, _, qq⟩ := hs
    exact qq.elim
  | cont =>
    obtain ⟨_, _, _, qq⟩ := hs
    exact qq.elim
end
end Su

namespace Tr
open PySem L2

/-! ### the trees -/
inductive IxOp where
  | plus | minus | times
def IxOp.str : IxOp → Str
  | .plus => "plus" | .minus => "minus" | .times => "times"
inductive Ix where
  | int (n : Int)
  | beat
  | var (s : Str)
  | rem (a : Ix) (n : Int)
  | op (o : IxOp) (a b : Ix)
def Ix.enc : Ix → PyData
  | .int n => .tuple [.str "integer", .int n]
  | .beat => .tuple [.str "beat"]
  | .var s => .tuple [.str "index", .str s]
  | .rem a n => .tuple [.str "rem", a.enc, .int n]
  | .op o a b => .tuple [.str o.str, a.enc, b.enc]
/-- what the law draws as an index, to a depth, over names of integers -/
inductive GIx (is : List Str) : Nat → Ix → Prop where
  | int {d : Nat} {n : Int} (h0 : 0 ≤ n) (h1 : n < 4) : GIx is d (.int n)
  | beat {d : Nat} : GIx is d .beat
  | var {d : Nat} {s : Str} (h : s ∈ is) : GIx is d (.var s)
  | rem {d : Nat} {a : Ix} {n : Int} (ha : GIx is d a) (h0 : 1 ≤ n) (h1 : n < 6) : GIx is (d + 1) (.rem a n)
  | op {d : Nat} {o : IxOp} {a b : Ix} (ha : GIx is d a) (hb : GIx is d b) : GIx is (d + 1) (.op o a b)
/-! ### the promises of the draws -/
/-- the two lists of the draws: the numbers at d, the counter at p -/
structure Dr (K : PySem.W.Frag) (H : Hp) (d p : Addr) : Prop where
  ne : d ≠ p
  num : ∃ ns : List Int, SqL K H d (ns.map V.int)
  ctr : AtL H p
theorem Dr.next {K : PySem.W.Frag} {H H' : Hp} {d p : Addr} (h : Dr K H d p) (s : Stays p H H') (c : AtL H' p) : Dr K H' d p := by
  obtain ⟨ns, q⟩ := h.num
  exact ⟨h.ne, ⟨ns, s.list h.ne q⟩, c⟩
theorem Dr.new {K : PySem.W.Frag} {H : Hp} {d p q : Addr} {o : HO} (h : Dr K H d p) (n : H q = none) : Dr K (upd H q o) d p := h.next (stays_new n) (h.ctr.new n)
def spTake (K : PySem.W.Frag) : Sp := fun vs H Q _ => ∃ (d p : Addr) (m : Int), vs = [.ref d, .ref p, .int m] ∧ Dr K H d p ∧ 0 < m ∧
  ∀ v H', 0 ≤ v → v < m → Stays p H H' → AtL H' p → Q (.int v) H'
/-- a drawn number -/
def GNum (n : Int) : Prop := 0 ≤ n ∧ n < 2147483647
def spNumb (K : PySem.W.Frag) : Sp := fun vs H Q _ => ∃ (d p : Addr), vs = [.ref d, .ref p] ∧ Dr K H d p ∧ ∀ n H', GNum n → Stays p H H' → AtL H' p → Q (.int n) H'
def spIx (K : PySem.W.Frag) (k : Nat) : Sp := fun vs H Q _ => ∃ (i d p : Addr) (is : List Str) (n : Nat), vs = [.ref i, .ref d, .ref p, .int (n : Int)] ∧ Dr K H d p ∧ i ≠ p ∧ SqL K H i (is.map V.str) ∧ is.length ≤ 1000 ∧ n < k ∧
  ∀ x v H', GIx is n x → Tv K H' x.enc v → Stays p H H' → AtL H' p → Q v H'
abbrev sTake : Stmt := top 63
abbrev sNumb : Stmt := top 64
abbrev sIx : Stmt := top 65
section
variable {P : Program} {w : World} {K : PySem.W.Frag} {mg : Str → Option Value} {base : Heap}
theorem scTake : FnScope ["draws", "at", "many", "number"] ["draws", "at", "many"] (defScope sTake) := ⟨rfl, rfl, rfl, by decide +kernel, rfl, by decide +kernel, by decide +kernel⟩
theorem at_in {α : Type} {xs : List α} {j : Int} (h0 : 0 ≤ j) (h : j < (xs.length : Int)) : ∃ x, atI xs j = some x ∧ xs[j.toNat]? = some x := by
  have e : j = ((j.toNat : Nat) : Int) := by omega
  have hk : j.toNat < xs.length := by omega
  have q : atI xs ((j.toNat : Nat) : Int) = some xs[j.toNat] := atI_nat (List.getElem?_eq_getElem hk)
  rw [← e] at q
  exact ⟨_, q, List.getElem?_eq_getElem hk⟩
theorem ok_take {f : Addr} {fd : FuncData} (F : Fun K "_law_take" "_law_take" sTake f fd) (T : Bi mg) : FnOk P w K mg base CX0 1 f fd ["draws", "at", "many"] (spTake K) := by
  refine F.ok scTake (fun vs H Q E h => ?_) (fun cdv A outer s H vs Q E hr h => ?_)
  · obtain ⟨d, p, m, rfl, _⟩ := h
    rfl
  · obtain ⟨d, p, m, rfl, D, m0, q⟩ := h
    obtain ⟨ns, hS⟩ := D.num
    obtain ⟨j, j0, hp⟩ := D.ctr
    have nd := scTake.nd
    refine ⟨_, pss_cons (ps_if (pt_cmpR op_ge (pe_ix ix_list (pv 1) pe_int (fun _ _ => rfl)) (pe_callB call_len_seq rfl T.len PySem.boot_len (pa_cons (pv 0) pa_nil)) (nomark _)) (pss_one (ps_ret pe_int)) pss_nil)
      (pss_cons (ps_set (i := 3) nd rfl (.inl rfl) (pe_ix ix_list (pv 0) (pe_ix ix_list (pv 1) pe_int (fun _ _ => rfl)) (fun _ _ => rfl)))
      (pss_cons (ps_asg (pe_op op_add (pe_ix ix_list (pv 1) pe_int (fun _ _ => rfl)) pe_int) (pg_sub (pv 1) pe_int set_list))
      (pss_one (ps_ret (pe_op op_mod (pe_callTy call_int1 rfl T.int PyProof.Rows.boot_int (pa_cons (pv 3) pa_nil)) (pv 2)))))), ?_⟩
    refine ⟨_, rfl, p, _, _, _, rfl, rfl, SqL.of hp, rfl, _, rfl, d, _, rfl, .inl hS, _, _, rfl, rfl, _, rfl, ?_⟩
    rw [List.length_map]
    by_cases c : j ≥ (ns.length : Int)
    · refine iteT' (decide_eq_true c) ?_
      exact q 0 H (Int.le_refl _) m0 (Stays.refl _ _) ⟨j, j0, hp⟩
    · refine iteF' (decide_eq_false c) ?_
      obtain ⟨x, hx, hx2⟩ := at_in (xs := ns.map V.int) j0 (by rw [List.length_map]; omega)
      rw [List.getElem?_map] at hx2
      obtain ⟨n, rfl⟩ : ∃ n, x = V.int n := by
        cases e : ns[j.toNat]? with
        | none => rw [e] at hx2; cases hx2
        | some n => rw [e] at hx2; exact ⟨n, (Option.some.inj hx2).symm⟩
      refine ⟨_, rfl, _, rfl, p, _, _, _, rfl, rfl, SqL.of hp, rfl, d, _, _, _, rfl, rfl, hS, hx, ?_⟩
      refine ⟨_, rfl, p, _, _, _, rfl, rfl, SqL.of hp, rfl, _, _, rfl, rfl, _, rfl, p, _, _, _, rfl, rfl, hp, rfl, ?_⟩
      refine ⟨_, rfl, .inl ⟨_, rfl, _, rfl, _, _, rfl, rfl, m0, ?_⟩⟩
      exact q _ _ (Int.emod_nonneg _ (by omega)) (Int.emod_lt_of_pos _ m0) stays_upd ⟨j + 1, by omega, upd_same⟩

theorem scNumb : FnScope ["draws", "at"] ["draws", "at"] (defScope sNumb) := ⟨rfl, rfl, rfl, by decide +kernel, rfl, by decide +kernel, by decide +kernel⟩
theorem ok_numb {f : Addr} {fd : FuncData} (F : Fun K "_law_number" "_law_number" sNumb f fd) (c_take : Cal P w K mg base CX0 1 "_law_take" ["draws", "at", "many"] (spTake K)) : FnOk P w K mg base CX0 2 f fd ["draws", "at"] (spNumb K) := by
  refine F.ok scNumb (fun vs H Q E h => ?_) (fun cdv A outer s H vs Q E hr h => ?_)
  · obtain ⟨d, p, rfl, _⟩ := h
    rfl
  · obtain ⟨d, p, rfl, D, q⟩ := h
    have five : 5 ≤ sizeLine := by decide
    refine ⟨_, pss_cons (ps_if (pt_cmpR op_eq (pe_call c_take.ok (hr.mono (by first | decide | omega)) rfl c_take.m c_take.kp c_take.b .nil pass0 (pa_cons (pv 0) (pa_cons (pv 1) (pa_cons pe_int pa_nil)))) pe_int (nomark _)) (pss_one (ps_ret (pe_ix ix_list (pe_lst (pa_cons pe_int (pa_cons pe_int (pa_cons pe_int (pa_cons pe_int (pa_cons pe_int pa_nil)))))) (pe_call c_take.ok (hr.mono (by first | decide | omega)) rfl c_take.m c_take.kp c_take.b .nil pass0 (pa_cons (pv 0) (pa_cons (pv 1) (pa_cons pe_int pa_nil)))) (fun _ _ => rfl)))) pss_nil)
      (pss_one (ps_ret (pe_call c_take.ok (hr.mono (by first | decide | omega)) rfl c_take.m c_take.kp c_take.b .nil pass0 (pa_cons (pv 0) (pa_cons (pv 1) (pa_cons pe_int pa_nil)))))), ?_⟩
    refine ⟨_, rfl, _, rfl, d, p, 4, rfl, D, by decide, fun v H1 v0 v1 s1 c1 => ?_⟩
    have D1 := D.next s1 c1
    refine ⟨rfl, _, rfl, ite2 (fun _ => ?_) (fun _ => ?_)⟩
    · refine ⟨five, fun l hl => ?_⟩
      have D2 := D1.new (o := .lst [V.int 2147483646, V.int 1073741824, V.int 65536, V.int 46341, V.int 0]) hl
      refine ⟨_, rfl, _, rfl, d, p, 5, rfl, D2, by decide, fun u H2 u0 u1 s2 c2 => ?_⟩
      have nl : l ≠ p := fun z => by obtain ⟨j, _, e⟩ := c1; rw [z, e] at hl; cases hl
      have e2 := s2 l _ nl upd_same
      have st := (s1.trans (stays_new (p := p) (o := .lst [V.int 2147483646, V.int 1073741824, V.int 65536, V.int 46341, V.int 0]) hl)).trans s2
      have cs : u = 0 ∨ u = 1 ∨ u = 2 ∨ u = 3 ∨ u = 4 := by omega
      rcases cs with z | z | z | z | z <;> subst z
      all_goals exact ⟨l, _, _, _, rfl, rfl, SqL.of e2, rfl, q _ _ ⟨by decide, by decide⟩ st c2⟩
    · exact ⟨_, rfl, _, rfl, d, p, 9, rfl, D1, by decide, fun u H2 u0 u1 s2 c2 => q _ _ ⟨u0, Int.lt_trans u1 (by decide)⟩ (s1.trans s2) c2⟩
/-! ### indexes -/
theorem scIx : FnScope ["integers", "draws", "at", "depth", "choice", "left"] ["integers", "draws", "at", "depth"] (defScope sIx) := ⟨rfl, rfl, rfl, by decide +kernel, rfl, by decide +kernel, by decide +kernel⟩
theorem fn_none {f : Addr} {fd : FuncData} {ps : List Str} {sp : Sp} {k : Nat} (no : ∀ vs H Q E, ¬ sp vs H Q E) : FnOk P w K mg base CX0 k f fd ps sp :=
  ⟨fun vs H Q E h => absurd h (no vs H Q E), fun A outer s H args us vs Q E _ _ _ _ h => absurd h (no vs H Q E)⟩
theorem tv1 {H : Hp} {a : Addr} {x : V} {d : PyData} (h : H a = some (.tup [x])) (hx : Tv K H d x) : Tv K H (.tuple [d]) (.ref a) := ⟨a, _, rfl, SqT.of h, x, _, rfl, hx, rfl⟩
theorem tv2 {H : Hp} {a : Addr} {x y : V} {d e : PyData} (h : H a = some (.tup [x, y])) (hx : Tv K H d x) (hy : Tv K H e y) : Tv K H (.tuple [d, e]) (.ref a) := ⟨a, _, rfl, SqT.of h, x, _, rfl, hx, y, _, rfl, hy, rfl⟩
theorem tv3 {H : Hp} {a : Addr} {x y z : V} {d e g : PyData} (h : H a = some (.tup [x, y, z])) (hx : Tv K H d x) (hy : Tv K H e y) (hz : Tv K H g z) : Tv K H (.tuple [d, e, g]) (.ref a) := ⟨a, _, rfl, SqT.of h, x, _, rfl, hx, y, _, rfl, hy, z, _, rfl, hz, rfl⟩
theorem tv4 {H : Hp} {a : Addr} {x y z u : V} {d e g i : PyData} (h : H a = some (.tup [x, y, z, u])) (hx : Tv K H d x) (hy : Tv K H e y) (hz : Tv K H g z) (hu : Tv K H i u) : Tv K H (.tuple [d, e, g, i]) (.ref a) :=
  ⟨a, _, rfl, SqT.of h, x, _, rfl, hx, y, _, rfl, hy, z, _, rfl, hz, u, _, rfl, hu, rfl⟩
theorem ok_ix1 {f : Addr} {fd : FuncData} {k : Nat} (F : Fun K "_law_index" "_law_index" sIx f fd) (T : Bi mg) (c_take : Cal P w K mg base CX0 1 "_law_take" ["draws", "at", "many"] (spTake K))
    (c_ix : Cal P w K mg base CX0 (k + 1) "_law_index" ["integers", "draws", "at", "depth"] (spIx K k)) : FnOk P w K mg base CX0 (k + 1 + 1) f fd ["integers", "draws", "at", "depth"] (spIx K (k + 1)) := by
  refine F.ok scIx (fun vs H Q E h => ?_) (fun cdv A outer s H vs Q E hr h => ?_)
  · obtain ⟨i, d, p, is, n, rfl, _⟩ := h
    rfl
  · obtain ⟨i, d, p, is, n, rfl, D, ne, hI, hl, hn, q⟩ := h
    have nd := scIx.nd
    have one : 1 ≤ sizeLine := by decide
    have two : 2 ≤ sizeLine := by decide
    have three : 3 ≤ sizeLine := by decide
    refine ⟨_, pss_cons (ps_set (i := 4) nd rfl (.inl rfl) (pe_call c_take.ok (hr.mono (by first | decide | omega)) rfl c_take.m c_take.kp c_take.b .nil pass0 (pa_cons (pv 1) (pa_cons (pv 2) (pa_cons pe_int pa_nil)))))
      (pss_cons (ps_if (PW.pt (pw_or (pt_cmpR op_lt (pv 4) pe_int (nomark _)) (pw_or1 (pt_cmpR op_eq (pv 3) pe_int (nomark _))))) (pss_one (ps_ret (pe_tup (pa_cons pe_str (pa_cons (pe_call c_take.ok (hr.mono (by first | decide | omega)) rfl c_take.m c_take.kp c_take.b .nil pass0 (pa_cons (pv 1) (pa_cons (pv 2) (pa_cons pe_int pa_nil)))) pa_nil))))) pss_nil)
      (pss_cons (ps_if (pt_cmpR op_eq (pv 4) pe_int (nomark _)) (pss_one (ps_ret (pe_tup (pa_cons pe_str pa_nil)))) pss_nil)
      (pss_cons (ps_if (pt_cmpR op_lt (pv 4) pe_int (nomark _)) (pss_cons (ps_if (pt_truth (pv 0) (by intro _; rfl)) (pss_one (ps_ret (pe_tup (pa_cons pe_str (pa_cons (pe_ix ix_list (pv 0) (pe_call c_take.ok (hr.mono (by first | decide | omega)) rfl c_take.m c_take.kp c_take.b .nil pass0 (pa_cons (pv 1) (pa_cons (pv 2) (pa_cons (pe_callB call_len_seq rfl T.len PySem.boot_len (pa_cons (pv 0) pa_nil)) pa_nil)))) (fun _ _ => rfl)) pa_nil))))) pss_nil)
      (pss_one (ps_ret (pe_tup (pa_cons pe_str pa_nil))))) pss_nil)
      (pss_cons (ps_set (i := 5) nd rfl (.inl rfl) (pe_call c_ix.ok (hr.mono (by first | decide | omega)) rfl c_ix.m c_ix.kp c_ix.b .nil pass0 (pa_cons (pv 0) (pa_cons (pv 1) (pa_cons (pv 2) (pa_cons (pe_op op_sub (pv 3) pe_int) pa_nil))))))
      (pss_cons (ps_if (pt_cmpR op_eq (pv 4) pe_int (nomark _)) (pss_one (ps_ret (pe_tup (pa_cons pe_str (pa_cons (pv 5) (pa_cons (pe_op op_add pe_int (pe_call c_take.ok (hr.mono (by first | decide | omega)) rfl c_take.m c_take.kp c_take.b .nil pass0 (pa_cons (pv 1) (pa_cons (pv 2) (pa_cons pe_int pa_nil))))) pa_nil)))))) pss_nil)
      (pss_one (ps_ret (pe_tup (pa_cons (pe_ix ix_list (pe_lst (pa_cons pe_str (pa_cons pe_str (pa_cons pe_str pa_nil)))) (pe_call c_take.ok (hr.mono (by first | decide | omega)) rfl c_take.m c_take.kp c_take.b .nil pass0 (pa_cons (pv 1) (pa_cons (pv 2) (pa_cons pe_int pa_nil)))) (fun _ _ => rfl)) (pa_cons (pv 5) (pa_cons (pe_call c_ix.ok (hr.mono (by first | decide | omega)) rfl c_ix.m c_ix.kp c_ix.b .nil pass0 (pa_cons (pv 0) (pa_cons (pv 1) (pa_cons (pv 2) (pa_cons (pe_op op_sub (pv 3) pe_int) pa_nil))))) pa_nil))))))))))), ?_⟩
    refine ⟨_, rfl, _, rfl, d, p, 7, rfl, D, by decide, fun v H1 v0 v1 s1 c1 => ?_⟩
    have D1 := D.next s1 c1
    have hI1 := s1.list ne hI
    -- the two short ends
    have leafInt : ∀ R : V → Hp → Prop, (∀ x v H', GIx is n x → Tv K H' x.enc v → Stays p H H' → AtL H' p → R v H') → ∀ u H2, 0 ≤ u → u < 4 → Stays p H1 H2 → AtL H2 p → ∀ a, H2 a = none → R (.ref a) (upd H2 a (.tup [V.str "integer", V.int u])) :=
      fun R hR u H2 u0 u1 s2 c2 a ha => hR (.int u) _ _ (.int u0 u1) (tv2 upd_same rfl rfl) ((s1.trans s2).trans (stays_new ha)) (c2.new ha)
    have leafBeat : ∀ a, H1 a = none → Q (.ref a) (upd H1 a (.tup [V.str "beat"])) := fun a ha => q .beat _ _ .beat (tv1 upd_same rfl) (s1.trans (stays_new ha)) (c1.new ha)
    refine ⟨_, rfl, _, _, rfl, rfl, _, rfl, ?_⟩
    by_cases k1 : v < 2
    · refine iteT' (decide_eq_true k1) (iteT ?_)
      exact ⟨_, rfl, _, rfl, d, p, 4, rfl, D1, by decide, fun u H2 u0 u1 s2 c2 => ⟨two, fun a ha => leafInt Q q u H2 u0 u1 s2 c2 a ha⟩⟩
    refine iteF' (decide_eq_false k1) ?_
    refine ⟨_, rfl, rfl, _, rfl, ?_⟩
    by_cases k2 : (n : Int) = 0
    · refine iteT' (decide_eq_true (congrArg V.int k2)) ?_
      exact ⟨_, rfl, _, rfl, d, p, 4, rfl, D1, by decide, fun u H2 u0 u1 s2 c2 => ⟨two, fun a ha => leafInt Q q u H2 u0 u1 s2 c2 a ha⟩⟩
    refine iteF' (decide_eq_false (fun y => k2 (V.int.inj y))) ?_
    refine ⟨_, rfl, rfl, _, rfl, ite2 (fun _ => ⟨one, leafBeat⟩) (fun k3 => ?_)⟩
    refine ⟨_, rfl, _, _, rfl, rfl, _, rfl, ?_⟩
    by_cases k4 : v < 5
    · refine iteT' (decide_eq_true k4) ?_
      refine ⟨_, rfl, !(is.map V.str).isEmpty, .inl ⟨_, hI1, rfl⟩, ?_⟩
      cases is with
      | nil => exact ⟨one, leafBeat⟩
      | cons s0 ss =>
        refine iteT ?_
        refine ⟨_, rfl, _, rfl, _, rfl, _, rfl, i, _, rfl, .inl hI1, d, p, _, rfl, D1, (by rw [List.length_map, List.length_cons]; omega), fun u H2 u0 u1 s2 c2 => ?_⟩
        obtain ⟨x, hx, hx2⟩ := at_in u0 u1
        obtain ⟨s, hs, rfl⟩ : ∃ s, s ∈ s0 :: ss ∧ x = V.str s := by
          rw [List.getElem?_map] at hx2
          cases e : (s0 :: ss)[u.toNat]? with
          | none => rw [e] at hx2; cases hx2
          | some s => rw [e] at hx2; exact ⟨s, List.mem_of_getElem? e, (Option.some.inj hx2).symm⟩
        exact ⟨i, _, _, _, rfl, rfl, s2.list ne hI1, hx, two, fun a ha => q (.var s) _ _ (.var hs) (tv2 upd_same rfl rfl) ((s1.trans s2).trans (stays_new ha)) (c2.new ha)⟩
    refine iteF' (decide_eq_false k4) ?_
    -- the longer ones: the first part
    have n0 : n ≠ 0 := fun z => k2 (by rw [z]; rfl)
    obtain ⟨m, rfl⟩ : ∃ m, n = m + 1 := ⟨n - 1, by omega⟩
    have em : ((m + 1 : Nat) : Int) - 1 = (m : Int) := by omega
    have again : ∀ (R : V → Hp → Prop) (H2 : Hp), Stays p H1 H2 → AtL H2 p → (∀ x v H', GIx is m x → Tv K H' x.enc v → Stays p H2 H' → AtL H' p → R v H') → spIx K k ([V.ref i, V.ref d, V.ref p, V.int (((m + 1 : Nat) : Int) - 1)] ++ []) H2 R E0 :=
      fun R H2 s2 c2 h => ⟨i, d, p, is, m, (by rw [em]; rfl), D1.next s2 c2, ne, s2.list ne hI1, hl, by omega, h⟩
    refine ⟨_, rfl, _, rfl, _, rfl, _, rfl, _, _, rfl, rfl, again _ H1 (Stays.refl _ _) c1 fun x1 v1 H2 g1 t1 s2 c2 => ?_⟩
    have D2 := D1.next s2 c2
    refine ⟨_, rfl, rfl, _, rfl, ite2 (fun k5 => ?_) (fun k5 => ?_)⟩
    · refine ⟨_, rfl, _, rfl, _, rfl, d, p, 5, rfl, D2, by decide, fun u H3 u0 u1 s3 c3 => ⟨_, _, rfl, rfl, three, fun a ha => ?_⟩⟩
      refine q (.rem x1 (1 + u)) _ _ (.rem g1 (by omega) (by omega)) (tv3 upd_same rfl (Tv.carry (carry_new ha) _ _ (Tv.carry (s3.carry c2) _ _ t1)) rfl) (((s1.trans s2).trans s3).trans (stays_new ha)) (c3.new ha)
    · refine ⟨three, fun l hl' => ?_⟩
      have s3 := stays_new (p := p) (o := .lst [V.str "plus", V.str "minus", V.str "times"]) hl'
      have c3 := c2.new (o := .lst [V.str "plus", V.str "minus", V.str "times"]) hl'
      have nl : l ≠ p := fun z => by obtain ⟨j, _, e⟩ := c2; rw [z, e] at hl'; cases hl'
      refine ⟨_, rfl, _, rfl, d, p, 3, rfl, D2.next s3 c3, by decide, fun u H4 u0 u1 s4 c4 => ?_⟩
      have el := s4 l _ nl upd_same
      have t2 := Tv.carry (s4.carry c3) _ _ (Tv.carry (s3.carry c2) _ _ t1)
      have s5 := (s2.trans s3).trans s4
      obtain ⟨o, ho⟩ : ∃ o : IxOp, atI [V.str "plus", V.str "minus", V.str "times"] u = some (.str o.str) := by
        have cs : u = 0 ∨ u = 1 ∨ u = 2 := by omega
        rcases cs with z | z | z <;> subst z
        · exact ⟨.plus, rfl⟩
        · exact ⟨.minus, rfl⟩
        · exact ⟨.times, rfl⟩
      refine ⟨l, _, _, _, rfl, rfl, SqL.of el, ho, ?_⟩
      refine ⟨_, rfl, _, rfl, _, rfl, _, rfl, _, rfl, _, _, rfl, rfl, again _ H4 s5 c4 fun x2 v2 H5 g2 t3 s6 c6 => ⟨three, fun a ha => ?_⟩⟩
      exact q (.op o x1 x2) _ _ (.op g1 g2) (tv3 upd_same rfl (Tv.carry (carry_new ha) _ _ (Tv.carry (s6.carry c4) _ _ t2)) (Tv.carry (carry_new ha) _ _ t3)) (((s1.trans s5).trans s6).trans (stays_new ha)) (c6.new ha)
theorem ok_ix {f : Addr} {fd : FuncData} (F : Fun K "_law_index" "_law_index" sIx f fd) (T : Bi mg) (c_take : Cal P w K mg base CX0 1 "_law_take" ["draws", "at", "many"] (spTake K)) (b : Binds K fd ["integers", "draws", "at", "depth"] []) (m : mg "_law_index" = some (.ref f)) :
    ∀ k : Nat, FnOk P w K mg base CX0 (k + 1) f fd ["integers", "draws", "at", "depth"] (spIx K k)
  | 0 => fn_none fun vs H Q E h => by
    obtain ⟨_, _, _, _, n, _, _, _, _, _, z, _⟩ := h
    exact absurd z (Nat.not_lt_zero _)
  | k + 1 => ok_ix1 F T c_take ⟨f, fd, ok_ix F T c_take b m k, b, F.kp, m⟩

/-! ### places, expressions, tests -/
/-- name, size, fixed -/
abbrev VRow := Str × Int × Bool
def VRow.enc (r : VRow) : PyData := .tuple [.str r.1, .int r.2.1, .bool r.2.2]
def encO : Option Ix → PyData
  | none => .none
  | some x => x.enc
def encPl (nm : Str) (ix : Option Ix) : PyData := .tuple [.str nm, encO ix]
inductive GPl (vars : List VRow) (is : List Str) : Str → Option Ix → Prop where
  | plain {nm : Str} {b : Bool} (h : (nm, 0, b) ∈ vars) : GPl vars is nm none
  | raw {nm : Str} {s : Int} {b : Bool} {x : Ix} (h : (nm, s, b) ∈ vars) (hs : s ≠ 0) (g : GIx is 2 x) : GPl vars is nm (some x)
  | wrapped {nm : Str} {s : Int} {b : Bool} {x : Ix} (h : (nm, s, b) ∈ vars) (hs : s ≠ 0) (g : GIx is 2 x) : GPl vars is nm (some (.rem x s))
inductive Op where
  | add | sub | mul | div
def Op.str : Op → Str
  | .add => "add" | .sub => "sub" | .mul => "mul" | .div => "div"
inductive Ex where
  | num (n : Int)
  | place (nm : Str) (ix : Option Ix)
  | op (o : Op) (a b : Ex)
def Ex.enc : Ex → PyData
  | .num n => .tuple [.str "number", .int n]
  | .place nm ix => .tuple [.str "place", .str nm, encO ix]
  | .op o a b => .tuple [.str o.str, a.enc, b.enc]
inductive GEx (vars : List VRow) (is : List Str) : Nat → Ex → Prop where
  | num {d : Nat} {n : Int} (h : GNum n) : GEx vars is d (.num n)
  | place {d : Nat} {nm : Str} {ix : Option Ix} (h : GPl vars is nm ix) : GEx vars is d (.place nm ix)
  | op {d : Nat} {o : Op} {a b : Ex} (ha : GEx vars is d a) (hb : GEx vars is d b) : GEx vars is (d + 1) (.op o a b)
inductive Ts where
  | zero (e : Ex)
  | less (a b : Ix)
  | equal (a b : Ix)
  | not (t : Ts)
def Ts.enc : Ts → PyData
  | .zero e => .tuple [.str "zero", e.enc]
  | .less a b => .tuple [.str "less", a.enc, b.enc]
  | .equal a b => .tuple [.str "equal", a.enc, b.enc]
  | .not t => .tuple [.str "not", t.enc]
inductive GTs (vars : List VRow) (is : List Str) : Ts → Prop where
  | zero {e : Ex} (h : GEx vars is 1 e) : GTs vars is (.zero e)
  | notz {e : Ex} (h : GEx vars is 1 e) : GTs vars is (.not (.zero e))
  | less {a b : Ix} (ha : GIx is 1 a) (hb : GIx is 1 b) : GTs vars is (.less a b)
  | equal {a b : Ix} (ha : GIx is 1 a) (hb : GIx is 1 b) : GTs vars is (.equal a b)
/-- the variables and the integers where a part is drawn -/
structure Sc (K : PySem.W.Frag) (H : Hp) (p v i : Addr) (vars : List VRow) (is : List Str) : Prop where
  nv : v ≠ p
  ni : i ≠ p
  lv : ∃ xs, H v = some (.lst xs) ∧ TvL K H (vars.map VRow.enc) xs
  li : H i = some (.lst (is.map V.str))
  sv : vars.length ≤ 1000
  si : is.length ≤ 1000
theorem Sc.next {H H' : Hp} {p v i : Addr} {vars : List VRow} {is : List Str} (h : Sc K H p v i vars is) (s : Stays p H H') (c : AtL H p) : Sc K H' p v i vars is := by
  obtain ⟨xs, e, t⟩ := h.lv
  exact ⟨h.nv, h.ni, ⟨xs, s _ _ h.nv e, TvL.carry (s.carry c) _ _ t⟩, s _ _ h.ni h.li, h.sv, h.si⟩
theorem Sc.lvS {H : Hp} {p v i : Addr} {vars : List VRow} {is : List Str} (h : Sc K H p v i vars is) : ∃ xs, SqL K H v xs ∧ TvL K H (vars.map VRow.enc) xs := by
  obtain ⟨xs, e, t⟩ := h.lv
  exact ⟨xs, SqL.of e, t⟩
theorem Sc.liS {H : Hp} {p v i : Addr} {vars : List VRow} {is : List Str} (h : Sc K H p v i vars is) : SqL K H i (is.map V.str) := SqL.of h.li
theorem TvL.len {H : Hp} : ∀ {ds : List PyData} {xs : List V}, TvL K H ds xs → xs.length = ds.length
  | [], _, h => by cases h; rfl
  | d :: ds, _, h => by
    obtain ⟨x, xs, e, _, l⟩ := h
    subst e
    show xs.length + 1 = ds.length + 1
    rw [TvL.len l]
theorem TvL.get {H : Hp} : ∀ {ds : List PyData} {xs : List V} {j : Nat} {x : V}, TvL K H ds xs → xs[j]? = some x → ∃ d, ds[j]? = some d ∧ Tv K H d x
  | [], _, j, x, h, e => by cases h; simp at e
  | d :: ds, _, 0, x, h, e => by
    obtain ⟨y, xs, z, t, l⟩ := h
    subst z
    cases (Option.some.inj e : y = x)
    exact ⟨d, rfl, t⟩
  | d :: ds, _, j + 1, x, h, e => by
    obtain ⟨y, xs, z, t, l⟩ := h
    subst z
    exact TvL.get (ds := ds) (j := j) l e
def spPl (K : PySem.W.Frag) : Sp := fun vs H Q _ => ∃ (v i d p : Addr) (vars : List VRow) (is : List Str), vs = [.ref v, .ref i, .ref d, .ref p] ∧ Dr K H d p ∧ Sc K H p v i vars is ∧ vars ≠ [] ∧
  ∀ nm ix u H', GPl vars is nm ix → Tv K H' (encPl nm ix) u → Stays p H H' → AtL H' p → Q u H'
def spEx (K : PySem.W.Frag) (k : Nat) : Sp := fun vs H Q _ => ∃ (v i d p : Addr) (vars : List VRow) (is : List Str) (n : Nat), vs = [.ref v, .ref i, .ref d, .ref p, .int (n : Int)] ∧ Dr K H d p ∧ Sc K H p v i vars is ∧ vars ≠ [] ∧ n < k ∧
  ∀ x u H', GEx vars is n x → Tv K H' x.enc u → Stays p H H' → AtL H' p → Q u H'
def spTs (K : PySem.W.Frag) : Sp := fun vs H Q _ => ∃ (v i d p : Addr) (vars : List VRow) (is : List Str), vs = [.ref v, .ref i, .ref d, .ref p] ∧ Dr K H d p ∧ Sc K H p v i vars is ∧ vars ≠ [] ∧
  ∀ x u H', GTs vars is x → Tv K H' x.enc u → Stays p H H' → AtL H' p → Q u H'
abbrev sPl : Stmt := top 66
abbrev sEx : Stmt := top 67
abbrev sTs : Stmt := top 68
theorem scPl : FnScope ["variables", "integers", "draws", "at", "name", "size", "fixed", "index"] ["variables", "integers", "draws", "at"] (defScope sPl) := ⟨rfl, rfl, rfl, by decide +kernel, rfl, by decide +kernel, by decide +kernel⟩
theorem ok_pl {f : Addr} {fd : FuncData} (F : Fun K "_law_place" "_law_place" sPl f fd) (T : Bi mg) (c_take : Cal P w K mg base CX0 1 "_law_take" ["draws", "at", "many"] (spTake K))
    (c_ix : Cal P w K mg base CX0 4 "_law_index" ["integers", "draws", "at", "depth"] (spIx K 3)) : FnOk P w K mg base CX0 5 f fd ["variables", "integers", "draws", "at"] (spPl K) := by
  refine F.ok scPl (fun vs H Q E h => ?_) (fun cdv A outer s H vs Q E hr h => ?_)
  · obtain ⟨v, i, d, p, vars, is, rfl, _⟩ := h
    rfl
  · obtain ⟨v, i, d, p, vars, is, rfl, D, S, hv, q⟩ := h
    have nd := scPl.nd
    have two : 2 ≤ sizeLine := by decide
    have three : 3 ≤ sizeLine := by decide
    obtain ⟨xs, ex, tx⟩ := S.lvS
    have lx : xs.length = vars.length := by rw [TvL.len tx, List.length_map]
    have hl : 0 < vars.length := List.length_pos_iff.mpr hv
    refine ⟨_, pss_cons (ps_asg (pe_ix ix_list (pv 0) (pe_call c_take.ok (hr.mono (by first | decide | omega)) rfl c_take.m c_take.kp c_take.b .nil pass0 (pa_cons (pv 2) (pa_cons (pv 3) (pa_cons (pe_callB call_len_seq rfl T.len PySem.boot_len (pa_cons (pv 0) pa_nil)) pa_nil)))) (fun _ _ => rfl)) (pg_tup (by rfl) (pgs_cons (pg_name (i := 4) nd rfl (.inl rfl)) (pgs_cons (pg_name (i := 5) nd rfl (.inl rfl)) (pgs_cons (pg_name (i := 6) nd rfl (.inl rfl)) pgs_nil)))))
      (pss_cons (ps_if (pt_cmpR op_eq (pv 5) pe_int (nomark _)) (pss_one (ps_ret (pe_tup (pa_cons (pv 4) (pa_cons pe_non pa_nil))))) pss_nil)
      (pss_cons (ps_set (i := 7) nd rfl (.inl rfl) (pe_call c_ix.ok (hr.mono (by first | decide | omega)) rfl c_ix.m c_ix.kp c_ix.b .nil pass0 (pa_cons (pv 1) (pa_cons (pv 2) (pa_cons (pv 3) (pa_cons pe_int pa_nil))))))
      (pss_cons (ps_if (pt_cmpR op_gt (pe_call c_take.ok (hr.mono (by first | decide | omega)) rfl c_take.m c_take.kp c_take.b .nil pass0 (pa_cons (pv 2) (pa_cons (pv 3) (pa_cons pe_int pa_nil)))) pe_int (nomark _)) (pss_one (ps_set (i := 7) nd rfl (.inl rfl) (pe_tup (pa_cons pe_str (pa_cons (pv 7) (pa_cons (pv 5) pa_nil)))))) pss_nil)
      (pss_one (ps_ret (pe_tup (pa_cons (pv 4) (pa_cons (pv 7) pa_nil)))))))), ?_⟩
    refine ⟨_, rfl, _, rfl, _, rfl, _, rfl, v, _, rfl, .inl ex, d, p, _, rfl, D, (by omega), fun u H1 u0 u1 s1 c1 => ?_⟩
    obtain ⟨x, hx, hx2⟩ := at_in u0 u1
    obtain ⟨dd, hd, td⟩ := TvL.get tx hx2
    rw [List.getElem?_map] at hd
    obtain ⟨r, hr1, rfl⟩ : ∃ r, r ∈ vars ∧ dd = VRow.enc r := by
      cases e : vars[u.toNat]? with
      | none => rw [e] at hd; cases hd
      | some r => rw [e] at hd; exact ⟨r, List.mem_of_getElem? e, (Option.some.inj hd).symm⟩
    obtain ⟨nm, sz, fx⟩ := r
    obtain ⟨ra, ys, rfl, st, y1, zs1, rfl, h1, y2, zs2, rfl, h2, y3, zs3, rfl, h3, h4⟩ := Tv.carry (s1.carry D.ctr) _ _ td
    cases h1
    cases h2
    cases h3
    cases h4
    have S1 := S.next s1 D.ctr
    have D1 := D.next s1 c1
    refine ⟨v, _, _, _, rfl, rfl, s1.list S.nv ex, hx, ?_⟩
    refine ⟨ra, _, rfl, st, rfl, _, _, rfl, _, _, rfl, _, _, rfl, rfl, ?_⟩
    refine ⟨_, rfl, rfl, _, rfl, ?_⟩
    by_cases z : sz = 0
    · refine iteT' (decide_eq_true (congrArg V.int z)) ?_
      subst z
      exact ⟨_, rfl, two, fun a ha => q nm none _ _ (.plain hr1) (tv2 upd_same rfl rfl) (s1.trans (stays_new ha)) (c1.new ha)⟩
    refine iteF' (decide_eq_false (fun y => z (V.int.inj y))) ?_
    refine ⟨_, rfl, _, rfl, _, rfl, i, d, p, is, 2, rfl, D1, S.ni, S1.liS, S.si, by decide, fun x w1 H2 g1 t1 s2 c2 => ?_⟩
    refine ⟨_, rfl, _, rfl, d, p, 8, rfl, D1.next s2 c2, by decide, fun k H3 k0 k1 s3 c3 => ⟨_, _, rfl, rfl, _, rfl, ite2 (fun _ => ?_) (fun _ => ?_)⟩⟩
    · have t2 := Tv.carry (s3.carry c2) _ _ t1
      refine ⟨_, rfl, _, rfl, three, fun a ha => ?_⟩
      have t3 : Tv K (upd H3 a (.tup [V.str "rem", w1, V.int sz])) (Ix.rem x sz).enc (.ref a) := tv3 upd_same rfl (Tv.carry (carry_new ha) _ _ t2) rfl
      refine ⟨_, rfl, _, rfl, two, fun b hb => ?_⟩
      exact q nm (some (.rem x sz)) _ _ (.wrapped hr1 z g1) (tv2 upd_same rfl (Tv.carry (carry_new hb) _ _ t3)) ((((s1.trans s2).trans s3).trans (stays_new ha)).trans (stays_new hb)) ((c3.new ha).new hb)
    · have t2 := Tv.carry (s3.carry c2) _ _ t1
      exact ⟨_, rfl, _, rfl, two, fun b hb => q nm (some x) _ _ (.raw hr1 z g1) (tv2 upd_same rfl (Tv.carry (carry_new hb) _ _ t2)) (((s1.trans s2).trans s3).trans (stays_new hb)) (c3.new hb)⟩
theorem scEx : FnScope ["variables", "integers", "draws", "at", "depth", "choice", "name", "index", "op", "left"] ["variables", "integers", "draws", "at", "depth"] (defScope sEx) := ⟨rfl, rfl, rfl, by decide +kernel, rfl, by decide +kernel, by decide +kernel⟩
theorem ok_ex1 {f : Addr} {fd : FuncData} {k : Nat} (F : Fun K "_law_expression" "_law_expression" sEx f fd) (T : Bi mg) (c_take : Cal P w K mg base CX0 1 "_law_take" ["draws", "at", "many"] (spTake K))
    (c_numb : Cal P w K mg base CX0 2 "_law_number" ["draws", "at"] (spNumb K)) (c_pl : Cal P w K mg base CX0 5 "_law_place" ["variables", "integers", "draws", "at"] (spPl K))
    (c_ex : Cal P w K mg base CX0 (k + 5) "_law_expression" ["variables", "integers", "draws", "at", "depth"] (spEx K k)) : FnOk P w K mg base CX0 (k + 5 + 1) f fd ["variables", "integers", "draws", "at", "depth"] (spEx K (k + 1)) := by
  refine F.ok scEx (fun vs H Q E h => ?_) (fun cdv A outer s H vs Q E hr h => ?_)
  · obtain ⟨v, i, d, p, vars, is, n, rfl, _⟩ := h
    rfl
  · obtain ⟨v, i, d, p, vars, is, n, rfl, D, S, hv, hn, q⟩ := h
    have nd := scEx.nd
    have two : 2 ≤ sizeLine := by decide
    have three : 3 ≤ sizeLine := by decide
    have five : 5 ≤ sizeLine := by decide
    refine ⟨_, pss_cons (ps_set (i := 5) nd rfl (.inl rfl) (pe_call c_take.ok (hr.mono (by first | decide | omega)) rfl c_take.m c_take.kp c_take.b .nil pass0 (pa_cons (pv 2) (pa_cons (pv 3) (pa_cons pe_int pa_nil)))))
      (pss_cons (ps_if (pt_cmpR op_eq (pv 5) pe_int (nomark _)) (pss_one (ps_ret (pe_tup (pa_cons pe_str (pa_cons (pe_call c_numb.ok (hr.mono (by first | decide | omega)) rfl c_numb.m c_numb.kp c_numb.b .nil pass0 (pa_cons (pv 2) (pa_cons (pv 3) pa_nil))) pa_nil))))) pss_nil)
      (pss_cons (ps_if (PW.pt (pw_or (pt_cmpR op_lt (pv 5) pe_int (nomark _)) (pw_or1 (pt_cmpR op_eq (pv 4) pe_int (nomark _))))) (pss_cons (ps_asg (pe_call c_pl.ok (hr.mono (by first | decide | omega)) rfl c_pl.m c_pl.kp c_pl.b .nil pass0 (pa_cons (pv 0) (pa_cons (pv 1) (pa_cons (pv 2) (pa_cons (pv 3) pa_nil))))) (pg_tup (by rfl) (pgs_cons (pg_name (i := 6) nd rfl (.inl rfl)) (pgs_cons (pg_name (i := 7) nd rfl (.inl rfl)) pgs_nil))))
      (pss_one (ps_ret (pe_tup (pa_cons pe_str (pa_cons (pv 6) (pa_cons (pv 7) pa_nil))))))) pss_nil)
      (pss_cons (ps_set (i := 8) nd rfl (.inl rfl) (pe_ix ix_list (pe_lst (pa_cons pe_str (pa_cons pe_str (pa_cons pe_str (pa_cons pe_str (pa_cons pe_str pa_nil)))))) (pe_op op_sub (pv 5) pe_int) (fun _ _ => rfl)))
      (pss_cons (ps_set (i := 9) nd rfl (.inl rfl) (pe_call c_ex.ok (hr.mono (by first | decide | omega)) rfl c_ex.m c_ex.kp c_ex.b .nil pass0 (pa_cons (pv 0) (pa_cons (pv 1) (pa_cons (pv 2) (pa_cons (pv 3) (pa_cons (pe_op op_sub (pv 4) pe_int) pa_nil)))))))
      (pss_one (ps_ret (pe_tup (pa_cons (pv 8) (pa_cons (pv 9) (pa_cons (pe_call c_ex.ok (hr.mono (by first | decide | omega)) rfl c_ex.m c_ex.kp c_ex.b .nil pass0 (pa_cons (pv 0) (pa_cons (pv 1) (pa_cons (pv 2) (pa_cons (pv 3) (pa_cons (pe_op op_sub (pv 4) pe_int) pa_nil)))))) pa_nil)))))))))), ?_⟩
    refine ⟨_, rfl, _, rfl, d, p, 8, rfl, D, by decide, fun c H1 u0 u1 s1 c1 => ?_⟩
    have S1 := S.next s1 D.ctr
    have D1 := D.next s1 c1
    refine ⟨_, rfl, rfl, _, rfl, ite2 (fun _ => ?_) (fun kc => ?_)⟩
    · exact ⟨_, rfl, _, rfl, d, p, rfl, D1, fun m H2 gm s2 c2 => ⟨two, fun a ha => q (.num m) _ _ (.num gm) (tv2 upd_same rfl rfl) ((s1.trans s2).trans (stays_new ha)) (c2.new ha)⟩⟩
    have kc' : c ≠ 0 := fun z => kc (decide_eq_true (congrArg V.int z))
    have place : ∀ (R : V → Hp → Prop), (∀ x u H', GEx vars is n x → Tv K H' x.enc u → Stays p H H' → AtL H' p → R u H') → ∀ nm ix u H', GPl vars is nm ix → Tv K H' (encPl nm ix) u → Stays p H1 H' → AtL H' p →
        ∃ a xs, u = V.ref a ∧ SqT K H' a xs ∧ ∃ y, xs = [V.str nm, y] ∧ ∀ b, H' b = none → R (.ref b) (upd H' b (.tup [V.str "place", V.str nm, y])) := by
      intro R hR nm ix u H' g t s2 c2
      obtain ⟨a, xs, rfl, st, y1, zs1, rfl, h1, y2, zs2, rfl, h2, h3⟩ := t
      cases h1
      cases h3
      exact ⟨a, _, rfl, st, y2, rfl, fun b hb => hR (.place nm ix) _ _ (.place g) (tv3 upd_same rfl rfl (Tv.carry (carry_new hb) _ _ h2)) ((s1.trans s2).trans (stays_new hb)) (c2.new hb)⟩
    refine ⟨_, rfl, _, _, rfl, rfl, _, rfl, ?_⟩
    by_cases k1 : c < 3
    · refine iteT' (decide_eq_true k1) (iteT ?_)
      refine ⟨_, rfl, _, rfl, _, rfl, _, rfl, v, i, d, p, vars, is, rfl, D1, S1, hv, fun nm ix u H2 g t s2 c2 => ?_⟩
      obtain ⟨a, xs, rfl, st, y, rfl, fin⟩ := place Q q nm ix u H2 g t s2 c2
      exact ⟨a, _, rfl, st, rfl, _, _, rfl, _, _, rfl, rfl, _, rfl, _, rfl, three, fin⟩
    refine iteF' (decide_eq_false k1) ⟨_, rfl, rfl, _, rfl, ?_⟩
    by_cases k2 : (n : Int) = 0
    · refine iteT' (decide_eq_true (congrArg V.int k2)) ?_
      refine ⟨_, rfl, _, rfl, _, rfl, _, rfl, v, i, d, p, vars, is, rfl, D1, S1, hv, fun nm ix u H2 g t s2 c2 => ?_⟩
      obtain ⟨a, xs, rfl, st, y, rfl, fin⟩ := place Q q nm ix u H2 g t s2 c2
      exact ⟨a, _, rfl, st, rfl, _, _, rfl, _, _, rfl, rfl, _, rfl, _, rfl, three, fin⟩
    refine iteF' (decide_eq_false (fun y => k2 (V.int.inj y))) ?_
    have n0 : n ≠ 0 := fun z => k2 (by rw [z]; rfl)
    obtain ⟨m, rfl⟩ : ∃ m, n = m + 1 := ⟨n - 1, by omega⟩
    have em : ((m + 1 : Nat) : Int) - 1 = (m : Int) := by omega
    refine ⟨five, fun l hl => ?_⟩
    have nl : l ≠ p := fun z => by obtain ⟨j, _, e⟩ := c1; rw [z, e] at hl; cases hl
    obtain ⟨o, ho⟩ : ∃ o : Op, atI [V.str "add", V.str "mul", V.str "mul", V.str "sub", V.str "div"] (c - 3) = some (.str o.str) := by
      have cs : c = 3 ∨ c = 4 ∨ c = 5 ∨ c = 6 ∨ c = 7 := by omega
      rcases cs with z | z | z | z | z <;> subst z
      · exact ⟨.add, rfl⟩
      · exact ⟨.mul, rfl⟩
      · exact ⟨.mul, rfl⟩
      · exact ⟨.sub, rfl⟩
      · exact ⟨.div, rfl⟩
    refine ⟨_, rfl, _, _, rfl, rfl, l, _, _, _, rfl, rfl, SqL.of upd_same, ho, ?_⟩
    have s2 := stays_new (p := p) (o := .lst [V.str "add", V.str "mul", V.str "mul", V.str "sub", V.str "div"]) hl
    have c2 := c1.new (o := .lst [V.str "add", V.str "mul", V.str "mul", V.str "sub", V.str "div"]) hl
    have S2 := S1.next s2 c1
    refine ⟨_, rfl, _, rfl, _, rfl, _, rfl, _, rfl, _, _, rfl, rfl, v, i, d, p, vars, is, m, congrArg (fun z : Int => [V.ref v, V.ref i, V.ref d, V.ref p, V.int z]) em, D1.next s2 c2, S2, hv, by omega, fun x1 w1 H3 g1 t1 s3 c3 => ?_⟩
    refine ⟨_, rfl, _, rfl, _, rfl, _, rfl, _, rfl, _, rfl, _, rfl, _, _, rfl, rfl, v, i, d, p, vars, is, m, congrArg (fun z : Int => [V.ref v, V.ref i, V.ref d, V.ref p, V.int z]) em, (D1.next s2 c2).next s3 c3, S2.next s3 c2, hv, by omega, fun x2 w2 H4 g2 t2 s4 c4 => ⟨three, fun a ha => ?_⟩⟩
    exact q (.op o x1 x2) _ _ (.op g1 g2) (tv3 upd_same rfl (Tv.carry (carry_new ha) _ _ (Tv.carry (s4.carry c3) _ _ t1)) (Tv.carry (carry_new ha) _ _ t2)) ((((s1.trans s2).trans s3).trans s4).trans (stays_new ha)) (c4.new ha)
theorem ok_ex {f : Addr} {fd : FuncData} (F : Fun K "_law_expression" "_law_expression" sEx f fd) (T : Bi mg) (c_take : Cal P w K mg base CX0 1 "_law_take" ["draws", "at", "many"] (spTake K)) (c_numb : Cal P w K mg base CX0 2 "_law_number" ["draws", "at"] (spNumb K))
    (c_pl : Cal P w K mg base CX0 5 "_law_place" ["variables", "integers", "draws", "at"] (spPl K)) (b : Binds K fd ["variables", "integers", "draws", "at", "depth"] []) (m : mg "_law_expression" = some (.ref f)) :
    ∀ k : Nat, FnOk P w K mg base CX0 (k + 5) f fd ["variables", "integers", "draws", "at", "depth"] (spEx K k)
  | 0 => fn_none fun vs H Q E h => by
    obtain ⟨_, _, _, _, _, _, n, _, _, _, _, z, _⟩ := h
    exact absurd z (Nat.not_lt_zero _)
  | k + 1 => ok_ex1 F T c_take c_numb c_pl ⟨f, fd, ok_ex F T c_take c_numb c_pl b m k, b, F.kp, m⟩
theorem scTs : FnScope ["variables", "integers", "draws", "at", "choice", "op"] ["variables", "integers", "draws", "at"] (defScope sTs) := ⟨rfl, rfl, rfl, by decide +kernel, rfl, by decide +kernel, by decide +kernel⟩
theorem ok_ts {f : Addr} {fd : FuncData} (F : Fun K "_law_test" "_law_test" sTs f fd) (c_take : Cal P w K mg base CX0 1 "_law_take" ["draws", "at", "many"] (spTake K))
    (c_ix : Cal P w K mg base CX0 4 "_law_index" ["integers", "draws", "at", "depth"] (spIx K 3)) (c_ex : Cal P w K mg base CX0 8 "_law_expression" ["variables", "integers", "draws", "at", "depth"] (spEx K 3)) : FnOk P w K mg base CX0 9 f fd ["variables", "integers", "draws", "at"] (spTs K) := by
  refine F.ok scTs (fun vs H Q E h => ?_) (fun cdv A outer s H vs Q E hr h => ?_)
  · obtain ⟨v, i, d, p, vars, is, rfl, _⟩ := h
    rfl
  · obtain ⟨v, i, d, p, vars, is, rfl, D, S, hv, q⟩ := h
    have nd := scTs.nd
    have two : 2 ≤ sizeLine := by decide
    have three : 3 ≤ sizeLine := by decide
    refine ⟨_, pss_cons (ps_set (i := 4) nd rfl (.inl rfl) (pe_call c_take.ok (hr.mono (by first | decide | omega)) rfl c_take.m c_take.kp c_take.b .nil pass0 (pa_cons (pv 2) (pa_cons (pv 3) (pa_cons pe_int pa_nil)))))
      (pss_cons (ps_if (pt_cmpR op_eq (pv 4) pe_int (nomark _)) (pss_one (ps_ret (pe_tup (pa_cons pe_str (pa_cons (pe_call c_ex.ok (hr.mono (by first | decide | omega)) rfl c_ex.m c_ex.kp c_ex.b .nil pass0 (pa_cons (pv 0) (pa_cons (pv 1) (pa_cons (pv 2) (pa_cons (pv 3) (pa_cons pe_int pa_nil)))))) pa_nil))))) pss_nil)
      (pss_cons (ps_if (pt_cmpR op_eq (pv 4) pe_int (nomark _)) (pss_one (ps_ret (pe_tup (pa_cons pe_str (pa_cons (pe_tup (pa_cons pe_str (pa_cons (pe_call c_ex.ok (hr.mono (by first | decide | omega)) rfl c_ex.m c_ex.kp c_ex.b .nil pass0 (pa_cons (pv 0) (pa_cons (pv 1) (pa_cons (pv 2) (pa_cons (pv 3) (pa_cons pe_int pa_nil)))))) pa_nil))) pa_nil))))) pss_nil)
      (pss_cons (ps_set (i := 5) nd rfl (.inl rfl) (pe_ix ix_list (pe_lst (pa_cons pe_str (pa_cons pe_str pa_nil))) (pe_op op_sub (pv 4) pe_int) (fun _ _ => rfl)))
      (pss_one (ps_ret (pe_tup (pa_cons (pv 5) (pa_cons (pe_call c_ix.ok (hr.mono (by first | decide | omega)) rfl c_ix.m c_ix.kp c_ix.b .nil pass0 (pa_cons (pv 1) (pa_cons (pv 2) (pa_cons (pv 3) (pa_cons pe_int pa_nil))))) (pa_cons (pe_call c_ix.ok (hr.mono (by first | decide | omega)) rfl c_ix.m c_ix.kp c_ix.b .nil pass0 (pa_cons (pv 1) (pa_cons (pv 2) (pa_cons (pv 3) (pa_cons pe_int pa_nil))))) pa_nil))))))))), ?_⟩
    refine ⟨_, rfl, _, rfl, d, p, 4, rfl, D, by decide, fun c H1 u0 u1 s1 c1 => ?_⟩
    have S1 := S.next s1 D.ctr
    have D1 := D.next s1 c1
    refine ⟨_, rfl, rfl, _, rfl, ite2 (fun _ => ?_) (fun k0 => ?_)⟩
    · exact ⟨_, rfl, _, rfl, _, rfl, _, rfl, v, i, d, p, vars, is, 1, rfl, D1, S1, hv, by decide, fun x u H2 g t s2 c2 => ⟨two, fun a ha => q (.zero x) _ _ (.zero g) (tv2 upd_same rfl (Tv.carry (carry_new ha) _ _ t)) ((s1.trans s2).trans (stays_new ha)) (c2.new ha)⟩⟩
    refine ⟨_, rfl, rfl, _, rfl, ite2 (fun _ => ?_) (fun k1 => ?_)⟩
    · refine ⟨_, rfl, _, rfl, _, rfl, _, rfl, v, i, d, p, vars, is, 1, rfl, D1, S1, hv, by decide, fun x u H2 g t s2 c2 => ⟨two, fun a ha => ⟨two, fun b hb => ?_⟩⟩⟩
      have t3 : Tv K (upd H2 a (.tup [V.str "zero", u])) (Ts.zero x).enc (.ref a) := tv2 upd_same rfl (Tv.carry (carry_new ha) _ _ t)
      exact q (.not (.zero x)) _ _ (.notz g) (tv2 upd_same rfl (Tv.carry (carry_new hb) _ _ t3)) (((s1.trans s2).trans (stays_new ha)).trans (stays_new hb)) ((c2.new ha).new hb)
    have k0' : c ≠ 0 := fun z => k0 (decide_eq_true (congrArg V.int z))
    have k1' : c ≠ 1 := fun z => k1 (decide_eq_true (congrArg V.int z))
    refine ⟨two, fun l hl => ?_⟩
    have s2 := stays_new (p := p) (o := .lst [V.str "less", V.str "equal"]) hl
    have c2 := c1.new (o := .lst [V.str "less", V.str "equal"]) hl
    have S2 := S1.next s2 c1
    have cs : c = 2 ∨ c = 3 := by omega
    rcases cs with z | z <;> subst z
    · refine ⟨_, rfl, _, _, rfl, rfl, l, _, _, _, rfl, rfl, SqL.of upd_same, rfl, ?_⟩
      refine ⟨_, rfl, _, rfl, _, rfl, _, rfl, i, d, p, is, 1, rfl, D1.next s2 c2, S.ni, S2.liS, S.si, by decide, fun x1 w1 H3 g1 t1 s3 c3 => ?_⟩
      refine ⟨_, rfl, _, rfl, _, rfl, i, d, p, is, 1, rfl, (D1.next s2 c2).next s3 c3, S.ni, (S2.next s3 c2).liS, S.si, by decide, fun x2 w2 H4 g2 t2 s4 c4 => ⟨three, fun a ha => ?_⟩⟩
      exact q (.less x1 x2) _ _ (.less g1 g2) (tv3 upd_same rfl (Tv.carry (carry_new ha) _ _ (Tv.carry (s4.carry c3) _ _ t1)) (Tv.carry (carry_new ha) _ _ t2)) ((((s1.trans s2).trans s3).trans s4).trans (stays_new ha)) (c4.new ha)
    · refine ⟨_, rfl, _, _, rfl, rfl, l, _, _, _, rfl, rfl, SqL.of upd_same, rfl, ?_⟩
      refine ⟨_, rfl, _, rfl, _, rfl, _, rfl, i, d, p, is, 1, rfl, D1.next s2 c2, S.ni, S2.liS, S.si, by decide, fun x1 w1 H3 g1 t1 s3 c3 => ?_⟩
      refine ⟨_, rfl, _, rfl, _, rfl, i, d, p, is, 1, rfl, (D1.next s2 c2).next s3 c3, S.ni, (S2.next s3 c2).liS, S.si, by decide, fun x2 w2 H4 g2 t2 s4 c4 => ⟨three, fun a ha => ?_⟩⟩
      exact q (.equal x1 x2) _ _ (.equal g1 g2) (tv3 upd_same rfl (Tv.carry (carry_new ha) _ _ (Tv.carry (s4.carry c3) _ _ t1)) (Tv.carry (carry_new ha) _ _ t2)) ((((s1.trans s2).trans s3).trans s4).trans (stays_new ha)) (c4.new ha)

/-! ### calls -/
/-- what is known of a procedure: name, how many integers, the references' sizes -/
abbrev KRow := Str × Nat × List Int
/-- the list of known procedures as it stands -/
def KnL (K : PySem.W.Frag) (H : Hp) (p : Addr) : List KRow → List V → Prop
  | [], vs => vs = []
  | (nm, c, zs) :: ks, vs => ∃ (a sl : Addr) (xs : List V), vs = .ref a :: xs ∧ SqT K H a [.str nm, .int (c : Int), .ref sl] ∧ SqL K H sl (zs.map V.int) ∧ sl ≠ p ∧ KnL K H p ks xs
structure Kn (K : PySem.W.Frag) (H : Hp) (p a : Addr) (ks : List KRow) : Prop where
  ne : a ≠ p
  it : ∃ xs, SqL K H a xs ∧ KnL K H p ks xs
  few : ks.length ≤ 1000
  small : ∀ r ∈ ks, r.2.1 ≤ 1000 ∧ r.2.2.length ≤ 1000
theorem KnL.next {H H' : Hp} {p : Addr} (s : Stays p H H') (c : AtL H p) : ∀ (ks : List KRow) (vs : List V), KnL K H p ks vs → KnL K H' p ks vs
  | [], _, h => h
  | (nm, n, zs) :: ks, _, h => by
    obtain ⟨a, sl, xs, e, t, l, ne, r⟩ := h
    exact ⟨a, sl, xs, e, s.carry c _ _ t, s.list ne l, ne, KnL.next s c ks xs r⟩
theorem Kn.next {H H' : Hp} {p a : Addr} {ks : List KRow} (h : Kn K H p a ks) (s : Stays p H H') (c : AtL H p) : Kn K H' p a ks := by
  obtain ⟨xs, e, l⟩ := h.it
  exact ⟨h.ne, ⟨xs, s.list h.ne e, KnL.next s c _ _ l⟩, h.few, h.small⟩
theorem KnL.len {H : Hp} {p : Addr} : ∀ {ks : List KRow} {xs : List V}, KnL K H p ks xs → xs.length = ks.length
  | [], _, h => by cases h; rfl
  | (nm, n, zs) :: ks, _, h => by
    obtain ⟨a, sl, xs, e, _, _, _, r⟩ := h
    subst e
    show xs.length + 1 = ks.length + 1
    rw [KnL.len r]
theorem KnL.get {H : Hp} {p : Addr} : ∀ {ks : List KRow} {xs : List V} {j : Nat} {x : V}, KnL K H p ks xs → xs[j]? = some x → ∃ (r : KRow) (a sl : Addr), r ∈ ks ∧ x = .ref a ∧ SqT K H a [.str r.1, .int (r.2.1 : Int), .ref sl] ∧ SqL K H sl (r.2.2.map V.int) ∧ sl ≠ p
  | [], _, j, x, h, e => by cases h; simp at e
  | (nm, n, zs) :: ks, _, 0, x, h, e => by
    obtain ⟨a, sl, xs, z, t, l, ne, _⟩ := h
    subst z
    exact ⟨(nm, n, zs), a, sl, List.mem_cons_self, (Option.some.inj e).symm, t, l, ne⟩
  | (nm, n, zs) :: ks, _, j + 1, x, h, e => by
    obtain ⟨a, sl, xs, z, t, l, ne, r⟩ := h
    subst z
    obtain ⟨row, a', sl', m, rest⟩ := KnL.get (ks := ks) (j := j) r e
    exact ⟨row, a', sl', List.mem_cons_of_mem _ m, rest⟩
/-- the references of a call, one for each size, each another -/
inductive Picks (vars : List VRow) : List Int → List Str → Prop where
  | nil : Picks vars [] []
  | snoc {zs : List Int} {ns : List Str} {z : Int} {n : Str} (h : Picks vars zs ns) (m : (n, z, false) ∈ vars) (d : n ∉ ns) : Picks vars (zs ++ [z]) (ns ++ [n])
theorem Picks.len {vars : List VRow} {zs : List Int} {ns : List Str} (h : Picks vars zs ns) : ns.length = zs.length := by
  induction h with
  | nil => rfl
  | snoc _ _ _ ih => rw [List.length_append, List.length_append, ih]; rfl
structure GCall (ks : List KRow) (vars : List VRow) (is : List Str) (f : Str) (xs : List Ix) (ns : List Str) : Prop where
  row : ∃ zs, (f, xs.length, zs) ∈ ks ∧ Picks vars zs ns
  idx : ∀ x ∈ xs, GIx is 2 x
def encCall (f : Str) (xs : List Ix) (ns : List Str) : PyData := .tuple [.str "call", .str f, .tuple (xs.map Ix.enc), .tuple (ns.map PyData.str)]
theorem tvl_append {H : Hp} : ∀ {ds : List PyData} {xs : List V} {d : PyData} {x : V}, TvL K H ds xs → Tv K H d x → TvL K H (ds ++ [d]) (xs ++ [x])
  | [], _, d, x, h, t => by cases h; exact ⟨x, [], rfl, t, rfl⟩
  | e :: ds, _, d, x, h, t => by
    obtain ⟨y, ys, z, ty, l⟩ := h
    subst z
    exact ⟨y, ys ++ [x], rfl, ty, tvl_append l t⟩
theorem tvl_strs {H : Hp} : ∀ ns : List Str, TvL K H (ns.map PyData.str) (ns.map V.str)
  | [] => rfl
  | n :: ns => ⟨_, _, rfl, rfl, tvl_strs ns⟩
def spCall (K : PySem.W.Frag) : Sp := fun vs H Q _ => ∃ (v i k d p : Addr) (vars : List VRow) (is : List Str) (ks : List KRow), vs = [.ref v, .ref i, .ref k, .ref d, .ref p] ∧ Dr K H d p ∧ Sc K H p v i vars is ∧ Kn K H p k ks ∧
  (∀ H', Stays p H H' → AtL H' p → Q .non H') ∧ ∀ f xs ns u H', GCall ks vars is f xs ns → Tv K H' (encCall f xs ns) u → Stays p H H' → AtL H' p → (∃ a, u = .ref a) → Q u H'
abbrev sCall : Stmt := top 69
abbrev nCall : List Str := ["variables", "integers", "known", "draws", "at", "name", "count", "sizes", "names", "size", "rows", "row", "k"]
theorem scCall : FnScope nCall ["variables", "integers", "known", "draws", "at"] (defScope sCall) := ⟨rfl, rfl, rfl, by decide +kernel, rfl, by decide +kernel, by decide +kernel⟩
theorem in_strs (x : Str) : ∀ ns : List Str, inV (.str x) (ns.map V.str) = true ↔ x ∈ ns
  | [] => by simp [inV]
  | n :: ns => by
    have ih := in_strs x ns
    unfold inV at ih ⊢
    rw [List.map_cons, List.any_cons, Bool.or_eq_true, ih, List.mem_cons]
    have e : eqV (.str n) (.str x) = true ↔ x = n := by
      simp [eqV]
      exact eq_comm
    rw [e]
theorem flat_strs : ∀ ns : List Str, (ns.map V.str).all flatV = true
  | [] => rfl
  | n :: ns => by rw [List.map_cons, List.all_cons, flat_strs ns]; rfl
theorem ok_call {f : Addr} {fd : FuncData} (F : Fun K "_law_call" "_law_call" sCall f fd) (T : Bi mg) (c_take : Cal P w K mg base CX0 1 "_law_take" ["draws", "at", "many"] (spTake K))
    (c_ix : Cal P w K mg base CX0 4 "_law_index" ["integers", "draws", "at", "depth"] (spIx K 3)) : FnOk P w K mg base CX0 5 f fd ["variables", "integers", "known", "draws", "at"] (spCall K) := by
  refine F.ok scCall (fun vs H Q E h => ?_) (fun cdv A outer s H vs Q E hr h => ?_)
  · obtain ⟨v, i, k, d, p, vars, is, ks, rfl, _⟩ := h
    rfl
  · obtain ⟨v, i, k, d, p, vars, is, ks, rfl, D, S, N, qn, q⟩ := h
    have nd := scCall.nd
    have four : 4 ≤ sizeLine := by decide
    obtain ⟨kxs, ek, tk⟩ := N.it
    have lk : kxs.length = ks.length := KnL.len tk
    refine ⟨_, pss_cons (ps_if (pt_not (pt_truth (pv 2) (by intro _; rfl))) (pss_one (ps_ret pe_non)) pss_nil)
      (pss_cons (ps_asg (pe_ix ix_list (pv 2) (pe_call c_take.ok (hr.mono (by first | decide | omega)) rfl c_take.m c_take.kp c_take.b .nil pass0 (pa_cons (pv 3) (pa_cons (pv 4) (pa_cons (pe_callB call_len_seq rfl T.len PySem.boot_len (pa_cons (pv 2) pa_nil)) pa_nil)))) (fun _ _ => rfl)) (pg_tup (by rfl) (pgs_cons (pg_name (i := 5) nd rfl (.inl rfl)) (pgs_cons (pg_name (i := 6) nd rfl (.inl rfl)) (pgs_cons (pg_name (i := 7) nd rfl (.inl rfl)) pgs_nil)))))
      (pss_cons (ps_set (i := 8) nd rfl (.inr rfl) (pe_lst pa_nil))
      (pss_cons (ps_for PassesOwn.never rfl (pi_list (pv 7)) (pg_name (i := 9) nd rfl (.inr rfl)) (pss_cons (ps_setLc (i := 10) (own := [("row", 11)]) (g := gName 11) rfl nd rfl rfl (sw_true rfl rfl rfl (by decide +kernel)) (pi_list (pv 0)) (blkOk_by (N := nCall) (sc := defScope sCall) (by decide +kernel)) (fun _ _ _ _ _ => pg_name (i := 11) nd rfl (.inl rfl)) (fun _ _ _ _ _ => pts_one (PW.pt (pw_and (pt_cmpR op_eq (pe_ix (ixT (K' := K) rfl) (pv 11) pe_int (fun _ _ => rfl)) (pv 9) (nomark _)) (pw_and (pt_not (pt_val (pe_ix (ixT (K' := K) rfl) (pv 11) pe_int (fun _ _ => rfl)))) (pw_and1 (pt_cmpR (notInK (K' := K) rfl) (pe_ix (ixT (K' := K) rfl) (pv 11) pe_int (fun _ _ => rfl)) (pv 8) (by rfl))))))) (fun _ _ _ _ _ => (pv 11)))
      (pss_cons (ps_if (pt_not (pt_truth (pv 10) (by intro _; rfl))) (pss_one (ps_ret pe_non)) pss_nil)
      (pss_one (ps_expr (pe_bm PySem.F.plainAttrs_list PySem.F.slot_list_append PySem.F.type_list_append mt_append (pv 8) (pa_cons (pe_ix ix_tup (pe_ix ix_list (pv 10) (pe_call c_take.ok (hr.mono (by first | decide | omega)) rfl c_take.m c_take.kp c_take.b .nil pass0 (pa_cons (pv 3) (pa_cons (pv 4) (pa_cons (pe_callB call_len_seq rfl T.len PySem.boot_len (pa_cons (pv 10) pa_nil)) pa_nil)))) (fun _ _ => rfl)) pe_int (fun _ _ => rfl)) pa_nil)))))))
      (pss_one (ps_ret (pe_tup (pa_cons pe_str (pa_cons (pv 5) (pa_cons (pe_callTy call_tuple_of rfl T.tuple PyProof.Rows.boot_tuple (pa_cons (pe_lc (own := [("k", 12)]) (g := gName 12) (tt := tYes) rfl nd (pi_range1 rfl T.range (pa_cons (pv 6) pa_nil)) (blkOk_by (N := nCall) (sc := defScope sCall) (by decide +kernel)) (fun _ _ _ _ _ => pg_name (i := 12) nd rfl (.inl rfl)) (fun _ _ _ _ _ => pts_nil) (fun _ _ _ _ _ => (pe_call c_ix.ok (hr.mono (by first | decide | omega)) rfl c_ix.m c_ix.kp c_ix.b .nil pass0 (pa_cons (pv 1) (pa_cons (pv 3) (pa_cons (pv 4) (pa_cons pe_int pa_nil))))))) pa_nil)) (pa_cons (pe_callTy call_tuple_of rfl T.tuple PyProof.Rows.boot_tuple (pa_cons (pv 8) pa_nil)) pa_nil)))))))))), ?_⟩
    refine ⟨_, rfl, !kxs.isEmpty, .inl ⟨_, ek, rfl⟩, ?_⟩
    cases ks with
    | nil =>
      have e : kxs = [] := List.eq_nil_of_length_eq_zero lk
      subst e
      exact qn H (Stays.refl _ _) D.ctr
    | cons k0 kr =>
    have e : (!kxs.isEmpty) = true := by
      cases kxs with
      | nil => cases lk
      | cons _ _ => rfl
    rw [e]
    refine iteF ?_
    refine ⟨_, rfl, _, rfl, _, rfl, _, rfl, k, _, rfl, .inl ek, d, p, _, rfl, D, (by rw [lk, List.length_cons]; omega), fun u H1 u0 u1 s1 c1 => ?_⟩
    obtain ⟨x, hx, hx2⟩ := at_in u0 u1
    obtain ⟨r, ra, sl, hr0, rfl, st, ssl, nsl⟩ := KnL.get tk hx2
    obtain ⟨nm, cnt, zs⟩ := r
    have small := N.small _ hr0
    have S1 := S.next s1 D.ctr
    have D1 := D.next s1 c1
    refine ⟨k, _, _, _, rfl, rfl, s1.list N.ne ek, hx, ?_⟩
    refine ⟨ra, _, rfl, s1.carry D.ctr _ _ st, rfl, _, _, rfl, _, _, rfl, _, _, rfl, rfl, ?_⟩
    refine ⟨Nat.zero_le _, fun N' hN => ?_⟩
    have nN : N' ≠ p := fun z => by obtain ⟨j, _, e⟩ := c1; rw [z, e] at hN; cases hN
    have ssl1 := s1.list nsl ssl
    refine ⟨_, rfl, sl, rfl, ⟨_, (stays_new hN).list nsl ssl1⟩, for_list (K := K) (a := sl) (xs := zs.map V.int) (fun j σ H' => Stays p H1 H' ∧ AtL H' p ∧ (∃ ns : List Str, Picks vars (zs.take j) ns ∧ H' N' = some (.lst (ns.map V.str))) ∧
        ∃ w9 w10 : Option V, σ = [some (.ref v), some (.ref i), some (.ref k), some (.ref d), some (.ref p), some (.str nm), some (.int (cnt : Int)), some (.ref sl), some (.ref N'), w9, w10, none, none])
      ⟨stays_new hN, c1.new hN, ⟨[], .nil, upd_same⟩, none, none, rfl⟩ (fun j σ H' _ z => z.1.list nsl ssl1) ?_ ?_⟩
    · rintro j x σ H' hj ⟨s2, c2, ⟨ns, pk, eN⟩, w9, w10, rfl⟩
      rw [List.getElem?_map] at hj
      obtain ⟨z, hz, rfl⟩ : ∃ z, zs[j]? = some z ∧ x = V.int z := by
        cases e : zs[j]? with
        | none => rw [e] at hj; cases hj
        | some z => rw [e] at hj; exact ⟨z, rfl, (Option.some.inj hj).symm⟩
      have S2 := S1.next s2 c1
      have D2 := D1.next s2 c2
      obtain ⟨xs, ex, tx⟩ := S2.lvS
      have lx : xs.length = vars.length := by rw [TvL.len tx, List.length_map]
      have jl : j < zs.length := (List.getElem?_eq_some_iff.mp hz).1
      have tk2 : zs.take (j + 1) = zs.take j ++ [z] := by rw [List.take_add_one, hz]; rfl
      have ll : ns.length ≤ 1000 := by rw [pk.len, List.length_take]; have hz2 : zs.length ≤ 1000 := small.2; omega
      -- the rows that fit
      refine ⟨_, rfl, v, rfl, ⟨_, ex⟩, fun R hR => ?_⟩
      refine lc_list (K := K) (a := v) (xs := xs) (fun jj H'' => Same H' H'' ∧ ∃ (rs : List VRow) (ys : List V), H'' R = some (.lst ys) ∧ TvL K H'' (rs.map VRow.enc) ys ∧ (∀ r ∈ rs, r ∈ vars ∧ r.2.1 = z ∧ r.2.2 = false ∧ r.1 ∉ ns) ∧ ys.length ≤ jj)
        ⟨fun b o e => by rw [upd_ne (ne_of_none e hR)]; exact e, [], [], upd_same, rfl, by simp, Nat.le_refl _⟩ (fun jj H'' _ h => h.1.seq ex) ?_ ?_
      · rintro jj x H'' hx ⟨sm, rs, ys, eR, tys, ars, lys⟩
        have jjl : jj < xs.length := (List.getElem?_eq_some_iff.mp hx).1
        obtain ⟨dd, hd, td⟩ := TvL.get tx hx
        rw [List.getElem?_map] at hd
        obtain ⟨r, hrv, rfl⟩ : ∃ r, r ∈ vars ∧ dd = VRow.enc r := by
          cases e : vars[jj]? with
          | none => rw [e] at hd; cases hd
          | some r => rw [e] at hd; exact ⟨r, List.mem_of_getElem? e, (Option.some.inj hd).symm⟩
        obtain ⟨rn, rz, rf⟩ := r
        have td2 := Tv.carry (same_carry sm) _ _ td
        obtain ⟨ra2, yy, rfl, st2, y1, zs1, rfl, h1, y2, zs2, rfl, h2, y3, zs3, rfl, h3, h4⟩ := td2
        cases h1
        cases h2
        cases h3
        cases h4
        have eN2 := sm _ _ eN
        have stay : Same H' H'' ∧ ∃ (rs : List VRow) (ys : List V), H'' R = some (.lst ys) ∧ TvL K H'' (rs.map VRow.enc) ys ∧ (∀ r ∈ rs, r ∈ vars ∧ r.2.1 = z ∧ r.2.2 = false ∧ r.1 ∉ ns) ∧ ys.length ≤ jj + 1 := ⟨sm, rs, ys, eR, tys, ars, Nat.le_succ_of_le lys⟩
        refine ⟨rfl, _, rfl, ra2, _, _, _, rfl, rfl, st2, rfl, _, rfl, rfl, _, rfl, ?_⟩
        by_cases kz : rz = z
        · refine iteT' (decide_eq_true (congrArg V.int kz)) ⟨_, rfl, ra2, _, _, _, rfl, rfl, st2, rfl, rf, rfl, ?_⟩
          cases rf with
          | true => exact iteF stay
          | false =>
            refine iteT ⟨_, rfl, ra2, _, _, _, rfl, rfl, st2, rfl, _, rfl, N', _, rfl, .inl (SqL.of eN2), rfl, flat_strs ns, _, rfl, ?_⟩
            by_cases kn : rn ∈ ns
            · refine iteF' (by rw [(in_strs rn ns).mpr kn]; rfl) stay
            · have kf : inV (.str rn) (ns.map V.str) = false := Bool.eq_false_iff.mpr fun y => kn ((in_strs rn ns).mp y)
              refine iteT' (by rw [kf]; rfl) ?_
              have keep : Same H' (upd H'' R (.lst (ys ++ [V.ref ra2]))) := fun b o e => by rw [upd_ne (ne_of_none e hR)]; exact sm b o e
              have cr : Carry K H'' (upd H'' R (.lst (ys ++ [V.ref ra2]))) := carry_lst eR
              refine ⟨_, rfl, ys, eR, ?_, keep, rs ++ [(rn, rz, false)], _, upd_same, ?_, ?_, ?_⟩
              · exact Nat.lt_of_le_of_lt lys (Nat.lt_of_lt_of_le jjl (by rw [lx]; exact Nat.le_trans S.sv (by decide)))
              · rw [List.map_append]
                exact tvl_append (TvL.carry cr _ _ tys) ⟨ra2, _, rfl, cr _ _ st2, _, _, rfl, rfl, _, _, rfl, rfl, _, _, rfl, rfl, rfl⟩
              · intro r hr
                rcases List.mem_append.mp hr with h | h
                · exact ars r h
                · rw [List.mem_singleton.mp h]
                  exact ⟨hrv, kz, rfl, kn⟩
              · rw [List.length_append]
                exact Nat.succ_le_succ lys
        · exact iteF' (decide_eq_false (fun y => kz (V.int.inj y))) (iteF stay)
      rintro H2 ⟨sm, rs, ys, eR, tys, ars, lys⟩
      have s3 : Stays p H' H2 := same_stays sm
      have c3 : AtL H2 p := by obtain ⟨j0, j1, j2⟩ := c2; exact ⟨j0, j1, sm _ _ j2⟩
      refine ⟨_, rfl, !ys.isEmpty, .inl ⟨_, SqL.of eR, rfl⟩, ?_⟩
      cases ys with
      | nil => exact qn _ ((s1.trans s2).trans s3) c3
      | cons y0 yr =>
      refine iteF ?_
      have nR : R ≠ p := fun z => by obtain ⟨j0, _, e⟩ := c2; rw [z, e] at hR; cases hR
      refine ⟨_, rfl, .inl ⟨rfl, _, SqL.of (sm _ _ eN)⟩, _, rfl, _, rfl, _, rfl, _, rfl, R, _, rfl, .inl (SqL.of eR), d, p, _, rfl, D2.next s3 c3, (by rw [List.length_cons]; omega), fun u H3 u0 u1 s4 c4 => ?_⟩
      obtain ⟨x, hx, hx2⟩ := at_in u0 u1
      obtain ⟨dd, hd, td⟩ := TvL.get (TvL.carry (s4.carry c3) _ _ tys) hx2
      rw [List.getElem?_map] at hd
      obtain ⟨r, hrv, rfl⟩ : ∃ r, r ∈ rs ∧ dd = VRow.enc r := by
        cases e : rs[u.toNat]? with
        | none => rw [e] at hd; cases hd
        | some r => rw [e] at hd; exact ⟨r, List.mem_of_getElem? e, (Option.some.inj hd).symm⟩
      obtain ⟨rn, rz, rf⟩ := r
      obtain ⟨ra2, yy, rfl, st2, y1, zs1, rfl, h1, y2, zs2, rfl, h2, y3, zs3, rfl, h3, h4⟩ := td
      cases h1
      cases h2
      cases h3
      cases h4
      obtain ⟨m1, m2, m3, m4⟩ := ars _ hrv
      have m2' : rz = z := m2
      have m3' : rf = false := m3
      subst m2' m3'
      have eN3 := s4 _ _ nN (sm _ _ eN)
      refine ⟨R, _, _, _, rfl, rfl, SqL.of (s4 _ _ nR eR), hx, ra2, _, _, _, rfl, rfl, st2, rfl, N', _, _, rfl, rfl, eN3, (by rw [List.length_map]; exact Nat.lt_of_le_of_lt ll (by decide)), ?_⟩
      have s5 := (s2.trans s3).trans s4
      refine ⟨stays_put s5 hN, ?_, ⟨ns ++ [rn], ?_, ?_⟩, _, _, rfl⟩
      · obtain ⟨j0, j1, j2⟩ := c4
        exact ⟨j0, j1, by rw [upd_ne (Ne.symm nN)]; exact j2⟩
      · rw [tk2]
        exact pk.snoc m1 m4
      · rw [upd_same, List.map_append]
        rfl
    · rintro σ H' ⟨s2, c2, ⟨ns, pk, eN⟩, w9, w10, rfl⟩
      rw [List.length_map, List.take_length] at pk
      have S2 := S1.next s2 c1
      have D2 := D1.next s2 c2
      refine ⟨_, rfl, _, rfl, (cnt : Int), rfl, (by have hc2 : cnt ≤ 1000 := small.1; omega), (by have hc2 : cnt ≤ 1000 := small.1; omega), fun L hL => ?_⟩
      have nL : L ≠ p := fun z => by obtain ⟨j0, _, e⟩ := c2; rw [z, e] at hL; cases hL
      refine lc_range (lo := 0) (n := cnt) (fun jj H'' => Stays p H' H'' ∧ AtL H'' p ∧ ∃ (xs : List Ix) (ys : List V), H'' L = some (.lst ys) ∧ TvL K H'' (xs.map Ix.enc) ys ∧ xs.length = jj ∧ ys.length = jj ∧ ∀ x ∈ xs, GIx is 2 x)
        ⟨stays_new hL, c2.new hL, [], [], upd_same, rfl, rfl, rfl, by simp⟩ ?_ ?_
      · rintro jj H'' hjj ⟨s3, c3, xs, ys, eL, tys, l1, l2, a1⟩
        refine ⟨rfl, _, rfl, _, rfl, _, rfl, i, d, p, is, 2, rfl, D2.next s3 c3, S.ni, (S2.next s3 c2).liS, S.si, by decide, fun x u H3 g t s4 c4 => ?_⟩
        have eL3 := s4 _ _ nL eL
        have cr : Carry K H3 (upd H3 L (.lst (ys ++ [u]))) := carry_lst eL3
        refine ⟨ys, eL3, ?_, stays_put (s3.trans s4) hL, ?_, xs ++ [x], _, upd_same, ?_, ?_, ?_, ?_⟩
        · rw [l2]
          exact Nat.lt_of_lt_of_le hjj (Nat.le_trans small.1 (by decide))
        · obtain ⟨j0, j1, j2⟩ := c4
          exact ⟨j0, j1, by rw [upd_ne (Ne.symm nL)]; exact j2⟩
        · rw [List.map_append]
          exact tvl_append (TvL.carry cr _ _ (TvL.carry (s4.carry c3) _ _ tys)) (Tv.carry cr _ _ t)
        · rw [List.length_append, l1]; rfl
        · rw [List.length_append, l2]; rfl
        · intro m hm
          rcases List.mem_append.mp hm with h | h
          · exact a1 m h
          · rw [List.mem_singleton.mp h]; exact g
      · rintro H2 ⟨s3, c3, xs, ys, eL, tys, l1, l2, a1⟩
        refine ⟨L, _, rfl, .inl ⟨SqL.of eL, fun a1' ha1 => ?_⟩⟩
        have eN2 := stays_new (p := p) (o := .tup ys) ha1 _ _ nN (s3 _ _ nN eN)
        refine ⟨_, rfl, N', _, rfl, .inl ⟨SqL.of eN2, fun a2 ha2 => ⟨four, fun a3 ha3 => ?_⟩⟩⟩
        have t1 : Tv K (upd H2 a1' (.tup ys)) (.tuple (xs.map Ix.enc)) (.ref a1') := ⟨a1', _, rfl, SqT.of upd_same, TvL.carry (carry_new ha1) _ _ tys⟩
        have t2 : Tv K (upd (upd H2 a1' (.tup ys)) a2 (.tup (ns.map V.str))) (.tuple (ns.map PyData.str)) (.ref a2) := ⟨a2, _, rfl, SqT.of upd_same, tvl_strs ns⟩
        exact q nm xs ns _ _ ⟨⟨zs, by rw [l1]; exact hr0, pk⟩, a1⟩ (tv4 upd_same rfl rfl (Tv.carry (carry_new ha3) _ _ (Tv.carry (carry_new ha2) _ _ t1)) (Tv.carry (carry_new ha3) _ _ t2))
          (((((s1.trans s2).trans s3).trans (stays_new ha1)).trans (stays_new ha2)).trans (stays_new ha3)) (((c3.new ha1).new ha2).new ha3) ⟨_, rfl⟩

/-! ### statements and bodies -/
inductive St where
  | set (nm : Str) (ix : Option Ix) (e : Ex)
  | call (f : Str) (xs : List Ix) (ns : List Str)
  | loop (nm : Str) (c : Ix) (b : List St)
  | ite (t : Ts) (a b : List St)
  | bind (nm : Str) (e : Ex) (b : List St)
mutual
def St.enc : St → PyData
  | .set nm ix e => .tuple [.str "set", encPl nm ix, e.enc]
  | .call f xs ns => encCall f xs ns
  | .loop nm c b => .tuple [.str "loop", .str nm, c.enc, .tuple (St.encs b)]
  | .ite t a b => .tuple [.str "if", t.enc, .tuple (St.encs a), .tuple (St.encs b)]
  | .bind nm e b => .tuple [.str "let", .str nm, e.enc, .tuple (St.encs b)]
def St.encs : List St → List PyData
  | [] => []
  | s :: r => s.enc :: St.encs r
end
theorem encs_append : ∀ (a b : List St), St.encs (a ++ b) = St.encs a ++ St.encs b
  | [], _ => rfl
  | s :: a, b => by
    show s.enc :: St.encs (a ++ b) = s.enc :: (St.encs a ++ St.encs b)
    rw [encs_append a b]
theorem encs_len : ∀ a : List St, (St.encs a).length = a.length
  | [] => rfl
  | s :: a => by
    show (St.encs a).length + 1 = a.length + 1
    rw [encs_len a]
def freeOf (vars : List VRow) : List VRow := vars.filter fun r => !r.2.2
def lvl (c : Str) (n : Nat) : Str := c ++ Str.ofString (toString ((n : Nat) : Int))
inductive GSt (ks : List KRow) : List VRow → List Str → Nat → St → Prop where
  | set {vars : List VRow} {is : List Str} {d : Nat} {nm : Str} {ix : Option Ix} {e : Ex} (hp : GPl (freeOf vars) is nm ix) (he : GEx vars is 2 e) : GSt ks vars is d (.set nm ix e)
  | call {vars : List VRow} {is : List Str} {d : Nat} {f : Str} {xs : List Ix} {ns : List Str} (h : GCall ks vars is f xs ns) : GSt ks vars is d (.call f xs ns)
  | loop {vars : List VRow} {is : List Str} {d : Nat} {c : Ix} {b : List St} (hc : GIx is 1 c) (h1 : 1 ≤ b.length) (h3 : b.length ≤ 3) (hb : ∀ s ∈ b, GSt ks vars (is ++ [lvl "i" (vars.length + is.length)]) d s) : GSt ks vars is (d + 1) (.loop (lvl "i" (vars.length + is.length)) c b)
  | ite {vars : List VRow} {is : List Str} {d : Nat} {t : Ts} {a b : List St} (ht : GTs vars is t) (a1 : 1 ≤ a.length) (a3 : a.length ≤ 3) (ha : ∀ s ∈ a, GSt ks vars is d s) (b1 : 1 ≤ b.length) (b3 : b.length ≤ 3) (hb : ∀ s ∈ b, GSt ks vars is d s) : GSt ks vars is (d + 1) (.ite t a b)
  | bind {vars : List VRow} {is : List Str} {d : Nat} {e : Ex} {b : List St} (he : GEx vars is 2 e) (h1 : 1 ≤ b.length) (h3 : b.length ≤ 3) (hb : ∀ s ∈ b, GSt ks (vars ++ [(lvl "l" (vars.length + is.length), 0, false)]) is d s) : GSt ks vars is (d + 1) (.bind (lvl "l" (vars.length + is.length)) e b)
structure GBody (ks : List KRow) (vars : List VRow) (is : List Str) (d : Nat) (b : List St) : Prop where
  one : 1 ≤ b.length
  three : b.length ≤ 3
  each : ∀ s ∈ b, GSt ks vars is d s
/-- what every drawing of statements is handed -/
structure Al (K : PySem.W.Frag) (H : Hp) (v i k d p : Addr) (vars : List VRow) (is : List Str) (ks : List KRow) : Prop where
  dr : Dr K H d p
  sc : Sc K H p v i vars is
  kn : Kn K H p k ks
  free : ∃ r ∈ vars, r.2.2 = false
theorem Al.next {H H' : Hp} {v i k d p : Addr} {vars : List VRow} {is : List Str} {ks : List KRow} (h : Al K H v i k d p vars is ks) (s : Stays p H H') (c : AtL H' p) : Al K H' v i k d p vars is ks :=
  ⟨h.dr.next s c, h.sc.next s h.dr.ctr, h.kn.next s h.dr.ctr, h.free⟩
def spSt (K : PySem.W.Frag) (m : Nat) : Sp := fun vs H Q _ => ∃ (v i k d p : Addr) (vars : List VRow) (is : List Str) (ks : List KRow) (n : Nat), vs = [.ref v, .ref i, .ref k, .ref d, .ref p, .int (n : Int)] ∧ Al K H v i k d p vars is ks ∧ n < m ∧ vars.length + n ≤ 900 ∧ is.length + n ≤ 900 ∧
  ∀ x u H', GSt ks vars is n x → Tv K H' x.enc u → Stays p H H' → AtL H' p → Q u H'
def spBody (K : PySem.W.Frag) (m : Nat) : Sp := fun vs H Q _ => ∃ (v i k d p : Addr) (vars : List VRow) (is : List Str) (ks : List KRow) (n : Nat), vs = [.ref v, .ref i, .ref k, .ref d, .ref p, .int (n : Int)] ∧ Al K H v i k d p vars is ks ∧ n < m ∧ vars.length + n ≤ 900 ∧ is.length + n ≤ 900 ∧
  ∀ b u H', GBody ks vars is n b → Tv K H' (.tuple (St.encs b)) u → Stays p H H' → AtL H' p → Q u H'
abbrev sBody : Stmt := top 70
abbrev sSt : Stmt := top 71
abbrev nBody : List Str := ["variables", "integers", "known", "draws", "at", "depth", "count", "k"]
abbrev nSt : List Str := ["variables", "integers", "known", "draws", "at", "depth", "choice", "call", "level", "inner", "count", "test", "first", "value", "free", "row"]
abbrev pSt : List Str := ["variables", "integers", "known", "draws", "at", "depth"]
theorem scBody : FnScope nBody pSt (defScope sBody) := ⟨rfl, rfl, rfl, by decide +kernel, rfl, by decide +kernel, by decide +kernel⟩
theorem scSt : FnScope nSt pSt (defScope sSt) := ⟨rfl, rfl, rfl, by decide +kernel, rfl, by decide +kernel, by decide +kernel⟩
theorem carry_store {H : Hp} {L : Addr} {ys zs : List V} (e : H L = some (.lst ys)) : Carry K H (upd H L (.lst zs)) := carry_lst e
theorem AtL.store {H : Hp} {p L : Addr} {o : HO} (h : AtL H p) (n : L ≠ p) : AtL (upd H L o) p := by
  obtain ⟨j, j0, e⟩ := h
  exact ⟨j, j0, by rw [upd_ne (Ne.symm n)]; exact e⟩
theorem new_ne {H : Hp} {p L : Addr} (h : AtL H p) (n : H L = none) : L ≠ p := fun z => by
  obtain ⟨j, _, e⟩ := h
  rw [z, e] at n
  cases n
theorem stays_store {H H' : Hp} {p L : Addr} {o : HO} (s : Stays p H H') (n : H L = none) : Stays p H (upd H' L o) := stays_put s n
theorem ok_body1 {f : Addr} {fd : FuncData} {m : Nat} (F : Fun K "_law_body" "_law_body" sBody f fd) (T : Bi mg) (c_take : Cal P w K mg base CX0 1 "_law_take" ["draws", "at", "many"] (spTake K))
    (c_st : Cal P w K mg base CX0 (2 * m + 10) "_law_statement" pSt (spSt K m)) : FnOk P w K mg base CX0 (2 * m + 10 + 1) f fd pSt (spBody K m) := by
  refine F.ok scBody (fun vs H Q E h => ?_) (fun cdv A outer s H vs Q E hr h => ?_)
  · obtain ⟨v, i, k, d, p, vars, is, ks, n, rfl, _⟩ := h
    rfl
  · obtain ⟨v, i, k, d, p, vars, is, ks, n, rfl, L, hn, hv, hi, q⟩ := h
    have nd := scBody.nd
    refine ⟨_, pss_cons (ps_set (i := 6) nd rfl (.inl rfl) (pe_op op_add pe_int (pe_call c_take.ok (hr.mono (by first | decide | omega)) rfl c_take.m c_take.kp c_take.b .nil pass0 (pa_cons (pv 3) (pa_cons (pv 4) (pa_cons pe_int pa_nil))))))
      (pss_one (ps_ret (pe_callTy call_tuple_of rfl T.tuple PyProof.Rows.boot_tuple (pa_cons (pe_lc (own := [("k", 7)]) (g := gName 7) (tt := tYes) rfl nd (pi_range1 rfl T.range (pa_cons (pv 6) pa_nil)) (blkOk_by (N := nBody) (sc := defScope sBody) (by decide +kernel)) (fun _ _ _ _ _ => pg_name (i := 7) nd rfl (.inl rfl)) (fun _ _ _ _ _ => pts_nil) (fun _ _ _ _ _ => (pe_call c_st.ok (hr.mono (by first | decide | omega)) rfl c_st.m c_st.kp c_st.b .nil pass0 (pa_cons (pv 0) (pa_cons (pv 1) (pa_cons (pv 2) (pa_cons (pv 3) (pa_cons (pv 4) (pa_cons (pv 5) pa_nil))))))))) pa_nil)))), ?_⟩
    refine ⟨_, rfl, _, rfl, d, p, 3, rfl, L.dr, by decide, fun c H1 u0 u1 s1 c1 => ⟨_, _, rfl, rfl, ?_⟩⟩
    obtain ⟨cn, hc, h1, h3⟩ : ∃ cn : Nat, 1 + c = (cn : Int) ∧ 1 ≤ cn ∧ cn ≤ 3 := ⟨(1 + c).toNat, by omega, by omega, by omega⟩
    have L1 := L.next s1 c1
    refine ⟨_, rfl, (cn : Int), congrArg (fun z : Int => [V.int z]) hc, by omega, by omega, fun D hD => ?_⟩
    have nD := new_ne c1 hD
    refine lc_range (lo := 0) (n := cn) (fun j H' => Stays p H1 H' ∧ AtL H' p ∧ ∃ (b : List St) (ys : List V), H' D = some (.lst ys) ∧ TvL K H' (St.encs b) ys ∧ b.length = j ∧ ys.length = j ∧ ∀ x ∈ b, GSt ks vars is n x)
      ⟨stays_new hD, c1.new hD, [], [], upd_same, rfl, rfl, rfl, by simp⟩ ?_ ?_
    · rintro j H' hj ⟨s2, c2, b, ys, eD, ty, l1, l2, ab⟩
      refine ⟨rfl, _, rfl, _, rfl, _, rfl, _, rfl, _, rfl, _, rfl, v, i, k, d, p, vars, is, ks, n, rfl, L1.next s2 c2, hn, hv, hi, fun x u H2 g t s3 c3 => ?_⟩
      have eD3 := s3 _ _ nD eD
      refine ⟨ys, eD3, ?_, stays_store (s2.trans s3) hD, c3.store nD, b ++ [x], _, upd_same, ?_, ?_, ?_, ?_⟩
      · rw [l2]; exact Nat.lt_of_lt_of_le hj (Nat.le_trans h3 (by decide))
      · rw [encs_append]
        exact tvl_append (TvL.carry (carry_store eD3) _ _ (TvL.carry (s3.carry c2) _ _ ty)) (Tv.carry (carry_store eD3) _ _ t)
      · rw [List.length_append, l1]; rfl
      · rw [List.length_append, l2]; rfl
      · intro y hy
        rcases List.mem_append.mp hy with h | h
        · exact ab y h
        · rw [List.mem_singleton.mp h]; exact g
    · rintro H' ⟨s2, c2, b, ys, eD, ty, l1, l2, ab⟩
      refine ⟨D, _, rfl, .inl ⟨SqL.of eD, fun a ha => ?_⟩⟩
      exact q b _ _ ⟨by omega, by omega, ab⟩ ⟨a, _, rfl, SqT.of upd_same, TvL.carry (carry_new ha) _ _ ty⟩ ((s1.trans s2).trans (stays_new ha)) (c2.new ha)

theorem digits_ok : ((List.range 2001).all fun n => decide ((Str.ofString (toString ((n : Nat) : Int))).length ≤ 10)) = true := by decide +kernel
theorem digits_le {n : Nat} (h : n ≤ 2000) : (Str.ofString (toString ((n : Nat) : Int))).length ≤ 10 := by
  have := List.all_eq_true.mp digits_ok n (List.mem_range.mpr (by omega))
  exact of_decide_eq_true this
theorem log_small {n : Nat} (h : n ≤ 2000) : ((n : Nat) : Int).natAbs.log2 < 1920 := by
  have : ((n : Nat) : Int).natAbs = n := by omega
  rw [this]
  by_cases z : n = 0
  · rw [z]; decide
  · exact Nat.lt_trans ((Nat.log2_lt z).mpr (show n < 2 ^ 11 from Nat.lt_of_le_of_lt h (by decide))) (by decide)

theorem free_more {vars : List VRow} {j : Nat} {r : VRow} (h : vars[j]? = some r) : freeOf (vars.take (j + 1)) = freeOf (vars.take j) ++ (if r.2.2 = true then [] else [r]) := by
  unfold freeOf
  rw [List.take_add_one, h, List.filter_append]
  cases e : r.2.2 <;> simp [e]
/-- the drawing of a set statement: the last two rows of the def, whatever stands in the slots between -/
theorem set_part {f : Addr} {m : Nat} (c_pl : Cal P w K mg base CX0 5 "_law_place" ["variables", "integers", "draws", "at"] (spPl K))
    (c_ex : Cal P w K mg base CX0 8 "_law_expression" ["variables", "integers", "draws", "at", "depth"] (spEx K 3)) {cdv : Value} {A : Around} {outer : List Env} {s : Shared} {H0 : Hp} {E : XK}
    (hr : Room (2 * m + 11) (A.deeper (PyProof.Rows.envOfC "_law_statement" (defScope sSt) s.heap.objs.size f cdv))) :
    ∃ t, PSs (cxOf CX0 P w K mg base nSt "_law_statement" (defScope sSt) f cdv A outer s H0 E).nox ((defBody sSt).drop 8) t ∧
      ∀ (D : Ends) (H : Hp) (v i k d p : Addr) (vars : List VRow) (is : List Str) (ks : List KRow) (n : Nat) (w6 w7 w8 w9 w10 w11 w12 w13 w14 : Option V), Al K H v i k d p vars is ks →
        (∀ nm ix e u H', GPl (freeOf vars) is nm ix → GEx vars is 2 e → Tv K H' (St.set nm ix e).enc u → Stays p H H' → AtL H' p → D.rt u H') →
        t D [some (.ref v), some (.ref i), some (.ref k), some (.ref d), some (.ref p), some (.int (n : Int)), w6, w7, w8, w9, w10, w11, w12, w13, w14, none] H := by
  have nd := scSt.nd
  have three : 3 ≤ sizeLine := by decide
  refine ⟨_, pss_cons (ps_setLc (i := 14) (own := [("row", 15)]) (g := gName 15) rfl nd rfl rfl (sw_true rfl rfl rfl (by decide +kernel)) (pi_list (pv 0)) (blkOk_by (N := nSt) (sc := defScope sSt) (by decide +kernel)) (fun _ _ _ _ _ => pg_name (i := 15) nd rfl (.inl rfl)) (fun _ _ _ _ _ => pts_one (pt_not (pt_val (pe_ix (ixT (K' := K) rfl) (pv 15) pe_int (fun _ _ => rfl))))) (fun _ _ _ _ _ => (pv 15)))
      (pss_one (ps_ret (pe_tup (pa_cons pe_str (pa_cons (pe_call c_pl.ok (hr.mono (by first | decide | omega)) rfl c_pl.m c_pl.kp c_pl.b .nil pass0 (pa_cons (pv 14) (pa_cons (pv 1) (pa_cons (pv 3) (pa_cons (pv 4) pa_nil))))) (pa_cons (pe_call c_ex.ok (hr.mono (by first | decide | omega)) rfl c_ex.m c_ex.kp c_ex.b .nil pass0 (pa_cons (pv 0) (pa_cons (pv 1) (pa_cons (pv 3) (pa_cons (pv 4) (pa_cons pe_int pa_nil)))))) pa_nil)))))), ?_⟩
  intro DD H v i k d p vars is ks n w6 w7 w8 w9 w10 w11 w12 w13 w14 L q
  have vne : vars ≠ [] := by
    obtain ⟨r, hr, _⟩ := L.free
    exact fun z => by rw [z] at hr; cases hr
  have c2 := L.dr.ctr
  obtain ⟨xs, ex, tx⟩ := L.sc.lv
  have lx : xs.length = vars.length := by rw [TvL.len tx, List.length_map]
  refine ⟨_, rfl, v, rfl, ⟨_, SqL.of ex⟩, fun D hD => ?_⟩
  have nD := new_ne c2 hD
  refine lc_list (K := K) (a := v) (xs := xs) (fun j H' => Same H H' ∧ ∃ ys, H' D = some (.lst ys) ∧ TvL K H' ((freeOf (vars.take j)).map VRow.enc) ys ∧ ys.length ≤ j)
    ⟨fun b o e => by rw [upd_ne (ne_of_none e hD)]; exact e, [], upd_same, rfl, Nat.le_refl _⟩ (fun j H' _ h => h.1.seq (SqL.of ex)) ?_ ?_
  · rintro j x H' hx ⟨sm, ys, eD, ty, ly⟩
    have jl : j < xs.length := (List.getElem?_eq_some_iff.mp hx).1
    obtain ⟨dd, hd, td⟩ := TvL.get tx hx
    rw [List.getElem?_map] at hd
    obtain ⟨r, hrv, rfl⟩ : ∃ r, vars[j]? = some r ∧ dd = VRow.enc r := by
      cases e : vars[j]? with
      | none => rw [e] at hd; cases hd
      | some r => rw [e] at hd; exact ⟨r, rfl, (Option.some.inj hd).symm⟩
    have fm := free_more hrv
    obtain ⟨rn, rz, rf⟩ := r
    obtain ⟨ra, yy, rfl, st, y1, zs1, rfl, h1, y2, zs2, rfl, h2, y3, zs3, rfl, h3, h4⟩ := Tv.carry (same_carry sm) _ _ td
    cases h1
    cases h2
    cases h3
    cases h4
    refine ⟨rfl, _, rfl, ra, _, _, _, rfl, rfl, st, rfl, rf, rfl, ?_⟩
    cases rf with
    | true =>
      refine iteF ⟨sm, ys, eD, ?_, Nat.le_succ_of_le ly⟩
      rw [fm]
      simpa using ty
    | false =>
      refine iteT ⟨_, rfl, ys, eD, Nat.lt_of_le_of_lt ly (Nat.lt_of_lt_of_le jl (by rw [lx]; exact Nat.le_trans L.sc.sv (by decide))), fun b o e => by rw [upd_ne (ne_of_none e hD)]; exact sm b o e, _, upd_same, ?_, ?_⟩
      · rw [fm, List.map_append]
        exact tvl_append (TvL.carry (carry_store eD) _ _ ty) ⟨ra, _, rfl, carry_store eD _ _ st, _, _, rfl, rfl, _, _, rfl, rfl, _, _, rfl, rfl, rfl⟩
      · rw [List.length_append]
        exact Nat.succ_le_succ ly
  rintro H2 ⟨sm, ys, eD, ty, ly⟩
  rw [lx, List.take_length] at ty
  have s2 : Stays p H H2 := same_stays sm
  have c3 : AtL H2 p := by obtain ⟨j0, j1, j2⟩ := c2; exact ⟨j0, j1, sm _ _ j2⟩
  have L2 := L.next s2 c3
  have fne : freeOf vars ≠ [] := by
    obtain ⟨r, hr, hf⟩ := L.free
    intro z
    have hm : r ∈ freeOf vars := List.mem_filter.mpr ⟨hr, by rw [hf]; rfl⟩
    rw [z] at hm
    cases hm
  have SF : Sc K H2 p D i (freeOf vars) is := ⟨nD, L2.sc.ni, ⟨ys, eD, ty⟩, L2.sc.li, Nat.le_trans (List.length_filter_le _ _) L2.sc.sv, L2.sc.si⟩
  refine ⟨_, rfl, _, rfl, _, rfl, _, rfl, D, i, d, p, freeOf vars, is, rfl, L2.dr, SF, fne, fun nm ix u H3 g t s4 c4 => ?_⟩
  have L3 := L2.next s4 c4
  refine ⟨_, rfl, _, rfl, _, rfl, _, rfl, v, i, d, p, vars, is, 2, rfl, L3.dr, L3.sc, vne, by decide, fun x u2 H4 g2 t2 s5 c5 => ⟨three, fun a ha => ?_⟩⟩
  exact q nm ix x _ _ g g2 (tv3 upd_same rfl (Tv.carry (carry_new ha) _ _ (Tv.carry (s5.carry c4) _ _ t)) (Tv.carry (carry_new ha) _ _ t2)) (((s2.trans s4).trans s5).trans (stays_new ha)) (c5.new ha)

theorem ok_st1 {f : Addr} {fd : FuncData} {m : Nat} (F : Fun K "_law_statement" "_law_statement" sSt f fd) (T : Bi mg) (c_take : Cal P w K mg base CX0 1 "_law_take" ["draws", "at", "many"] (spTake K))
    (c_ix : Cal P w K mg base CX0 4 "_law_index" ["integers", "draws", "at", "depth"] (spIx K 3)) (c_pl : Cal P w K mg base CX0 5 "_law_place" ["variables", "integers", "draws", "at"] (spPl K))
    (c_ex : Cal P w K mg base CX0 8 "_law_expression" ["variables", "integers", "draws", "at", "depth"] (spEx K 3)) (c_ts : Cal P w K mg base CX0 9 "_law_test" ["variables", "integers", "draws", "at"] (spTs K))
    (c_call : Cal P w K mg base CX0 5 "_law_call" ["variables", "integers", "known", "draws", "at"] (spCall K))
    (c_body : Cal P w K mg base CX0 (2 * m + 11) "_law_body" pSt (spBody K m)) : FnOk P w K mg base CX0 (2 * m + 11 + 1) f fd pSt (spSt K (m + 1)) := by
  refine F.ok scSt (fun vs H Q E h => ?_) (fun cdv A outer s H vs Q E hr h => ?_)
  · obtain ⟨v, i, k, d, p, vars, is, ks, n, rfl, _⟩ := h
    rfl
  · obtain ⟨v, i, k, d, p, vars, is, ks, n, rfl, L, hn, hv, hi, q⟩ := h
    have nd := scSt.nd
    have one : 1 ≤ sizeLine := by decide
    have three : 3 ≤ sizeLine := by decide
    have four : 4 ≤ sizeLine := by decide
    have vne : vars ≠ [] := by
      obtain ⟨r, hr, _⟩ := L.free
      exact fun z => by rw [z] at hr; cases hr
    obtain ⟨tset, pset, rset⟩ := set_part (m := m) c_pl c_ex (cdv := cdv) (A := A) (outer := outer) (s := s) (H0 := H) (E := E) (f := f) hr
    refine ⟨_, pss_cons (ps_set (i := 6) nd rfl (.inl rfl) (pe_call c_take.ok (hr.mono (by first | decide | omega)) rfl c_take.m c_take.kp c_take.b .nil pass0 (pa_cons (pv 3) (pa_cons (pv 4) (pa_cons pe_int pa_nil)))))
      (pss_cons (ps_set (i := 7) nd rfl (.inl rfl) pe_non)
      (pss_cons (ps_if (pt_cmpR op_eq (pv 6) pe_int (nomark _)) (pss_one (ps_set (i := 7) nd rfl (.inl rfl) (pe_call c_call.ok (hr.mono (by first | decide | omega)) rfl c_call.m c_call.kp c_call.b .nil pass0 (pa_cons (pv 0) (pa_cons (pv 1) (pa_cons (pv 2) (pa_cons (pv 3) (pa_cons (pv 4) pa_nil)))))))) pss_nil)
      (pss_cons (ps_if (pt_cmpR op_notN (pv 7) pe_non (nomark _)) (pss_one (ps_ret (pv 7))) pss_nil)
      (pss_cons (ps_set (i := 8) nd rfl (.inl rfl) (pe_callTy call_str_int rfl T.str PyProof.Rows.boot_str (pa_cons (pe_op op_add (pe_callB call_len_seq rfl T.len PySem.boot_len (pa_cons (pv 0) pa_nil)) (pe_callB call_len_seq rfl T.len PySem.boot_len (pa_cons (pv 1) pa_nil))) pa_nil)))
      (pss_cons (ps_if (PW.pt (pw_and (pt_cmpR op_eq (pv 6) pe_int (nomark _)) (pw_and1 (pt_cmpR op_gt (pv 5) pe_int (nomark _))))) (pss_cons (ps_set (i := 9) nd rfl (.inl rfl) (pe_op op_cat (pv 1) (pe_lst (pa_cons (pe_op op_add_str pe_str (pv 8)) pa_nil))))
      (pss_cons (ps_set (i := 10) nd rfl (.inl rfl) (pe_call c_ix.ok (hr.mono (by first | decide | omega)) rfl c_ix.m c_ix.kp c_ix.b .nil pass0 (pa_cons (pv 1) (pa_cons (pv 3) (pa_cons (pv 4) (pa_cons pe_int pa_nil))))))
      (pss_one (ps_ret (pe_tup (pa_cons pe_str (pa_cons (pe_ix ix_list (pv 9) (pe_un un_neg pe_int) (fun _ _ => rfl)) (pa_cons (pv 10) (pa_cons (pe_call c_body.ok (hr.mono (by first | decide | omega)) rfl c_body.m c_body.kp c_body.b .nil pass0 (pa_cons (pv 0) (pa_cons (pv 9) (pa_cons (pv 2) (pa_cons (pv 3) (pa_cons (pv 4) (pa_cons (pe_op op_sub (pv 5) pe_int) pa_nil))))))) pa_nil))))))))) pss_nil)
      (pss_cons (ps_if (PW.pt (pw_and (pt_cmpR op_eq (pv 6) pe_int (nomark _)) (pw_and1 (pt_cmpR op_gt (pv 5) pe_int (nomark _))))) (pss_cons (ps_set (i := 11) nd rfl (.inl rfl) (pe_call c_ts.ok (hr.mono (by first | decide | omega)) rfl c_ts.m c_ts.kp c_ts.b .nil pass0 (pa_cons (pv 0) (pa_cons (pv 1) (pa_cons (pv 3) (pa_cons (pv 4) pa_nil))))))
      (pss_cons (ps_set (i := 12) nd rfl (.inl rfl) (pe_call c_body.ok (hr.mono (by first | decide | omega)) rfl c_body.m c_body.kp c_body.b .nil pass0 (pa_cons (pv 0) (pa_cons (pv 1) (pa_cons (pv 2) (pa_cons (pv 3) (pa_cons (pv 4) (pa_cons (pe_op op_sub (pv 5) pe_int) pa_nil))))))))
      (pss_one (ps_ret (pe_tup (pa_cons pe_str (pa_cons (pv 11) (pa_cons (pv 12) (pa_cons (pe_call c_body.ok (hr.mono (by first | decide | omega)) rfl c_body.m c_body.kp c_body.b .nil pass0 (pa_cons (pv 0) (pa_cons (pv 1) (pa_cons (pv 2) (pa_cons (pv 3) (pa_cons (pv 4) (pa_cons (pe_op op_sub (pv 5) pe_int) pa_nil))))))) pa_nil))))))))) pss_nil)
      (pss_cons (ps_if (PW.pt (pw_and (pt_cmpR op_eq (pv 6) pe_int (nomark _)) (pw_and1 (pt_cmpR op_gt (pv 5) pe_int (nomark _))))) (pss_cons (ps_set (i := 9) nd rfl (.inl rfl) (pe_op op_cat (pv 0) (pe_lst (pa_cons (pe_tup (pa_cons (pe_op op_add_str pe_str (pv 8)) (pa_cons pe_int (pa_cons pe_bl pa_nil)))) pa_nil))))
      (pss_cons (ps_set (i := 13) nd rfl (.inl rfl) (pe_call c_ex.ok (hr.mono (by first | decide | omega)) rfl c_ex.m c_ex.kp c_ex.b .nil pass0 (pa_cons (pv 0) (pa_cons (pv 1) (pa_cons (pv 3) (pa_cons (pv 4) (pa_cons pe_int pa_nil)))))))
      (pss_one (ps_ret (pe_tup (pa_cons pe_str (pa_cons (pe_ix ix_tup (pe_ix ix_list (pv 9) (pe_un un_neg pe_int) (fun _ _ => rfl)) pe_int (fun _ _ => rfl)) (pa_cons (pv 13) (pa_cons (pe_call c_body.ok (hr.mono (by first | decide | omega)) rfl c_body.m c_body.kp c_body.b .nil pass0 (pa_cons (pv 9) (pa_cons (pv 1) (pa_cons (pv 2) (pa_cons (pv 3) (pa_cons (pv 4) (pa_cons (pe_op op_sub (pv 5) pe_int) pa_nil))))))) pa_nil))))))))) pss_nil)
      pset))))))), ?_⟩
    refine ⟨_, rfl, _, rfl, d, p, 10, rfl, L.dr, by decide, fun c H1 u0 u1 s1 c1 => ?_⟩
    have L1 := L.next s1 c1
    have tail : ∀ (H2 : Hp), Stays p H1 H2 → AtL H2 p → ∀ (w6 w7 w8 w9 w10 w11 w12 w13 w14 : Option V), tset { nx := fun x H' => Q V.non H', rt := Q } [some (.ref v), some (.ref i), some (.ref k), some (.ref d), some (.ref p), some (.int (n : Int)), w6, w7, w8, w9, w10, w11, w12, w13, w14, none] H2 :=
      fun H2 s2 c2 w6 w7 w8 w9 w10 w11 w12 w13 w14 => rset _ H2 v i k d p vars is ks n w6 w7 w8 w9 w10 w11 w12 w13 w14 (L1.next s2 c2) fun nm ix e u H' g1 g2 t s c => q (.set nm ix e) u H' (.set g1 g2) t ((s1.trans s2).trans s) c
    have hlog : ((vars.length + is.length : Nat) : Int).natAbs.log2 < 1920 := log_small (by omega)
    have hdig : (Str.ofString (toString (((vars.length + is.length : Nat) : Int)))).length ≤ 10 := digits_le (by omega)
    -- the level's text
    have hlev : ∀ xs : List V, xs.length = vars.length → [V.int ((xs.length : Int) + ((is.map V.str).length : Int))] ++ ([] : List V) = [V.int (((vars.length + is.length : Nat) : Int))] := by
      intro xs h
      rw [h, List.length_map]
      exact congrArg (fun z : Int => [V.int z]) (by omega)
    refine ⟨_, rfl, rfl, _, rfl, ?_⟩
    by_cases k9 : c = 9
    · refine iteT' (decide_eq_true (congrArg V.int k9)) ?_
      refine ⟨_, rfl, _, rfl, _, rfl, _, rfl, _, rfl, v, i, k, d, p, vars, is, ks, rfl, L1.dr, L1.sc, L1.kn, fun H2 s2 c2 => ?_, fun g xs ns u H2 gc t s2 c2 ⟨a, ea⟩ => ?_⟩
      · refine ⟨_, rfl, rfl, _, rfl, iteF' (by rw [decide_eq_true rfl]; rfl) ?_⟩
        have L2 := L1.next s2 c2
        obtain ⟨xv, exv, txv⟩ := L2.sc.lv
        have lxv : xv.length = vars.length := by rw [TvL.len txv, List.length_map]
        refine ⟨_, rfl, v, _, rfl, .inl (SqL.of exv), _, rfl, i, _, rfl, .inl L2.sc.liS, _, _, rfl, rfl, ((vars.length + is.length : Nat) : Int), hlev xv lxv, hlog, ?_⟩
        subst k9
        refine ⟨_, rfl, rfl, _, rfl, iteF' (decide_eq_false (fun y => by cases V.int.inj y)) (iteF ?_)⟩
        refine ⟨_, rfl, rfl, _, rfl, iteF' (decide_eq_false (fun y => by cases V.int.inj y)) (iteF ?_)⟩
        refine ⟨_, rfl, rfl, _, rfl, iteF' (decide_eq_false (fun y => by cases V.int.inj y)) (iteF ?_)⟩
        exact tail H2 s2 c2 _ _ _ _ _ _ _ _ _
      · subst ea
        refine ⟨_, rfl, rfl, _, rfl, iteT' (by rw [decide_eq_false (fun y => by cases y)]; rfl) ?_⟩
        exact ⟨_, rfl, q (.call g xs ns) _ _ (.call gc) t (s1.trans s2) c2⟩
    refine iteF' (decide_eq_false (fun y => k9 (V.int.inj y))) ?_
    refine ⟨_, rfl, rfl, _, rfl, iteF' (by rw [decide_eq_true rfl]; rfl) ?_⟩
    obtain ⟨xv, exv, txv⟩ := L1.sc.lv
    have lxv : xv.length = vars.length := by rw [TvL.len txv, List.length_map]
    refine ⟨_, rfl, v, _, rfl, .inl (SqL.of exv), _, rfl, i, _, rfl, .inl L1.sc.liS, _, _, rfl, rfl, ((vars.length + is.length : Nat) : Int), hlev xv lxv, hlog, ?_⟩
    have nm0 : n ≠ 0 → ∃ m', n = m' + 1 ∧ ((m' + 1 : Nat) : Int) - 1 = (m' : Int) := fun h => ⟨n - 1, by omega, by omega⟩
    have hI : ("i" : Str).length + (Str.ofString (toString (((vars.length + is.length : Nat) : Int)))).length ≤ sizeLine := Nat.le_trans (Nat.add_le_add_left hdig _) (by decide)
    have hL : ("l" : Str).length + (Str.ofString (toString (((vars.length + is.length : Nat) : Int)))).length ≤ sizeLine := Nat.le_trans (Nat.add_le_add_left hdig _) (by decide)
    have hsv := L.sc.sv
    have hsi := L.sc.si
    -- a loop
    refine ⟨_, rfl, rfl, _, rfl, ?_⟩
    by_cases k6 : c = 6
    · refine iteT' (decide_eq_true (congrArg V.int k6)) ⟨_, rfl, _, _, rfl, rfl, _, rfl, ?_⟩
      by_cases z : 0 < (n : Int)
      · refine iteT' (decide_eq_true z) ?_
        obtain ⟨n', rfl, en⟩ := nm0 (by omega)
        refine ⟨_, rfl, _, rfl, _, _, rfl, rfl, hI, one, fun l1 hl1 => ?_⟩
        refine ⟨i, l1, _, _, rfl, rfl, ((stays_new hl1) _ _ L1.sc.ni L1.sc.li), upd_same, ?_, fun l2 hl2 => ?_⟩
        · rw [List.length_map]
          exact Nat.le_trans (Nat.add_le_add_right hsi _) (show 1000 + 1 ≤ sizeLine by decide)
        have e2 := upd_same (H := upd H1 l1 (.lst [V.str (lvl "i" (vars.length + is.length))])) (a := l2) (o := .lst (is.map V.str ++ [V.str (lvl "i" (vars.length + is.length))]))
        have s2 := (stays_new (p := p) (o := .lst [V.str (lvl "i" (vars.length + is.length))]) hl1).trans (stays_new (p := p) (o := .lst (is.map V.str ++ [V.str (lvl "i" (vars.length + is.length))])) hl2)
        have c2 := (c1.new (o := .lst [V.str (lvl "i" (vars.length + is.length))]) hl1).new (o := .lst (is.map V.str ++ [V.str (lvl "i" (vars.length + is.length))])) hl2
        have n2 := new_ne (c1.new (o := .lst [V.str (lvl "i" (vars.length + is.length))]) hl1) hl2
        generalize hH2 : upd (upd H1 l1 (.lst [V.str (lvl "i" (vars.length + is.length))])) l2 (.lst (is.map V.str ++ [V.str (lvl "i" (vars.length + is.length))])) = H2 at e2 s2 c2
        have L2 := L1.next s2 c2
        have go : ∀ (R : V → Hp → Prop), (∀ x v H', GSt ks vars is (n' + 1) x → Tv K H' x.enc v → Stays p H H' → AtL H' p → R v H') → ∀ x u H3, GIx is 1 x → Tv K H3 x.enc u → Stays p H2 H3 → AtL H3 p →
            atI (is.map V.str ++ [V.str (lvl "i" (vars.length + is.length))]) (-1) = some (.str (lvl "i" (vars.length + is.length))) ∧ SqL K H3 l2 (is.map V.str ++ [V.str (lvl "i" (vars.length + is.length))]) ∧
            spBody K m ([V.ref v, V.ref l2, V.ref k, V.ref d, V.ref p, V.int (((n' + 1 : Nat) : Int) - 1)] ++ []) H3 (fun w H4 => ∀ a, H4 a = none → R (.ref a) (upd H4 a (.tup [V.str "loop", V.str (lvl "i" (vars.length + is.length)), u, w]))) E0 := by
          intro R hR x u H3 g t s3 c3
          have L3 := L2.next s3 c3
          have e3 := s3 _ _ n2 e2
          refine ⟨atI_last _ _, SqL.of e3, v, l2, k, d, p, vars, is ++ [lvl "i" (vars.length + is.length)], ks, n', congrArg (fun z : Int => [V.ref v, V.ref l2, V.ref k, V.ref d, V.ref p, V.int z]) en, ⟨L3.dr, ⟨L3.sc.nv, n2, L3.sc.lv, ?_, hsv, ?_⟩, L3.kn, L.free⟩, by omega, by omega, ?_, fun b w H4 gb tb s4 c4 a ha => ?_⟩
          · rw [e3, List.map_append]
            rfl
          · rw [List.length_append]
            have : ([lvl "i" (vars.length + is.length)] : List Str).length = 1 := rfl
            omega
          · rw [List.length_append]
            have : ([lvl "i" (vars.length + is.length)] : List Str).length = 1 := rfl
            omega
          · exact hR (.loop (lvl "i" (vars.length + is.length)) x b) _ _ (.loop g gb.one gb.three gb.each) (tv4 upd_same rfl rfl (Tv.carry (carry_new ha) _ _ (Tv.carry (s4.carry c3) _ _ t)) (Tv.carry (carry_new ha) _ _ tb)) (((((s1.trans s2).trans s3).trans s4)).trans (stays_new ha)) (c4.new ha)
        subst hH2
        refine ⟨_, rfl, _, rfl, _, rfl, i, d, p, is, 1, rfl, L2.dr, L2.sc.ni, L2.sc.liS, hsi, by decide, fun x u H3 g t s3 c3 => ?_⟩
        obtain ⟨g1, g2, v', i', k', d', p', vars', is', ks', n'', ee, gA, gn, gv, gi, gq⟩ := go Q q x u H3 g t s3 c3
        refine ⟨_, rfl, _, rfl, l2, _, _, _, rfl, rfl, g2, g1, _, rfl, _, rfl, _, rfl, _, rfl, _, rfl, _, rfl, _, rfl, _, _, rfl, rfl, v', i', k', d', p', vars', is', ks', n'', ee, gA, gn, gv, gi, fun b w H4 h1 h2 h3 h4 => ⟨four, gq b w H4 h1 h2 h3 h4⟩⟩
      · subst k6
        refine iteF' (decide_eq_false z) ?_
        refine ⟨_, rfl, rfl, _, rfl, iteF' (decide_eq_false (fun y => by cases V.int.inj y)) (iteF ?_)⟩
        refine ⟨_, rfl, rfl, _, rfl, iteF' (decide_eq_false (fun y => by cases V.int.inj y)) (iteF ?_)⟩
        exact tail H1 (Stays.refl _ _) c1 _ _ _ _ _ _ _ _ _
    refine iteF' (decide_eq_false (fun y => k6 (V.int.inj y))) (iteF ?_)
    -- a choice
    refine ⟨_, rfl, rfl, _, rfl, ?_⟩
    by_cases k7 : c = 7
    · refine iteT' (decide_eq_true (congrArg V.int k7)) ⟨_, rfl, _, _, rfl, rfl, _, rfl, ?_⟩
      by_cases z : 0 < (n : Int)
      · refine iteT' (decide_eq_true z) ?_
        obtain ⟨n', rfl, en⟩ := nm0 (by omega)
        have en' := congrArg (fun z : Int => [V.ref v, V.ref i, V.ref k, V.ref d, V.ref p, V.int z]) en
        refine ⟨_, rfl, _, rfl, _, rfl, _, rfl, v, i, d, p, vars, is, rfl, L1.dr, L1.sc, vne, fun x u H2 g t s2 c2 => ?_⟩
        have L2 := L1.next s2 c2
        refine ⟨_, rfl, _, rfl, _, rfl, _, rfl, _, rfl, _, rfl, _, _, rfl, rfl, v, i, k, d, p, vars, is, ks, n', en', L2, by omega, by omega, by omega, fun b1 w1 H3 gb1 tb1 s3 c3 => ?_⟩
        have L3 := L2.next s3 c3
        refine ⟨_, rfl, _, rfl, _, rfl, _, rfl, _, rfl, _, rfl, _, rfl, _, rfl, _, _, rfl, rfl, v, i, k, d, p, vars, is, ks, n', en', L3, by omega, by omega, by omega, fun b2 w2 H4 gb2 tb2 s4 c4 => ⟨four, fun a ha => ?_⟩⟩
        exact q (.ite x b1 b2) _ _ (.ite g gb1.one gb1.three gb1.each gb2.one gb2.three gb2.each)
          (tv4 upd_same rfl (Tv.carry (carry_new ha) _ _ (Tv.carry (s4.carry c3) _ _ (Tv.carry (s3.carry c2) _ _ t))) (Tv.carry (carry_new ha) _ _ (Tv.carry (s4.carry c3) _ _ tb1)) (Tv.carry (carry_new ha) _ _ tb2))
          ((((s1.trans s2).trans s3).trans s4).trans (stays_new ha)) (c4.new ha)
      · subst k7
        refine iteF' (decide_eq_false z) ?_
        refine ⟨_, rfl, rfl, _, rfl, iteF' (decide_eq_false (fun y => by cases V.int.inj y)) (iteF ?_)⟩
        exact tail H1 (Stays.refl _ _) c1 _ _ _ _ _ _ _ _ _
    refine iteF' (decide_eq_false (fun y => k7 (V.int.inj y))) (iteF ?_)
    -- a local variable
    refine ⟨_, rfl, rfl, _, rfl, ?_⟩
    by_cases k8 : c = 8
    · refine iteT' (decide_eq_true (congrArg V.int k8)) ⟨_, rfl, _, _, rfl, rfl, _, rfl, ?_⟩
      by_cases z : 0 < (n : Int)
      · refine iteT' (decide_eq_true z) ?_
        obtain ⟨n', rfl, en⟩ := nm0 (by omega)
        refine ⟨_, rfl, _, rfl, _, _, rfl, rfl, hL, three, fun t1 ht1 => ⟨one, fun l1 hl1 => ?_⟩⟩
        have c2 : AtL (upd (upd H1 t1 (.tup [V.str (lvl "l" (vars.length + is.length)), V.int 0, V.bl false])) l1 (.lst [V.ref t1])) p := (c1.new (o := .tup [V.str (lvl "l" (vars.length + is.length)), V.int 0, V.bl false]) ht1).new (o := .lst [V.ref t1]) hl1
        have s2 : Stays p H1 (upd (upd H1 t1 (.tup [V.str (lvl "l" (vars.length + is.length)), V.int 0, V.bl false])) l1 (.lst [V.ref t1])) := (stays_new (p := p) (o := .tup [V.str (lvl "l" (vars.length + is.length)), V.int 0, V.bl false]) ht1).trans (stays_new (p := p) (o := .lst [V.ref t1]) hl1)
        have hv2 : (upd (upd H1 t1 (.tup [V.str (lvl "l" (vars.length + is.length)), V.int 0, V.bl false])) l1 (.lst [V.ref t1])) v = some (.lst xv) := s2 _ _ L1.sc.nv exv
        have ht2 : (upd (upd H1 t1 (.tup [V.str (lvl "l" (vars.length + is.length)), V.int 0, V.bl false])) l1 (.lst [V.ref t1])) t1 = some (.tup [V.str (lvl "l" (vars.length + is.length)), V.int 0, V.bl false]) := stays_new (p := p) (o := .lst [V.ref t1]) hl1 _ _ (new_ne c1 ht1) (upd_same (H := H1) (a := t1) (o := .tup [V.str (lvl "l" (vars.length + is.length)), V.int 0, V.bl false]))
        have hl11 : (upd (upd H1 t1 (.tup [V.str (lvl "l" (vars.length + is.length)), V.int 0, V.bl false])) l1 (.lst [V.ref t1])) l1 = some (.lst [V.ref t1]) := upd_same (H := upd H1 t1 (.tup [V.str (lvl "l" (vars.length + is.length)), V.int 0, V.bl false])) (a := l1) (o := .lst [V.ref t1])
        generalize hH2 : upd (upd H1 t1 (.tup [V.str (lvl "l" (vars.length + is.length)), V.int 0, V.bl false])) l1 (.lst [V.ref t1]) = H2 at c2 s2 hv2 ht2 hl11
        refine ⟨v, l1, _, _, rfl, rfl, (by subst hH2; exact hv2), (by subst hH2; exact hl11), (by rw [lxv]; exact Nat.le_trans (Nat.add_le_add_right hsv _) (show 1000 + 1 ≤ sizeLine by decide)), fun l2 hl2 => ?_⟩
        have hl2' : H2 l2 = none := by subst hH2; exact hl2
        have c3 := c2.new (o := .lst (xv ++ [V.ref t1])) hl2'
        have s3 := stays_new (p := p) (o := .lst (xv ++ [V.ref t1])) hl2'
        have n2 := new_ne c2 hl2'
        have e3 := upd_same (H := H2) (a := l2) (o := .lst (xv ++ [V.ref t1]))
        have tt3 := s3 _ _ (new_ne c1 ht1) ht2
        have txv3 : TvL K (upd H2 l2 (.lst (xv ++ [V.ref t1]))) ((vars ++ [(lvl "l" (vars.length + is.length), 0, false)]).map VRow.enc) (xv ++ [V.ref t1]) := by
          rw [List.map_append]
          exact tvl_append (TvL.carry ((s2.trans s3).carry c1) _ _ txv) ⟨t1, _, rfl, SqT.of tt3, _, _, rfl, rfl, _, _, rfl, rfl, _, _, rfl, rfl, rfl⟩
        have L3 := L1.next (s2.trans s3) c3
        subst hH2
        refine ⟨_, rfl, _, rfl, _, rfl, _, rfl, v, i, d, p, vars, is, 2, rfl, L3.dr, L3.sc, vne, by decide, fun x u H4 g t s4 c4 => ?_⟩
        have L4 := L3.next s4 c4
        have e4 := s4 _ _ n2 e3
        have tt4 := s4 _ _ (new_ne c1 ht1) tt3
        refine ⟨_, rfl, _, rfl, l2, _, _, _, rfl, rfl, SqL.of e4, atI_last _ _, t1, _, _, _, rfl, rfl, SqT.of tt4, rfl, _, rfl, _, rfl, _, rfl, _, rfl, _, rfl, _, rfl, _, rfl, _, _, rfl, rfl,
          l2, i, k, d, p, vars ++ [(lvl "l" (vars.length + is.length), 0, false)], is, ks, n', congrArg (fun z : Int => [V.ref l2, V.ref i, V.ref k, V.ref d, V.ref p, V.int z]) en, ⟨L4.dr, ⟨n2, L4.sc.ni, ⟨_, e4, TvL.carry (s4.carry c3) _ _ txv3⟩, L4.sc.li, ?_, hsi⟩, L4.kn, ?_⟩, by omega, ?_, by omega, fun b w H5 gb tb s5 c5 => ⟨four, fun a ha => ?_⟩⟩
        · rw [List.length_append]
          have : ([(lvl "l" (vars.length + is.length), 0, false)] : List VRow).length = 1 := rfl
          omega
        · obtain ⟨r, hr', hf⟩ := L.free
          exact ⟨r, List.mem_append_left _ hr', hf⟩
        · rw [List.length_append]
          have : ([(lvl "l" (vars.length + is.length), 0, false)] : List VRow).length = 1 := rfl
          omega
        · exact q (.bind (lvl "l" (vars.length + is.length)) x b) _ _ (.bind g gb.one gb.three gb.each) (tv4 upd_same rfl rfl (Tv.carry (carry_new ha) _ _ (Tv.carry (s5.carry c4) _ _ t)) (Tv.carry (carry_new ha) _ _ tb)) (((((s1.trans (s2.trans s3))).trans s4).trans s5).trans (stays_new ha)) (c5.new ha)
      · subst k8
        refine iteF' (decide_eq_false z) ?_
        exact tail H1 (Stays.refl _ _) c1 _ _ _ _ _ _ _ _ _
    refine iteF' (decide_eq_false (fun y => k8 (V.int.inj y))) (iteF ?_)
    exact tail H1 (Stays.refl _ _) c1 _ _ _ _ _ _ _ _ _
theorem ok_sb {f g : Addr} {fd gd : FuncData} (F : Fun K "_law_statement" "_law_statement" sSt f fd) (G : Fun K "_law_body" "_law_body" sBody g gd) (T : Bi mg) (c_take : Cal P w K mg base CX0 1 "_law_take" ["draws", "at", "many"] (spTake K))
    (c_ix : Cal P w K mg base CX0 4 "_law_index" ["integers", "draws", "at", "depth"] (spIx K 3)) (c_pl : Cal P w K mg base CX0 5 "_law_place" ["variables", "integers", "draws", "at"] (spPl K))
    (c_ex : Cal P w K mg base CX0 8 "_law_expression" ["variables", "integers", "draws", "at", "depth"] (spEx K 3)) (c_ts : Cal P w K mg base CX0 9 "_law_test" ["variables", "integers", "draws", "at"] (spTs K))
    (c_call : Cal P w K mg base CX0 5 "_law_call" ["variables", "integers", "known", "draws", "at"] (spCall K))
    (bF : Binds K fd pSt []) (mF : mg "_law_statement" = some (.ref f)) (bG : Binds K gd pSt []) (mG : mg "_law_body" = some (.ref g)) :
    ∀ m : Nat, FnOk P w K mg base CX0 (2 * m + 10) f fd pSt (spSt K m) ∧ FnOk P w K mg base CX0 (2 * m + 11) g gd pSt (spBody K m)
  | 0 => by
    have h : FnOk P w K mg base CX0 (2 * 0 + 10) f fd pSt (spSt K 0) := fn_none fun vs H Q E h => by
      obtain ⟨_, _, _, _, _, _, _, _, n, _, _, z, _⟩ := h
      exact absurd z (Nat.not_lt_zero _)
    exact ⟨h, ok_body1 G T c_take ⟨f, fd, h, bF, F.kp, mF⟩⟩
  | m + 1 => by
    have ih := ok_sb F G T c_take c_ix c_pl c_ex c_ts c_call bF mF bG mG m
    have h : FnOk P w K mg base CX0 (2 * (m + 1) + 10) f fd pSt (spSt K (m + 1)) := ok_st1 F T c_take c_ix c_pl c_ex c_ts c_call ⟨g, gd, ih.2, bG, G.kp, mG⟩
    exact ⟨h, ok_body1 G T c_take ⟨f, fd, h, bF, F.kp, mF⟩⟩

/-! ### whole trees -/
abbrev Decl := Str × Int
def Decl.enc (d : Decl) : PyData := .tuple [.str d.1, .int d.2]
structure Proc where
  name : Str
  idxs : List Str
  refs : List Decl
  body : List St
def Proc.enc (p : Proc) : PyData := .tuple [.str p.name, .tuple (p.idxs.map PyData.str), .tuple (p.refs.map Decl.enc), .tuple (St.encs p.body)]
structure Tree where
  state : List Decl
  params : List Decl
  procs : List Proc
  beat : List St
def Tree.enc (t : Tree) : PyData := .tuple [.tuple (t.state.map Decl.enc), .tuple (t.params.map Decl.enc), .tuple (t.procs.map Proc.enc), .tuple (St.encs t.beat)]
def rowsOf (b : Bool) (ds : List Decl) : List VRow := ds.map fun d => (d.1, d.2, b)
def Proc.row (p : Proc) : KRow := (p.name, p.idxs.length, p.refs.map (·.2))
/-- the call of itself that may stand at a procedure's end -/
def again (p : Proc) : St := .ite (.less (.int 0) (.var "n0")) [.call p.name (.op .minus (.var "n0") (.int 1) :: p.idxs.tail.map Ix.var) (p.refs.map (·.1))] []
structure GProc (fixed : List VRow) (ks : List KRow) (k : Nat) (p : Proc) : Prop where
  nm : p.name = lvl "f" k
  idxs : ∃ c, c ≤ 2 ∧ p.idxs = (List.range c).map (lvl "n")
  refs : ∃ (s : Int) (b : Nat), (s = 0 ∨ s = 2 ∨ s = 3) ∧ 1 ≤ b ∧ b ≤ 2 ∧ p.refs = ([("u", 0), ("v", s)] : List Decl).take b
  bodies : ∃ (b0 : List St) (ks' : List KRow), (ks' = ks ∨ ks' = ks ++ [p.row]) ∧ GBody ks' (rowsOf false p.refs ++ fixed) p.idxs 2 b0 ∧ (p.body = b0 ∨ (p.idxs ≠ [] ∧ p.body = b0 ++ [again p]))
inductive GProcs (fixed : List VRow) : List KRow → List Proc → Prop where
  | nil : GProcs fixed [] []
  | snoc {ks : List KRow} {ps : List Proc} {p : Proc} (h : GProcs fixed ks ps) (g : GProc fixed ks ps.length p) : GProcs fixed (ks ++ [p.row]) (ps ++ [p])
structure GTree (t : Tree) : Prop where
  state : ∃ (a b : Nat) (r : Int), a ≤ 1 ∧ 1 ≤ b ∧ b ≤ 4 ∧ 1 ≤ r ∧ r ≤ 3 ∧ t.state = (([("x", 0), ("y", 0), ("r", r), ("z", 0)] : List Decl).drop a).take b
  params : ∃ c, c ≤ 2 ∧ t.params = ([("p", 0), ("q", 2)] : List Decl).take c
  rest : ∃ ks, GProcs (rowsOf true t.params) ks t.procs ∧ t.procs.length ≤ 2 ∧ GBody ks (rowsOf false t.state ++ rowsOf true t.params) [] 3 t.beat
def spTree (K : PySem.W.Frag) : Sp := fun vs H Q _ => ∃ (d p : Addr), vs = [.ref d, .ref p] ∧ Dr K H d p ∧ ∀ t u H', GTree t → Tv K H' t.enc u → Stays p H H' → AtL H' p → Q u H'
theorem TvL.drop {H : Hp} : ∀ (n : Nat) {ds : List PyData} {xs : List V}, TvL K H ds xs → TvL K H (ds.drop n) (xs.drop n)
  | 0, _, _, h => h
  | n + 1, [], _, h => by cases h; rfl
  | n + 1, d :: ds, _, h => by
    obtain ⟨x, xs, e, _, l⟩ := h
    subst e
    exact TvL.drop n l
theorem TvL.take {H : Hp} : ∀ (n : Nat) {ds : List PyData} {xs : List V}, TvL K H ds xs → TvL K H (ds.take n) (xs.take n)
  | 0, _, _, _ => rfl
  | n + 1, [], _, h => by cases h; rfl
  | n + 1, d :: ds, _, h => by
    obtain ⟨x, xs, e, t, l⟩ := h
    subst e
    exact ⟨x, _, rfl, t, TvL.take n l⟩
theorem TvL.app {H : Hp} : ∀ {ds es : List PyData} {xs ys : List V}, TvL K H ds xs → TvL K H es ys → TvL K H (ds ++ es) (xs ++ ys)
  | [], _, _, _, h, g => by cases h; exact g
  | d :: ds, _, _, _, h, g => by
    obtain ⟨x, xs, e, t, l⟩ := h
    subst e
    exact ⟨x, _, rfl, t, TvL.app l g⟩
theorem cut_lo {xs : List V} {u : Int} (h0 : 0 ≤ u) (h1 : u ≤ (xs.length : Int)) : cutV xs (some u) none = xs.drop u.toNat := by
  obtain ⟨k, rfl⟩ : ∃ k : Nat, u = (k : Int) := ⟨u.toNat, by omega⟩
  unfold cutV
  rw [HT.sIx_nat, HT.sIx_none, Nat.min_eq_left (by omega)]
  have e : ((k : Nat) : Int).toNat = k := by omega
  rw [e]
  exact List.take_of_length_le (by rw [List.length_drop]; exact Nat.le_refl _)
theorem cut_hi {xs : List V} {u : Int} (h0 : 0 ≤ u) : cutV xs none (some u) = xs.take u.toNat := by
  obtain ⟨k, rfl⟩ : ∃ k : Nat, u = (k : Int) := ⟨u.toNat, by omega⟩
  unfold cutV
  rw [HT.sIx_nat, HT.sIx_none, Nat.sub_zero, List.drop_zero]
  have e : ((k : Nat) : Int).toNat = k := by omega
  rw [e]
  rcases Nat.le_total k xs.length with h | h
  · rw [Nat.min_eq_left h]
  · rw [Nat.min_eq_right h, List.take_of_length_le h, List.take_of_length_le (Nat.le_refl _)]
theorem enc_at {H : Hp} {ds : List Decl} {xs : List V} {j : Nat} {x : V} (h : TvL K H (ds.map Decl.enc) xs) (e : xs[j]? = some x) : ∃ (dn : Str) (dz : Int) (a : Addr), ds[j]? = some (dn, dz) ∧ x = .ref a ∧ SqT K H a [.str dn, .int dz] := by
  obtain ⟨dd, hd, td⟩ := TvL.get h e
  rw [List.getElem?_map] at hd
  cases c : ds[j]? with
  | none => rw [c] at hd; cases hd
  | some r =>
    rw [c] at hd
    cases (Option.some.inj hd)
    obtain ⟨dn, dz⟩ := r
    obtain ⟨a, yy, rfl, st, y1, zs1, rfl, h1, y2, zs2, rfl, h2, h3⟩ := td
    cases h1
    cases h2
    cases h3
    exact ⟨dn, dz, a, rfl, rfl, st⟩
theorem rows_more {b : Bool} {ds : List Decl} {j : Nat} {r : Decl} (h : ds[j]? = some r) : (rowsOf b (ds.take (j + 1))).map VRow.enc = (rowsOf b (ds.take j)).map VRow.enc ++ [VRow.enc (r.1, r.2, b)] := by
  unfold rowsOf
  rw [List.take_add_one, h, List.map_append, List.map_append]
  rfl
theorem atl_same {H H' : Hp} {p : Addr} (s : Same H H') (h : AtL H p) : AtL H' p := by
  obtain ⟨j, j0, e⟩ := h
  exact ⟨j, j0, s _ _ e⟩
theorem same_alloc {H : Hp} {q : Addr} {o : HO} (h : H q = none) : Same H (upd H q o) := fun b u e => by rw [upd_ne (ne_of_none e h)]; exact e
theorem same_put {H H' : Hp} {q : Addr} {o : HO} (s : Same H H') (h : H q = none) : Same H (upd H' q o) := fun b u e => by rw [upd_ne (ne_of_none e h)]; exact s b u e

/-- a tracked list of data, another than the counter -/
structure LT (K : PySem.W.Frag) (H : Hp) (p a : Addr) (ds : List PyData) : Prop where
  ne : a ≠ p
  it : ∃ xs, H a = some (.lst xs) ∧ TvL K H ds xs
theorem LT.next {H H' : Hp} {p a : Addr} {ds : List PyData} (h : LT K H p a ds) (s : Stays p H H') (c : AtL H p) : LT K H' p a ds := by
  obtain ⟨xs, e, t⟩ := h.it
  exact ⟨h.ne, xs, s _ _ h.ne e, TvL.carry (s.carry c) _ _ t⟩
/-- the known rows, their sizes' lists apart from the counter and from q -/
def KnP (K : PySem.W.Frag) (H : Hp) (p q : Addr) : List KRow → List V → Prop
  | [], vs => vs = []
  | (nm, c, zs) :: ks, vs => ∃ (a sl : Addr) (xs : List V), vs = .ref a :: xs ∧ SqT K H a [.str nm, .int (c : Int), .ref sl] ∧ SqL K H sl (zs.map V.int) ∧ sl ≠ p ∧ sl ≠ q ∧ KnP K H p q ks xs
theorem KnP.forget {H : Hp} {p q : Addr} : ∀ (ks : List KRow) (vs : List V), KnP K H p q ks vs → KnL K H p ks vs
  | [], _, h => h
  | (nm, n, zs) :: ks, _, h => by
    obtain ⟨a, sl, xs, e, t, l, ne, _, r⟩ := h
    exact ⟨a, sl, xs, e, t, l, ne, KnP.forget ks xs r⟩
theorem KnP.next {H H' : Hp} {p q : Addr} (s : Stays p H H') (c : AtL H p) : ∀ (ks : List KRow) (vs : List V), KnP K H p q ks vs → KnP K H' p q ks vs
  | [], _, h => h
  | (nm, n, zs) :: ks, _, h => by
    obtain ⟨a, sl, xs, e, t, l, ne, nq, r⟩ := h
    exact ⟨a, sl, xs, e, s.carry c _ _ t, s.list ne l, ne, nq, KnP.next s c ks xs r⟩
theorem KnP.store {H : Hp} {p q : Addr} {ys zs' : List V} (eq : H q = some (.lst ys)) : ∀ (ks : List KRow) (vs : List V), KnP K H p q ks vs → KnP K (upd H q (.lst zs')) p q ks vs
  | [], _, h => h
  | (nm, n, zs) :: ks, _, h => by
    obtain ⟨a, sl, xs, e, t, l, ne, nq, r⟩ := h
    refine ⟨a, sl, xs, e, carry_store eq _ _ t, ?_, ne, nq, KnP.store eq ks xs r⟩
    rcases l with (l | ⟨o, l⟩) | l
    · exact .inl (.inl (by rw [upd_ne nq]; exact l))
    · exact .inl (.inr ⟨o, by rw [upd_ne nq]; exact l⟩)
    · exact .inr l
theorem KnP.app {H : Hp} {p q : Addr} : ∀ {ks ls : List KRow} {vs us : List V}, KnP K H p q ks vs → KnP K H p q ls us → KnP K H p q (ks ++ ls) (vs ++ us)
  | [], _, _, _, h, g => by cases h; exact g
  | (nm, n, zs) :: ks, _, _, _, h, g => by
    obtain ⟨a, sl, xs, e, t, l, ne, nq, r⟩ := h
    subst e
    exact ⟨a, sl, _, rfl, t, l, ne, nq, KnP.app r g⟩
theorem KnP.take {H : Hp} {p q : Addr} : ∀ (n : Nat) {ks : List KRow} {vs : List V}, KnP K H p q ks vs → KnP K H p q (ks.take n) (vs.take n)
  | 0, _, _, _ => rfl
  | n + 1, [], _, h => by cases h; rfl
  | n + 1, (nm, c, zs) :: ks, _, h => by
    obtain ⟨a, sl, xs, e, t, l, ne, nq, r⟩ := h
    subst e
    exact ⟨a, sl, _, rfl, t, l, ne, nq, KnP.take n r⟩
theorem KnP.len {H : Hp} {p q : Addr} {ks : List KRow} {xs : List V} (h : KnP K H p q ks xs) : xs.length = ks.length := KnL.len (KnP.forget _ _ h)
theorem str_int (i : Nat) : [V.int (0 + (i : Int))] ++ ([] : List V) = [V.int ((i : Nat) : Int)] := congrArg (fun z : Int => [V.int z]) (Int.zero_add _)
theorem names_more (c : Str) (j : Nat) : (((List.range (j + 1)).map (lvl c)).map V.str) = (((List.range j).map (lvl c)).map V.str) ++ [V.str (lvl c j)] := by
  rw [List.range_succ, List.map_append, List.map_append]
  rfl
theorem few_rows {fixed : List VRow} {ks : List KRow} {ps : List Proc} (h : GProcs fixed ks ps) : ks.length = ps.length ∧ ∀ r ∈ ks, r.2.1 ≤ 1000 ∧ r.2.2.length ≤ 1000 := by
  induction h with
  | nil => exact ⟨rfl, by simp⟩
  | snoc h g ih =>
    refine ⟨by rw [List.length_append, List.length_append, ih.1]; rfl, fun r hr => ?_⟩
    rcases List.mem_append.mp hr with q | q
    · exact ih.2 r q
    · rw [List.mem_singleton.mp q]
      obtain ⟨c, hc, ec⟩ := g.idxs
      obtain ⟨s, b, _, _, hb, eb⟩ := g.refs
      refine ⟨?_, ?_⟩
      · show (_ : List Str).length ≤ 1000
        rw [ec, List.length_map, List.length_range]; omega
      · show ((_ : List Decl).map (·.2)).length ≤ 1000
        rw [eb, List.length_map, List.length_take]
        exact Nat.le_trans (Nat.min_le_left _ _) (by omega)
/-- tuple + tuple, the first not empty: some tuple of both's items -/
def rCatW (K : PySem.W.Frag) : R2 := fun x y H Q => ∃ a b xs ys, x = .ref a ∧ y = .ref b ∧ SqT K H a xs ∧ SqT K H b ys ∧ xs ≠ [] ∧ xs.length + ys.length ≤ sizeLine ∧ ∀ c H', Same H H' → SqT K H' c (xs ++ ys) → Q (.ref c) H'
theorem op_catW {X : Cx} {K' : PySem.W.Frag} (h : X.K = K') : OpR X (binaryOp .Add) (rCatW K') := by
  subst h
  intro pins s σ H x y v u Q I rx ry h
  obtain ⟨a, b, xs, ys, e1, e2, h1, h2, h3, h4, h5⟩ := h
  refine op_catT pins s σ H x y v u Q I rx ry ⟨a, b, xs, ys, e1, e2, h1, h2, h3, h4, fun e => ?_, fun _ p hp => ?_⟩
  · refine h5 a H (Same.refl _) ?_
    rw [e, List.append_nil]
    exact h1
  · exact h5 p _ (same_alloc hp) (SqT.of upd_same)
theorem tv_tup {H : Hp} {a : Addr} {xs : List V} {ds : List PyData} (h : SqT K H a xs) (t : TvL K H ds xs) : Tv K H (.tuple ds) (.ref a) := ⟨a, xs, rfl, h, t⟩
abbrev sTree : Stmt := top 72
abbrev nTree : List Str := ["draws", "at", "state", "params", "fixed", "known", "procedures", "k", "integers", "references", "variables", "row", "body", "less", "again", "beat", "name", "size", "j"]
theorem scTree : FnScope nTree ["draws", "at"] (defScope sTree) := ⟨rfl, rfl, rfl, by decide +kernel, rfl, by decide +kernel, by decide +kernel⟩
theorem ok_tree {f : Addr} {fd : FuncData} (F : Fun K "_law_tree" "_law_tree" sTree f fd) (T : Bi mg) (c_take : Cal P w K mg base CX0 1 "_law_take" ["draws", "at", "many"] (spTake K))
    (c_body : Cal P w K mg base CX0 19 "_law_body" pSt (spBody K 4)) : FnOk P w K mg base CX0 20 f fd ["draws", "at"] (spTree K) := by
  refine F.ok scTree (fun vs H Q E h => ?_) (fun cdv A outer s H vs Q E hr h => ?_)
  · obtain ⟨d, p, rfl, _⟩ := h
    rfl
  · obtain ⟨d, p, rfl, D, q⟩ := h
    have nd := scTree.nd
    have one : 1 ≤ sizeLine := by decide
    have two : 2 ≤ sizeLine := by decide
    have three : 3 ≤ sizeLine := by decide
    have four : 4 ≤ sizeLine := by decide
    refine ⟨_, pss_cons (ps_set (i := 2) nd rfl (.inl rfl) (pe_slice sl_list (pe_lst (pa_cons (pe_tup (pa_cons pe_str (pa_cons pe_int pa_nil))) (pa_cons (pe_tup (pa_cons pe_str (pa_cons pe_int pa_nil))) (pa_cons (pe_tup (pa_cons pe_str (pa_cons (pe_op op_add pe_int (pe_call c_take.ok (hr.mono (by first | decide | omega)) rfl c_take.m c_take.kp c_take.b .nil pass0 (pa_cons (pv 0) (pa_cons (pv 1) (pa_cons pe_int pa_nil))))) pa_nil))) (pa_cons (pe_tup (pa_cons pe_str (pa_cons pe_int pa_nil))) pa_nil))))) (po_some (pe_call c_take.ok (hr.mono (by first | decide | omega)) rfl c_take.m c_take.kp c_take.b .nil pass0 (pa_cons (pv 0) (pa_cons (pv 1) (pa_cons pe_int pa_nil))))) po_none))
      (pss_cons (ps_set (i := 2) nd rfl (.inl rfl) (pe_slice sl_list (pv 2) po_none (po_some (pe_op op_add pe_int (pe_call c_take.ok (hr.mono (by first | decide | omega)) rfl c_take.m c_take.kp c_take.b .nil pass0 (pa_cons (pv 0) (pa_cons (pv 1) (pa_cons pe_int pa_nil))))))))
      (pss_cons (ps_set (i := 3) nd rfl (.inl rfl) (pe_slice sl_list (pe_lst (pa_cons (pe_tup (pa_cons pe_str (pa_cons pe_int pa_nil))) (pa_cons (pe_tup (pa_cons pe_str (pa_cons pe_int pa_nil))) pa_nil))) po_none (po_some (pe_call c_take.ok (hr.mono (by first | decide | omega)) rfl c_take.m c_take.kp c_take.b .nil pass0 (pa_cons (pv 0) (pa_cons (pv 1) (pa_cons pe_int pa_nil)))))))
      (pss_cons (ps_setLc (i := 4) (own := [("name", 16), ("size", 17)]) (g := gTup K 2 (gCons (gName 16) (gCons (gName 17) gNil))) (tt := tYes) rfl nd rfl rfl (sw_true rfl rfl rfl (by decide +kernel)) (pi_list (pv 3)) (blkOk_by (N := nTree) (sc := defScope sTree) (by decide +kernel)) (fun _ _ _ _ _ => pg_tup (by rfl) (pgs_cons (pg_name (i := 16) nd rfl (.inl rfl)) (pgs_cons (pg_name (i := 17) nd rfl (.inl rfl)) pgs_nil))) (fun _ _ _ _ _ => pts_nil) (fun _ _ _ _ _ => (pe_tup (pa_cons (pv 16) (pa_cons (pv 17) (pa_cons pe_bl pa_nil))))))
      (pss_cons (ps_set (i := 5) nd rfl (.inl rfl) (pe_lst pa_nil))
      (pss_cons (ps_set (i := 6) nd rfl (.inl rfl) (pe_lst pa_nil))
      (pss_cons (ps_for PassesOwn.never rfl (pi_range1 rfl T.range (pa_cons (pe_call c_take.ok (hr.mono (by first | decide | omega)) rfl c_take.m c_take.kp c_take.b .nil pass0 (pa_cons (pv 0) (pa_cons (pv 1) (pa_cons pe_int pa_nil)))) pa_nil)) (pg_name (i := 7) nd rfl (.inl rfl)) (pss_cons (ps_setLc (i := 8) (own := [("j", 18)]) (g := gName 18) (tt := tYes) rfl nd rfl rfl (sw_true rfl rfl rfl (by decide +kernel)) (pi_range1 rfl T.range (pa_cons (pe_call c_take.ok (hr.mono (by first | decide | omega)) rfl c_take.m c_take.kp c_take.b .nil pass0 (pa_cons (pv 0) (pa_cons (pv 1) (pa_cons pe_int pa_nil)))) pa_nil)) (blkOk_by (N := nTree) (sc := defScope sTree) (by decide +kernel)) (fun _ _ _ _ _ => pg_name (i := 18) nd rfl (.inl rfl)) (fun _ _ _ _ _ => pts_nil) (fun _ _ _ _ _ => (pe_op op_add_str pe_str (pe_callTy call_str_int rfl T.str PyProof.Rows.boot_str (pa_cons (pv 18) pa_nil)))))
      (pss_cons (ps_set (i := 9) nd rfl (.inl rfl) (pe_slice sl_list (pe_lst (pa_cons (pe_tup (pa_cons pe_str (pa_cons pe_int pa_nil))) (pa_cons (pe_tup (pa_cons pe_str (pa_cons (pe_ix ix_list (pe_lst (pa_cons pe_int (pa_cons pe_int (pa_cons pe_int pa_nil)))) (pe_call c_take.ok (hr.mono (by first | decide | omega)) rfl c_take.m c_take.kp c_take.b .nil pass0 (pa_cons (pv 0) (pa_cons (pv 1) (pa_cons pe_int pa_nil)))) (fun _ _ => rfl)) pa_nil))) pa_nil))) po_none (po_some (pe_op op_add pe_int (pe_call c_take.ok (hr.mono (by first | decide | omega)) rfl c_take.m c_take.kp c_take.b .nil pass0 (pa_cons (pv 0) (pa_cons (pv 1) (pa_cons pe_int pa_nil))))))))
      (pss_cons (ps_set (i := 10) nd rfl (.inl rfl) (pe_op op_cat (pe_lc (own := [("name", 16), ("size", 17)]) (g := gTup K 2 (gCons (gName 16) (gCons (gName 17) gNil))) (tt := tYes) rfl nd (pi_list (pv 9)) (blkOk_by (N := nTree) (sc := defScope sTree) (by decide +kernel)) (fun _ _ _ _ _ => pg_tup (by rfl) (pgs_cons (pg_name (i := 16) nd rfl (.inl rfl)) (pgs_cons (pg_name (i := 17) nd rfl (.inl rfl)) pgs_nil))) (fun _ _ _ _ _ => pts_nil) (fun _ _ _ _ _ => (pe_tup (pa_cons (pv 16) (pa_cons (pv 17) (pa_cons pe_bl pa_nil)))))) (pv 4)))
      (pss_cons (ps_set (i := 11) nd rfl (.inl rfl) (pe_tup (pa_cons (pe_op op_add_str pe_str (pe_callTy call_str_int rfl T.str PyProof.Rows.boot_str (pa_cons (pv 7) pa_nil))) (pa_cons (pe_callB call_len_seq rfl T.len PySem.boot_len (pa_cons (pv 8) pa_nil)) (pa_cons (pe_lc (own := [("name", 16), ("size", 17)]) (g := gTup K 2 (gCons (gName 16) (gCons (gName 17) gNil))) (tt := tYes) rfl nd (pi_list (pv 9)) (blkOk_by (N := nTree) (sc := defScope sTree) (by decide +kernel)) (fun _ _ _ _ _ => pg_tup (by rfl) (pgs_cons (pg_name (i := 16) nd rfl (.inl rfl)) (pgs_cons (pg_name (i := 17) nd rfl (.inl rfl)) pgs_nil))) (fun _ _ _ _ _ => pts_nil) (fun _ _ _ _ _ => (pv 17))) pa_nil)))))
      (pss_cons (ps_set (i := 12) nd rfl (.inl rfl) (pe_call c_body.ok (hr.mono (by first | decide | omega)) rfl c_body.m c_body.kp c_body.b .nil pass0 (pa_cons (pv 10) (pa_cons (pv 8) (pa_cons (pe_op op_cat (pv 5) (pe_slice sl_list (pe_lst (pa_cons (pv 11) pa_nil)) po_none (po_some (pe_call c_take.ok (hr.mono (by first | decide | omega)) rfl c_take.m c_take.kp c_take.b .nil pass0 (pa_cons (pv 0) (pa_cons (pv 1) (pa_cons pe_int pa_nil))))))) (pa_cons (pv 0) (pa_cons (pv 1) (pa_cons pe_int pa_nil))))))))
      (pss_cons (ps_if (PW.pt (pw_and (pt_truth (pv 8) (by intro _; rfl)) (pw_and1 (pt_cmpR op_eq (pe_call c_take.ok (hr.mono (by first | decide | omega)) rfl c_take.m c_take.kp c_take.b .nil pass0 (pa_cons (pv 0) (pa_cons (pv 1) (pa_cons pe_int pa_nil)))) pe_int (nomark _))))) (pss_cons (ps_set (i := 13) nd rfl (.inl rfl) (pe_op (op_catW (K' := K) rfl) (pe_tup (pa_cons (pe_tup (pa_cons pe_str (pa_cons (pe_tup (pa_cons pe_str (pa_cons pe_str pa_nil))) (pa_cons (pe_tup (pa_cons pe_str (pa_cons pe_int pa_nil))) pa_nil)))) pa_nil)) (pe_callTy call_tuple_of rfl T.tuple PyProof.Rows.boot_tuple (pa_cons (pe_lc (own := [("name", 16)]) (g := gName 16) (tt := tYes) rfl nd (pi_list (pe_slice sl_list (pv 8) (po_some pe_int) po_none)) (blkOk_by (N := nTree) (sc := defScope sTree) (by decide +kernel)) (fun _ _ _ _ _ => pg_name (i := 16) nd rfl (.inl rfl)) (fun _ _ _ _ _ => pts_nil) (fun _ _ _ _ _ => (pe_tup (pa_cons pe_str (pa_cons (pv 16) pa_nil))))) pa_nil))))
      (pss_cons (ps_set (i := 14) nd rfl (.inl rfl) (pe_tup (pa_cons pe_str (pa_cons (pe_ix ix_tup (pv 11) pe_int (fun _ _ => rfl)) (pa_cons (pv 13) (pa_cons (pe_callTy call_tuple_of rfl T.tuple PyProof.Rows.boot_tuple (pa_cons (pe_lc (own := [("name", 16), ("size", 17)]) (g := gTup K 2 (gCons (gName 16) (gCons (gName 17) gNil))) (tt := tYes) rfl nd (pi_list (pv 9)) (blkOk_by (N := nTree) (sc := defScope sTree) (by decide +kernel)) (fun _ _ _ _ _ => pg_tup (by rfl) (pgs_cons (pg_name (i := 16) nd rfl (.inl rfl)) (pgs_cons (pg_name (i := 17) nd rfl (.inl rfl)) pgs_nil))) (fun _ _ _ _ _ => pts_nil) (fun _ _ _ _ _ => (pv 16))) pa_nil)) pa_nil))))))
      (pss_one (ps_set (i := 12) nd rfl (.inl rfl) (pe_op (op_catW (K' := K) rfl) (pv 12) (pe_tup (pa_cons (pe_tup (pa_cons pe_str (pa_cons (pe_tup (pa_cons pe_str (pa_cons (pe_tup (pa_cons pe_str (pa_cons pe_int pa_nil))) (pa_cons (pe_tup (pa_cons pe_str (pa_cons pe_str pa_nil))) pa_nil)))) (pa_cons (pe_tup (pa_cons (pv 14) pa_nil)) (pa_cons (pe_tup pa_nil) pa_nil))))) pa_nil))))))) pss_nil)
      (pss_cons (ps_expr (pe_bm PySem.F.plainAttrs_list PySem.F.slot_list_append PySem.F.type_list_append mt_append (pv 6) (pa_cons (pe_tup (pa_cons (pe_ix ix_tup (pv 11) pe_int (fun _ _ => rfl)) (pa_cons (pe_callTy call_tuple_of rfl T.tuple PyProof.Rows.boot_tuple (pa_cons (pv 8) pa_nil)) (pa_cons (pe_callTy call_tuple_of rfl T.tuple PyProof.Rows.boot_tuple (pa_cons (pv 9) pa_nil)) (pa_cons (pv 12) pa_nil))))) pa_nil)))
      (pss_one (ps_set (i := 5) nd rfl (.inl rfl) (pe_op op_cat (pv 5) (pe_lst (pa_cons (pv 11) pa_nil)))))))))))))
      (pss_cons (ps_set (i := 10) nd rfl (.inl rfl) (pe_op op_cat (pe_lc (own := [("name", 16), ("size", 17)]) (g := gTup K 2 (gCons (gName 16) (gCons (gName 17) gNil))) (tt := tYes) rfl nd (pi_list (pv 2)) (blkOk_by (N := nTree) (sc := defScope sTree) (by decide +kernel)) (fun _ _ _ _ _ => pg_tup (by rfl) (pgs_cons (pg_name (i := 16) nd rfl (.inl rfl)) (pgs_cons (pg_name (i := 17) nd rfl (.inl rfl)) pgs_nil))) (fun _ _ _ _ _ => pts_nil) (fun _ _ _ _ _ => (pe_tup (pa_cons (pv 16) (pa_cons (pv 17) (pa_cons pe_bl pa_nil)))))) (pv 4)))
      (pss_cons (ps_set (i := 15) nd rfl (.inl rfl) (pe_call c_body.ok (hr.mono (by first | decide | omega)) rfl c_body.m c_body.kp c_body.b .nil pass0 (pa_cons (pv 10) (pa_cons (pe_lst pa_nil) (pa_cons (pv 5) (pa_cons (pv 0) (pa_cons (pv 1) (pa_cons pe_int pa_nil))))))))
      (pss_one (ps_ret (pe_tup (pa_cons (pe_callTy call_tuple_of rfl T.tuple PyProof.Rows.boot_tuple (pa_cons (pv 2) pa_nil)) (pa_cons (pe_callTy call_tuple_of rfl T.tuple PyProof.Rows.boot_tuple (pa_cons (pv 3) pa_nil)) (pa_cons (pe_callTy call_tuple_of rfl T.tuple PyProof.Rows.boot_tuple (pa_cons (pv 6) pa_nil)) (pa_cons (pv 15) pa_nil))))))))))))))), ?_⟩
    -- the state
    refine ⟨two, fun a1 h1 => ⟨two, fun a2 h2 => ?_⟩⟩
    have D2 := (D.new (o := .tup [V.str "x", V.int 0]) h1).new (o := .tup [V.str "y", V.int 0]) h2
    refine ⟨_, rfl, _, rfl, d, p, 3, rfl, D2, by decide, fun r H3 r0 r1 s3 c3 => ⟨_, _, rfl, rfl, two, fun a3 h3 => ⟨two, fun a4 h4 => ⟨four, fun L hL => ?_⟩⟩⟩⟩
    have q1 : SqT K H3 a1 [V.str "x", V.int 0] := s3.carry D2.ctr _ _ (carry_new h2 _ _ (SqT.of upd_same))
    have q2 : SqT K H3 a2 [V.str "y", V.int 0] := s3.carry D2.ctr _ _ (SqT.of upd_same)
    have t3 : TvL K (upd (upd H3 a3 (.tup [V.str "r", V.int (1 + r)])) a4 (.tup [V.str "z", V.int 0])) (([("x", 0), ("y", 0), ("r", 1 + r), ("z", 0)] : List Decl).map Decl.enc) [.ref a1, .ref a2, .ref a3, .ref a4] :=
      ⟨_, _, rfl, ⟨a1, _, rfl, carry_new h4 _ _ (carry_new h3 _ _ q1), _, _, rfl, rfl, _, _, rfl, rfl, rfl⟩, _, _, rfl, ⟨a2, _, rfl, carry_new h4 _ _ (carry_new h3 _ _ q2), _, _, rfl, rfl, _, _, rfl, rfl, rfl⟩,
        _, _, rfl, ⟨a3, _, rfl, carry_new h4 _ _ (SqT.of upd_same), _, _, rfl, rfl, _, _, rfl, rfl, rfl⟩, _, _, rfl, ⟨a4, _, rfl, SqT.of upd_same, _, _, rfl, rfl, _, _, rfl, rfl, rfl⟩, rfl⟩
    have s4 : Stays p H (upd (upd H3 a3 (.tup [V.str "r", V.int (1 + r)])) a4 (.tup [V.str "z", V.int 0])) := (((stays_new h1).trans (stays_new h2)).trans s3).trans ((stays_new h3).trans (stays_new h4))
    have c4 := (c3.new (o := .tup [V.str "r", V.int (1 + r)]) h3).new (o := .tup [V.str "z", V.int 0]) h4
    generalize upd (upd H3 a3 (.tup [V.str "r", V.int (1 + r)])) a4 (.tup [V.str "z", V.int 0]) = H4 at t3 s4 c4 hL
    have nL := new_ne c4 hL
    have c5 := c4.new (o := .lst [V.ref a1, V.ref a2, V.ref a3, V.ref a4]) hL
    have s5 := s4.trans (stays_new (p := p) (o := .lst [V.ref a1, V.ref a2, V.ref a3, V.ref a4]) hL)
    have t5 := TvL.carry (carry_new (o := .lst [V.ref a1, V.ref a2, V.ref a3, V.ref a4]) hL) _ _ t3
    have e5 := upd_same (H := H4) (a := L) (o := .lst [V.ref a1, V.ref a2, V.ref a3, V.ref a4])
    generalize upd H4 L (.lst [V.ref a1, V.ref a2, V.ref a3, V.ref a4]) = H5 at c5 s5 t5 e5
    refine ⟨_, rfl, _, rfl, d, p, 2, rfl, D.next s5 c5, by decide, fun u H6 u0 u1 s6 c6 => ?_⟩
    have t6 := TvL.drop u.toNat (TvL.carry (s6.carry c5) _ _ t5)
    have ll : ([V.ref a1, V.ref a2, V.ref a3, V.ref a4] : List V).length = 4 := rfl
    refine ⟨u, rfl, L, _, rfl, SqL.of (s6 _ _ nL e5), fun M hM => ?_⟩
    rw [cut_lo u0 (by rw [ll]; omega)]
    rw [← List.map_drop] at t6
    obtain ⟨st1, hst1, lst1⟩ : ∃ st1 : List Decl, st1 = ([("x", 0), ("y", 0), ("r", 1 + r), ("z", 0)] : List Decl).drop u.toNat ∧ 3 ≤ st1.length ∧ st1.length ≤ 4 := ⟨_, rfl, by rw [List.length_drop]; show 3 ≤ 4 - u.toNat; omega, by rw [List.length_drop]; exact Nat.sub_le _ _⟩
    rw [← hst1] at t6
    generalize ([V.ref a1, V.ref a2, V.ref a3, V.ref a4] : List V).drop u.toNat = xs1 at *
    have s7 := (s5.trans s6).trans (stays_new (p := p) (o := .lst xs1) hM)
    have c7 := c6.new (o := .lst xs1) hM
    have t7 := TvL.carry (carry_new (o := .lst xs1) hM) _ _ t6
    have e7 := upd_same (H := H6) (a := M) (o := .lst xs1)
    have nM := new_ne c6 hM
    generalize upd H6 M (.lst xs1) = H7 at s7 c7 t7 e7
    refine ⟨_, rfl, _, rfl, _, rfl, d, p, 4, rfl, D.next s7 c7, by decide, fun v H8 v0 v1 s8 c8 => ⟨_, _, rfl, rfl, 1 + v, rfl, M, _, rfl, SqL.of (s8 _ _ nM e7), fun N hN => ?_⟩⟩
    rw [cut_hi (by omega)]
    have t8 := TvL.take (1 + v).toNat (TvL.carry (s8.carry c7) _ _ t7)
    rw [← List.map_take] at t8
    obtain ⟨st2, hst2, lst2, lst2'⟩ : ∃ st2 : List Decl, st2 = st1.take (1 + v).toNat ∧ 1 ≤ st2.length ∧ st2.length ≤ 4 := ⟨_, rfl, by rw [List.length_take]; omega, by rw [List.length_take]; omega⟩
    rw [← hst2] at t8
    have gst : ∃ (a b : Nat) (r : Int), a ≤ 1 ∧ 1 ≤ b ∧ b ≤ 4 ∧ 1 ≤ r ∧ r ≤ 3 ∧ st2 = (([("x", 0), ("y", 0), ("r", r), ("z", 0)] : List Decl).drop a).take b := ⟨u.toNat, (1 + v).toNat, 1 + r, by omega, by omega, by omega, by omega, by omega, by rw [hst2, hst1]⟩
    clear hst1 hst2
    have s9 := (s7.trans s8).trans (stays_new (p := p) (o := .lst (xs1.take (1 + v).toNat)) hN)
    have c9 := c8.new (o := .lst (xs1.take (1 + v).toNat)) hN
    have ltS : LT K (upd H8 N (.lst (xs1.take (1 + v).toNat))) p N (st2.map Decl.enc) := ⟨new_ne c8 hN, _, upd_same, TvL.carry (carry_new hN) _ _ t8⟩
    generalize upd H8 N (.lst (xs1.take (1 + v).toNat)) = H9 at s9 c9 ltS
    clear t3 t5 t6 t7 t8 e5 e7 nL nM s3 s4 s5 s6 s7 s8 c3 c4 c5 c6 c7 c8 h1 h2 h3 h4 hL hM hN q1 q2 D2
    -- the parameters
    refine ⟨two, fun b1 g1 => ⟨two, fun b2 g2 => ⟨two, fun B hB => ?_⟩⟩⟩
    have tb : TvL K (upd (upd H9 b1 (.tup [V.str "p", V.int 0])) b2 (.tup [V.str "q", V.int 2])) (([("p", 0), ("q", 2)] : List Decl).map Decl.enc) [.ref b1, .ref b2] :=
      ⟨_, _, rfl, ⟨b1, _, rfl, carry_new g2 _ _ (SqT.of upd_same), _, _, rfl, rfl, _, _, rfl, rfl, rfl⟩, _, _, rfl, ⟨b2, _, rfl, SqT.of upd_same, _, _, rfl, rfl, _, _, rfl, rfl, rfl⟩, rfl⟩
    have s10 : Stays p H9 (upd (upd H9 b1 (.tup [V.str "p", V.int 0])) b2 (.tup [V.str "q", V.int 2])) := (stays_new g1).trans (stays_new g2)
    have c10 := (c9.new (o := .tup [V.str "p", V.int 0]) g1).new (o := .tup [V.str "q", V.int 2]) g2
    generalize upd (upd H9 b1 (.tup [V.str "p", V.int 0])) b2 (.tup [V.str "q", V.int 2]) = H10 at tb s10 c10 hB
    have ltB : LT K (upd H10 B (.lst [V.ref b1, V.ref b2])) p B (([("p", 0), ("q", 2)] : List Decl).map Decl.enc) := ⟨new_ne c10 hB, _, upd_same, TvL.carry (carry_new hB) _ _ tb⟩
    have s11 := s10.trans (stays_new (p := p) (o := .lst [V.ref b1, V.ref b2]) hB)
    have c11 := c10.new (o := .lst [V.ref b1, V.ref b2]) hB
    generalize upd H10 B (.lst [V.ref b1, V.ref b2]) = H11 at s11 c11 ltB
    refine ⟨_, rfl, _, rfl, d, p, 3, rfl, D.next (s9.trans s11) c11, by decide, fun x H12 x0 x1 s12 c12 => ?_⟩
    obtain ⟨nB, xb, eB, tB⟩ := ltB.next s12 c11
    refine ⟨x, rfl, B, _, rfl, SqL.of eB, fun PA hPA => ?_⟩
    rw [cut_hi x0]
    have tp := TvL.take x.toNat tB
    rw [← List.map_take] at tp
    obtain ⟨pa, hpa, lpa⟩ : ∃ pa : List Decl, pa = ([("p", 0), ("q", 2)] : List Decl).take x.toNat ∧ pa.length ≤ 2 := ⟨_, rfl, by rw [List.length_take]; exact Nat.min_le_right _ _⟩
    rw [← hpa] at tp
    have gpa : ∃ c, c ≤ 2 ∧ pa = ([("p", 0), ("q", 2)] : List Decl).take c := ⟨x.toNat, by omega, hpa⟩
    have ltP : LT K (upd H12 PA (.lst (xb.take x.toNat))) p PA (pa.map Decl.enc) := ⟨new_ne c12 hPA, _, upd_same, TvL.carry (carry_new hPA) _ _ tp⟩
    have s13 : Stays p H9 (upd H12 PA (.lst (xb.take x.toNat))) := (s11.trans s12).trans (stays_new hPA)
    have c13 := c12.new (o := .lst (xb.take x.toNat)) hPA
    generalize upd H12 PA (.lst (xb.take x.toNat)) = H13 at s13 c13 ltP
    have ltS2 := ltS.next s13 c9
    have s14 := s9.trans s13
    clear hpa tp eB nB ltB tb s9 s10 s11 s12 s13 c9 c10 c11 c12 ltS g1 g2 hB hPA
    -- the parameters' rows
    obtain ⟨nda, xsF, exF, txF⟩ := ltP
    refine ⟨_, rfl, PA, rfl, ⟨_, SqL.of exF⟩, fun DF hDF => ?_⟩
    refine lc_list (K := K) (a := PA) (fun j H' => Same H13 H' ∧ ∃ ys, H' DF = some (.lst ys) ∧ TvL K H' ((rowsOf true (List.take j pa)).map VRow.enc) ys ∧ ys.length = j) ⟨same_alloc hDF, [], upd_same, rfl, rfl⟩ (fun j H' _ h => SqL.of (h.1 _ _ exF)) ?_ ?_
    · rintro j x H' hx ⟨sm, ys, eD, ty, ly⟩
      obtain ⟨dn, dz, a, hd, rfl, st⟩ := enc_at txF hx
      have st' := same_carry sm _ _ st
      refine ⟨a, _, rfl, st', rfl, _, _, rfl, _, _, rfl, rfl, rfl, ?_⟩
      refine ⟨_, rfl, _, rfl, three, fun g hg => ?_⟩
      refine ⟨ys, (by rw [upd_ne (ne_of_none eD hg)]; exact eD), ?_, same_put (sm.trans (same_alloc hg)) hDF, _, upd_same, ?_, ?_⟩
      · rw [ly]
        have hj1 := (List.getElem?_eq_some_iff.mp hx).1
        have hj2 := TvL.len txF
        rw [List.length_map] at hj2
        have hj3 : pa.length ≤ 1000 := (by omega)
        exact Nat.lt_of_lt_of_le (show j < 1001 by omega) (by decide)
      · rw [rows_more hd]
        have eD2 : (upd H' g (.tup [V.str dn, V.int dz, V.bl true])) DF = some (.lst ys) := by rw [upd_ne (ne_of_none eD hg)]; exact eD
        exact tvl_append (TvL.carry (carry_store eD2) _ _ (TvL.carry (carry_new hg) _ _ ty)) ⟨g, _, rfl, carry_store eD2 _ _ (SqT.of upd_same), _, _, rfl, rfl, _, _, rfl, rfl, _, _, rfl, rfl, rfl⟩
      · rw [List.length_append, ly]
        rfl
    rintro HF ⟨smF, ysF, eF, tF, lF⟩
    rw [List.take_of_length_le (by have := TvL.len txF; rw [List.length_map] at this; omega)] at tF
    have ltF : LT K HF p DF ((rowsOf true pa).map VRow.enc) := ⟨new_ne c13 hDF, ysF, eF, tF⟩
    clear tF lF
    have sHF : Stays p H HF := s14.trans (same_stays smF)
    have cF := atl_same smF c13
    have ltS3 := ltS2.next (same_stays smF) c13
    have ltP3 : LT K HF p PA (pa.map Decl.enc) := (LT.mk nda ⟨xsF, exF, txF⟩ : LT K H13 p PA (pa.map Decl.enc)).next (same_stays smF) c13
    have lfx : (rowsOf true pa).length ≤ 2 := by unfold rowsOf; rw [List.length_map]; exact lpa
    clear s14 smF ltS2 c13 txF exF
    -- known, procedures
    refine ⟨Nat.zero_le _, fun KN hKN => ⟨Nat.zero_le _, fun PR hPR => ?_⟩⟩
    have eKN : (upd HF KN (.lst [])) KN = some (.lst []) := upd_same
    have sK : Stays p H (upd HF KN (.lst [])) := sHF.trans (stays_new hKN)
    have cK := cF.new (o := .lst []) hKN
    have nKN := new_ne cF hKN
    have ltS4 := ltS3.next (stays_new (p := p) (o := .lst []) hKN) cF
    have ltP4 := ltP3.next (stays_new (p := p) (o := .lst []) hKN) cF
    have ltF4 := ltF.next (stays_new (p := p) (o := .lst []) hKN) cF
    have nKP : KN ≠ PR := fun z => by rw [← z, eKN] at hPR; cases hPR
    generalize upd HF KN (.lst []) = HP at eKN sK cK ltS4 ltP4 ltF4 hPR
    clear ltS3 ltP3 ltF sHF cF hKN
    have nPR := new_ne cK hPR
    have sR : Stays p HP (upd HP PR (.lst [])) := stays_new hPR
    have cR := cK.new (o := .lst []) hPR
    refine ⟨_, rfl, _, rfl, d, p, 3, rfl, D.next (sK.trans sR) cR, by decide, fun y H0 y0 y1 sy cy => ?_⟩
    refine ⟨y, rfl, by omega, by omega, for_range (lo := 0) (n := y.toNat) (fun j σ H' => Stays p HP H' ∧ AtL H' p ∧ ∃ (ks : List KRow) (ps : List Proc) (kn : Addr) (kxs pys : List V), GProcs (rowsOf true pa) ks ps ∧ ps.length = j ∧ kn ≠ p ∧ kn ≠ PR ∧
        H' kn = some (.lst kxs) ∧ KnP K H' p PR ks kxs ∧ H' PR = some (.lst pys) ∧ TvL K H' (ps.map Proc.enc) pys ∧
        ∃ w7 w8 w9 w10 w11 w12 w13 w14 w15 : Option V, σ = [some (.ref d), some (.ref p), some (.ref N), some (.ref PA), some (.ref DF), some (.ref kn), some (.ref PR), w7, w8, w9, w10, w11, w12, w13, w14, w15, none, none, none])
      ⟨sR.trans sy, cy, [], [], KN, [], [], .nil, rfl, nKN, nKP, sy _ _ nKN (sR _ _ nKN eKN), rfl, sy _ _ nPR upd_same, rfl, _, _, _, _, _, _, _, _, _, rfl⟩ ?_ ?_⟩
    · rintro j σ H' hj ⟨sj, cj, ks, ps, kn, kxs, pys, gp, lp, nkn, nkp, ekn, tkn, ePR, tps, w7, w8, w9, w10, w11, w12, w13, w14, w15, rfl⟩
      have few := few_rows gp
      -- integers
      refine ⟨_, rfl, _, rfl, d, p, 3, rfl, D.next (sK.trans sj) cj, by decide, fun c H1 u0' u1' s1 c1 => ⟨c, rfl, by omega, by omega, fun DI hDI => ?_⟩⟩
      have cl2 : c.toNat ≤ 2 := by omega
      refine lc_range (lo := 0) (n := c.toNat) (fun i H' => Same H1 H' ∧ H' DI = some (.lst (((List.range i).map (lvl "n")).map V.str))) ⟨same_alloc hDI, upd_same⟩ ?_ ?_
      · rintro i H2 hi ⟨sm, eD⟩
        refine ⟨rfl, _, rfl, ((i : Nat) : Int), str_int i, log_small (by omega), _, _, rfl, rfl, Nat.le_trans (Nat.add_le_add_left (digits_le (show i ≤ 2000 by omega)) _) (by decide), _, eD, ?_, same_put sm hDI, ?_⟩
        · rw [List.length_map, List.length_map, List.length_range]
          exact Nat.lt_of_lt_of_le (show i < 3 by omega) (by decide)
        · rw [upd_same, names_more]
          rfl
      rintro H2 ⟨smI, eDI⟩
      obtain ⟨is, his, lis⟩ : ∃ is : List Str, is = (List.range c.toNat).map (lvl "n") ∧ is.length ≤ 2 := ⟨_, rfl, by rw [List.length_map, List.length_range]; exact cl2⟩
      rw [← his] at eDI
      have gis : ∃ c, c ≤ 2 ∧ is = (List.range c).map (lvl "n") := ⟨c.toNat, cl2, his⟩
      clear his
      have nDI := new_ne c1 hDI
      have s2 : Stays p H' H2 := s1.trans (same_stays smI)
      have c2 := atl_same smI c1
      have nDIR : DI ≠ PR := fun z => by have := s1 _ _ nPR ePR; rw [← z, hDI] at this; cases this
      clear smI hDI s1 c1
      -- references
      refine ⟨two, fun r1 gr1 => ⟨three, fun z hz => ?_⟩⟩
      have c3 := (c2.new (o := .tup [V.str "u", V.int 0]) gr1).new (o := .lst [V.int 0, V.int 2, V.int 3]) hz
      have s3 := (stays_new (p := p) (o := .tup [V.str "u", V.int 0]) gr1).trans (stays_new (p := p) (o := .lst [V.int 0, V.int 2, V.int 3]) hz)
      have nz := new_ne (c2.new (o := .tup [V.str "u", V.int 0]) gr1) hz
      have er1 : (upd (upd H2 r1 (.tup [V.str "u", V.int 0])) z (.lst [V.int 0, V.int 2, V.int 3])) r1 = some (.tup [V.str "u", V.int 0]) := by rw [upd_ne (ne_of_none upd_same hz)]; exact upd_same
      have ez : (upd (upd H2 r1 (.tup [V.str "u", V.int 0])) z (.lst [V.int 0, V.int 2, V.int 3])) z = some (.lst [V.int 0, V.int 2, V.int 3]) := upd_same
      have nr1 := new_ne c2 gr1
      generalize upd (upd H2 r1 (.tup [V.str "u", V.int 0])) z (.lst [V.int 0, V.int 2, V.int 3]) = H3 at c3 s3 er1 ez
      have s4 := s3
      refine ⟨_, rfl, _, rfl, d, p, 3, rfl, D.next ((sK.trans sj).trans (s2.trans s4)) c3, by decide, fun y2 H4 y20 y21 s5 c5 => ?_⟩
      obtain ⟨sz, hsz, gsz⟩ : ∃ sz : Int, atI [V.int 0, V.int 2, V.int 3] y2 = some (.int sz) ∧ (sz = 0 ∨ sz = 2 ∨ sz = 3) := by
        have cs : y2 = 0 ∨ y2 = 1 ∨ y2 = 2 := by omega
        rcases cs with z | z | z <;> subst z
        · exact ⟨0, rfl, .inl rfl⟩
        · exact ⟨2, rfl, .inr (.inl rfl)⟩
        · exact ⟨3, rfl, .inr (.inr rfl)⟩
      have er1' := s5 _ _ nr1 er1
      refine ⟨z, _, _, _, rfl, rfl, SqL.of (s5 _ _ nz ez), hsz, two, fun r2 gr2 => ⟨two, fun RL hRL => ?_⟩⟩
      have tR : TvL K (upd H4 r2 (.tup [V.str "v", V.int sz])) (([("u", 0), ("v", sz)] : List Decl).map Decl.enc) [.ref r1, .ref r2] :=
        ⟨_, _, rfl, ⟨r1, _, rfl, carry_new gr2 _ _ (SqT.of er1'), _, _, rfl, rfl, _, _, rfl, rfl, rfl⟩, _, _, rfl, ⟨r2, _, rfl, SqT.of upd_same, _, _, rfl, rfl, _, _, rfl, rfl, rfl⟩, rfl⟩
      have c6 := c5.new (o := .tup [V.str "v", V.int sz]) gr2
      have s6 := (s4.trans s5).trans (stays_new (p := p) (o := .tup [V.str "v", V.int sz]) gr2)
      generalize upd H4 r2 (.tup [V.str "v", V.int sz]) = H5 at tR c6 s6 hRL
      have ltL : LT K (upd H5 RL (.lst [V.ref r1, V.ref r2])) p RL (([("u", 0), ("v", sz)] : List Decl).map Decl.enc) := ⟨new_ne c6 hRL, _, upd_same, TvL.carry (carry_new hRL) _ _ tR⟩
      have c7 := c6.new (o := .lst [V.ref r1, V.ref r2]) hRL
      have s7 := s6.trans (stays_new (p := p) (o := .lst [V.ref r1, V.ref r2]) hRL)
      generalize upd H5 RL (.lst [V.ref r1, V.ref r2]) = H6 at ltL c7 s7
      refine ⟨_, rfl, _, rfl, d, p, 2, rfl, D.next ((sK.trans sj).trans (s2.trans s7)) c7, by decide, fun y3 H7 y30 y31 s8 c8 => ?_⟩
      obtain ⟨nRL, xR, eR, tR2⟩ := ltL.next s8 c7
      refine ⟨_, _, rfl, rfl, 1 + y3, rfl, RL, _, rfl, SqL.of eR, fun RF hRF => ?_⟩
      rw [cut_hi (by omega)]
      have tr := TvL.take (1 + y3).toNat tR2
      rw [← List.map_take] at tr
      obtain ⟨refs, hrefs, lrefs, lrefs'⟩ : ∃ refs : List Decl, refs = ([("u", 0), ("v", sz)] : List Decl).take (1 + y3).toNat ∧ 1 ≤ refs.length ∧ refs.length ≤ 2 := ⟨_, rfl, by rw [List.length_take]; show 1 ≤ min _ 2; omega, by rw [List.length_take]; exact Nat.min_le_right _ _⟩
      rw [← hrefs] at tr
      have grefs : ∃ (s : Int) (b : Nat), (s = 0 ∨ s = 2 ∨ s = 3) ∧ 1 ≤ b ∧ b ≤ 2 ∧ refs = ([("u", 0), ("v", s)] : List Decl).take b := ⟨sz, (1 + y3).toNat, gsz, by omega, by omega, hrefs⟩
      have free0 : ((("u" : Str), (0 : Int)) : Decl) ∈ refs := by
        obtain ⟨k, hk⟩ : ∃ k, (1 + y3).toNat = k + 1 := ⟨(1 + y3).toNat - 1, by omega⟩
        rw [hrefs, hk]
        exact List.mem_cons_self
      have ltR : LT K (upd H7 RF (.lst (xR.take (1 + y3).toNat))) p RF (refs.map Decl.enc) := ⟨new_ne c8 hRF, _, upd_same, TvL.carry (carry_new hRF) _ _ tr⟩
      have c9 := c8.new (o := .lst (xR.take (1 + y3).toNat)) hRF
      have v9 := (s7.trans s8).trans (stays_new (p := p) (o := .lst (xR.take (1 + y3).toNat)) hRF)
      generalize upd H7 RF (.lst (xR.take (1 + y3).toNat)) = H8 at ltR c9 v9
      have s9 := s2.trans v9
      have eDI8 := v9 _ _ nDI eDI
      clear hrefs tr tR tR2 eR nRL ltL er1 er1' ez s3 s4 s5 s6 s7 s8 c3 c5 c6 c7 c8 gr1 gr2 hz hRL hRF nz nr1
      -- the variables of a procedure
      obtain ⟨nda, xsW, exW, txW⟩ := id ltR
      refine ⟨_, rfl, RF, rfl, ⟨_, SqL.of exW⟩, fun DW hDW => ?_⟩
      refine lc_list (K := K) (a := RF) (fun j H' => Same H8 H' ∧ ∃ ys, H' DW = some (.lst ys) ∧ TvL K H' ((rowsOf false (List.take j refs)).map VRow.enc) ys ∧ ys.length = j) ⟨same_alloc hDW, [], upd_same, rfl, rfl⟩ (fun j H' _ h => SqL.of (h.1 _ _ exW)) ?_ ?_
      · rintro j x H' hx ⟨sm, ys, eD, ty, ly⟩
        obtain ⟨dn, dz, a, hd, rfl, st⟩ := enc_at txW hx
        have st' := same_carry sm _ _ st
        refine ⟨a, _, rfl, st', rfl, _, _, rfl, _, _, rfl, rfl, rfl, ?_⟩
        refine ⟨_, rfl, _, rfl, three, fun g hg => ?_⟩
        refine ⟨ys, (by rw [upd_ne (ne_of_none eD hg)]; exact eD), ?_, same_put (sm.trans (same_alloc hg)) hDW, _, upd_same, ?_, ?_⟩
        · rw [ly]
          have hj1 := (List.getElem?_eq_some_iff.mp hx).1
          have hj2 := TvL.len txW
          rw [List.length_map] at hj2
          have hj3 : refs.length ≤ 1000 := (by omega)
          exact Nat.lt_of_lt_of_le (show j < 1001 by omega) (by decide)
        · rw [rows_more hd]
          have eD2 : (upd H' g (.tup [V.str dn, V.int dz, V.bl false])) DW = some (.lst ys) := by rw [upd_ne (ne_of_none eD hg)]; exact eD
          exact tvl_append (TvL.carry (carry_store eD2) _ _ (TvL.carry (carry_new hg) _ _ ty)) ⟨g, _, rfl, carry_store eD2 _ _ (SqT.of upd_same), _, _, rfl, rfl, _, _, rfl, rfl, _, _, rfl, rfl, rfl⟩
        · rw [List.length_append, ly]
          rfl
      rintro HW ⟨smW, ysW, eW, tW, lW⟩
      rw [List.take_of_length_le (by have := TvL.len txW; rw [List.length_map] at this; omega)] at tW
      have ltW : LT K HW p DW ((rowsOf false refs).map VRow.enc) := ⟨new_ne c9 hDW, ysW, eW, tW⟩
      clear tW lW
      have sW := s9.trans (same_stays smW)
      have cW := atl_same smW c9
      obtain ⟨nDF, xsf, exf, txf⟩ := ltF4.next (sj.trans sW) cK
      obtain ⟨nDW, xsw, exw, txw⟩ := ltW
      have lxw : xsw.length ≤ 2 := by rw [TvL.len txw]; unfold rowsOf; rw [List.length_map, List.length_map]; exact lrefs'
      have lxf : xsf.length ≤ 2 := by rw [TvL.len txf, List.length_map]; exact lfx
      refine ⟨_, rfl, DW, DF, _, _, rfl, rfl, exw, exf, Nat.le_trans (Nat.add_le_add lxw lxf) (by decide), fun VV hVV => ?_⟩
      have ltV : LT K (upd HW VV (.lst (xsw ++ xsf))) p VV ((rowsOf false refs ++ rowsOf true pa).map VRow.enc) := ⟨new_ne cW hVV, _, upd_same, by rw [List.map_append]; exact TvL.carry (carry_new hVV) _ _ (TvL.app txw txf)⟩
      have ltR2 : LT K (upd HW VV (.lst (xsw ++ xsf))) p RF (refs.map Decl.enc) := (LT.mk nda ⟨xsW, exW, txW⟩ : LT K H8 p RF (refs.map Decl.enc)).next ((same_stays smW).trans (stays_new hVV)) c9
      have sV := sW.trans (stays_new (p := p) (o := .lst (xsw ++ xsf)) hVV)
      have cV := cW.new (o := .lst (xsw ++ xsf)) hVV
      have eDI2 : (upd HW VV (.lst (xsw ++ xsf))) DI = some (.lst (is.map V.str)) := stays_new (p := p) hVV _ _ nDI (smW _ _ eDI8)
      generalize upd HW VV (.lst (xsw ++ xsf)) = H9 at ltV ltR2 sV cV eDI2
      clear eDI8 smW hVV txw txf exw exf lxw lxf
      -- the row
      refine ⟨_, rfl, ((j : Nat) : Int), str_int j, log_small (by omega), _, _, rfl, rfl, Nat.le_trans (Nat.add_le_add_left (digits_le (show j ≤ 2000 by omega)) _) (by decide), _, rfl, DI, _, rfl, .inl (SqL.of eDI2), ?_⟩
      obtain ⟨ndaZ, xsZ, exZ, txZ⟩ := id ltR2
      refine ⟨_, rfl, RF, rfl, ⟨_, SqL.of exZ⟩, fun DZ hDZ => ?_⟩
      refine lc_list (K := K) (a := RF) (fun j H' => Same H9 H' ∧ H' DZ = some (.lst ((List.take j refs).map (fun d : Decl => V.int d.2)))) ⟨same_alloc hDZ, upd_same⟩ (fun j H' _ h => SqL.of (h.1 _ _ exZ)) ?_ ?_
      · rintro j x H' hx ⟨sm, eD⟩
        obtain ⟨dn, dz, a, hd, rfl, st⟩ := enc_at txZ hx
        have st' := same_carry sm _ _ st
        refine ⟨a, _, rfl, st', rfl, _, _, rfl, _, _, rfl, rfl, rfl, ?_⟩
        refine ⟨_, rfl, _, eD, ?_, same_put sm hDZ, ?_⟩
        · rw [List.length_map, List.length_take]
          have hj3 : refs.length ≤ 1000 := (by omega)
          exact Nat.lt_of_le_of_lt (Nat.min_le_right _ _) (Nat.lt_of_le_of_lt hj3 (by decide))
        · rw [upd_same, List.take_add_one, hd, List.map_append]
          rfl
      rintro HZ ⟨smZ, eZ⟩
      rw [List.take_of_length_le (by have := TvL.len txZ; rw [List.length_map] at this; omega)] at eZ
      refine ⟨three, fun RW hRW => ?_⟩
      rw [List.length_map]
      have cZ := atl_same smZ cV
      have nDZ := new_ne cV hDZ
      have vRW : Stays p H9 (upd HZ RW (.tup [V.str (("f" : Str) ++ Str.ofString (toString ((j : Nat) : Int))), V.int (is.length : Int), V.ref DZ])) := (same_stays smZ).trans (stays_new hRW)
      have cRW := cZ.new (o := .tup [V.str (("f" : Str) ++ Str.ofString (toString ((j : Nat) : Int))), V.int (is.length : Int), V.ref DZ]) hRW
      have eRW : (upd HZ RW (.tup [V.str (("f" : Str) ++ Str.ofString (toString ((j : Nat) : Int))), V.int (is.length : Int), V.ref DZ])) RW = some (.tup [V.str (("f" : Str) ++ Str.ofString (toString ((j : Nat) : Int))), V.int (is.length : Int), V.ref DZ]) := upd_same
      have eZ2 : (upd HZ RW (.tup [V.str (("f" : Str) ++ Str.ofString (toString ((j : Nat) : Int))), V.int (is.length : Int), V.ref DZ])) DZ = some (.lst (refs.map fun d : Decl => V.int d.2)) := by rw [upd_ne (ne_of_none eZ hRW)]; exact eZ
      have nDZR : DZ ≠ PR := fun z => by have := sV _ _ nPR ePR; rw [← z, hDZ] at this; cases this
      have nRW := new_ne cZ hRW
      generalize upd HZ RW (.tup [V.str (("f" : Str) ++ Str.ofString (toString ((j : Nat) : Int))), V.int (is.length : Int), V.ref DZ]) = HA at vRW cRW eRW eZ2
      have sA := sV.trans vRW
      obtain ⟨prow, hprow⟩ : ∃ prow : KRow, prow = (lvl "f" j, is.length, refs.map (·.2)) := ⟨_, rfl⟩
      have kRow : KnP K HA p PR [prow] [.ref RW] := by
        rw [hprow]
        refine ⟨RW, DZ, [], rfl, SqT.of eRW, SqL.of ?_, nDZ, nDZR, rfl⟩
        rw [eZ2, List.map_map]
        rfl
      -- the body
      refine ⟨_, rfl, _, rfl, _, rfl, _, rfl, one, fun rl hrl => ?_⟩
      have cB := cRW.new (o := .lst [V.ref RW]) hrl
      have vB := vRW.trans (stays_new (p := p) (o := .lst [V.ref RW]) hrl)
      have nrl := new_ne cRW hrl
      have erl : (upd HA rl (.lst [V.ref RW])) rl = some (.lst [V.ref RW]) := upd_same
      have uB : Stays p HA (upd HA rl (.lst [V.ref RW])) := stays_new hrl
      generalize upd HA rl (.lst [V.ref RW]) = HB at cB vB erl uB
      refine ⟨_, rfl, _, rfl, d, p, 2, rfl, D.next ((sK.trans sj).trans (sV.trans vB)) cB, by decide, fun y4 HC y40 y41 sC cC => ⟨y4, rfl, rl, _, rfl, SqL.of (sC _ _ nrl erl), fun rs hrs => ?_⟩⟩
      rw [cut_hi y40]
      have cE := cC.new (o := .lst ([V.ref RW].take y4.toNat)) hrs
      have uE := (uB.trans sC).trans (stays_new (p := p) (o := .lst ([V.ref RW].take y4.toNat)) hrs)
      have ers : (upd HC rs (.lst ([V.ref RW].take y4.toNat))) rs = some (.lst ([V.ref RW].take y4.toNat)) := upd_same
      generalize upd HC rs (.lst ([V.ref RW].take y4.toNat)) = HE at cE uE ers
      have sE := sA.trans uE
      have lkx : kxs.length ≤ 2 := by rw [KnP.len tkn, few.1, lp]; omega
      refine ⟨kn, rs, _, _, rfl, rfl, sE _ _ nkn ekn, ers, Nat.le_trans (Nat.add_le_add lkx (List.length_take_le' _ _)) (show 2 + 1 ≤ sizeLine by decide), fun kk hkk => ?_⟩
      have tke : KnP K HE p PR (ks ++ [prow].take y4.toNat) (kxs ++ [V.ref RW].take y4.toNat) := KnP.app (KnP.next sE cj _ _ tkn) (KnP.next uE cRW _ _ (KnP.take _ kRow))
      have uK := uE.trans (stays_new (p := p) (o := .lst (kxs ++ [V.ref RW].take y4.toNat)) hkk)
      have cK2 := cE.new (o := .lst (kxs ++ [V.ref RW].take y4.toNat)) hkk
      have knK : Kn K (upd HE kk (.lst (kxs ++ [V.ref RW].take y4.toNat))) p kk (ks ++ [prow].take y4.toNat) := by
        refine ⟨new_ne cE hkk, ⟨_, SqL.of upd_same, KnP.forget _ _ (KnP.next (stays_new hkk) cE _ _ tke)⟩, ?_, fun r hr => ?_⟩
        · rw [List.length_append, few.1, lp]
          have := List.length_take_le' y4.toNat [prow]
          have h1 : ([prow] : List KRow).length = 1 := rfl
          omega
        · rcases List.mem_append.mp hr with q | q
          · exact few.2 r q
          · rw [List.mem_singleton.mp (List.mem_of_mem_take q), hprow]
            exact ⟨Nat.le_trans lis (by decide), by rw [List.length_map]; omega⟩
      generalize upd HE kk (.lst (kxs ++ [V.ref RW].take y4.toNat)) = HG at uK cK2 knK
      have sG := sA.trans uK
      have ltVG := ltV.next (vRW.trans uK) cV
      obtain ⟨nVV, xvv, evv, tvv⟩ := ltVG
      have eDIG := (vRW.trans uK) _ _ nDI eDI2
      have lvr : (rowsOf false refs ++ rowsOf true pa).length ≤ 4 := by
        rw [List.length_append]
        have : (rowsOf false refs).length ≤ 2 := by unfold rowsOf; rw [List.length_map]; exact lrefs'
        omega
      refine ⟨_, rfl, _, rfl, VV, DI, kk, d, p, rowsOf false refs ++ rowsOf true pa, is, ks ++ [prow].take y4.toNat, 2, rfl,
        ⟨D.next ((sK.trans sj).trans sG) cK2, ⟨nVV, nDI, ⟨xvv, evv, tvv⟩, eDIG, by omega, by omega⟩, knK, ⟨("u", 0, false), List.mem_append_left _ (List.mem_map.mpr ⟨("u", 0), free0, rfl⟩), rfl⟩⟩, by decide, by omega, by omega, fun b0 bv HI gb tb sI cI => ?_⟩
      -- a call of itself behind the body
      have v9I := (vRW.trans uK).trans sI
      have uAI := uK.trans sI
      have eDII := sI _ _ nDI eDIG
      refine ⟨_, rfl, !(is.map V.str).isEmpty, .inl ⟨_, SqL.of eDII, rfl⟩, ?_⟩
      refine ite2 (fun hne => ?_) (fun _ => ?_)
      · have isne : is ≠ [] := fun z => by rw [z] at hne; cases hne
        refine ⟨_, rfl, _, rfl, d, p, 2, rfl, D.next ((sK.trans sj).trans (sV.trans v9I)) cI, by decide, fun y5 HJ y50 y51 sJ0 cJ => ?_⟩
        have tbJ := Tv.carry (sJ0.carry cI) _ _ tb
        refine ⟨rfl, _, rfl, ite2 (fun _ => ?_) (fun _ => ?_)⟩
        · have v9J := v9I.trans sJ0
          have uAJ := uAI.trans sJ0
          have isp : is = ("n0" : Str) :: is.tail := by
            obtain ⟨c, hc, e⟩ := gis
            cases c with
            | zero => exact absurd (by rw [e]; rfl) isne
            | succ c => rw [e, List.range_succ_eq_map]; rfl
          obtain ⟨ba, bxs, rfl, bsq, btv⟩ := tbJ
          have bne : bxs ≠ [] := by
            intro z
            have h := TvL.len btv
            rw [encs_len, z] at h
            have h1 := gb.one
            rw [← h] at h1
            exact absurd h1 (by decide)
          have blen : bxs.length ≤ 3 := by rw [TvL.len btv, encs_len]; exact gb.three
          -- the first index
          refine ⟨two, fun m1 hm1 => ⟨two, fun m2 hm2 => ⟨three, fun m3 hm3 => ⟨one, fun m4 hm4 => ?_⟩⟩⟩⟩
          have tm1 : Tv K (upd HJ m1 (.tup [V.str "index", V.str "n0"])) (Ix.enc (.var "n0")) (.ref m1) := tv2 upd_same rfl rfl
          have tm2 : Tv K (upd (upd HJ m1 (.tup [V.str "index", V.str "n0"])) m2 (.tup [V.str "integer", V.int 1])) (Ix.enc (.int 1)) (.ref m2) := tv2 upd_same rfl rfl
          have tm3 : Tv K (upd (upd (upd HJ m1 (.tup [V.str "index", V.str "n0"])) m2 (.tup [V.str "integer", V.int 1])) m3 (.tup [V.str "minus", V.ref m1, V.ref m2])) (Ix.enc (.op .minus (.var "n0") (.int 1))) (.ref m3) :=
            tv3 upd_same rfl (Tv.carry (carry_new hm3) _ _ (Tv.carry (carry_new hm2) _ _ tm1)) (Tv.carry (carry_new hm3) _ _ tm2)
          have tm4 := Tv.carry (carry_new (o := .tup [V.ref m3]) hm4) _ _ tm3
          have em4 : (upd (upd (upd (upd HJ m1 (.tup [V.str "index", V.str "n0"])) m2 (.tup [V.str "integer", V.int 1])) m3 (.tup [V.str "minus", V.ref m1, V.ref m2])) m4 (.tup [V.ref m3])) m4 = some (.tup [V.ref m3]) := upd_same
          have cM := (((cJ.new (o := .tup [V.str "index", V.str "n0"]) hm1).new (o := .tup [V.str "integer", V.int 1]) hm2).new (o := .tup [V.str "minus", V.ref m1, V.ref m2]) hm3).new (o := .tup [V.ref m3]) hm4
          have sM := (((stays_new (p := p) (o := .tup [V.str "index", V.str "n0"]) hm1).trans (stays_new (p := p) (o := .tup [V.str "integer", V.int 1]) hm2)).trans (stays_new (p := p) (o := .tup [V.str "minus", V.ref m1, V.ref m2]) hm3)).trans (stays_new (p := p) (o := .tup [V.ref m3]) hm4)
          generalize upd (upd (upd (upd HJ m1 (.tup [V.str "index", V.str "n0"])) m2 (.tup [V.str "integer", V.int 1])) m3 (.tup [V.str "minus", V.ref m1, V.ref m2])) m4 (.tup [V.ref m3]) = HM at tm4 em4 cM sM
          clear tm1 tm2 tm3
          -- the other indexes
          have eDIM := (sJ0.trans sM) _ _ nDI eDII
          refine ⟨_, rfl, 1, rfl, DI, _, rfl, SqL.of eDIM, fun CT hCT => ?_⟩
          have ecut : cutV (is.map V.str) (some 1) none = is.tail.map V.str := by
            rw [cut_lo (by decide) (by rw [List.length_map]; have : 0 < is.length := List.length_pos_iff.mpr isne; omega)]
            show (is.map V.str).drop 1 = _
            rw [← List.map_drop, List.drop_one]
          rw [ecut]
          have cT := cM.new (o := .lst (is.tail.map V.str)) hCT
          have sT := sM.trans (stays_new (p := p) (o := .lst (is.tail.map V.str)) hCT)
          have tm5 := Tv.carry (carry_new (o := .lst (is.tail.map V.str)) hCT) _ _ tm4
          have em5 := stays_new (p := p) (o := .lst (is.tail.map V.str)) hCT _ _ (fun z => by obtain ⟨j0, _, e⟩ := cM; rw [z, e] at em4; cases em4) em4
          have eCT := upd_same (H := HM) (a := CT) (o := .lst (is.tail.map V.str))
          generalize upd HM CT (.lst (is.tail.map V.str)) = HT at tm5 em5 cT sT eCT
          clear tm4 em4 eDIM
          refine ⟨CT, rfl, ⟨_, SqL.of eCT⟩, fun DX hDX => ?_⟩
          refine lc_list (K := K) (a := CT) (fun j H' => Same HT H' ∧ ∃ ys, H' DX = some (.lst ys) ∧ TvL K H' (((is.tail.take j).map Ix.var).map Ix.enc) ys ∧ ys.length = j) ⟨same_alloc hDX, [], upd_same, rfl, rfl⟩ (fun j H' _ h => SqL.of (h.1 _ _ eCT)) ?_ ?_
          · rintro j x H' hx ⟨sm, ys, eD, ty, ly⟩
            rw [List.getElem?_map] at hx
            obtain ⟨sx, hsx, rfl⟩ : ∃ sx, is.tail[j]? = some sx ∧ x = V.str sx := by
              cases e : is.tail[j]? with
              | none => rw [e] at hx; cases hx
              | some sx => rw [e] at hx; exact ⟨sx, rfl, (Option.some.inj hx).symm⟩
            refine ⟨rfl, _, rfl, two, fun g hg => ?_⟩
            have eD2 : (upd H' g (.tup [V.str "index", V.str sx])) DX = some (.lst ys) := by rw [upd_ne (ne_of_none eD hg)]; exact eD
            refine ⟨ys, eD2, ?_, same_put (sm.trans (same_alloc hg)) hDX, _, upd_same, ?_, ?_⟩
            · rw [ly]
              have hj1 := (List.getElem?_eq_some_iff.mp hsx).1
              rw [List.length_tail] at hj1
              exact Nat.lt_of_lt_of_le (show j < 1001 by omega) (by decide)
            · rw [List.take_add_one, hsx, List.map_append, List.map_append]
              exact tvl_append (TvL.carry (carry_store eD2) _ _ (TvL.carry (carry_new hg) _ _ ty)) ⟨g, _, rfl, carry_store eD2 _ _ (SqT.of upd_same), _, _, rfl, rfl, _, _, rfl, rfl, rfl⟩
            · rw [List.length_append, ly]
              rfl
          rintro HX ⟨smX, yX, eX, tX, lX⟩
          rw [List.length_map, List.take_length] at tX
          rw [List.length_map, List.length_tail] at lX
          refine ⟨DX, _, rfl, .inl ⟨SqL.of eX, fun m6 hm6 => ?_⟩⟩
          refine ⟨m4, m6, _, _, rfl, rfl, carry_new hm6 _ _ (SqT.of (smX _ _ em5)), SqT.of upd_same, (fun z => by cases z), (by rw [lX]; exact Nat.le_trans (show 1 + (is.length - 1) ≤ 3 by omega) (by decide)), fun ml HL smL sqL => ?_⟩
          have cX := atl_same smX cT
          have cL := atl_same (smL) (cX.new (o := .tup yX) hm6)
          have sL : Stays p HJ HL := ((sT.trans (same_stays smX)).trans (stays_new (p := p) (o := .tup yX) hm6)).trans (same_stays smL)
          have tL : Tv K HL (.tuple ((Ix.op .minus (.var "n0") (.int 1) :: is.tail.map Ix.var).map Ix.enc)) (.ref ml) := by
            refine tv_tup sqL ⟨_, _, rfl, ?_, ?_⟩
            · exact Tv.carry (same_carry smL) _ _ (Tv.carry (carry_new hm6) _ _ (Tv.carry (same_carry smX) _ _ tm5))
            · exact TvL.carry (same_carry smL) _ _ (TvL.carry (carry_new hm6) _ _ tX)
          clear tm5 em5 eCT tX eX smX smL cX cT sT hm6 sqL
          -- the call
          have sJL := sJ0.trans sL
          have eRWL := (uAI.trans sJL) _ _ nRW eRW
          obtain ⟨nRFL, xrl, erl2, trl⟩ := ltR2.next (v9I.trans sJL) cV
          refine ⟨_, rfl, RW, _, _, _, rfl, rfl, SqT.of eRWL, rfl, _, rfl, _, rfl, RF, rfl, ⟨_, SqL.of erl2⟩, fun DQ hDQ => ?_⟩
          refine lc_list (K := K) (a := RF) (fun j H' => Same HL H' ∧ H' DQ = some (.lst ((List.take j refs).map (fun d : Decl => V.str d.1)))) ⟨same_alloc hDQ, upd_same⟩ (fun j H' _ h => SqL.of (h.1 _ _ erl2)) ?_ ?_
          · rintro j x H' hx ⟨sm, eD⟩
            obtain ⟨dn, dz, a, hd, rfl, st⟩ := enc_at trl hx
            have st' := same_carry sm _ _ st
            refine ⟨a, _, rfl, st', rfl, _, _, rfl, _, _, rfl, rfl, rfl, ?_⟩
            refine ⟨_, rfl, _, eD, ?_, same_put sm hDQ, ?_⟩
            · rw [List.length_map, List.length_take]
              have hj3 : refs.length ≤ 1000 := (by omega)
              exact Nat.lt_of_le_of_lt (Nat.min_le_right _ _) (Nat.lt_of_le_of_lt hj3 (by decide))
            · rw [upd_same, List.take_add_one, hd, List.map_append]
              rfl
          rintro HQ ⟨smQ, eQ⟩
          rw [List.take_of_length_le (by have := TvL.len trl; rw [List.length_map] at this; omega)] at eQ
          refine ⟨DQ, _, rfl, .inl ⟨SqL.of eQ, fun q1 hq1 => ⟨four, fun q2 hq2 => ?_⟩⟩⟩
          have tq : Tv K (upd (upd HQ q1 (.tup (refs.map (fun d : Decl => V.str d.1)))) q2 (.tup [V.str "call", V.str (("f" : Str) ++ Str.ofString (toString ((j : Nat) : Int))), V.ref ml, V.ref q1])) (encCall (lvl "f" j) (Ix.op .minus (.var "n0") (.int 1) :: is.tail.map Ix.var) (refs.map (·.1))) (.ref q2) := by
            refine tv4 upd_same rfl rfl (Tv.carry (carry_new hq2) _ _ (Tv.carry (carry_new hq1) _ _ (Tv.carry (same_carry smQ) _ _ tL))) (Tv.carry (carry_new hq2) _ _ (tv_tup (SqT.of upd_same) ?_))
            have h := tvl_strs (K := K) (H := upd HQ q1 (.tup (refs.map (fun d : Decl => V.str d.1)))) (refs.map (·.1))
            rw [List.map_map, List.map_map] at h
            rw [List.map_map]
            exact h
          have cQ := ((atl_same smQ cL).new (o := .tup (refs.map (fun d : Decl => V.str d.1))) hq1).new (o := .tup [V.str "call", V.str (("f" : Str) ++ Str.ofString (toString ((j : Nat) : Int))), V.ref ml, V.ref q1]) hq2
          have sQ := ((same_stays (p := p) smQ).trans (stays_new (p := p) (o := .tup (refs.map (fun d : Decl => V.str d.1))) hq1)).trans (stays_new (p := p) (o := .tup [V.str "call", V.str (("f" : Str) ++ Str.ofString (toString ((j : Nat) : Int))), V.ref ml, V.ref q1]) hq2)
          generalize upd (upd HQ q1 (.tup (refs.map (fun d : Decl => V.str d.1)))) q2 (.tup [V.str "call", V.str (("f" : Str) ++ Str.ofString (toString ((j : Nat) : Int))), V.ref ml, V.ref q1]) = HR at tq cQ sQ
          clear smQ eQ hq1 tL trl erl2 eRWL
          -- the choice around it
          refine ⟨_, rfl, two, fun w1 hw1 => ⟨two, fun w2 hw2 => ⟨three, fun w3 hw3 => ⟨_, rfl, one, fun w4 hw4 => ⟨Nat.zero_le _, fun w5 hw5 => ⟨four, fun w6 hw6 => ⟨one, fun w7 hw7 => ?_⟩⟩⟩⟩⟩⟩⟩
          have tw1 : Tv K (upd HR w1 (.tup [V.str "integer", V.int 0])) (Ix.enc (.int 0)) (.ref w1) := tv2 upd_same rfl rfl
          have tw2 : Tv K (upd (upd HR w1 (.tup [V.str "integer", V.int 0])) w2 (.tup [V.str "index", V.str "n0"])) (Ix.enc (.var "n0")) (.ref w2) := tv2 upd_same rfl rfl
          have tw3 : Tv K (upd (upd (upd HR w1 (.tup [V.str "integer", V.int 0])) w2 (.tup [V.str "index", V.str "n0"])) w3 (.tup [V.str "less", V.ref w1, V.ref w2])) (Ts.enc (.less (.int 0) (.var "n0"))) (.ref w3) :=
            tv3 upd_same rfl (Tv.carry (carry_new hw3) _ _ (Tv.carry (carry_new hw2) _ _ tw1)) (Tv.carry (carry_new hw3) _ _ tw2)
          have sW3 := ((stays_new (p := p) (o := .tup [V.str "integer", V.int 0]) hw1).trans (stays_new (p := p) (o := .tup [V.str "index", V.str "n0"]) hw2)).trans (stays_new (p := p) (o := .tup [V.str "less", V.ref w1, V.ref w2]) hw3)
          have cW3 := ((cQ.new (o := .tup [V.str "integer", V.int 0]) hw1).new (o := .tup [V.str "index", V.str "n0"]) hw2).new (o := .tup [V.str "less", V.ref w1, V.ref w2]) hw3
          have tq3 := Tv.carry (sW3.carry cQ) _ _ tq
          generalize upd (upd (upd HR w1 (.tup [V.str "integer", V.int 0])) w2 (.tup [V.str "index", V.str "n0"])) w3 (.tup [V.str "less", V.ref w1, V.ref w2]) = HS at tw3 sW3 cW3 tq3 hw4 hw5 hw6 hw7
          have tw4 : Tv K (upd HS w4 (.tup [V.ref q2])) (.tuple [encCall (lvl "f" j) (Ix.op .minus (.var "n0") (.int 1) :: is.tail.map Ix.var) (refs.map (·.1))]) (.ref w4) := tv1 upd_same (Tv.carry (carry_new hw4) _ _ tq3)
          have tw5 : Tv K (upd (upd HS w4 (.tup [V.ref q2])) w5 (.tup [])) (.tuple []) (.ref w5) := tv_tup (SqT.of upd_same) rfl
          have tw6 : Tv K (upd (upd (upd HS w4 (.tup [V.ref q2])) w5 (.tup [])) w6 (.tup [V.str "if", V.ref w3, V.ref w4, V.ref w5])) (St.enc (again ⟨lvl "f" j, is, refs, []⟩)) (.ref w6) :=
            tv4 upd_same rfl (Tv.carry (carry_new hw6) _ _ (Tv.carry (carry_new hw5) _ _ (Tv.carry (carry_new hw4) _ _ tw3))) (Tv.carry (carry_new hw6) _ _ (Tv.carry (carry_new hw5) _ _ tw4)) (Tv.carry (carry_new hw6) _ _ tw5)
          have tw7 := Tv.carry (carry_new (o := .tup [V.ref w6]) hw7) _ _ tw6
          have ew7 : (upd (upd (upd (upd HS w4 (.tup [V.ref q2])) w5 (.tup [])) w6 (.tup [V.str "if", V.ref w3, V.ref w4, V.ref w5])) w7 (.tup [V.ref w6])) w7 = some (.tup [V.ref w6]) := upd_same
          have sW7 := (((sW3.trans (stays_new (p := p) (o := .tup [V.ref q2]) hw4)).trans (stays_new (p := p) (o := .tup []) hw5)).trans (stays_new (p := p) (o := .tup [V.str "if", V.ref w3, V.ref w4, V.ref w5]) hw6)).trans (stays_new (p := p) (o := .tup [V.ref w6]) hw7)
          have cW7 := (((cW3.new (o := .tup [V.ref q2]) hw4).new (o := .tup []) hw5).new (o := .tup [V.str "if", V.ref w3, V.ref w4, V.ref w5]) hw6).new (o := .tup [V.ref w6]) hw7
          generalize upd (upd (upd (upd HS w4 (.tup [V.ref q2])) w5 (.tup [])) w6 (.tup [V.str "if", V.ref w3, V.ref w4, V.ref w5])) w7 (.tup [V.ref w6]) = HU at tw7 ew7 sW7 cW7
          clear tw1 tw2 tw3 tw4 tw5 tw6 tq tq3 hw1 hw2 hw3 hw4 hw5 hw6 hw7 sW3 cW3
          have sU : Stays p HJ HU := (sL.trans sQ).trans sW7
          refine ⟨ba, w7, _, _, rfl, rfl, sU.carry cJ _ _ bsq, SqT.of ew7, bne, (Nat.le_trans (Nat.add_le_add blen (Nat.le_refl 1)) (by decide)), fun bw HY smY sqY => ?_⟩
          have tY : Tv K HY (.tuple (St.encs (b0 ++ [again ⟨lvl "f" j, is, refs, []⟩]))) (.ref bw) := by
            rw [encs_append]
            exact tv_tup sqY (TvL.carry (same_carry smY) _ _ (TvL.app (TvL.carry (sU.carry cJ) _ _ btv) ⟨_, _, rfl, tw7, rfl⟩))
          have sY : Stays p HI HY := (sJ0.trans sU).trans (same_stays smY)
          have cY := atl_same smY cW7
          have sJ := sV.trans (v9I.trans sY)
          have eRWJ := (uAI.trans sY) _ _ nRW eRW
          have eDIJ := (v9I.trans sY) _ _ nDI eDI2
          obtain ⟨nRFJ, xrj, erj, trj⟩ := ltR2.next (v9I.trans sY) cV
          refine ⟨_, rfl, .inl ⟨rfl, _, SqL.of (sJ _ _ nPR ePR)⟩, _, rfl, RW, _, _, _, rfl, rfl, SqT.of eRWJ, rfl, _, rfl, DI, _, rfl, .inl ⟨SqL.of eDIJ, fun ti hti => ?_⟩⟩
          have va := stays_new (p := p) (o := .tup (is.map V.str)) hti
          have ca := (cY).new (o := .tup (is.map V.str)) hti
          refine ⟨_, rfl, RF, _, rfl, .inl ⟨SqL.of (va _ _ nRFJ erj), fun tr htr => ⟨_, rfl, four, fun tp htp => ?_⟩⟩⟩
          have tti : Tv K (upd HY ti (.tup (is.map V.str))) (.tuple (is.map PyData.str)) (.ref ti) := tv_tup (SqT.of upd_same) (tvl_strs is)
          have ttr : Tv K (upd (upd HY ti (.tup (is.map V.str))) tr (.tup xrj)) (.tuple (refs.map Decl.enc)) (.ref tr) := tv_tup (SqT.of upd_same) (TvL.carry (carry_new htr) _ _ (TvL.carry (carry_new hti) _ _ trj))
          have tpr : Tv K (upd (upd (upd HY ti (.tup (is.map V.str))) tr (.tup xrj)) tp (.tup [V.str (("f" : Str) ++ Str.ofString (toString ((j : Nat) : Int))), V.ref ti, V.ref tr, V.ref bw])) (Proc.enc ⟨lvl "f" j, is, refs, b0 ++ [again ⟨lvl "f" j, is, refs, []⟩]⟩) (.ref tp) :=
            tv4 upd_same rfl (Tv.carry (carry_new htp) _ _ (Tv.carry (carry_new htr) _ _ tti)) (Tv.carry (carry_new htp) _ _ ttr) (Tv.carry (carry_new htp) _ _ (Tv.carry (carry_new htr) _ _ (Tv.carry (carry_new hti) _ _ tY)))
          have sc : Stays p H' (upd (upd (upd HY ti (.tup (is.map V.str))) tr (.tup xrj)) tp (.tup [V.str (("f" : Str) ++ Str.ofString (toString ((j : Nat) : Int))), V.ref ti, V.ref tr, V.ref bw])) := ((sJ.trans va).trans (stays_new htr)).trans (stays_new htp)
          have uc : Stays p HA (upd (upd (upd HY ti (.tup (is.map V.str))) tr (.tup xrj)) tp (.tup [V.str (("f" : Str) ++ Str.ofString (toString ((j : Nat) : Int))), V.ref ti, V.ref tr, V.ref bw])) := ((((uAI.trans sY)).trans va).trans (stays_new htr)).trans (stays_new htp)
          have cc := (ca.new (o := .tup xrj) htr).new (o := .tup [V.str (("f" : Str) ++ Str.ofString (toString ((j : Nat) : Int))), V.ref ti, V.ref tr, V.ref bw]) htp
          have ePRc := sc _ _ nPR ePR
          have eknc := sc _ _ nkn ekn
          refine ⟨PR, _, _, rfl, rfl, ePRc, ?_, ?_⟩
          · rw [TvL.len tps, List.length_map, lp]
            exact Nat.lt_of_lt_of_le (show j < 3 by omega) (by decide)
          refine ⟨_, rfl, _, rfl, one, fun kr hkr => ?_⟩
          have tpd := tvl_append (TvL.carry (carry_store (zs := pys ++ [V.ref tp]) ePRc) _ _ (TvL.carry (sc.carry cj) _ _ tps)) (Tv.carry (carry_store ePRc) _ _ tpr)
          have tkd := KnP.store (zs' := pys ++ [V.ref tp]) ePRc _ _ (KnP.next sc cj _ _ tkn)
          have tke' := KnP.store (zs' := pys ++ [V.ref tp]) ePRc _ _ (KnP.next uc cRW _ _ kRow)
          have sd := stays_store (o := .lst (pys ++ [V.ref tp])) (sj.trans sc) hPR
          have cd := cc.store (L := PR) (o := .lst (pys ++ [V.ref tp])) nPR
          have eknd : (upd (upd (upd (upd HY ti (.tup (is.map V.str))) tr (.tup xrj)) tp (.tup [V.str (("f" : Str) ++ Str.ofString (toString ((j : Nat) : Int))), V.ref ti, V.ref tr, V.ref bw])) PR (.lst (pys ++ [V.ref tp]))) kn = some (.lst kxs) := by rw [upd_ne nkp]; exact eknc
          have ePRd : (upd (upd (upd (upd HY ti (.tup (is.map V.str))) tr (.tup xrj)) tp (.tup [V.str (("f" : Str) ++ Str.ofString (toString ((j : Nat) : Int))), V.ref ti, V.ref tr, V.ref bw])) PR (.lst (pys ++ [V.ref tp]))) PR = some (.lst (pys ++ [V.ref tp])) := upd_same
          generalize upd (upd (upd (upd HY ti (.tup (is.map V.str))) tr (.tup xrj)) tp (.tup [V.str (("f" : Str) ++ Str.ofString (toString ((j : Nat) : Int))), V.ref ti, V.ref tr, V.ref bw])) PR (.lst (pys ++ [V.ref tp])) = HD at tpd tkd tke' sd cd eknd ePRd hkr
          refine ⟨kn, kr, _, _, rfl, rfl, stays_new hkr _ _ nkn eknd, upd_same, ?_, fun kn2 hkn2 => ?_⟩
          · exact Nat.le_trans (Nat.add_le_add lkx (Nat.le_refl 1)) (by decide)
          have s1e := (stays_new (p := p) (o := .lst [V.ref RW]) hkr).trans (stays_new (p := p) (o := .lst (kxs ++ [V.ref RW])) hkn2)
          have ePRe := s1e _ _ nPR ePRd
          refine ⟨sd.trans s1e, (cd.new hkr).new hkn2, ks ++ [prow], ps ++ [⟨lvl "f" j, is, refs, b0 ++ [again ⟨lvl "f" j, is, refs, []⟩]⟩], kn2, kxs ++ [V.ref RW], pys ++ [V.ref tp], ?_, ?_, new_ne (cd.new hkr) hkn2, ?_, upd_same, KnP.next s1e cd _ _ (KnP.app tkd tke'), ePRe, ?_, _, _, _, _, _, _, _, _, _, rfl⟩
          · have g := GProcs.snoc (p := ⟨lvl "f" j, is, refs, b0 ++ [again ⟨lvl "f" j, is, refs, []⟩]⟩) gp ⟨by rw [lp], gis, grefs, b0, ks ++ [prow].take y4.toNat, ?_, gb, (.inr ⟨isne, rfl⟩)⟩
            · have er : Proc.row ⟨lvl "f" j, is, refs, b0 ++ [again ⟨lvl "f" j, is, refs, []⟩]⟩ = prow := by rw [hprow]; rfl
              rw [er] at g
              exact g
            · have er : Proc.row ⟨lvl "f" j, is, refs, b0 ++ [again ⟨lvl "f" j, is, refs, []⟩]⟩ = prow := by rw [hprow]; rfl
              rw [er]
              have cs : y4 = 0 ∨ y4 = 1 := by omega
              rcases cs with z | z <;> subst z
              · exact .inl (List.append_nil _)
              · exact .inr rfl
          · rw [List.length_append, lp]
            rfl
          · intro z
            have h1 := stays_new (p := p) (o := .lst [V.ref RW]) hkr _ _ nPR ePRd
            rw [← z, hkn2] at h1
            cases h1
          · rw [List.map_append]
            exact TvL.carry (s1e.carry cd) _ _ tpd
        · have sJ := sV.trans (v9I.trans sJ0)
          have eRWJ := (uAI.trans sJ0) _ _ nRW eRW
          have eDIJ := (v9I.trans sJ0) _ _ nDI eDI2
          obtain ⟨nRFJ, xrj, erj, trj⟩ := ltR2.next (v9I.trans sJ0) cV
          refine ⟨_, rfl, .inl ⟨rfl, _, SqL.of (sJ _ _ nPR ePR)⟩, _, rfl, RW, _, _, _, rfl, rfl, SqT.of eRWJ, rfl, _, rfl, DI, _, rfl, .inl ⟨SqL.of eDIJ, fun ti hti => ?_⟩⟩
          have va := stays_new (p := p) (o := .tup (is.map V.str)) hti
          have ca := (cJ).new (o := .tup (is.map V.str)) hti
          refine ⟨_, rfl, RF, _, rfl, .inl ⟨SqL.of (va _ _ nRFJ erj), fun tr htr => ⟨_, rfl, four, fun tp htp => ?_⟩⟩⟩
          have tti : Tv K (upd HJ ti (.tup (is.map V.str))) (.tuple (is.map PyData.str)) (.ref ti) := tv_tup (SqT.of upd_same) (tvl_strs is)
          have ttr : Tv K (upd (upd HJ ti (.tup (is.map V.str))) tr (.tup xrj)) (.tuple (refs.map Decl.enc)) (.ref tr) := tv_tup (SqT.of upd_same) (TvL.carry (carry_new htr) _ _ (TvL.carry (carry_new hti) _ _ trj))
          have tpr : Tv K (upd (upd (upd HJ ti (.tup (is.map V.str))) tr (.tup xrj)) tp (.tup [V.str (("f" : Str) ++ Str.ofString (toString ((j : Nat) : Int))), V.ref ti, V.ref tr, bv])) (Proc.enc ⟨lvl "f" j, is, refs, b0⟩) (.ref tp) :=
            tv4 upd_same rfl (Tv.carry (carry_new htp) _ _ (Tv.carry (carry_new htr) _ _ tti)) (Tv.carry (carry_new htp) _ _ ttr) (Tv.carry (carry_new htp) _ _ (Tv.carry (carry_new htr) _ _ (Tv.carry (carry_new hti) _ _ tbJ)))
          have sc : Stays p H' (upd (upd (upd HJ ti (.tup (is.map V.str))) tr (.tup xrj)) tp (.tup [V.str (("f" : Str) ++ Str.ofString (toString ((j : Nat) : Int))), V.ref ti, V.ref tr, bv])) := ((sJ.trans va).trans (stays_new htr)).trans (stays_new htp)
          have uc : Stays p HA (upd (upd (upd HJ ti (.tup (is.map V.str))) tr (.tup xrj)) tp (.tup [V.str (("f" : Str) ++ Str.ofString (toString ((j : Nat) : Int))), V.ref ti, V.ref tr, bv])) := ((((uAI.trans sJ0)).trans va).trans (stays_new htr)).trans (stays_new htp)
          have cc := (ca.new (o := .tup xrj) htr).new (o := .tup [V.str (("f" : Str) ++ Str.ofString (toString ((j : Nat) : Int))), V.ref ti, V.ref tr, bv]) htp
          have ePRc := sc _ _ nPR ePR
          have eknc := sc _ _ nkn ekn
          refine ⟨PR, _, _, rfl, rfl, ePRc, ?_, ?_⟩
          · rw [TvL.len tps, List.length_map, lp]
            exact Nat.lt_of_lt_of_le (show j < 3 by omega) (by decide)
          refine ⟨_, rfl, _, rfl, one, fun kr hkr => ?_⟩
          have tpd := tvl_append (TvL.carry (carry_store (zs := pys ++ [V.ref tp]) ePRc) _ _ (TvL.carry (sc.carry cj) _ _ tps)) (Tv.carry (carry_store ePRc) _ _ tpr)
          have tkd := KnP.store (zs' := pys ++ [V.ref tp]) ePRc _ _ (KnP.next sc cj _ _ tkn)
          have tke' := KnP.store (zs' := pys ++ [V.ref tp]) ePRc _ _ (KnP.next uc cRW _ _ kRow)
          have sd := stays_store (o := .lst (pys ++ [V.ref tp])) (sj.trans sc) hPR
          have cd := cc.store (L := PR) (o := .lst (pys ++ [V.ref tp])) nPR
          have eknd : (upd (upd (upd (upd HJ ti (.tup (is.map V.str))) tr (.tup xrj)) tp (.tup [V.str (("f" : Str) ++ Str.ofString (toString ((j : Nat) : Int))), V.ref ti, V.ref tr, bv])) PR (.lst (pys ++ [V.ref tp]))) kn = some (.lst kxs) := by rw [upd_ne nkp]; exact eknc
          have ePRd : (upd (upd (upd (upd HJ ti (.tup (is.map V.str))) tr (.tup xrj)) tp (.tup [V.str (("f" : Str) ++ Str.ofString (toString ((j : Nat) : Int))), V.ref ti, V.ref tr, bv])) PR (.lst (pys ++ [V.ref tp]))) PR = some (.lst (pys ++ [V.ref tp])) := upd_same
          generalize upd (upd (upd (upd HJ ti (.tup (is.map V.str))) tr (.tup xrj)) tp (.tup [V.str (("f" : Str) ++ Str.ofString (toString ((j : Nat) : Int))), V.ref ti, V.ref tr, bv])) PR (.lst (pys ++ [V.ref tp])) = HD at tpd tkd tke' sd cd eknd ePRd hkr
          refine ⟨kn, kr, _, _, rfl, rfl, stays_new hkr _ _ nkn eknd, upd_same, ?_, fun kn2 hkn2 => ?_⟩
          · exact Nat.le_trans (Nat.add_le_add lkx (Nat.le_refl 1)) (by decide)
          have s1e := (stays_new (p := p) (o := .lst [V.ref RW]) hkr).trans (stays_new (p := p) (o := .lst (kxs ++ [V.ref RW])) hkn2)
          have ePRe := s1e _ _ nPR ePRd
          refine ⟨sd.trans s1e, (cd.new hkr).new hkn2, ks ++ [prow], ps ++ [⟨lvl "f" j, is, refs, b0⟩], kn2, kxs ++ [V.ref RW], pys ++ [V.ref tp], ?_, ?_, new_ne (cd.new hkr) hkn2, ?_, upd_same, KnP.next s1e cd _ _ (KnP.app tkd tke'), ePRe, ?_, _, _, _, _, _, _, _, _, _, rfl⟩
          · have g := GProcs.snoc (p := ⟨lvl "f" j, is, refs, b0⟩) gp ⟨by rw [lp], gis, grefs, b0, ks ++ [prow].take y4.toNat, ?_, gb, (.inl rfl)⟩
            · have er : Proc.row ⟨lvl "f" j, is, refs, b0⟩ = prow := by rw [hprow]; rfl
              rw [er] at g
              exact g
            · have er : Proc.row ⟨lvl "f" j, is, refs, b0⟩ = prow := by rw [hprow]; rfl
              rw [er]
              have cs : y4 = 0 ∨ y4 = 1 := by omega
              rcases cs with z | z <;> subst z
              · exact .inl (List.append_nil _)
              · exact .inr rfl
          · rw [List.length_append, lp]
            rfl
          · intro z
            have h1 := stays_new (p := p) (o := .lst [V.ref RW]) hkr _ _ nPR ePRd
            rw [← z, hkn2] at h1
            cases h1
          · rw [List.map_append]
            exact TvL.carry (s1e.carry cd) _ _ tpd
      · refine iteF ?_
        have sJ := sV.trans v9I
        have eRWJ := uAI _ _ nRW eRW
        have eDIJ := v9I _ _ nDI eDI2
        obtain ⟨nRFJ, xrj, erj, trj⟩ := ltR2.next v9I cV
        refine ⟨_, rfl, .inl ⟨rfl, _, SqL.of (sJ _ _ nPR ePR)⟩, _, rfl, RW, _, _, _, rfl, rfl, SqT.of eRWJ, rfl, _, rfl, DI, _, rfl, .inl ⟨SqL.of eDIJ, fun ti hti => ?_⟩⟩
        have va := stays_new (p := p) (o := .tup (is.map V.str)) hti
        have ca := (cI).new (o := .tup (is.map V.str)) hti
        refine ⟨_, rfl, RF, _, rfl, .inl ⟨SqL.of (va _ _ nRFJ erj), fun tr htr => ⟨_, rfl, four, fun tp htp => ?_⟩⟩⟩
        have tti : Tv K (upd HI ti (.tup (is.map V.str))) (.tuple (is.map PyData.str)) (.ref ti) := tv_tup (SqT.of upd_same) (tvl_strs is)
        have ttr : Tv K (upd (upd HI ti (.tup (is.map V.str))) tr (.tup xrj)) (.tuple (refs.map Decl.enc)) (.ref tr) := tv_tup (SqT.of upd_same) (TvL.carry (carry_new htr) _ _ (TvL.carry (carry_new hti) _ _ trj))
        have tpr : Tv K (upd (upd (upd HI ti (.tup (is.map V.str))) tr (.tup xrj)) tp (.tup [V.str (("f" : Str) ++ Str.ofString (toString ((j : Nat) : Int))), V.ref ti, V.ref tr, bv])) (Proc.enc ⟨lvl "f" j, is, refs, b0⟩) (.ref tp) :=
          tv4 upd_same rfl (Tv.carry (carry_new htp) _ _ (Tv.carry (carry_new htr) _ _ tti)) (Tv.carry (carry_new htp) _ _ ttr) (Tv.carry (carry_new htp) _ _ (Tv.carry (carry_new htr) _ _ (Tv.carry (carry_new hti) _ _ tb)))
        have sc : Stays p H' (upd (upd (upd HI ti (.tup (is.map V.str))) tr (.tup xrj)) tp (.tup [V.str (("f" : Str) ++ Str.ofString (toString ((j : Nat) : Int))), V.ref ti, V.ref tr, bv])) := ((sJ.trans va).trans (stays_new htr)).trans (stays_new htp)
        have uc : Stays p HA (upd (upd (upd HI ti (.tup (is.map V.str))) tr (.tup xrj)) tp (.tup [V.str (("f" : Str) ++ Str.ofString (toString ((j : Nat) : Int))), V.ref ti, V.ref tr, bv])) := (((uAI).trans va).trans (stays_new htr)).trans (stays_new htp)
        have cc := (ca.new (o := .tup xrj) htr).new (o := .tup [V.str (("f" : Str) ++ Str.ofString (toString ((j : Nat) : Int))), V.ref ti, V.ref tr, bv]) htp
        have ePRc := sc _ _ nPR ePR
        have eknc := sc _ _ nkn ekn
        refine ⟨PR, _, _, rfl, rfl, ePRc, ?_, ?_⟩
        · rw [TvL.len tps, List.length_map, lp]
          exact Nat.lt_of_lt_of_le (show j < 3 by omega) (by decide)
        refine ⟨_, rfl, _, rfl, one, fun kr hkr => ?_⟩
        have tpd := tvl_append (TvL.carry (carry_store (zs := pys ++ [V.ref tp]) ePRc) _ _ (TvL.carry (sc.carry cj) _ _ tps)) (Tv.carry (carry_store ePRc) _ _ tpr)
        have tkd := KnP.store (zs' := pys ++ [V.ref tp]) ePRc _ _ (KnP.next sc cj _ _ tkn)
        have tke' := KnP.store (zs' := pys ++ [V.ref tp]) ePRc _ _ (KnP.next uc cRW _ _ kRow)
        have sd := stays_store (o := .lst (pys ++ [V.ref tp])) (sj.trans sc) hPR
        have cd := cc.store (L := PR) (o := .lst (pys ++ [V.ref tp])) nPR
        have eknd : (upd (upd (upd (upd HI ti (.tup (is.map V.str))) tr (.tup xrj)) tp (.tup [V.str (("f" : Str) ++ Str.ofString (toString ((j : Nat) : Int))), V.ref ti, V.ref tr, bv])) PR (.lst (pys ++ [V.ref tp]))) kn = some (.lst kxs) := by rw [upd_ne nkp]; exact eknc
        have ePRd : (upd (upd (upd (upd HI ti (.tup (is.map V.str))) tr (.tup xrj)) tp (.tup [V.str (("f" : Str) ++ Str.ofString (toString ((j : Nat) : Int))), V.ref ti, V.ref tr, bv])) PR (.lst (pys ++ [V.ref tp]))) PR = some (.lst (pys ++ [V.ref tp])) := upd_same
        generalize upd (upd (upd (upd HI ti (.tup (is.map V.str))) tr (.tup xrj)) tp (.tup [V.str (("f" : Str) ++ Str.ofString (toString ((j : Nat) : Int))), V.ref ti, V.ref tr, bv])) PR (.lst (pys ++ [V.ref tp])) = HD at tpd tkd tke' sd cd eknd ePRd hkr
        refine ⟨kn, kr, _, _, rfl, rfl, stays_new hkr _ _ nkn eknd, upd_same, ?_, fun kn2 hkn2 => ?_⟩
        · exact Nat.le_trans (Nat.add_le_add lkx (Nat.le_refl 1)) (by decide)
        have s1e := (stays_new (p := p) (o := .lst [V.ref RW]) hkr).trans (stays_new (p := p) (o := .lst (kxs ++ [V.ref RW])) hkn2)
        have ePRe := s1e _ _ nPR ePRd
        refine ⟨sd.trans s1e, (cd.new hkr).new hkn2, ks ++ [prow], ps ++ [⟨lvl "f" j, is, refs, b0⟩], kn2, kxs ++ [V.ref RW], pys ++ [V.ref tp], ?_, ?_, new_ne (cd.new hkr) hkn2, ?_, upd_same, KnP.next s1e cd _ _ (KnP.app tkd tke'), ePRe, ?_, _, _, _, _, _, _, _, _, _, rfl⟩
        · have g := GProcs.snoc (p := ⟨lvl "f" j, is, refs, b0⟩) gp ⟨by rw [lp], gis, grefs, b0, ks ++ [prow].take y4.toNat, ?_, gb, (.inl rfl)⟩
          · have er : Proc.row ⟨lvl "f" j, is, refs, b0⟩ = prow := by rw [hprow]; rfl
            rw [er] at g
            exact g
          · have er : Proc.row ⟨lvl "f" j, is, refs, b0⟩ = prow := by rw [hprow]; rfl
            rw [er]
            have cs : y4 = 0 ∨ y4 = 1 := by omega
            rcases cs with z | z <;> subst z
            · exact .inl (List.append_nil _)
            · exact .inr rfl
        · rw [List.length_append, lp]
          rfl
        · intro z
          have h1 := stays_new (p := p) (o := .lst [V.ref RW]) hkr _ _ nPR ePRd
          rw [← z, hkn2] at h1
          cases h1
        · rw [List.map_append]
          exact TvL.carry (s1e.carry cd) _ _ tpd
    · rintro σ H' ⟨sj, cj, ks, ps, kn, kxs, pys, gp, lp, nkn, nkp, ekn, tkn, ePR, tps, w7, w8, w9, w10, w11, w12, w13, w14, w15, rfl⟩
      have few := few_rows gp
      have ltSj := ltS4.next sj cK
      obtain ⟨ndV, xsV, exV, txV⟩ := id ltSj
      have lst2i := lst2
      have lst2 : st2.length ≤ 4 := lst2'
      refine ⟨_, rfl, N, rfl, ⟨_, SqL.of exV⟩, fun DV hDV => ?_⟩
      refine lc_list (K := K) (a := N) (fun j H2 => Same H' H2 ∧ ∃ ys, H2 DV = some (.lst ys) ∧ TvL K H2 ((rowsOf false (List.take j st2)).map VRow.enc) ys ∧ ys.length = j) ⟨same_alloc hDV, [], upd_same, rfl, rfl⟩ (fun j H2 _ h => SqL.of (h.1 _ _ exV)) ?_ ?_
      · rintro j x H2 hx ⟨sm, ys, eD, ty, ly⟩
        obtain ⟨dn, dz, a, hd, rfl, st⟩ := enc_at txV hx
        have st' := same_carry sm _ _ st
        refine ⟨a, _, rfl, st', rfl, _, _, rfl, _, _, rfl, rfl, rfl, ?_⟩
        refine ⟨_, rfl, _, rfl, three, fun g hg => ?_⟩
        refine ⟨ys, (by rw [upd_ne (ne_of_none eD hg)]; exact eD), ?_, same_put (sm.trans (same_alloc hg)) hDV, _, upd_same, ?_, ?_⟩
        · rw [ly]
          have hj1 := (List.getElem?_eq_some_iff.mp hx).1
          have hj2 := TvL.len txV
          rw [List.length_map] at hj2
          have hj3 : st2.length ≤ 1000 := (by omega)
          exact Nat.lt_of_lt_of_le (show j < 1001 by omega) (by decide)
        · rw [rows_more hd]
          have eD2 : (upd H2 g (.tup [V.str dn, V.int dz, V.bl false])) DV = some (.lst ys) := by rw [upd_ne (ne_of_none eD hg)]; exact eD
          exact tvl_append (TvL.carry (carry_store eD2) _ _ (TvL.carry (carry_new hg) _ _ ty)) ⟨g, _, rfl, carry_store eD2 _ _ (SqT.of upd_same), _, _, rfl, rfl, _, _, rfl, rfl, _, _, rfl, rfl, rfl⟩
        · rw [List.length_append, ly]
          rfl
      rintro HV ⟨smV, ysV, eV, tV, lV⟩
      rw [List.take_of_length_le (by have := TvL.len txV; rw [List.length_map] at this; omega)] at tV
      have cV := atl_same smV cj
      have sV : Stays p HP HV := sj.trans (same_stays smV)
      obtain ⟨nDF, xsf, exf, txf⟩ := ltF4.next sV cK
      have lxv : ysV.length ≤ 4 := by rw [TvL.len tV]; unfold rowsOf; rw [List.length_map, List.length_map]; exact lst2
      have lxf : xsf.length ≤ 2 := by rw [TvL.len txf, List.length_map]; exact lfx
      refine ⟨_, rfl, DV, DF, _, _, rfl, rfl, eV, exf, Nat.le_trans (Nat.add_le_add lxv lxf) (by decide), fun VV hVV => ?_⟩
      have eVV : (upd HV VV (.lst (ysV ++ xsf))) VV = some (.lst (ysV ++ xsf)) := upd_same
      have tVV : TvL K (upd HV VV (.lst (ysV ++ xsf))) ((rowsOf false st2 ++ rowsOf true pa).map VRow.enc) (ysV ++ xsf) := by rw [List.map_append]; exact TvL.carry (carry_new hVV) _ _ (TvL.app tV txf)
      have nVV := new_ne cV hVV
      have sVV := sV.trans (stays_new (p := p) (o := .lst (ysV ++ xsf)) hVV)
      have uVV : Stays p H' (upd HV VV (.lst (ysV ++ xsf))) := (same_stays smV).trans (stays_new hVV)
      have cVV := cV.new (o := .lst (ysV ++ xsf)) hVV
      generalize upd HV VV (.lst (ysV ++ xsf)) = HW at eVV tVV sVV uVV cVV
      clear tV txf exf eV smV hVV hDV
      refine ⟨_, rfl, Nat.zero_le _, fun EI hEI => ?_⟩
      have eEI : (upd HW EI (.lst [])) EI = some (.lst []) := upd_same
      have nEI := new_ne cVV hEI
      have sEI := stays_new (p := p) (o := .lst []) hEI
      have cEI := cVV.new (o := .lst []) hEI
      have eVV2 := sEI _ _ nVV eVV
      have tVV2 := TvL.carry (carry_new (o := .lst []) hEI) _ _ tVV
      generalize upd HW EI (.lst []) = HX at eEI sEI cEI eVV2 tVV2
      have sX := sVV.trans sEI
      have uX := uVV.trans sEI
      have lks : ks.length ≤ 2 := by rw [few.1, lp]; omega
      have knX : Kn K HX p kn ks := ⟨nkn, ⟨kxs, SqL.of (uX _ _ nkn ekn), KnL.next uX cj _ _ (KnP.forget _ _ tkn)⟩, Nat.le_trans lks (by decide), few.2⟩
      have lvr : (rowsOf false st2 ++ rowsOf true pa).length ≤ 6 := by
        rw [List.length_append]
        have : (rowsOf false st2).length ≤ 4 := by unfold rowsOf; rw [List.length_map]; exact lst2
        omega
      have free0 : ∃ r ∈ rowsOf false st2 ++ rowsOf true pa, r.2.2 = false := by
        cases st2 with
        | nil => exact absurd lst2i (by decide)
        | cons dd _ => exact ⟨(dd.1, dd.2, false), List.mem_append_left _ List.mem_cons_self, rfl⟩
      refine ⟨_, rfl, _, rfl, _, rfl, VV, EI, kn, d, p, rowsOf false st2 ++ rowsOf true pa, [], ks, 3, rfl,
        ⟨D.next (sK.trans sX) cEI, ⟨nVV, nEI, ⟨_, eVV2, tVV2⟩, eEI, by omega, Nat.zero_le _⟩, knX, free0⟩, by decide, by omega, by decide, fun b0 bv HI gb tb sI cI => ?_⟩
      -- the whole
      have sI2 := sX.trans sI
      obtain ⟨nS, xS, exS, tS⟩ := ltS4.next sI2 cK
      refine ⟨_, rfl, N, _, rfl, .inl ⟨SqL.of exS, fun z1 hz1 => ?_⟩⟩
      have t1 : Tv K (upd HI z1 (.tup xS)) (.tuple (st2.map Decl.enc)) (.ref z1) := tv_tup (SqT.of upd_same) (TvL.carry (carry_new hz1) _ _ tS)
      have c1 := cI.new (o := .tup xS) hz1
      have sI3 := sI2.trans (stays_new (p := p) (o := .tup xS) hz1)
      have tb3 := Tv.carry (carry_new (o := .tup xS) hz1) _ _ tb
      have uI3 : Stays p H' (upd HI z1 (.tup xS)) := (uX.trans sI).trans (stays_new hz1)
      generalize upd HI z1 (.tup xS) = HJ at t1 c1 sI3 tb3 uI3
      obtain ⟨nP, xP, exP, tP⟩ := ltP4.next sI3 cK
      refine ⟨_, rfl, PA, _, rfl, .inl ⟨SqL.of exP, fun z2 hz2 => ?_⟩⟩
      have t2 : Tv K (upd HJ z2 (.tup xP)) (.tuple (pa.map Decl.enc)) (.ref z2) := tv_tup (SqT.of upd_same) (TvL.carry (carry_new hz2) _ _ tP)
      have t1b := Tv.carry (carry_new (o := .tup xP) hz2) _ _ t1
      have c2 := c1.new (o := .tup xP) hz2
      have sI4 := sI3.trans (stays_new (p := p) (o := .tup xP) hz2)
      have tb4 := Tv.carry (carry_new (o := .tup xP) hz2) _ _ tb3
      have uI4 := uI3.trans (stays_new (p := p) (o := .tup xP) hz2)
      generalize upd HJ z2 (.tup xP) = HK at t1b t2 c2 sI4 tb4 uI4
      have ePK := uI4 _ _ nPR ePR
      have tPK := TvL.carry (uI4.carry cj) _ _ tps
      refine ⟨_, rfl, PR, _, rfl, .inl ⟨SqL.of ePK, fun z3 hz3 => ?_⟩⟩
      have t3 : Tv K (upd HK z3 (.tup pys)) (.tuple (ps.map Proc.enc)) (.ref z3) := tv_tup (SqT.of upd_same) (TvL.carry (carry_new hz3) _ _ tPK)
      refine ⟨_, rfl, four, fun z4 hz4 => ?_⟩
      refine q ⟨st2, pa, ps, b0⟩ _ _ ⟨gst, gpa, ks, gp, by rw [lp]; omega, gb⟩ (tv4 upd_same (Tv.carry (carry_new hz4) _ _ (Tv.carry (carry_new hz3) _ _ t1b)) (Tv.carry (carry_new hz4) _ _ (Tv.carry (carry_new hz3) _ _ t2)) (Tv.carry (carry_new hz4) _ _ t3) (Tv.carry (carry_new hz4) _ _ (Tv.carry (carry_new hz3) _ _ tb4))) ?_ ((c2.new hz3).new hz4)
      exact ((sK.trans sI4).trans (stays_new hz3)).trans (stays_new hz4)

/-! ### the draws of a script -/
def spDraws (K : PySem.W.Frag) : Sp := fun vs H Q _ => ∃ (a : Addr) (ns : List Int), vs = [.ref a] ∧ SqL K H a (ns.map V.int) ∧
  ∀ (d : Addr) (ds : List Int) H', H d = none → Same H H' → H' d = some (.lst (ds.map V.int)) → Q (.ref d) H'
abbrev sDraws : Stmt := top 62
abbrev nDraws : List Str := ["script", "draws", "cell", "rest", "k", "mixed"]
theorem scDraws : FnScope nDraws ["script"] (defScope sDraws) := ⟨rfl, rfl, rfl, by decide +kernel, rfl, by decide +kernel, by decide +kernel⟩
theorem ok_draws {f : Addr} {fd : FuncData} (F : Fun K "_law_draws" "_law_draws" sDraws f fd) (T : Bi mg) : FnOk P w K mg base CX0 1 f fd ["script"] (spDraws K) := by
  refine F.ok scDraws (fun vs H Q E h => ?_) (fun cdv A outer s H vs Q E hr h => ?_)
  · obtain ⟨a, ns, rfl, _⟩ := h
    rfl
  · obtain ⟨a, ns, rfl, hS, q⟩ := h
    have nd := scDraws.nd
    refine ⟨_, pss_cons (ps_set (i := 1) nd rfl (.inl rfl) (pe_lst pa_nil))
      (pss_cons (ps_for PassesOwn.never rfl (pi_list (pe_slice sl_list (pv 0) po_none (po_some pe_int))) (pg_name (i := 2) nd rfl (.inl rfl)) (pss_cons (ps_set (i := 3) nd rfl (.inl rfl) (pe_callB call_abs rfl T.abs PyProof.Rows.boot_abs (pa_cons (pv 2) pa_nil)))
      (pss_one (ps_if (pt_cmpR op_ge (pv 3) (pe_op op_pow pe_int pe_int) (nomark _)) (pss_one (ps_for PassesOwn.never rfl (pi_range1 rfl T.range (pa_cons pe_int pa_nil)) (pg_name (i := 4) nd rfl (.inl rfl)) (pss_one (ps_if (pt_cmpR op_gt (pv 3) pe_int (nomark _)) (pss_cons (ps_expr (pe_bm PySem.F.plainAttrs_list PySem.F.slot_list_append PySem.F.type_list_append mt_append (pv 1) (pa_cons (pe_op op_mod (pe_callTy call_int1 rfl T.int PyProof.Rows.boot_int (pa_cons (pv 3) pa_nil)) pe_int) pa_nil)))
      (pss_one (ps_set (i := 3) nd rfl (.inl rfl) (pe_op op_fdiv (pv 3) pe_int)))) pss_nil)))) (pss_cons (ps_set (i := 5) nd rfl (.inl rfl) (pe_op op_mod (pe_callTy call_int1 rfl T.int PyProof.Rows.boot_int (pa_cons (pe_op op_add (pe_op op_mul (pv 3) pe_int) pe_int) pa_nil)) pe_int))
      (pss_one (ps_for PassesOwn.never rfl (pi_range1 rfl T.range (pa_cons pe_int pa_nil)) (pg_name (i := 4) nd rfl (.inl rfl)) (pss_cons (ps_set (i := 5) nd rfl (.inl rfl) (pe_op op_mod (pe_callTy call_int1 rfl T.int PyProof.Rows.boot_int (pa_cons (pe_op op_add (pe_op op_add (pe_op op_mul (pv 5) pe_int) (pe_op op_mul pe_int (pv 4))) pe_int) pa_nil)) pe_int))
      (pss_one (ps_expr (pe_bm PySem.F.plainAttrs_list PySem.F.slot_list_append PySem.F.type_list_append mt_append (pv 1) (pa_cons (pe_op op_fdiv (pv 5) pe_int) pa_nil))))))))))))
      (pss_one (ps_ret (pv 1)))), ?_⟩
    refine ⟨Nat.zero_le _, fun L hL => ?_⟩
    have sm0 : Same H (upd H L (.lst [])) := same_alloc hL
    refine ⟨_, rfl, 63, rfl, a, _, rfl, sm0.seq hS, fun S hS2 => ?_⟩
    have ec : cutV (ns.map V.int) none (some 63) = (ns.take 63).map V.int := by
      rw [cut_hi (by decide)]
      show (ns.map V.int).take 63 = _
      rw [List.map_take]
    rw [ec]
    have eL0 : (upd (upd H L (.lst [])) S (.lst ((ns.take 63).map V.int))) L = some (.lst (([] : List Int).map V.int)) := by rw [upd_ne (ne_of_none upd_same hS2)]; exact upd_same
    have nLS : L ≠ S := ne_of_none upd_same hS2
    refine ⟨S, rfl, ⟨_, SqL.of upd_same⟩, for_list (K := K) (a := S) (xs := (ns.take 63).map V.int) (fun j σ H' => Same H H' ∧ H' S = some (.lst ((ns.take 63).map V.int)) ∧ (∃ ds : List Int, H' L = some (.lst (ds.map V.int)) ∧ ds.length ≤ 60 * j) ∧
        ∃ w2 w3 w4 w5 : Option V, σ = [some (.ref a), some (.ref L), w2, w3, w4, w5])
      ⟨sm0.trans (same_alloc hS2), upd_same, ⟨[], eL0, Nat.zero_le _⟩, _, _, _, _, rfl⟩ (fun j σ H' _ h => SqL.of h.2.1) ?_ ?_⟩
    · rintro j x σ H' hj ⟨sm, eS, ⟨ds, eL, lds⟩, w2, w3, w4, w5, rfl⟩
      have jl : j < 63 := by
        have h1 := (List.getElem?_eq_some_iff.mp hj).1
        rw [List.length_map, List.length_take] at h1
        omega
      rw [List.getElem?_map] at hj
      obtain ⟨n, rfl⟩ : ∃ n, x = V.int n := by
        cases e : (ns.take 63)[j]? with
        | none => rw [e] at hj; cases hj
        | some n => rw [e] at hj; exact ⟨n, (Option.some.inj hj).symm⟩
      have app : ∀ (H2 : Hp) (es : List Int) (m : Nat) (u : Int), Same H H2 → H2 S = some (.lst ((ns.take 63).map V.int)) → H2 L = some (.lst (es.map V.int)) → es.length ≤ 60 * j + m → m < 60 →
          (es.map V.int).length < sizeLine ∧ Same H (upd H2 L (.lst (es.map V.int ++ [V.int u]))) ∧ (upd H2 L (.lst (es.map V.int ++ [V.int u]))) S = some (.lst ((ns.take 63).map V.int)) ∧
            ∃ gs : List Int, (upd H2 L (.lst (es.map V.int ++ [V.int u]))) L = some (.lst (gs.map V.int)) ∧ gs.length ≤ 60 * j + (m + 1) := by
        intro H2 es m u s2 eS2 eL2 le hm
        refine ⟨?_, same_put s2 hL, ?_, es ++ [u], ?_, ?_⟩
        · rw [List.length_map]
          exact Nat.lt_of_lt_of_le (show es.length < 4000 by omega) (by decide)
        · rw [upd_ne nLS.symm]; exact eS2
        · rw [upd_same, List.map_append]; rfl
        · rw [List.length_append]
          show es.length + 1 ≤ _
          omega
      refine ⟨_, rfl, _, rfl, _, rfl, _, _, rfl, rfl, ⟨by decide, by decide, by decide⟩, _, _, rfl, rfl, _, rfl, ite2 (fun _ => ?_) (fun _ => ?_)⟩
      · refine ⟨60, rfl, by decide, by decide, for_range (lo := 0) (n := 60) (fun i σ H' => Same H H' ∧ H' S = some (.lst ((ns.take 63).map V.int)) ∧ (∃ ds : List Int, H' L = some (.lst (ds.map V.int)) ∧ ds.length ≤ 60 * j + i) ∧
            ∃ (r : Int) (w4 : Option V), σ = [some (.ref a), some (.ref L), some (.int n), some (.int r), w4, w5])
          ⟨sm, eS, ⟨ds, eL, lds⟩, _, _, rfl⟩ ?_ ?_⟩
        · rintro i σ H2 hi ⟨sm2, eS2, ⟨es, eL2, les⟩, r, w4', rfl⟩
          obtain ⟨p1, p2, p3, p4⟩ := app H2 es i (r % 1009) sm2 eS2 eL2 les hi
          refine ⟨_, rfl, _, _, rfl, rfl, _, rfl, ite2 (fun _ => ?_) (fun _ => ?_)⟩
          · refine ⟨_, rfl, .inl ⟨rfl, _, SqL.of eL2⟩, _, rfl, .inl ⟨r, rfl, _, _, rfl, rfl, (show (0:Int) < 1009 by decide), L, _, _, rfl, rfl, eL2, p1, ?_⟩⟩
            exact ⟨_, rfl, _, _, rfl, rfl, ⟨by decide, by decide⟩, p2, p3, p4, _, _, rfl⟩
          · exact ⟨sm2, eS2, ⟨es, eL2, Nat.le_succ_of_le les⟩, _, _, rfl⟩
        · rintro σ H2 ⟨sm2, eS2, ⟨es, eL2, les⟩, r, w4', rfl⟩
          exact ⟨sm2, eS2, ⟨es, eL2, by omega⟩, _, _, _, _, rfl⟩
      · refine ⟨_, rfl, _, _, rfl, rfl, .inr ⟨by decide, by decide⟩, _, _, rfl, rfl, .inl ⟨_, rfl, _, _, rfl, rfl, (show (0:Int) < 2147483647 by decide), ?_⟩⟩
        refine ⟨7, rfl, by decide, by decide, for_range (lo := 0) (n := 7) (fun i σ H' => Same H H' ∧ H' S = some (.lst ((ns.take 63).map V.int)) ∧ (∃ ds : List Int, H' L = some (.lst (ds.map V.int)) ∧ ds.length ≤ 60 * j + i) ∧
            ∃ (m : Int) (w3 w4 : Option V), σ = [some (.ref a), some (.ref L), some (.int n), w3, w4, some (.int m)])
          ⟨sm, eS, ⟨ds, eL, lds⟩, _, _, _, rfl⟩ ?_ ?_⟩
        · rintro i σ H2 hi ⟨sm2, eS2, ⟨es, eL2, les⟩, m, w3', w4', rfl⟩
          refine ⟨_, rfl, _, _, rfl, rfl, .inr ⟨by decide, by decide⟩, _, rfl, _, _, rfl, rfl, .inl ⟨by decide, by decide⟩, _, _, rfl, rfl, _, _, rfl, rfl, .inl ⟨_, rfl, _, _, rfl, rfl, (show (0:Int) < 2147483629 by decide), ?_⟩⟩
          obtain ⟨p1, p2, p3, p4⟩ := app H2 es i ((m * 16807 + 69621 * (0 + (i : Int)) + 5) % 2147483629 / 1009) sm2 eS2 eL2 les (by omega)
          refine ⟨_, rfl, .inl ⟨rfl, _, SqL.of eL2⟩, _, rfl, _, _, rfl, rfl, ⟨by decide, by decide⟩, L, _, _, rfl, rfl, eL2, p1, ?_⟩
          exact ⟨p2, p3, p4, _, _, _, rfl⟩
        · rintro σ H2 ⟨sm2, eS2, ⟨es, eL2, les⟩, m, w3', w4', rfl⟩
          exact ⟨sm2, eS2, ⟨es, eL2, by omega⟩, _, _, _, _, rfl⟩
    · rintro σ H' ⟨sm, eS, ⟨ds, eL, lds⟩, w2, w3, w4, w5, rfl⟩
      exact ⟨_, rfl, q L ds H' hL sm eL⟩

end
end Tr

namespace Rp
open PySem PySem.Spec PyProof.Rows L2
section
variable {X : Cx}
/-- repr(x), x a whole number, or a tuple or a list of data, where no repr is under way -/
def spReprD (K : PySem.W.Frag) : List V → Hp → VK → Prop := fun xs H Q => spRepr K xs H Q ∨ ∃ i : Int, xs = [.int i] ∧ i.natAbs.log2 < 1920 ∧ Q (.str (toString i)) H
theorem cr_reprD (gd : X.A.guards = some []) (hu : X.A.units + 200 < cLine) : CallR X (.builtin "repr") (spReprD X.K) := by
  intro pins s σ H xs us Q I r h
  rcases h with h | ⟨i, rfl, hz, q⟩
  · exact cr_repr gd hu pins s σ H xs us Q I r h
  · obtain ⟨u, rfl, t, rfl⟩ := vals1 r
    exact PySem.P.repr_of_int hz ⟨.str _, H, I.tok _, ⟨_, rfl⟩, q⟩
theorem cr_reprK {K' : PySem.W.Frag} (h : X.K = K') (gd : X.A.guards = some []) (hu : X.A.units + 200 < cLine) : CallR X (.builtin "repr") (spReprD K') := by
  subst h
  exact cr_reprD gd hu
end
end Rp

namespace Tr
open PySem L2
mutual
theorem Tv.dv {K : PySem.W.Frag} {H : Hp} : ∀ (d : PyData) (v : V), PyData.canLay0 d = true → Tv K H d v → Rp.Dv K H d v
  | .none, _, _, h => h
  | .bool _, _, _, h => h
  | .int _, _, _, h => h
  | .str _, _, _, h => h
  | .tuple ds, _, c, h => by
    obtain ⟨a, xs, e, s, l⟩ := h
    exact ⟨a, xs, e, s, TvL.dv ds xs c l⟩
  | .list _, _, _, h => False.elim h
  | .dict _, _, c, h => by cases c
theorem TvL.dv {K : PySem.W.Frag} {H : Hp} : ∀ (ds : List PyData) (vs : List V), PyData.canLayAll0 ds = true → TvL K H ds vs → Rp.DvL K H ds vs
  | [], _, _, h => h
  | d :: ds, _, c, h => by
    obtain ⟨x, xs, e, t, l⟩ := h
    have c' : (PyData.canLay0 d && PyData.canLayAll0 ds) = true := c
    rw [Bool.and_eq_true] at c'
    exact ⟨x, xs, e, Tv.dv d x c'.1 t, TvL.dv ds xs c'.2 l⟩
end
end Tr

namespace Sd
open PySem L2 Tr Pu PyProof.Rows
/-! ### forms of words -/
inductive Fm where
  | w (s : Str)
  | f (l : List Fm)
def frm (ss : List Str) : Str := ("(" : Str) ++ Txt.join (" " : Str) ss ++ (")" : Str)
mutual
def tx : Fm → Str
  | .w s => s
  | .f l => frm (txs l)
def txs : List Fm → List Str
  | [] => []
  | x :: r => tx x :: txs r
end
theorem txs_map : ∀ l : List Fm, txs l = l.map tx
  | [] => rfl
  | x :: r => by
    show tx x :: txs r = tx x :: r.map tx
    rw [txs_map r]
theorem join_len (y : Str) : ∀ ss : List Str, ((ss.map (·.length)).sum + (ss.length - 1) * y.length) = (Str.join y ss).length
  | [] => by show 0 + 0 * y.length = 0; omega
  | [x] => by show x.length + 0 + 0 * y.length = x.length; omega
  | x :: z :: r => by
    have ih := join_len y (z :: r)
    show x.length + ((z :: r).map (·.length)).sum + ((z :: r).length + 1 - 1) * y.length = (x ++ y ++ Str.join y (z :: r)).length
    rw [strLen_append, strLen_append, ← ih]
    have e : (z :: r).length + 1 - 1 = ((z :: r).length - 1) + 1 := by simp
    rw [e, Nat.add_mul]
    omega
theorem frm_len (ss : List Str) : (ss.map (·.length)).sum + ss.length ≤ (frm ss).length := by
  unfold frm
  rw [strLen_append, strLen_append, TL.join_eq, ← join_len]
  have e1 : ("(" : Str).length = 1 := by decide +kernel
  have e2 : (")" : Str).length = 1 := by decide +kernel
  have e3 : (" " : Str).length = 1 := by decide +kernel
  rw [e1, e2, e3]
  omega
theorem mem_sum {x : Nat} : ∀ {l : List Nat}, x ∈ l → x ≤ l.sum
  | a :: r, h => by
    rw [List.sum_cons]
    rcases List.mem_cons.mp h with rfl | h
    · omega
    · have := mem_sum h
      omega
theorem part_len {ss : List Str} {s : Str} (h : s ∈ ss) : s.length ≤ (frm ss).length := by
  have h1 := frm_len ss
  have h2 := mem_sum (List.mem_map.mpr ⟨s, h, rfl⟩ : s.length ∈ ss.map (·.length))
  omega
def num (n : Int) : Fm := .w (toString n : Str)
def fIx : Ix → Fm
  | .int n => num n
  | .beat => .w "beat"
  | .var s => .w s
  | .rem a n => .f [.w "rem", fIx a, num n]
  | .op o a b => .f [.w o.str, fIx a, fIx b]
def fPl (nm : Str) : Option Ix → Fm
  | none => .w nm
  | some x => .f [.w "at", .w nm, fIx x]
def fEx : Ex → Fm
  | .num n => num n
  | .place nm ix => fPl nm ix
  | .op o a b => .f [.w o.str, fEx a, fEx b]
def fTs : Ts → Fm
  | .zero e => .f [.w "zero", fEx e]
  | .less a b => .f [.w "less", fIx a, fIx b]
  | .equal a b => .f [.w "equal", fIx a, fIx b]
  | .not t => .f [.w "not", fTs t]
mutual
def fSt : Tr.St → Fm
  | .set nm ix e => .f [.w "set", fPl nm ix, fEx e]
  | .call g xs ns => .f [.w "call", .w g, .f (xs.map fIx), .f (ns.map Fm.w)]
  | .loop nm c b => .f ([.w "loop", .w nm, fIx c] ++ fSts b)
  | .ite t a b => .f [.w "if", fTs t, .f (fSts a), .f (fSts b)]
  | .bind nm e b => .f ([.w "let", .w nm, fEx e] ++ fSts b)
def fSts : List Tr.St → List Fm
  | [] => []
  | s :: r => fSt s :: fSts r
end
def fDecl (d : Decl) : List Fm := if d.2 = 0 then [.w d.1] else [.w d.1, num d.2]
def fProc (p : Proc) : Fm := .f ([.w "procedure", .w p.name, .f (p.idxs.map Fm.w), .f (p.refs.map fun d => .f (fDecl d))] ++ fSts p.body)
def fTree (t : Tr.Tree) : List Fm := t.state.map (fun d => .f (.w "state" :: fDecl d)) ++ t.params.map (fun d => .f (.w "param" :: fDecl d)) ++ t.procs.map fProc ++ [.f (.w "beat" :: fSts t.beat)]
def depIx : Ix → Nat
  | .rem a _ => depIx a + 1
  | .op _ a b => max (depIx a) (depIx b) + 1
  | _ => 0
def depEx : Ex → Nat
  | .op _ a b => max (depEx a) (depEx b) + 1
  | _ => 0
def depTs : Ts → Nat
  | .not t => depTs t + 1
  | _ => 0
/-! ### writing -/
abbrev sWf : Stmt := top 41
abbrev sWi : Stmt := top 48
abbrev sWpl : Stmt := top 46
abbrev sWe : Stmt := top 47
abbrev sWt : Stmt := top 49
def spWf (K : PySem.W.Frag) : Sp := fun vs H Q _ => ∃ (a : Addr) (ss : List Str), vs = [.ref a] ∧ (SqL K H a (ss.map V.str) ∨ SqT K H a (ss.map V.str)) ∧ (frm ss).length ≤ 10000000 ∧ ∀ H', Same H H' → Q (.str (frm ss)) H'
/-- whole numbers that may be written -/
def Small (n : Int) : Prop := n.natAbs.log2 < 1920
def okIx : Ix → Prop
  | .int n => Small n
  | .rem a n => okIx a ∧ Small n
  | .op _ a b => okIx a ∧ okIx b
  | _ => True
def okOx : Option Ix → Prop
  | none => True
  | some x => okIx x
def okEx : Ex → Prop
  | .num n => Small n
  | .place _ ix => okOx ix
  | .op _ a b => okEx a ∧ okEx b
def okTs : Ts → Prop
  | .zero e => okEx e
  | .less a b => okIx a ∧ okIx b
  | .equal a b => okIx a ∧ okIx b
  | .not t => okTs t
def dWi (k : Nat) (ds : List PyData) (d : PyData) : Prop := ∃ x : Ix, ds = [x.enc] ∧ depIx x < k ∧ okIx x ∧ (tx (fIx x)).length ≤ 10000000 ∧ d = .str (tx (fIx x))
def depOx : Option Ix → Nat
  | none => 0
  | some x => depIx x
def dWpl (k : Nat) (ds : List PyData) (d : PyData) : Prop := ∃ (nm : Str) (ix : Option Ix), ds = [encPl nm ix] ∧ depOx ix < k ∧ okOx ix ∧ (tx (fPl nm ix)).length ≤ 10000000 ∧ d = .str (tx (fPl nm ix))
section
variable {P : Program} {w : World} {K : PySem.W.Frag} {mg : Str → Option Value} {base : Heap}
theorem call_str_is {X : Cx} : CallR X (.type "str") (fun xs H Q => (∃ i, xs = [.int i] ∧ i.natAbs.log2 < 1920 ∧ Q (.str (toString i)) H) ∨ ∃ a, xs = [.str a] ∧ Q (.str a) H) := by
  intro pins s σ H xs us Q I r h
  rcases h with h | h
  · exact call_str_int pins s σ H xs us Q I r h
  · exact SkE.call_str_str pins s σ H xs us Q I r h
theorem de_strI {te : TE} {ρ : Rho} {i : Int} (h : DE K te ρ (.int i)) (hs : Small i) : DE K (tCB (fun xs H Q => (∃ i, xs = [.int i] ∧ i.natAbs.log2 < 1920 ∧ Q (.str (toString i)) H) ∨ ∃ a, xs = [.str a] ∧ Q (.str a) H) (tCons te tNil)) ρ (.str (toString i)) := fun σ H Q en q =>
  h σ H _ en fun v H1 s1 tv => .inl ⟨i, by cases tv; rfl, hs, q _ H1 s1 rfl⟩
theorem de_strS {te : TE} {ρ : Rho} {z : Str} (h : DE K te ρ (.str z)) : DE K (tCB (fun xs H Q => (∃ i, xs = [.int i] ∧ i.natAbs.log2 < 1920 ∧ Q (.str (toString i)) H) ∨ ∃ a, xs = [.str a] ∧ Q (.str a) H) (tCons te tNil)) ρ (.str z) := fun σ H Q en q =>
  h σ H _ en fun v H1 s1 tv => .inr ⟨z, by cases tv; rfl, q _ H1 s1 rfl⟩
theorem tvl_str {H : Hp} : ∀ {ss : List Str} {xs : List V}, TvL K H (ss.map PyData.str) xs → xs = ss.map V.str
  | [], xs, h => h
  | s :: r, xs, h => by
    obtain ⟨x, ys, rfl, t, l⟩ := h
    cases t
    rw [tvl_str l]
    rfl
theorem de_form {ta : TA} {ρ : Rho} {ss : List Str} {E : XK} (h : DA K ta ρ (ss.map PyData.str)) (hl : ss.length ≤ 1000) (hb : (frm ss).length ≤ 10000000) : DE K (tCall (spWf K) [] E (tCons (tLst ta) tNil)) ρ (.str (frm ss)) := fun σ H Q en q =>
  h σ H _ en fun xs H1 s1 tl => by
    have e := tvl_str tl
    subst e
    refine ⟨by rw [List.length_map]; exact Nat.le_of_lt (small1000 hl), fun a na => ⟨a, ss, rfl, .inl (SqL.of upd_same), hb, fun H2 s2 => q _ H2 ((s1.trans (same_alloc na)).trans s2) rfl⟩⟩
theorem scWf : FnScope ["parts"] ["parts"] (defScope sWf) := ⟨rfl, rfl, rfl, by decide +kernel, rfl, by decide +kernel, by decide +kernel⟩
theorem ok_wf {f : Addr} {fd : FuncData} (F : Fun K "write_form" "write_form" sWf f fd) : FnOk P w K mg base CX0 1 f fd ["parts"] (spWf K) := by
  refine F.ok scWf (fun vs H Q E h => ?_) (fun cdv A outer s H vs Q E hr h => ?_)
  · obtain ⟨a, ss, rfl, _⟩ := h
    rfl
  · obtain ⟨a, ss, rfl, hs, hb, q⟩ := h
    refine ⟨_, pss_one (ps_ret (pe_op op_add_str (pe_op op_add_str pe_str (pe_join pe_str (pv 0))) pe_str)), ?_⟩
    have h1 := frm_len ss
    have big : 10000002 ≤ sizeLine := by decide
    have e0 : (frm ss).length = ("(" : Str).length + (Txt.join (" " : Str) ss).length + (")" : Str).length := by
      unfold frm
      rw [strLen_append, strLen_append]
    have e1 : ("(" : Str).length = 1 := by decide +kernel
    have e2 : (")" : Str).length = 1 := by decide +kernel
    have e3 : (" " : Str).length = 1 := by decide +kernel
    refine ⟨⟨_, rfl⟩, _, rfl, _, a, ss, rfl, rfl, hs, by rw [e3]; omega, _, _, rfl, rfl, by rw [e1]; omega, _, _, rfl, rfl, ?_, q H (same_refl H)⟩
    rw [strLen_append, e1, e2]
    omega
end
end Sd

namespace Sd
open PySem L2 Tr Pu PyProof.Rows
/-- the indexes of an expression, of a test, are not nested deeper than this -/
def okDx : Ex → Prop
  | .num _ => True
  | .place _ ix => depOx ix < 8
  | .op _ a b => okDx a ∧ okDx b
def okDt : Ts → Prop
  | .zero e => depEx e < 8 ∧ okDx e
  | .less a b => depIx a < 8 ∧ depIx b < 8
  | .equal a b => depIx a < 8 ∧ depIx b < 8
  | .not t => okDt t
def dWe (k : Nat) (ds : List PyData) (d : PyData) : Prop := ∃ x : Ex, ds = [x.enc] ∧ depEx x < k ∧ okEx x ∧ (tx (fEx x)).length ≤ 10000000 ∧ okDx x ∧ d = .str (tx (fEx x))
def dWt (k : Nat) (ds : List PyData) (d : PyData) : Prop := ∃ x : Ts, ds = [x.enc] ∧ depTs x < k ∧ okTs x ∧ (tx (fTs x)).length ≤ 10000000 ∧ okDt x ∧ d = .str (tx (fTs x))
theorem sub_len {l : List Fm} {x : Fm} {n : Nat} (h : (tx (.f l)).length ≤ n) (m : x ∈ l) : (tx x).length ≤ n := by
  refine Nat.le_trans (part_len (ss := txs l) ?_) h
  rw [txs_map]
  exact List.mem_map.mpr ⟨x, m, rfl⟩
section
variable {P : Program} {w : World} {K : PySem.W.Frag} {mg : Str → Option Value} {base : Heap}
theorem scWi : FnScope ["index", "head", "right"] ["index"] (defScope sWi) := ⟨rfl, rfl, rfl, by decide +kernel, rfl, by decide +kernel, by decide +kernel⟩
theorem pv_wi {k : Nat} {x : Ix} (h : depIx x < k) (o : okIx x) (b : (tx (fIx x)).length ≤ 10000000) : PV K (spP K 1 (dWi k)) [x.enc] (.str (tx (fIx x))) := pv_P ⟨x, rfl, h, o, b, rfl⟩
theorem ok_wi1 {f : Addr} {fd : FuncData} {k : Nat} (F : Fun K "write_index" "write_index" sWi f fd) (T : Bi mg) (c_wf : Cal P w K mg base CX0 1 "write_form" ["parts"] (spWf K)) (c_wi : Cal P w K mg base CX0 (k + 1) "write_index" ["index"] (spP K 1 (dWi k))) :
    FnOk P w K mg base CX0 (k + 1 + 1) f fd ["index"] (spP K 1 (dWi (k + 1))) := by
  have nd := scWi.nd
  refine ok_P F scWi (by decide) (fun cdv A outer s H E hr => ⟨_, pss_cons (ps_set (i := 1) nd rfl (.inl rfl) (pe_ix ix_tup (pv 0) pe_int (fun _ _ => rfl)))
      (pss_cons (ps_if (pt_cmpR op_eq (pv 1) pe_str (nomark _)) (pss_one (ps_ret (pv 1))) pss_nil)
      (pss_cons (ps_if (PW.pt (pw_or (pt_cmpR op_eq (pv 1) pe_str (nomark _)) (pw_or1 (pt_cmpR op_eq (pv 1) pe_str (nomark _))))) (pss_one (ps_ret (pe_callTy call_str_is rfl T.str PyProof.Rows.boot_str (pa_cons (pe_ix ix_tup (pv 0) pe_int (fun _ _ => rfl)) pa_nil)))) pss_nil)
      (pss_cons (ps_set (i := 2) nd rfl (.inl rfl) (pe_ifExp (pt_cmpR op_eq (pv 1) pe_str (nomark _)) (pe_callTy call_str_is rfl T.str PyProof.Rows.boot_str (pa_cons (pe_ix ix_tup (pv 0) pe_int (fun _ _ => rfl)) pa_nil)) (pe_call c_wi.ok (hr.mono (by first | decide | omega)) rfl c_wi.m c_wi.kp c_wi.b .nil pass0 (pa_cons (pe_ix ix_tup (pv 0) pe_int (fun _ _ => rfl)) pa_nil))))
      (pss_one (ps_ret (pe_call c_wf.ok (hr.mono (by first | decide | omega)) rfl c_wf.m c_wf.kp c_wf.b .nil pass0 (pa_cons (pe_lst (pa_cons (pv 1) (pa_cons (pe_call c_wi.ok (hr.mono (by first | decide | omega)) rfl c_wi.m c_wi.kp c_wi.b .nil pass0 (pa_cons (pe_ix ix_tup (pv 0) pe_int (fun _ _ => rfl)) pa_nil)) (pa_cons (pv 2) pa_nil)))) pa_nil))))))), ?_⟩)
  rintro ds d - ⟨x, rfl, hk, ok, hb, rfl⟩
  cases x with
  | int n =>
    refine dr_set (de_ix (d := .str "integer") (de_var rfl) de_int rfl) ?_
    refine dr_whenF (dt_test (de_eqS (b := false) (de_var rfl) de_str (by decide +kernel))) ?_
    exact dr_whenT (dt_orT (dt_test (de_eqS (b := true) (de_var rfl) de_str (by decide +kernel)))) (dr_ret (de_strI (de_ix (d := .int n) (de_var rfl) de_int rfl) ok))
  | beat =>
    refine dr_set (de_ix (d := .str "beat") (de_var rfl) de_int rfl) ?_
    exact dr_whenT (dt_test (de_eqS (b := true) (de_var rfl) de_str (by decide +kernel))) (dr_ret (de_var rfl))
  | var z =>
    refine dr_set (de_ix (d := .str "index") (de_var rfl) de_int rfl) ?_
    refine dr_whenF (dt_test (de_eqS (b := false) (de_var rfl) de_str (by decide +kernel))) ?_
    exact dr_whenT (dt_orF (dt_test (de_eqS (b := false) (de_var rfl) de_str (by decide +kernel))) (dt_test (de_eqS (b := true) (de_var rfl) de_str (by decide +kernel)))) (dr_ret (de_strS (de_ix (d := .str z) (de_var rfl) de_int rfl)))
  | rem a n =>
    have ha : depIx a < k := Nat.lt_of_succ_lt_succ hk
    have la : (tx (fIx a)).length ≤ 10000000 := sub_len (l := [.w "rem", fIx a, num n]) hb (by simp)
    refine dr_set (de_ix (d := .str "rem") (de_var rfl) de_int rfl) ?_
    refine dr_whenF (dt_test (de_eqS (b := false) (de_var rfl) de_str (by decide +kernel))) ?_
    refine dr_whenF (dt_orF (dt_test (de_eqS (b := false) (de_var rfl) de_str (by decide +kernel))) (dt_test (de_eqS (b := false) (de_var rfl) de_str (by decide +kernel)))) ?_
    refine dr_set (d := .str (toString n)) (de_ifT (dt_test (de_eqS (b := true) (de_var rfl) de_str (by decide +kernel))) (de_strI (de_ix (d := .int n) (de_var rfl) de_int rfl) ok.2)) ?_
    exact dr_ret (de_form (ss := ["rem", tx (fIx a), toString n]) (da_cons (de_var rfl) (da_cons (de_call (da_one (de_ix (d := a.enc) (de_var rfl) de_int rfl)) (pv_wi ha ok.1 la)) (da_one (de_var rfl)))) (show 3 ≤ 1000 by decide) hb)
  | op o a b =>
    have ha : depIx a < k := Nat.lt_of_le_of_lt (Nat.le_max_left _ _) (Nat.lt_of_succ_lt_succ hk)
    have hbb : depIx b < k := Nat.lt_of_le_of_lt (Nat.le_max_right _ _) (Nat.lt_of_succ_lt_succ hk)
    have la : (tx (fIx a)).length ≤ 10000000 := sub_len (l := [.w o.str, fIx a, fIx b]) hb (by simp)
    have lb : (tx (fIx b)).length ≤ 10000000 := sub_len (l := [.w o.str, fIx a, fIx b]) hb (by simp)
    have e1 : decide (o.str = ("beat" : Str)) = false := by cases o <;> decide +kernel
    have e2 : decide (o.str = ("integer" : Str)) = false := by cases o <;> decide +kernel
    have e3 : decide (o.str = ("index" : Str)) = false := by cases o <;> decide +kernel
    have e4 : decide (o.str = ("rem" : Str)) = false := by cases o <;> decide +kernel
    refine dr_set (de_ix (d := .str o.str) (de_var rfl) de_int rfl) ?_
    refine dr_whenF (dt_test (de_eqS (b := false) (de_var rfl) de_str e1)) ?_
    refine dr_whenF (dt_orF (dt_test (de_eqS (b := false) (de_var rfl) de_str e2)) (dt_test (de_eqS (b := false) (de_var rfl) de_str e3))) ?_
    refine dr_set (d := .str (tx (fIx b))) (de_ifF (dt_test (de_eqS (b := false) (de_var rfl) de_str e4)) (de_call (da_one (de_ix (d := b.enc) (de_var rfl) de_int rfl)) (pv_wi hbb ok.2 lb))) ?_
    exact dr_ret (de_form (ss := [o.str, tx (fIx a), tx (fIx b)]) (da_cons (de_var rfl) (da_cons (de_call (da_one (de_ix (d := a.enc) (de_var rfl) de_int rfl)) (pv_wi ha ok.1 la)) (da_one (de_var rfl)))) (show 3 ≤ 1000 by decide) hb)
theorem ok_wi {f : Addr} {fd : FuncData} (F : Fun K "write_index" "write_index" sWi f fd) (T : Bi mg) (c_wf : Cal P w K mg base CX0 1 "write_form" ["parts"] (spWf K)) (b : Binds K fd ["index"] []) (m : mg "write_index" = some (.ref f)) : ∀ k : Nat, FnOk P w K mg base CX0 (k + 1) f fd ["index"] (spP K 1 (dWi k))
  | 0 => ⟨fun vs H Q E h => by obtain ⟨_, _, _, _, ⟨_, _, z, _⟩, _⟩ := h; exact absurd z (Nat.not_lt_zero _), fun A outer s H args us vs Q E _ _ _ _ h => by obtain ⟨_, _, _, _, ⟨_, _, z, _⟩, _⟩ := h; exact absurd z (Nat.not_lt_zero _)⟩
  | k + 1 => ok_wi1 F T c_wf ⟨f, fd, ok_wi F T c_wf b m k, b, F.kp, m⟩
theorem scWpl : FnScope ["place", "name", "index"] ["place"] (defScope sWpl) := ⟨rfl, rfl, rfl, by decide +kernel, rfl, by decide +kernel, by decide +kernel⟩
theorem ok_wpl {f : Addr} {fd : FuncData} {k : Nat} (F : Fun K "write_place" "write_place" sWpl f fd) (T : Bi mg) (c_wf : Cal P w K mg base CX0 1 "write_form" ["parts"] (spWf K)) (c_wi : Cal P w K mg base CX0 (k + 1) "write_index" ["index"] (spP K 1 (dWi k))) :
    FnOk P w K mg base CX0 (k + 1 + 1) f fd ["place"] (spP K 1 (dWpl k)) := by
  have nd := scWpl.nd
  refine ok_P F scWpl (by decide) (fun cdv A outer s H E hr => ⟨_, pss_cons (ps_asg (pv 0) (pg_tup (by rfl) (pgs_cons (pg_name (i := 1) nd rfl (.inl rfl)) (pgs_cons (pg_name (i := 2) nd rfl (.inl rfl)) pgs_nil))))
      (pss_one (ps_ret (pe_ifExp (pt_cmpR op_isN (pv 2) pe_non (nomark _)) (pv 1) (pe_call c_wf.ok (hr.mono (by first | decide | omega)) rfl c_wf.m c_wf.kp c_wf.b .nil pass0 (pa_cons (pe_lst (pa_cons pe_str (pa_cons (pv 1) (pa_cons (pe_call c_wi.ok (hr.mono (by first | decide | omega)) rfl c_wi.m c_wi.kp c_wi.b .nil pass0 (pa_cons (pv 2) pa_nil)) pa_nil)))) pa_nil))))), ?_⟩)
  rintro ds d - ⟨nm, ix, rfl, hk, ok, hb, rfl⟩
  refine dr_un2 (x := .str nm) (y := encO ix) (de_var rfl) ?_
  cases ix with
  | none => exact dr_ret (de_ifT (dt_test (de_isN (b := true) (d := .none) (fun _ _ _ q => ⟨rfl, q⟩) (de_var rfl) rfl)) (de_var rfl))
  | some x =>
    have lx : (tx (fIx x)).length ≤ 10000000 := sub_len (l := [.w "at", .w nm, fIx x]) hb (by simp)
    refine dr_ret (de_ifF (dt_test (de_isN (b := false) (d := x.enc) (fun _ _ _ q => ⟨rfl, q⟩) (de_var rfl) (by cases x <;> rfl))) ?_)
    exact de_form (ss := ["at", nm, tx (fIx x)]) (da_cons de_str (da_cons (de_var rfl) (da_one (de_call (da_one (de_var rfl)) (pv_wi hk ok lx))))) (show 3 ≤ 1000 by decide) hb
theorem scWe : FnScope ["expression", "head"] ["expression"] (defScope sWe) := ⟨rfl, rfl, rfl, by decide +kernel, rfl, by decide +kernel, by decide +kernel⟩
theorem pv_we {k : Nat} {x : Ex} (h : depEx x < k) (o : okEx x) (b : (tx (fEx x)).length ≤ 10000000) (hx : okDx x) : PV K (spP K 1 (dWe k)) [x.enc] (.str (tx (fEx x))) := pv_P ⟨x, rfl, h, o, b, hx, rfl⟩
theorem pv_wpl {k : Nat} {nm : Str} {ix : Option Ix} (h : depOx ix < k) (o : okOx ix) (b : (tx (fPl nm ix)).length ≤ 10000000) : PV K (spP K 1 (dWpl k)) [encPl nm ix] (.str (tx (fPl nm ix))) := pv_P ⟨nm, ix, rfl, h, o, b, rfl⟩
theorem ok_we1 {f : Addr} {fd : FuncData} {k : Nat} (F : Fun K "write_expression" "write_expression" sWe f fd) (T : Bi mg) (c_wf : Cal P w K mg base CX0 1 "write_form" ["parts"] (spWf K)) (c_wpl : Cal P w K mg base CX0 10 "write_place" ["place"] (spP K 1 (dWpl 8))) (c_we : Cal P w K mg base CX0 (k + 10) "write_expression" ["expression"] (spP K 1 (dWe k))) :
    FnOk P w K mg base CX0 (k + 10 + 1) f fd ["expression"] (spP K 1 (dWe (k + 1))) := by
  have nd := scWe.nd
  refine ok_P F scWe (by decide) (fun cdv A outer s H E hr => ⟨_, pss_cons (ps_set (i := 1) nd rfl (.inl rfl) (pe_ix ix_tup (pv 0) pe_int (fun _ _ => rfl)))
      (pss_cons (ps_if (pt_cmpR op_eq (pv 1) pe_str (nomark _)) (pss_one (ps_ret (pe_callTy call_str_is rfl T.str PyProof.Rows.boot_str (pa_cons (pe_ix ix_tup (pv 0) pe_int (fun _ _ => rfl)) pa_nil)))) pss_nil)
      (pss_cons (ps_if (pt_cmpR op_eq (pv 1) pe_str (nomark _)) (pss_one (ps_ret (pe_call c_wpl.ok (hr.mono (by first | decide | omega)) rfl c_wpl.m c_wpl.kp c_wpl.b .nil pass0 (pa_cons (pe_slice sl_tupA (pv 0) (po_some pe_int) po_none) pa_nil)))) pss_nil)
      (pss_one (ps_ret (pe_call c_wf.ok (hr.mono (by first | decide | omega)) rfl c_wf.m c_wf.kp c_wf.b .nil pass0 (pa_cons (pe_lst (pa_cons (pv 1) (pa_cons (pe_call c_we.ok (hr.mono (by first | decide | omega)) rfl c_we.m c_we.kp c_we.b .nil pass0 (pa_cons (pe_ix ix_tup (pv 0) pe_int (fun _ _ => rfl)) pa_nil)) (pa_cons (pe_call c_we.ok (hr.mono (by first | decide | omega)) rfl c_we.m c_we.kp c_we.b .nil pass0 (pa_cons (pe_ix ix_tup (pv 0) pe_int (fun _ _ => rfl)) pa_nil)) pa_nil)))) pa_nil)))))), ?_⟩)
  rintro ds d - ⟨x, rfl, hk, ok, hb, hx, rfl⟩
  cases x with
  | num n =>
    refine dr_set (de_ix (d := .str "number") (de_var rfl) de_int rfl) ?_
    exact dr_whenT (dt_test (de_eqS (b := true) (de_var rfl) de_str (by decide +kernel))) (dr_ret (de_strI (de_ix (d := .int n) (de_var rfl) de_int rfl) ok))
  | place nm ix =>
    refine dr_set (de_ix (d := .str "place") (de_var rfl) de_int rfl) ?_
    refine dr_whenF (dt_test (de_eqS (b := false) (de_var rfl) de_str (by decide +kernel))) ?_
    exact dr_whenT (dt_test (de_eqS (b := true) (de_var rfl) de_str (by decide +kernel))) (dr_ret (de_call (da_one (de_sl (es := [.str nm, encO ix]) (de_var rfl) (do_some de_int) do_none rfl)) (pv_wpl hx ok hb)))
  | op o a b =>
    have ha : depEx a < k := Nat.lt_of_le_of_lt (Nat.le_max_left _ _) (Nat.lt_of_succ_lt_succ hk)
    have hbb : depEx b < k := Nat.lt_of_le_of_lt (Nat.le_max_right _ _) (Nat.lt_of_succ_lt_succ hk)
    have la : (tx (fEx a)).length ≤ 10000000 := sub_len (l := [.w o.str, fEx a, fEx b]) hb (by simp)
    have lb : (tx (fEx b)).length ≤ 10000000 := sub_len (l := [.w o.str, fEx a, fEx b]) hb (by simp)
    have e1 : decide (o.str = ("number" : Str)) = false := by cases o <;> decide +kernel
    have e2 : decide (o.str = ("place" : Str)) = false := by cases o <;> decide +kernel
    refine dr_set (de_ix (d := .str o.str) (de_var rfl) de_int rfl) ?_
    refine dr_whenF (dt_test (de_eqS (b := false) (de_var rfl) de_str e1)) ?_
    refine dr_whenF (dt_test (de_eqS (b := false) (de_var rfl) de_str e2)) ?_
    exact dr_ret (de_form (ss := [o.str, tx (fEx a), tx (fEx b)]) (da_cons (de_var rfl) (da_cons (de_call (da_one (de_ix (d := a.enc) (de_var rfl) de_int rfl)) (pv_we ha ok.1 la hx.1)) (da_one (de_call (da_one (de_ix (d := b.enc) (de_var rfl) de_int rfl)) (pv_we hbb ok.2 lb hx.2))))) (show 3 ≤ 1000 by decide) hb)
theorem ok_we {f : Addr} {fd : FuncData} (F : Fun K "write_expression" "write_expression" sWe f fd) (T : Bi mg) (c_wf : Cal P w K mg base CX0 1 "write_form" ["parts"] (spWf K)) (c_wpl : Cal P w K mg base CX0 10 "write_place" ["place"] (spP K 1 (dWpl 8))) (b : Binds K fd ["expression"] []) (m : mg "write_expression" = some (.ref f)) : ∀ k : Nat, FnOk P w K mg base CX0 (k + 10) f fd ["expression"] (spP K 1 (dWe k))
  | 0 => ⟨fun vs H Q E h => by obtain ⟨_, _, _, _, ⟨_, _, z, _⟩, _⟩ := h; exact absurd z (Nat.not_lt_zero _), fun A outer s H args us vs Q E _ _ _ _ h => by obtain ⟨_, _, _, _, ⟨_, _, z, _⟩, _⟩ := h; exact absurd z (Nat.not_lt_zero _)⟩
  | k + 1 => ok_we1 F T c_wf c_wpl ⟨f, fd, ok_we F T c_wf c_wpl b m k, b, F.kp, m⟩
theorem scWt : FnScope ["test", "head"] ["test"] (defScope sWt) := ⟨rfl, rfl, rfl, by decide +kernel, rfl, by decide +kernel, by decide +kernel⟩
theorem pv_wt {k : Nat} {x : Ts} (h : depTs x < k) (o : okTs x) (b : (tx (fTs x)).length ≤ 10000000) (hx : okDt x) : PV K (spP K 1 (dWt k)) [x.enc] (.str (tx (fTs x))) := pv_P ⟨x, rfl, h, o, b, hx, rfl⟩
theorem ok_wt1 {f : Addr} {fd : FuncData} {k : Nat} (F : Fun K "write_test" "write_test" sWt f fd) (T : Bi mg) (c_wf : Cal P w K mg base CX0 1 "write_form" ["parts"] (spWf K)) (c_wi : Cal P w K mg base CX0 9 "write_index" ["index"] (spP K 1 (dWi 8))) (c_we : Cal P w K mg base CX0 18 "write_expression" ["expression"] (spP K 1 (dWe 8)))
    (c_wt : Cal P w K mg base CX0 (k + 18) "write_test" ["test"] (spP K 1 (dWt k))) : FnOk P w K mg base CX0 (k + 18 + 1) f fd ["test"] (spP K 1 (dWt (k + 1))) := by
  have nd := scWt.nd
  refine ok_P F scWt (by decide) (fun cdv A outer s H E hr => ⟨_, pss_cons (ps_set (i := 1) nd rfl (.inl rfl) (pe_ix ix_tup (pv 0) pe_int (fun _ _ => rfl)))
      (pss_cons (ps_if (pt_cmpR op_eq (pv 1) pe_str (nomark _)) (pss_one (ps_ret (pe_call c_wf.ok (hr.mono (by first | decide | omega)) rfl c_wf.m c_wf.kp c_wf.b .nil pass0 (pa_cons (pe_lst (pa_cons (pv 1) (pa_cons (pe_call c_we.ok (hr.mono (by first | decide | omega)) rfl c_we.m c_we.kp c_we.b .nil pass0 (pa_cons (pe_ix ix_tup (pv 0) pe_int (fun _ _ => rfl)) pa_nil)) pa_nil))) pa_nil)))) pss_nil)
      (pss_cons (ps_if (pt_cmpR op_eq (pv 1) pe_str (nomark _)) (pss_one (ps_ret (pe_call c_wf.ok (hr.mono (by first | decide | omega)) rfl c_wf.m c_wf.kp c_wf.b .nil pass0 (pa_cons (pe_lst (pa_cons (pv 1) (pa_cons (pe_call c_wt.ok (hr.mono (by first | decide | omega)) rfl c_wt.m c_wt.kp c_wt.b .nil pass0 (pa_cons (pe_ix ix_tup (pv 0) pe_int (fun _ _ => rfl)) pa_nil)) pa_nil))) pa_nil)))) pss_nil)
      (pss_one (ps_ret (pe_call c_wf.ok (hr.mono (by first | decide | omega)) rfl c_wf.m c_wf.kp c_wf.b .nil pass0 (pa_cons (pe_lst (pa_cons (pv 1) (pa_cons (pe_call c_wi.ok (hr.mono (by first | decide | omega)) rfl c_wi.m c_wi.kp c_wi.b .nil pass0 (pa_cons (pe_ix ix_tup (pv 0) pe_int (fun _ _ => rfl)) pa_nil)) (pa_cons (pe_call c_wi.ok (hr.mono (by first | decide | omega)) rfl c_wi.m c_wi.kp c_wi.b .nil pass0 (pa_cons (pe_ix ix_tup (pv 0) pe_int (fun _ _ => rfl)) pa_nil)) pa_nil)))) pa_nil)))))), ?_⟩)
  rintro ds d - ⟨x, rfl, hk, ok, hb, hx, rfl⟩
  cases x with
  | zero e =>
    have le : (tx (fEx e)).length ≤ 10000000 := sub_len (l := [.w "zero", fEx e]) hb (by simp)
    refine dr_set (de_ix (d := .str "zero") (de_var rfl) de_int rfl) ?_
    exact dr_whenT (dt_test (de_eqS (b := true) (de_var rfl) de_str (by decide +kernel))) (dr_ret (de_form (ss := ["zero", tx (fEx e)]) (da_cons (de_var rfl) (da_one (de_call (da_one (de_ix (d := e.enc) (de_var rfl) de_int rfl)) (pv_we hx.1 ok le hx.2)))) (show 2 ≤ 1000 by decide) hb))
  | not t =>
    have lt : (tx (fTs t)).length ≤ 10000000 := sub_len (l := [.w "not", fTs t]) hb (by simp)
    refine dr_set (de_ix (d := .str "not") (de_var rfl) de_int rfl) ?_
    refine dr_whenF (dt_test (de_eqS (b := false) (de_var rfl) de_str (by decide +kernel))) ?_
    exact dr_whenT (dt_test (de_eqS (b := true) (de_var rfl) de_str (by decide +kernel))) (dr_ret (de_form (ss := ["not", tx (fTs t)]) (da_cons (de_var rfl) (da_one (de_call (da_one (de_ix (d := t.enc) (de_var rfl) de_int rfl)) (pv_wt (Nat.lt_of_succ_lt_succ hk) ok lt hx)))) (show 2 ≤ 1000 by decide) hb))
  | less a b =>
    have la : (tx (fIx a)).length ≤ 10000000 := sub_len (l := [.w "less", fIx a, fIx b]) hb (by simp)
    have lb : (tx (fIx b)).length ≤ 10000000 := sub_len (l := [.w "less", fIx a, fIx b]) hb (by simp)
    refine dr_set (de_ix (d := .str "less") (de_var rfl) de_int rfl) ?_
    refine dr_whenF (dt_test (de_eqS (b := false) (de_var rfl) de_str (by decide +kernel))) ?_
    refine dr_whenF (dt_test (de_eqS (b := false) (de_var rfl) de_str (by decide +kernel))) ?_
    exact dr_ret (de_form (ss := ["less", tx (fIx a), tx (fIx b)]) (da_cons (de_var rfl) (da_cons (de_call (da_one (de_ix (d := a.enc) (de_var rfl) de_int rfl)) (pv_wi hx.1 ok.1 la)) (da_one (de_call (da_one (de_ix (d := b.enc) (de_var rfl) de_int rfl)) (pv_wi hx.2 ok.2 lb))))) (show 3 ≤ 1000 by decide) hb)
  | equal a b =>
    have la : (tx (fIx a)).length ≤ 10000000 := sub_len (l := [.w "equal", fIx a, fIx b]) hb (by simp)
    have lb : (tx (fIx b)).length ≤ 10000000 := sub_len (l := [.w "equal", fIx a, fIx b]) hb (by simp)
    refine dr_set (de_ix (d := .str "equal") (de_var rfl) de_int rfl) ?_
    refine dr_whenF (dt_test (de_eqS (b := false) (de_var rfl) de_str (by decide +kernel))) ?_
    refine dr_whenF (dt_test (de_eqS (b := false) (de_var rfl) de_str (by decide +kernel))) ?_
    exact dr_ret (de_form (ss := ["equal", tx (fIx a), tx (fIx b)]) (da_cons (de_var rfl) (da_cons (de_call (da_one (de_ix (d := a.enc) (de_var rfl) de_int rfl)) (pv_wi hx.1 ok.1 la)) (da_one (de_call (da_one (de_ix (d := b.enc) (de_var rfl) de_int rfl)) (pv_wi hx.2 ok.2 lb))))) (show 3 ≤ 1000 by decide) hb)
theorem ok_wt {f : Addr} {fd : FuncData} (F : Fun K "write_test" "write_test" sWt f fd) (T : Bi mg) (c_wf : Cal P w K mg base CX0 1 "write_form" ["parts"] (spWf K)) (c_wi : Cal P w K mg base CX0 9 "write_index" ["index"] (spP K 1 (dWi 8))) (c_we : Cal P w K mg base CX0 18 "write_expression" ["expression"] (spP K 1 (dWe 8)))
    (b : Binds K fd ["test"] []) (m : mg "write_test" = some (.ref f)) : ∀ k : Nat, FnOk P w K mg base CX0 (k + 18) f fd ["test"] (spP K 1 (dWt k))
  | 0 => ⟨fun vs H Q E h => by obtain ⟨_, _, _, _, ⟨_, _, z, _⟩, _⟩ := h; exact absurd z (Nat.not_lt_zero _), fun A outer s H args us vs Q E _ _ _ _ h => by obtain ⟨_, _, _, _, ⟨_, _, z, _⟩, _⟩ := h; exact absurd z (Nat.not_lt_zero _)⟩
  | k + 1 => ok_wt1 F T c_wf c_wi c_we ⟨f, fd, ok_wt F T c_wf c_wi c_we b m k, b, F.kp, m⟩
end
end Sd

namespace Sd
open PySem L2 Tr Pu PyProof.Rows
section
variable {K : PySem.W.Frag} {H : Hp} {σ : L2.St} {ρ : Rho}
theorem sl_tv {v : V} {ds : List PyData} {lo hi : Option Int} {Q : VK} (h : Tv K H (.tuple ds) v) (k : ∀ w H', Same H H' → Tv K H' (.tuple (Pu.cutD ds lo hi)) w → Q w H') : rSlA K v lo hi H Q := by
  obtain ⟨a, xs, rfl, sq, l⟩ := h
  have e := tvl_len l
  refine ⟨a, xs, rfl, sq, fun z => ?_, fun z p hp => ?_⟩
  · refine k _ H (same_refl H) ⟨a, xs, rfl, sq, ?_⟩
    unfold Pu.cutD
    rw [← e, z.1, z.2, List.drop_zero, Nat.sub_zero, e, List.take_length]
    exact l
  · refine k _ _ (same_alloc hp) ⟨p, _, rfl, SqT.of upd_same, TvL.carry (carry_new hp) _ _ ?_⟩
    unfold Pu.cutD cutV
    rw [← e]
    exact tvl_take _ (tvl_drop _ l)
theorem cat_tv {v u : V} {ds es : List PyData} {Q : VK} (h : Tv K H (.tuple ds) v) (g : Tv K H (.tuple es) u) (hl : ds.length + es.length ≤ 1000) (k : ∀ w H', Same H H' → Tv K H' (.tuple (ds ++ es)) w → Q w H') : rCatA K v u H Q := by
  obtain ⟨a, xs, rfl, sq, l⟩ := h
  obtain ⟨a2, ys, rfl, sq2, l2⟩ := g
  refine ⟨a, a2, xs, ys, rfl, rfl, sq, sq2, by rw [tvl_len l, tvl_len l2]; exact Nat.le_of_lt (small1000 hl), fun z => ?_, fun z1 z2 => ?_, fun z1 z2 p hp => ?_⟩
  · refine k _ H (same_refl H) ⟨a2, ys, rfl, sq2, ?_⟩
    subst z
    have e : ds = [] := by
      have := tvl_len l
      cases ds with
      | nil => rfl
      | cons d r => simp at this
    rw [e]
    exact l2
  · refine k _ H (same_refl H) ⟨a, xs, rfl, sq, ?_⟩
    subst z2
    have e : es = [] := by
      have := tvl_len l2
      cases es with
      | nil => rfl
      | cons d r => simp at this
    rw [e, List.append_nil]
    exact l
  · exact k _ _ (same_alloc hp) ⟨p, _, rfl, SqT.of upd_same, TvL.carry (carry_new hp) _ _ (tvl_app l l2)⟩
end
theorem at0 (y : V) (ys : List V) : atI (y :: ys) 0 = some y := atI_nat (xs := y :: ys) (j := 0) rfl
theorem noP {σ : L2.St} {H : Hp} {Q : Option Int → Hp → Prop} (h : Q none H) : tNoPart σ H Q := h
theorem nilP {σ : L2.St} {H : Hp} {Q : List V → Hp → Prop} (h : Q [] H) : tNil σ H Q := h
theorem set_k {te : TE} {i : Nat} {tu : TS} {D : Ends} {σ : L2.St} {H : Hp} (Pr : V → Hp → Prop) (h : ∀ Q' : VK, (∀ v H', Pr v H' → Q' v H') → te σ H Q') (k : ∀ v H', Pr v H' → tu D (σ.set i (some v)) H') : tSeq (tAsg te (gName i)) tu D σ H := h _ fun v H' p => k v H' p
theorem if_k {t : TT} {ts tu : TS} {D : Ends} {σ : L2.St} {H : Hp} (Pr : L2.St → Hp → Prop) (h : ∀ D' : Ends, D'.rt = D.rt → (∀ σ' H', Pr σ' H' → D'.nx σ' H') → tIfS t ts tNext D' σ H) (k : ∀ σ' H', Pr σ' H' → tu D σ' H') : tSeq (tIfS t ts tNext) tu D σ H := h { D with nx := tu D } rfl k
theorem seq_k {ts tu : TS} {D : Ends} {σ : L2.St} {H : Hp} (Pr : L2.St → Hp → Prop) (h : ∀ D' : Ends, D'.rt = D.rt → (∀ σ' H', Pr σ' H' → D'.nx σ' H') → ts D' σ H) (k : ∀ σ' H', Pr σ' H' → tu D σ' H') : tSeq ts tu D σ H := h { D with nx := tu D } rfl k
end Sd
namespace Sd
open PySem L2 Tr Pu PyProof.Rows
theorem ifs_T {K : PySem.W.Frag} {H : Hp} {σ : L2.St} {ρ : Rho} {D : Ends} {t : TT} {ts tu : TS} (h : DT K t ρ true) (en : En K H σ ρ) (k : ∀ H2, Same H H2 → ts D σ H2) : tIfS t ts tu D σ H := h σ H _ en fun H1 s1 => k H1 s1
theorem ifs_F {K : PySem.W.Frag} {H : Hp} {σ : L2.St} {ρ : Rho} {D : Ends} {t : TT} {ts tu : TS} (h : DT K t ρ false) (en : En K H σ ρ) (k : ∀ H2, Same H H2 → tu D σ H2) : tIfS t ts tu D σ H := h σ H _ en fun H1 s1 => k H1 s1
theorem en_0 {K : PySem.W.Frag} {H : Hp} : En K H [] [] := ⟨rfl, fun i d h => by simp at h⟩
theorem en_s {K : PySem.W.Frag} {H : Hp} {σ : L2.St} {ρ : Rho} {d : PyData} {v : V} (t : Tv K H d v) (h : En K H σ ρ) : En K H (some v :: σ) (some d :: ρ) := ⟨congrArg (· + 1) h.1, fun i e q => by
  cases i with
  | zero => cases q; exact ⟨v, rfl, t⟩
  | succ i => exact h.2 i e q⟩
theorem en_n {K : PySem.W.Frag} {H : Hp} {σ : L2.St} {ρ : Rho} {x : Option V} (h : En K H σ ρ) : En K H (x :: σ) (none :: ρ) := ⟨congrArg (· + 1) h.1, fun i e q => by
  cases i with
  | zero => cases q
  | succ i => exact h.2 i e q⟩
end Sd

namespace Sd
open PySem L2 Tr Pu PyProof.Rows
mutual
def depSt : Tr.St → Nat
  | .set _ _ _ => 0
  | .call _ _ _ => 0
  | .loop _ _ b => depSts b + 1
  | .ite _ a b => max (depSts a) (depSts b) + 1
  | .bind _ _ b => depSts b + 1
def depSts : List Tr.St → Nat
  | [] => 0
  | s :: r => max (depSt s) (depSts r)
end
mutual
def okSt : Tr.St → Prop
  | .set _ ix e => okOx ix ∧ depOx ix < 8 ∧ okEx e ∧ okDx e ∧ depEx e < 8
  | .call _ xs _ => ∀ x ∈ xs, okIx x ∧ depIx x < 8
  | .loop _ c b => okIx c ∧ depIx c < 8 ∧ okSts b
  | .ite t a b => okTs t ∧ okDt t ∧ depTs t < 8 ∧ okSts a ∧ okSts b
  | .bind _ e b => okEx e ∧ okDx e ∧ depEx e < 8 ∧ okSts b
def okSts : List Tr.St → Prop
  | [] => True
  | s :: r => okSt s ∧ okSts r
end
theorem depSts_mem : ∀ {b : List Tr.St} {s : Tr.St}, s ∈ b → depSt s ≤ depSts b
  | x :: r, s, h => by
    rcases List.mem_cons.mp h with rfl | h
    · exact Nat.le_max_left _ _
    · exact Nat.le_trans (depSts_mem h) (Nat.le_max_right _ _)
theorem okSts_mem : ∀ {b : List Tr.St} {s : Tr.St}, okSts b → s ∈ b → okSt s
  | x :: r, s, o, h => by
    rcases List.mem_cons.mp h with rfl | h
    · exact o.1
    · exact okSts_mem o.2 h
theorem encs_map : ∀ b : List Tr.St, St.encs b = b.map St.enc
  | [] => rfl
  | s :: r => congrArg (s.enc :: ·) (encs_map r)
theorem fSts_map : ∀ b : List Tr.St, fSts b = b.map fSt
  | [] => rfl
  | s :: r => by
    show fSt s :: fSts r = fSt s :: r.map fSt
    rw [fSts_map r]
def tot (l : List Fm) : Nat := ((txs l).map (·.length)).sum + l.length
theorem tot_app (a b : List Fm) : tot (a ++ b) = tot a + tot b := by
  unfold tot
  rw [txs_map, txs_map, txs_map, List.map_append, List.map_append, List.sum_append, List.length_append]
  omega
theorem tot_le (l : List Fm) : tot l ≤ (tx (.f l)).length := by
  have := frm_len (txs l)
  have e : (txs l).length = l.length := by rw [txs_map, List.length_map]
  rw [e] at this
  exact this
theorem tot_mem {l : List Fm} {x : Fm} {n : Nat} (h : tot l ≤ n) (m : x ∈ l) : (tx x).length ≤ n := by
  have : (tx x).length ≤ ((txs l).map (·.length)).sum := mem_sum (by rw [txs_map, List.map_map]; exact List.mem_map.mpr ⟨x, m, rfl⟩)
  unfold tot at h
  omega
abbrev sWss : Stmt := top 44
abbrev nWss : List Str := ["body", "statement"]
abbrev sWs : Stmt := top 45
abbrev nWs : List Str := ["statement", "head", "bodies", "indexes", "value", "body", "index"]
def dWs (k : Nat) (ds : List PyData) (d : PyData) : Prop := ∃ x : Tr.St, ds = [x.enc] ∧ depSt x < k ∧ okSt x ∧ (tx (fSt x)).length ≤ 10000000 ∧ d = .str (tx (fSt x))
def spWss (K : PySem.W.Frag) (k : Nat) : Sp := fun vs H Q _ => ∃ (v : V) (b : List Tr.St), vs = [v] ∧ Tv K H (.tuple (St.encs b)) v ∧ (∀ s ∈ b, depSt s < k) ∧ okSts b ∧ tot (fSts b) ≤ 10000000 ∧
  ∀ a H', H a = none → Same H H' → H' a = some (.lst ((txs (fSts b)).map V.str)) → Q (.ref a) H'
section
variable {P : Program} {w : World} {K : PySem.W.Frag} {mg : Str → Option Value} {base : Heap}
theorem scWss : FnScope nWss ["body"] (defScope sWss) := ⟨rfl, rfl, rfl, by decide +kernel, rfl, by decide +kernel, by decide +kernel⟩
theorem ok_wss {f : Addr} {fd : FuncData} {k c : Nat} (F : Fun K "write_statements" "write_statements" sWss f fd) (c_ws : Cal P w K mg base CX0 c "write_statement" ["statement"] (spP K 1 (dWs k))) : FnOk P w K mg base CX0 (c + 1) f fd ["body"] (spWss K k) := by
  refine F.ok scWss (fun vs H Q E h => ?_) (fun cdv A outer s H vs Q E hr h => ?_)
  · obtain ⟨v, b, rfl, _⟩ := h
    rfl
  · obtain ⟨v, b, rfl, tv, hd, ho, ht, q⟩ := h
    have nd := scWss.nd
    have big : 10000002 ≤ sizeLine := by decide
    obtain ⟨a, xs, rfl, sq, tl⟩ := tv
    have lx : xs.length = b.length := by rw [tvl_len tl, encs_map, List.length_map]
    have lt : (txs (fSts b)).length = b.length := by rw [txs_map, fSts_map, List.length_map, List.length_map]
    refine ⟨_, pss_one (ps_ret (pe_lc (own := [("statement", 1)]) (g := gName 1) (tt := tYes) rfl nd (pi_tup (pv 0)) (blkOk_by (N := nWss) (sc := defScope sWss) (by decide +kernel)) (fun _ _ _ _ _ => pg_name (i := 1) nd rfl (.inl rfl)) (fun _ _ _ _ _ => pts_nil) (fun _ _ _ _ _ => (pe_call c_ws.ok (hr.mono (by first | decide | omega)) rfl c_ws.m c_ws.kp c_ws.b .nil pass0 (pa_cons (pv 1) pa_nil))))), ?_⟩
    refine ⟨_, rfl, a, rfl, ⟨_, sq⟩, fun D hD => ?_⟩
    refine lc_tup (K := K) (a := a) (xs := xs) (fun j H' => Same H H' ∧ H' D = some (.lst (((txs (fSts b)).take j).map V.str))) ⟨same_alloc hD, upd_same⟩ (fun j H' _ h => same_carry h.1 _ _ sq) ?_ ?_
    · rintro j z H5 hj ⟨s5, eD⟩
      have jl : j < b.length := by rw [← lx]; exact (List.getElem?_eq_some_iff.mp hj).1
      obtain ⟨e, he⟩ : ∃ e, b[j]? = some e := ⟨_, List.getElem?_eq_getElem jl⟩
      have em := List.mem_of_getElem? he
      obtain ⟨z', hz', tz⟩ := tvl_get (j := j) (d := e.enc) (TvL.carry (same_carry s5) _ _ tl) (by rw [encs_map, List.getElem?_map, he]; rfl)
      rw [hj] at hz'
      cases hz'
      have tke : (txs (fSts b)).take (j + 1) = (txs (fSts b)).take j ++ [tx (fSt e)] := by
        rw [List.take_add_one, txs_map, fSts_map, List.getElem?_map, List.getElem?_map, he]
        rfl
      have le : (tx (fSt e)).length ≤ 10000000 := tot_mem ht (by rw [fSts_map]; exact List.mem_map.mpr ⟨e, em, rfl⟩)
      refine ⟨rfl, _, rfl, [e.enc], _, rfl, ⟨_, _, rfl, tz, rfl⟩, ⟨e, rfl, hd e em, okSts_mem ho em, le, rfl⟩, fun u H6 s6 tu => ?_⟩
      cases tu
      refine ⟨_, s6 _ _ eD, ?_, same_put (s5.trans s6) hD, ?_⟩
      · rw [List.length_map, List.length_take]
        have h2 : (fSts b).length = b.length := by rw [fSts_map, List.length_map]
        unfold tot at ht
        omega
      · rw [upd_same, tke, List.map_append]
        rfl
    · rintro H5 ⟨s5, eD⟩
      rw [lx, ← lt, List.take_length] at eD
      exact q D H5 hD s5 eD
end
end Sd

namespace Sd
open PySem L2 Tr Pu PyProof.Rows
theorem txs_cat3 {h nm : Str} {x : Fm} {b : List Tr.St} : frm ([h, nm, tx x] ++ txs (fSts b)) = tx (.f ([.w h, .w nm, x] ++ fSts b)) := rfl
section
variable {P : Program} {w : World} {K : PySem.W.Frag} {mg : Str → Option Value} {base : Heap}
theorem form_cat {H : Hp} {σ : L2.St} {ρ : Rho} {ta : TA} {te2 : TE} {ss us : List Str} {E : XK} {Q : VK} (da : DA K ta ρ (ss.map PyData.str)) (en : En K H σ ρ) (hl : ss.length ≤ 1000)
    (h2 : ∀ (H1 : Hp) (Q' : VK), Same H H1 → (∀ D H2, Same H1 H2 → H2 D = some (.lst (us.map V.str)) → Q' (.ref D) H2) → te2 σ H1 Q') (hb : (frm (ss ++ us)).length ≤ 10000000) (k : ∀ H', Same H H' → Q (.str (frm (ss ++ us))) H') :
    tCall (spWf K) [] E (tCons (tOp rCat (tLst ta) te2) tNil) σ H Q := by
  refine da σ H _ en fun xs H1 s1 tl => ?_
  have e := tvl_str tl
  subst e
  refine ⟨by rw [List.length_map]; exact Nat.le_of_lt (small1000 hl), fun L nL => ?_⟩
  refine h2 _ _ (s1.trans (same_alloc nL)) fun D H2 s2 eD => ?_
  have eL : H2 L = some (.lst (ss.map V.str)) := s2 _ _ upd_same
  have big : 10000002 ≤ sizeLine := by decide
  refine ⟨L, D, _, _, rfl, rfl, eL, eD, ?_, fun M nM => ?_⟩
  · have := frm_len (ss ++ us)
    rw [List.length_append] at this
    rw [List.length_map, List.length_map]
    omega
  · refine ⟨M, ss ++ us, rfl, .inl (SqL.of (by rw [upd_same, List.map_append])), hb, fun H3 s3 => ?_⟩
    exact k H3 (((s1.trans (same_alloc nL)).trans s2).trans ((same_alloc nM).trans s3))
theorem de_formT {te : TE} {ρ : Rho} {ss : List Str} {E : XK} (h : DE K te ρ (.tuple (ss.map PyData.str))) (hb : (frm ss).length ≤ 10000000) : DE K (tCall (spWf K) [] E (tCons te tNil)) ρ (.str (frm ss)) := fun σ H Q en q =>
  h σ H _ en fun v H1 s1 tv => by
    obtain ⟨a, xs, rfl, sq, l⟩ := tv
    have e := tvl_str l
    subst e
    exact ⟨a, ss, rfl, .inr sq, hb, fun H2 s2 => q _ H2 (s1.trans s2) rfl⟩
theorem scWs : FnScope nWs ["statement"] (defScope sWs) := ⟨rfl, rfl, rfl, by decide +kernel, rfl, by decide +kernel, by decide +kernel⟩
theorem ok_ws1 {f : Addr} {fd : FuncData} {k c : Nat} (F : Fun K "write_statement" "write_statement" sWs f fd) (T : Bi mg) (hc : 30 ≤ c) (c_wf : Cal P w K mg base CX0 1 "write_form" ["parts"] (spWf K)) (c_wi : Cal P w K mg base CX0 9 "write_index" ["index"] (spP K 1 (dWi 8))) (c_wpl : Cal P w K mg base CX0 10 "write_place" ["place"] (spP K 1 (dWpl 8)))
    (c_we : Cal P w K mg base CX0 18 "write_expression" ["expression"] (spP K 1 (dWe 8))) (c_wt : Cal P w K mg base CX0 26 "write_test" ["test"] (spP K 1 (dWt 8))) (c_wss : Cal P w K mg base CX0 c "write_statements" ["body"] (spWss K k)) :
    FnOk P w K mg base CX0 (c + 1) f fd ["statement"] (spP K 1 (dWs (k + 1))) := by
  refine F.ok scWs (fun vs H Q E h => ?_) (fun cdv A outer s H vs Q E hr h => ?_)
  · obtain ⟨ds, d, hl, tl, _⟩ := h
    exact (tvl_len tl).trans hl
  · obtain ⟨ds, d, hl, tl, ⟨x, rfl, hk, ok, hb, rfl⟩, q⟩ := h
    obtain ⟨v, _, rfl, tv, rfl⟩ := tl
    have nd := scWs.nd
    refine ⟨_, pss_cons (ps_set (i := 1) nd rfl (.inl rfl) (pe_ix ix_tup (pv 0) pe_int (fun _ _ => rfl)))
      (pss_cons (ps_if (pt_cmpR op_eq (pv 1) pe_str (nomark _)) (pss_one (ps_ret (pe_call c_wf.ok (hr.mono (by first | decide | omega)) rfl c_wf.m c_wf.kp c_wf.b .nil pass0 (pa_cons (pe_lst (pa_cons (pv 1) (pa_cons (pe_call c_wpl.ok (hr.mono (by first | decide | omega)) rfl c_wpl.m c_wpl.kp c_wpl.b .nil pass0 (pa_cons (pe_ix ix_tup (pv 0) pe_int (fun _ _ => rfl)) pa_nil)) (pa_cons (pe_call c_we.ok (hr.mono (by first | decide | omega)) rfl c_we.m c_we.kp c_we.b .nil pass0 (pa_cons (pe_ix ix_tup (pv 0) pe_int (fun _ _ => rfl)) pa_nil)) pa_nil)))) pa_nil)))) pss_nil)
      (pss_cons (ps_if (pt_cmpR op_eq (pv 1) pe_str (nomark _)) (pss_cons (ps_setLc (i := 2) (own := [("body", 5)]) (g := gName 5) (tt := tYes) rfl nd rfl rfl (sw_true rfl rfl rfl (by decide +kernel)) (pi_tup (pe_slice sl_tupA (pv 0) (po_some pe_int) po_none)) (blkOk_by (N := nWs) (sc := defScope sWs) (by decide +kernel)) (fun _ _ _ _ _ => pg_name (i := 5) nd rfl (.inl rfl)) (fun _ _ _ _ _ => pts_nil) (fun _ _ _ _ _ => (pe_call c_wf.ok (hr.mono (by first | decide | omega)) rfl c_wf.m c_wf.kp c_wf.b .nil pass0 (pa_cons (pe_call c_wss.ok (hr.mono (by first | decide | omega)) rfl c_wss.m c_wss.kp c_wss.b .nil pass0 (pa_cons (pv 5) pa_nil)) pa_nil))))
      (pss_one (ps_ret (pe_call c_wf.ok (hr.mono (by first | decide | omega)) rfl c_wf.m c_wf.kp c_wf.b .nil pass0 (pa_cons (pe_op op_cat (pe_lst (pa_cons (pv 1) (pa_cons (pe_call c_wt.ok (hr.mono (by first | decide | omega)) rfl c_wt.m c_wt.kp c_wt.b .nil pass0 (pa_cons (pe_ix ix_tup (pv 0) pe_int (fun _ _ => rfl)) pa_nil)) pa_nil))) (pv 2)) pa_nil))))) pss_nil)
      (pss_cons (ps_if (pt_cmpR op_eq (pv 1) pe_str (nomark _)) (pss_cons (ps_set (i := 3) nd rfl (.inl rfl) (pe_call c_wf.ok (hr.mono (by first | decide | omega)) rfl c_wf.m c_wf.kp c_wf.b .nil pass0 (pa_cons (pe_lc (own := [("index", 6)]) (g := gName 6) (tt := tYes) rfl nd (pi_tup (pe_ix ix_tup (pv 0) pe_int (fun _ _ => rfl))) (blkOk_by (N := nWs) (sc := defScope sWs) (by decide +kernel)) (fun _ _ _ _ _ => pg_name (i := 6) nd rfl (.inl rfl)) (fun _ _ _ _ _ => pts_nil) (fun _ _ _ _ _ => (pe_call c_wi.ok (hr.mono (by first | decide | omega)) rfl c_wi.m c_wi.kp c_wi.b .nil pass0 (pa_cons (pv 6) pa_nil)))) pa_nil)))
      (pss_one (ps_ret (pe_call c_wf.ok (hr.mono (by first | decide | omega)) rfl c_wf.m c_wf.kp c_wf.b .nil pass0 (pa_cons (pe_lst (pa_cons (pv 1) (pa_cons (pe_ix ix_tup (pv 0) pe_int (fun _ _ => rfl)) (pa_cons (pv 3) (pa_cons (pe_call c_wf.ok (hr.mono (by first | decide | omega)) rfl c_wf.m c_wf.kp c_wf.b .nil pass0 (pa_cons (pe_ix ix_tup (pv 0) pe_int (fun _ _ => rfl)) pa_nil)) pa_nil))))) pa_nil))))) pss_nil)
      (pss_cons (ps_if (pt_cmpR op_eq (pv 1) pe_str (nomark _)) (pss_one (ps_set (i := 4) nd rfl (.inl rfl) (pe_call c_wi.ok (hr.mono (by first | decide | omega)) rfl c_wi.m c_wi.kp c_wi.b .nil pass0 (pa_cons (pe_ix ix_tup (pv 0) pe_int (fun _ _ => rfl)) pa_nil)))) (pss_one (ps_set (i := 4) nd rfl (.inl rfl) (pe_call c_we.ok (hr.mono (by first | decide | omega)) rfl c_we.m c_we.kp c_we.b .nil pass0 (pa_cons (pe_ix ix_tup (pv 0) pe_int (fun _ _ => rfl)) pa_nil)))))
      (pss_one (ps_ret (pe_call c_wf.ok (hr.mono (by first | decide | omega)) rfl c_wf.m c_wf.kp c_wf.b .nil pass0 (pa_cons (pe_op op_cat (pe_lst (pa_cons (pv 1) (pa_cons (pe_ix ix_tup (pv 0) pe_int (fun _ _ => rfl)) (pa_cons (pv 4) pa_nil)))) (pe_call c_wss.ok (hr.mono (by first | decide | omega)) rfl c_wss.m c_wss.kp c_wss.b .nil pass0 (pa_cons (pe_ix ix_tup (pv 0) pe_int (fun _ _ => rfl)) pa_nil))) pa_nil)))))))), ?_⟩
    have en : ∀ {h : Str}, En K H [some v, some (.str h), none, none, none, none, none] [some x.enc, some (.str h), none, none, none, none, none] := en_s tv (en_s rfl (en_n (en_n (en_n (en_n (en_n en_0))))))
    cases x with
    | set nm ix e =>
      obtain ⟨o1, o2, o3, o4, o5⟩ := ok
      have lp : (tx (fPl nm ix)).length ≤ 10000000 := sub_len (l := [.w "set", fPl nm ix, fEx e]) hb (by simp)
      have le : (tx (fEx e)).length ≤ 10000000 := sub_len (l := [.w "set", fPl nm ix, fEx e]) hb (by simp)
      obtain ⟨va, xs, rfl, sq, u1, r1, rfl, t1, r2⟩ := id tv
      cases t1
      refine ⟨_, rfl, va, _, 0, _, rfl, rfl, sq, at0 _ _, ?_⟩
      refine ⟨_, rfl, rfl, _, rfl, iteT' (by decide +kernel) ?_⟩
      refine de_form (ρ := [some (St.set nm ix e).enc, some (.str "set"), none, none, none, none, none]) (ss := ["set", tx (fPl nm ix), tx (fEx e)]) (da_cons (de_var rfl) (da_cons (de_call (da_one (de_ix (d := encPl nm ix) (de_var rfl) de_int rfl)) (pv_wpl o2 o1 lp)) (da_one (de_call (da_one (de_ix (d := e.enc) (de_var rfl) de_int rfl)) (pv_we o5 o3 le o4))))) (show 3 ≤ 1000 by decide) hb _ _ _ en fun u H2 s2 tu => q u H2 s2 tu
    | ite t a b =>
      obtain ⟨o1, o2, o3, o4, o5⟩ := ok
      obtain ⟨va, xs, rfl, sq, u1, r1, rfl, t1, r2⟩ := id tv
      cases t1
      refine ⟨_, rfl, va, _, 0, _, rfl, rfl, sq, at0 _ _, ?_⟩
      refine ⟨_, rfl, rfl, _, rfl, iteF' (by decide +kernel) ?_⟩
      refine ⟨_, rfl, rfl, _, rfl, iteT' (by decide +kernel) ?_⟩
      have lt : (tx (fTs t)).length ≤ 10000000 := sub_len (l := [.w "if", fTs t, .f (fSts a), .f (fSts b)]) hb (by simp)
      have la : (tx (.f (fSts a))).length ≤ 10000000 := sub_len (l := [.w "if", fTs t, .f (fSts a), .f (fSts b)]) hb (by simp)
      have lb : (tx (.f (fSts b))).length ≤ 10000000 := sub_len (l := [.w "if", fTs t, .f (fSts a), .f (fSts b)]) hb (by simp)
      have da : depSts a < k := Nat.lt_of_le_of_lt (Nat.le_max_left _ _) (Nat.lt_of_succ_lt_succ hk)
      have db : depSts b < k := Nat.lt_of_le_of_lt (Nat.le_max_right _ _) (Nat.lt_of_succ_lt_succ hk)
      have each : ∀ c ∈ [a, b], depSts c < k ∧ okSts c ∧ (tx (.f (fSts c))).length ≤ 10000000 := fun c hc => by
        rcases List.mem_cons.mp hc with rfl | hc
        · exact ⟨da, o4, la⟩
        · rw [List.mem_singleton.mp hc]; exact ⟨db, o5, lb⟩
      refine set_k (fun u H' => ∃ D, u = .ref D ∧ Same H H' ∧ H' D = some (.lst (([a, b].map fun c => tx (.f (fSts c))).map V.str))) (fun Q' kk => ?_) ?_
      · refine ⟨_, rfl, _, rfl, noP (sl_tv tv fun w1 H1 s1 t1 => ?_)⟩
        obtain ⟨a2, ys, rfl, sq2, tl2⟩ := t1
        have tl3 : TvL K H1 ([a, b].map fun c => .tuple (St.encs c)) ys := tl2
        have ly : ys.length = 2 := tvl_len tl3
        refine ⟨a2, rfl, ⟨_, sq2⟩, fun D hD => ?_⟩
        refine lc_tup (K := K) (a := a2) (xs := ys) (fun j H' => Same H1 H' ∧ H' D = some (.lst ((([a, b].map fun c => tx (.f (fSts c))).take j).map V.str))) ⟨same_alloc hD, upd_same⟩ (fun j H' _ h => same_carry h.1 _ _ sq2) ?_ ?_
        · rintro j z H5 hj ⟨s5, eD⟩
          have jl : j < 2 := by rw [← ly]; exact (List.getElem?_eq_some_iff.mp hj).1
          obtain ⟨c, hc⟩ : ∃ c, ([a, b] : List (List Tr.St))[j]? = some c := ⟨_, List.getElem?_eq_getElem jl⟩
          obtain ⟨z', hz', tz⟩ := tvl_get (j := j) (d := .tuple (St.encs c)) (TvL.carry (same_carry s5) _ _ tl3) (by rw [List.getElem?_map, hc]; rfl)
          rw [hj] at hz'
          cases hz'
          obtain ⟨c1, c2, c3⟩ := each c (List.mem_of_getElem? hc)
          have tke : ([a, b].map fun c => tx (.f (fSts c))).take (j + 1) = ([a, b].map fun c => tx (.f (fSts c))).take j ++ [tx (.f (fSts c))] := by
            rw [List.take_add_one, List.getElem?_map, hc]
            rfl
          refine ⟨rfl, _, rfl, z, c, rfl, tz, fun s hs => Nat.lt_of_le_of_lt (depSts_mem hs) c1, c2, Nat.le_trans (tot_le _) c3, fun L H6 nL s6 eL => ⟨L, txs (fSts c), rfl, .inl (SqL.of eL), c3, fun H7 s7 => ?_⟩⟩
          refine ⟨_, s7 _ _ (s6 _ _ eD), ?_, same_put ((s5.trans s6).trans s7) hD, ?_⟩
          · rw [List.length_map, List.length_take]
            exact Nat.lt_of_le_of_lt (Nat.min_le_right _ _) (by show 2 < sizeLine; decide)
          · rw [upd_same, tke, List.map_append]
            rfl
        · rintro H5 ⟨s5, eD⟩
          rw [ly] at eD
          exact kk _ _ ⟨D, rfl, s1.trans s5, eD⟩
      rintro _ H1 ⟨D, rfl, s1, eD⟩
      have en1 : En K H1 [some (.ref va), some (.str "if"), some (.ref D), none, none, none, none] [some (St.ite t a b).enc, some (.str "if"), none, none, none, none, none] := en_s (tv.carry (same_carry s1)) (en_s rfl (en_n (en_n (en_n (en_n (en_n en_0))))))
      exact form_cat (ss := ["if", tx (fTs t)]) (us := [a, b].map fun c => tx (.f (fSts c))) (da_cons (de_var rfl) (da_one (de_call (da_one (de_ix (d := t.enc) (de_var rfl) de_int rfl)) (pv_wt o3 o1 lt o2)))) en1 (show 2 ≤ 1000 by decide)
        (fun H2 Q' s2 kk => ⟨_, rfl, kk D H2 (same_refl H2) (s2 _ _ eD)⟩) hb fun H' s' => q _ H' (s1.trans s') rfl
    | call g xs ns =>
      have lx : (tx (.f (xs.map fIx))).length ≤ 10000000 := sub_len (l := [.w "call", .w g, .f (xs.map fIx), .f (ns.map Fm.w)]) hb (by simp)
      have ln : (tx (.f (ns.map Fm.w))).length ≤ 10000000 := sub_len (l := [.w "call", .w g, .f (xs.map fIx), .f (ns.map Fm.w)]) hb (by simp)
      have eN : txs (ns.map Fm.w) = ns := by
        rw [txs_map, List.map_map]
        exact List.map_id'' (fun _ => rfl) ns
      have eX : txs (xs.map fIx) = xs.map fun x => tx (fIx x) := by rw [txs_map, List.map_map]; rfl
      obtain ⟨va, zs, rfl, sq, u1, r1, rfl, t1, u2, r2, rfl, t2, u3, r3, rfl, t3, u4, r4, rfl, t4, rfl⟩ := id tv
      cases t1
      refine ⟨_, rfl, va, _, 0, _, rfl, rfl, sq, at0 _ _, ?_⟩
      refine ⟨_, rfl, rfl, _, rfl, iteF' (by decide +kernel) ?_⟩
      refine ⟨_, rfl, rfl, _, rfl, iteF' (by decide +kernel) ?_⟩
      refine ⟨_, rfl, rfl, _, rfl, iteT' (by decide +kernel) ?_⟩
      refine set_k (fun u H' => u = .str (tx (.f (xs.map fIx))) ∧ Same H H') (fun Q' kk => ?_) ?_
      · obtain ⟨a2, ys, rfl, sq2, tl2⟩ := id t3
        have ly : ys.length = xs.length := by rw [tvl_len tl2, List.length_map]
        refine ⟨_, rfl, va, _, 2, _, rfl, rfl, sq, rfl, a2, rfl, ⟨_, sq2⟩, fun D hD => ?_⟩
        refine lc_tup (K := K) (a := a2) (xs := ys) (fun j H' => Same H H' ∧ H' D = some (.lst (((xs.map fun x => tx (fIx x)).take j).map V.str))) ⟨same_alloc hD, upd_same⟩ (fun j H' _ h => same_carry h.1 _ _ sq2) ?_ ?_
        · rintro j z H5 hj ⟨s5, eD⟩
          have jl : j < xs.length := by rw [← ly]; exact (List.getElem?_eq_some_iff.mp hj).1
          obtain ⟨x, hx⟩ : ∃ x, xs[j]? = some x := ⟨_, List.getElem?_eq_getElem jl⟩
          have xm := List.mem_of_getElem? hx
          obtain ⟨z', hz', tz⟩ := tvl_get (j := j) (d := x.enc) (TvL.carry (same_carry s5) _ _ tl2) (by rw [List.getElem?_map, hx]; rfl)
          rw [hj] at hz'
          cases hz'
          have tke : (xs.map fun x => tx (fIx x)).take (j + 1) = (xs.map fun x => tx (fIx x)).take j ++ [tx (fIx x)] := by
            rw [List.take_add_one, List.getElem?_map, hx]
            rfl
          have l1 : (tx (fIx x)).length ≤ 10000000 := sub_len lx (List.mem_map.mpr ⟨x, xm, rfl⟩)
          refine ⟨rfl, _, rfl, [x.enc], _, rfl, ⟨_, _, rfl, tz, rfl⟩, ⟨x, rfl, (ok x xm).2, (ok x xm).1, l1, rfl⟩, fun u H6 s6 tu => ?_⟩
          cases tu
          refine ⟨_, s6 _ _ eD, ?_, same_put (s5.trans s6) hD, ?_⟩
          · have big : 10000002 ≤ sizeLine := by decide
            have t0 := tot_le (xs.map fIx)
            unfold tot at t0
            rw [List.length_map] at t0
            rw [List.length_map, List.length_take]
            omega
          · rw [upd_same, tke, List.map_append]
            rfl
        · rintro H5 ⟨s5, eD⟩
          have e6 : (xs.map fun x => tx (fIx x)).take ys.length = xs.map fun x => tx (fIx x) := List.take_of_length_le (by rw [List.length_map, ly]; exact Nat.le_refl _)
          rw [e6] at eD
          refine ⟨D, xs.map fun x => tx (fIx x), rfl, .inl (SqL.of eD), by rw [← eX]; exact lx, fun H6 s6 => kk _ _ ⟨?_, s5.trans s6⟩⟩
          rw [← eX]
          rfl
      rintro _ H1 ⟨rfl, s1⟩
      have en1 : En K H1 [some (.ref va), some (.str "call"), none, some (.str (tx (.f (xs.map fIx)))), none, none, none] [some (St.call g xs ns).enc, some (.str "call"), none, some (.str (tx (.f (xs.map fIx)))), none, none, none] := en_s (tv.carry (same_carry s1)) (en_s rfl (en_n (en_s rfl (en_n (en_n (en_n en_0))))))
      have lN : (frm ns).length ≤ 10000000 := by
        have : (frm (txs (ns.map Fm.w))).length ≤ 10000000 := ln
        rw [eN] at this
        exact this
      have eF : tx (fSt (.call g xs ns)) = frm ["call", g, tx (.f (xs.map fIx)), frm ns] := by
        show frm ["call", g, tx (.f (xs.map fIx)), frm (txs (ns.map Fm.w))] = _
        rw [eN]
      refine de_form (ss := ["call", g, tx (.f (xs.map fIx)), frm ns]) (da_cons (de_var rfl) (da_cons (de_ix (d := .str g) (de_var rfl) de_int rfl) (da_cons (de_var rfl) (da_one (de_formT (de_ix (d := .tuple (ns.map PyData.str)) (de_var rfl) de_int rfl) lN))))) (show 4 ≤ 1000 by decide) (by rw [← eF]; exact hb) _ _ _ en1 fun u H2 s2 tu => ?_
      exact q u H2 (s1.trans s2) (by rw [eF]; exact tu)
    | loop nm c b =>
      obtain ⟨o1, o2, o3⟩ := ok
      have lv : (tx (fIx c)).length ≤ 10000000 := sub_len (l := [.w "loop", .w nm, (fIx c)] ++ fSts b) hb (by simp)
      have tb : tot (fSts b) ≤ 10000000 := by
        have h1 : (tx (.f ([.w "loop", .w nm, (fIx c)] ++ fSts b))).length ≤ 10000000 := hb
        have h2 := tot_le ([.w "loop", .w nm, (fIx c)] ++ fSts b)
        rw [tot_app] at h2
        omega
      have db : depSts b < k := Nat.lt_of_succ_lt_succ hk
      obtain ⟨va, xs, rfl, sq, u1, r1, rfl, t1, u2, r2, rfl, t2, u3, r3, rfl, t3, u4, r4, rfl, t4, rfl⟩ := id tv
      cases t1
      refine ⟨_, rfl, va, _, 0, _, rfl, rfl, sq, at0 _ _, ?_⟩
      refine ⟨_, rfl, rfl, _, rfl, iteF' (by decide +kernel) ?_⟩
      refine ⟨_, rfl, rfl, _, rfl, iteF' (by decide +kernel) ?_⟩
      refine ⟨_, rfl, rfl, _, rfl, iteF' (by decide +kernel) ?_⟩
      refine ⟨_, rfl, rfl, _, rfl, iteT' (by decide +kernel) ?_⟩
      refine de_call (da_one (de_ix (d := c.enc) (de_var rfl) de_int rfl)) (pv_wi o2 o1 lv) _ _ _ en fun u H1 s1 tu => ?_
      have eu : u = .str (tx (fIx c)) := tu
      subst eu
      have en1 : En K H1 [some (.ref va), some (.str "loop"), none, none, some (.str (tx (fIx c))), none, none] [some (St.loop nm c b).enc, some (.str "loop"), none, none, some (.str (tx (fIx c))), none, none] := en_s (tv.carry (same_carry s1)) (en_s rfl (en_n (en_n (en_s rfl (en_n (en_n en_0))))))
      refine form_cat (ss := ["loop", nm, tx (fIx c)]) (us := txs (fSts b)) (da_cons (de_var rfl) (da_cons (de_ix (d := .str nm) (de_var rfl) de_int rfl) (da_one (de_var rfl)))) en1 (show 3 ≤ 1000 by decide)
        (fun H2 Q' s2 kk => ⟨_, rfl, va, _, 3, u4, rfl, rfl, same_carry (s1.trans s2) _ _ sq, rfl, u4, b, rfl, t4.carry (same_carry (s1.trans s2)), fun s hs => Nat.lt_of_le_of_lt (depSts_mem hs) db, o3, tb, fun L H3 nL s3 eL => kk L H3 s3 eL⟩) ?_ fun H' s' => ?_
      · rw [txs_cat3]; exact hb
      · rw [txs_cat3]; exact q _ H' (s1.trans s') rfl
    | bind nm e b =>
      obtain ⟨o1, o2, o3, o4⟩ := ok
      have lv : (tx (fEx e)).length ≤ 10000000 := sub_len (l := [.w "let", .w nm, (fEx e)] ++ fSts b) hb (by simp)
      have tb : tot (fSts b) ≤ 10000000 := by
        have h1 : (tx (.f ([.w "let", .w nm, (fEx e)] ++ fSts b))).length ≤ 10000000 := hb
        have h2 := tot_le ([.w "let", .w nm, (fEx e)] ++ fSts b)
        rw [tot_app] at h2
        omega
      have db : depSts b < k := Nat.lt_of_succ_lt_succ hk
      obtain ⟨va, xs, rfl, sq, u1, r1, rfl, t1, u2, r2, rfl, t2, u3, r3, rfl, t3, u4, r4, rfl, t4, rfl⟩ := id tv
      cases t1
      refine ⟨_, rfl, va, _, 0, _, rfl, rfl, sq, at0 _ _, ?_⟩
      refine ⟨_, rfl, rfl, _, rfl, iteF' (by decide +kernel) ?_⟩
      refine ⟨_, rfl, rfl, _, rfl, iteF' (by decide +kernel) ?_⟩
      refine ⟨_, rfl, rfl, _, rfl, iteF' (by decide +kernel) ?_⟩
      refine ⟨_, rfl, rfl, _, rfl, iteF' (by decide +kernel) ?_⟩
      refine de_call (da_one (de_ix (d := e.enc) (de_var rfl) de_int rfl)) (pv_we o3 o1 lv o2) _ _ _ en fun u H1 s1 tu => ?_
      have eu : u = .str (tx (fEx e)) := tu
      subst eu
      have en1 : En K H1 [some (.ref va), some (.str "let"), none, none, some (.str (tx (fEx e))), none, none] [some (St.bind nm e b).enc, some (.str "let"), none, none, some (.str (tx (fEx e))), none, none] := en_s (tv.carry (same_carry s1)) (en_s rfl (en_n (en_n (en_s rfl (en_n (en_n en_0))))))
      refine form_cat (ss := ["let", nm, tx (fEx e)]) (us := txs (fSts b)) (da_cons (de_var rfl) (da_cons (de_ix (d := .str nm) (de_var rfl) de_int rfl) (da_one (de_var rfl)))) en1 (show 3 ≤ 1000 by decide)
        (fun H2 Q' s2 kk => ⟨_, rfl, va, _, 3, u4, rfl, rfl, same_carry (s1.trans s2) _ _ sq, rfl, u4, b, rfl, t4.carry (same_carry (s1.trans s2)), fun s hs => Nat.lt_of_le_of_lt (depSts_mem hs) db, o4, tb, fun L H3 nL s3 eL => kk L H3 s3 eL⟩) ?_ fun H' s' => ?_
      · rw [txs_cat3]; exact hb
      · rw [txs_cat3]; exact q _ H' (s1.trans s') rfl
end
end Sd

namespace Sd
open PySem L2 Tr Pu PyProof.Rows
abbrev sWv : Stmt := top 42
abbrev sWp : Stmt := top 43
abbrev nWp : List Str := ["procedure", "name", "indexes", "references", "body", "written", "head", "reference"]
abbrev sWpr : Stmt := top 60
abbrev nWpr : List Str := ["tree", "state", "params", "procedures", "beat", "lines", "variable", "procedure"]
def spWv (K : PySem.W.Frag) : Sp := fun vs H Q _ => ∃ (v : V) (d : Decl), vs = [v] ∧ Tv K H (Decl.enc d) v ∧ Small d.2 ∧ ∀ a H', H a = none → Same H H' → H' a = some (.lst ((txs (fDecl d)).map V.str)) → Q (.ref a) H'
def okPr (p : Proc) : Prop := okSts p.body ∧ depSts p.body < 16 ∧ ∀ d ∈ p.refs, Small d.2
def dWp (ds : List PyData) (d : PyData) : Prop := ∃ p : Proc, ds = [Proc.enc p] ∧ okPr p ∧ (tx (fProc p)).length ≤ 10000000 ∧ d = .str (tx (fProc p))
section
variable {P : Program} {w : World} {K : PySem.W.Frag} {mg : Str → Option Value} {base : Heap}
theorem ok_ws {f fB : Addr} {fd fdB : FuncData} (F : Fun K "write_statement" "write_statement" sWs f fd) (T : Bi mg) (c_wf : Cal P w K mg base CX0 1 "write_form" ["parts"] (spWf K)) (c_wi : Cal P w K mg base CX0 9 "write_index" ["index"] (spP K 1 (dWi 8))) (c_wpl : Cal P w K mg base CX0 10 "write_place" ["place"] (spP K 1 (dWpl 8)))
    (c_we : Cal P w K mg base CX0 18 "write_expression" ["expression"] (spP K 1 (dWe 8))) (c_wt : Cal P w K mg base CX0 26 "write_test" ["test"] (spP K 1 (dWt 8))) (b : Binds K fd ["statement"] []) (m : mg "write_statement" = some (.ref f))
    (FB : Fun K "write_statements" "write_statements" sWss fB fdB) (bB : Binds K fdB ["body"] []) (mB : mg "write_statements" = some (.ref fB)) : ∀ k : Nat, FnOk P w K mg base CX0 (2 * k + 30) f fd ["statement"] (spP K 1 (dWs k))
  | 0 => ⟨fun vs H Q E h => by obtain ⟨_, _, _, _, ⟨_, _, z, _⟩, _⟩ := h; exact absurd z (Nat.not_lt_zero _), fun A outer s H args us vs Q E _ _ _ _ h => by obtain ⟨_, _, _, _, ⟨_, _, z, _⟩, _⟩ := h; exact absurd z (Nat.not_lt_zero _)⟩
  | k + 1 => ok_ws1 (c := 2 * k + 31) F T (by omega) c_wf c_wi c_wpl c_we c_wt ⟨fB, fdB, ok_wss FB ⟨f, fd, ok_ws F T c_wf c_wi c_wpl c_we c_wt b m FB bB mB k, b, F.kp, m⟩, bB, FB.kp, mB⟩
/-- texts of the items of a tuple, in a comprehension -/
theorem lc_of {α : Type} {l : List α} {enc : α → PyData} {g : α → Str} {a D : Addr} {xs : List V} {H1 : Hp} {i : Nat} {te : TE} {vs : List Nat} {σ : L2.St} {Qd : Hp → Prop} (tl : TvL K H1 (l.map enc) xs) (sq : SqT K H1 a xs) (hD : H1 D = none) (hl : l.length ≤ 10000000)
    (hw : ∀ z, wipe ((wipe σ vs).set i (some z)) vs = wipe σ vs) (step : ∀ x z H5 (R : VK), x ∈ l → Same H1 H5 → Tv K H5 (enc x) z → (∀ H6, Same H5 H6 → R (.str (g x)) H6) → te ((wipe σ vs).set i (some z)) H5 R)
    (fin : ∀ H', Same H1 H' → H' D = some (.lst ((l.map g).map V.str)) → Qd H') :
    ∃ W : Nat → Nat → Hp → Prop, (∃ m, W 0 m (upd H1 D (.lst []))) ∧ ∀ j m H, W j m H →
      ((Itt K a).stop j H ∧ Qd H) ∨ ((Itt K a).go j H ∧ ∃ Nx : Hp → Prop, (∀ H', Nx H' → ∃ m', m' < m ∧ W (j + 1) m' H') ∧ ∀ x H', (Itt K a).yld j H x H' → gName i x (wipe σ vs) H' fun σ2 H2 => wipe σ2 vs = wipe σ vs ∧ tYes σ2 H2 fun b H3 =>
        if b = true then te σ2 H3 fun y H4 => ∃ acc, H4 D = some (.lst acc) ∧ acc.length < sizeLine ∧ Nx (upd H4 D (.lst (acc ++ [y]))) else Nx H3) := by
  have big : 10000002 ≤ sizeLine := by decide
  have lx : xs.length = l.length := by rw [tvl_len tl, List.length_map]
  refine lc_tup (K := K) (a := a) (xs := xs) (fun j H' => Same H1 H' ∧ H' D = some (.lst (((l.map g).take j).map V.str))) ⟨same_alloc hD, upd_same⟩ (fun j H' _ h => same_carry h.1 _ _ sq) ?_ ?_
  · rintro j z H5 hj ⟨s5, eD⟩
    have jl : j < l.length := by rw [← lx]; exact (List.getElem?_eq_some_iff.mp hj).1
    obtain ⟨x, hx⟩ : ∃ x, l[j]? = some x := ⟨_, List.getElem?_eq_getElem jl⟩
    obtain ⟨z', hz', tz⟩ := tvl_get (j := j) (d := enc x) (TvL.carry (same_carry s5) _ _ tl) (by rw [List.getElem?_map, hx]; rfl)
    rw [hj] at hz'
    cases hz'
    have tke : (l.map g).take (j + 1) = (l.map g).take j ++ [g x] := by
      rw [List.take_add_one, List.getElem?_map, hx]
      rfl
    refine ⟨hw z, step x z H5 _ (List.mem_of_getElem? hx) s5 tz fun H6 s6 => ?_⟩
    refine ⟨_, s6 _ _ eD, ?_, same_put (s5.trans s6) hD, ?_⟩
    · rw [List.length_map, List.length_take, List.length_map]
      omega
    · rw [upd_same, tke, List.map_append]
      rfl
  · rintro H5 ⟨s5, eD⟩
    have e6 : (l.map g).take xs.length = l.map g := List.take_of_length_le (by rw [List.length_map, lx]; exact Nat.le_refl _)
    rw [e6] at eD
    exact fin H5 s5 eD
theorem scWv : FnScope ["variable", "name", "size"] ["variable"] (defScope sWv) := ⟨rfl, rfl, rfl, by decide +kernel, rfl, by decide +kernel, by decide +kernel⟩
theorem ok_wv {f : Addr} {fd : FuncData} (F : Fun K "write_variable" "write_variable" sWv f fd) (T : Bi mg) : FnOk P w K mg base CX0 1 f fd ["variable"] (spWv K) := by
  refine F.ok scWv (fun vs H Q E h => ?_) (fun cdv A outer s H vs Q E hr h => ?_)
  · obtain ⟨v, d, rfl, _⟩ := h
    rfl
  · obtain ⟨v, ⟨nm, z⟩, rfl, tv, sm, q⟩ := h
    have nd := scWv.nd
    have one : 1 ≤ sizeLine := by decide
    have two : 2 ≤ sizeLine := by decide
    obtain ⟨a, xs, rfl, sq, u1, r1, rfl, t1, u2, r2, rfl, t2, rfl⟩ := tv
    cases t1
    cases t2
    refine ⟨_, pss_cons (ps_asg (pv 0) (pg_tup (by rfl) (pgs_cons (pg_name (i := 1) nd rfl (.inl rfl)) (pgs_cons (pg_name (i := 2) nd rfl (.inl rfl)) pgs_nil))))
      (pss_one (ps_ret (pe_ifExp (pt_cmpR op_eq (pv 2) pe_int (nomark _)) (pe_lst (pa_cons (pv 1) pa_nil)) (pe_lst (pa_cons (pv 1) (pa_cons (pe_callTy call_str_int rfl T.str PyProof.Rows.boot_str (pa_cons (pv 2) pa_nil)) pa_nil)))))), ?_⟩
    refine ⟨_, rfl, a, _, rfl, sq, rfl, _, _, rfl, _, _, rfl, rfl, ?_⟩
    refine ⟨_, rfl, rfl, _, rfl, ?_⟩
    by_cases c : z = 0
    · refine iteT' (decide_eq_true (congrArg V.int c)) ?_
      refine ⟨_, rfl, one, fun L nL => ?_⟩
      refine q L _ nL (same_alloc nL) ?_
      have e : fDecl (nm, z) = [.w nm] := if_pos c
      rw [e]
      exact upd_same
    · refine iteF' (decide_eq_false (fun y => c (V.int.inj y))) ?_
      refine ⟨_, rfl, _, rfl, z, rfl, sm, two, fun L nL => ?_⟩
      refine q L _ nL (same_alloc nL) ?_
      have e : fDecl (nm, z) = [.w nm, num z] := if_neg c
      rw [e]
      exact upd_same
theorem scWp : FnScope nWp ["procedure"] (defScope sWp) := ⟨rfl, rfl, rfl, by decide +kernel, rfl, by decide +kernel, by decide +kernel⟩
theorem ok_wp {f : Addr} {fd : FuncData} (F : Fun K "write_procedure" "write_procedure" sWp f fd) (T : Bi mg) (c_wf : Cal P w K mg base CX0 1 "write_form" ["parts"] (spWf K)) (c_wv : Cal P w K mg base CX0 1 "write_variable" ["variable"] (spWv K)) (c_wss : Cal P w K mg base CX0 63 "write_statements" ["body"] (spWss K 16)) :
    FnOk P w K mg base CX0 64 f fd ["procedure"] (spP K 1 dWp) := by
  refine F.ok scWp (fun vs H Q E h => ?_) (fun cdv A outer s H vs Q E hr h => ?_)
  · obtain ⟨ds, d, hl, tl, _⟩ := h
    exact (tvl_len tl).trans hl
  · obtain ⟨ds, d, hl, tl, ⟨p, rfl, ok, hb, rfl⟩, q⟩ := h
    obtain ⟨v, _, rfl, tv, rfl⟩ := tl
    have nd := scWp.nd
    obtain ⟨a, xs, rfl, sq, u1, r1, rfl, t1, u2, r2, rfl, t2, u3, r3, rfl, t3, u4, r4, rfl, t4, rfl⟩ := id tv
    cases t1
    refine ⟨_, pss_cons (ps_asg (pv 0) (pg_tup (by rfl) (pgs_cons (pg_name (i := 1) nd rfl (.inl rfl)) (pgs_cons (pg_name (i := 2) nd rfl (.inl rfl)) (pgs_cons (pg_name (i := 3) nd rfl (.inl rfl)) (pgs_cons (pg_name (i := 4) nd rfl (.inl rfl)) pgs_nil))))))
      (pss_cons (ps_setLc (i := 5) (own := [("reference", 7)]) (g := gName 7) (tt := tYes) rfl nd rfl rfl (sw_true rfl rfl rfl (by decide +kernel)) (pi_tup (pv 3)) (blkOk_by (N := nWp) (sc := defScope sWp) (by decide +kernel)) (fun _ _ _ _ _ => pg_name (i := 7) nd rfl (.inl rfl)) (fun _ _ _ _ _ => pts_nil) (fun _ _ _ _ _ => (pe_call c_wf.ok (hr.mono (by first | decide | omega)) rfl c_wf.m c_wf.kp c_wf.b .nil pass0 (pa_cons (pe_call c_wv.ok (hr.mono (by first | decide | omega)) rfl c_wv.m c_wv.kp c_wv.b .nil pass0 (pa_cons (pv 7) pa_nil)) pa_nil))))
      (pss_cons (ps_set (i := 6) nd rfl (.inl rfl) (pe_lst (pa_cons pe_str (pa_cons (pv 1) (pa_cons (pe_call c_wf.ok (hr.mono (by first | decide | omega)) rfl c_wf.m c_wf.kp c_wf.b .nil pass0 (pa_cons (pv 2) pa_nil)) (pa_cons (pe_call c_wf.ok (hr.mono (by first | decide | omega)) rfl c_wf.m c_wf.kp c_wf.b .nil pass0 (pa_cons (pv 5) pa_nil)) pa_nil))))))
      (pss_one (ps_ret (pe_call c_wf.ok (hr.mono (by first | decide | omega)) rfl c_wf.m c_wf.kp c_wf.b .nil pass0 (pa_cons (pe_op op_cat (pv 6) (pe_call c_wss.ok (hr.mono (by first | decide | omega)) rfl c_wss.m c_wss.kp c_wss.b .nil pass0 (pa_cons (pv 4) pa_nil))) pa_nil)))))), ?_⟩
    refine ⟨_, rfl, a, _, rfl, sq, rfl, _, _, rfl, _, _, rfl, _, _, rfl, _, _, rfl, rfl, ?_⟩
    dsimp only
    obtain ⟨ok1, ok2, ok3⟩ := ok
    have eP : fProc p = .f ([.w "procedure", .w p.name, .f (p.idxs.map Fm.w), .f (p.refs.map fun d => .f (fDecl d))] ++ fSts p.body) := rfl
    have hb' := hb
    rw [eP] at hb'
    have h2 := tot_le ([.w "procedure", .w p.name, .f (p.idxs.map Fm.w), .f (p.refs.map fun d => .f (fDecl d))] ++ fSts p.body)
    have h3 := Nat.le_trans h2 hb'
    rw [tot_app] at h3
    have lr : (tx (.f (p.refs.map fun d => .f (fDecl d)))).length ≤ 10000000 := tot_mem (Nat.le_trans (Nat.le_add_right _ _) h3) (List.mem_cons_of_mem _ (List.mem_cons_of_mem _ (List.mem_cons_of_mem _ List.mem_cons_self)))
    have li : (tx (.f (p.idxs.map Fm.w))).length ≤ 10000000 := tot_mem (Nat.le_trans (Nat.le_add_right _ _) h3) (List.mem_cons_of_mem _ (List.mem_cons_of_mem _ List.mem_cons_self))
    have tb : tot (fSts p.body) ≤ 10000000 := Nat.le_trans (Nat.le_add_left _ _) h3
    have eN : txs (p.idxs.map Fm.w) = p.idxs := by
      rw [txs_map, List.map_map]
      exact List.map_id'' (fun _ => rfl) _
    have eR : txs (p.refs.map fun d => .f (fDecl d)) = p.refs.map fun d => tx (.f (fDecl d)) := by rw [txs_map, List.map_map]; rfl
    have nR : p.refs.length ≤ 10000000 := by
      have t0 := tot_le (p.refs.map fun d => .f (fDecl d))
      unfold tot at t0
      rw [List.length_map] at t0
      omega
    refine set_k (fun u H' => ∃ D, u = .ref D ∧ Same H H' ∧ H' D = some (.lst ((p.refs.map fun d => tx (.f (fDecl d))).map V.str))) (fun Q' kk => ?_) ?_
    · obtain ⟨a2, ys, rfl, sq2, tl2⟩ := id t3
      refine ⟨_, rfl, a2, rfl, ⟨_, sq2⟩, fun D hD => ?_⟩
      refine lc_of (g := fun d => tx (.f (fDecl d))) tl2 sq2 hD nR (fun z => rfl) (fun x z H5 R xm s5 tz kR => ?_) (fun H' s' e' => kk _ _ ⟨D, rfl, s', e'⟩)
      have lf : (tx (.f (fDecl x))).length ≤ 10000000 := sub_len lr (List.mem_map.mpr ⟨x, xm, rfl⟩)
      exact ⟨_, rfl, z, x, rfl, tz, ok3 x xm, fun L H6 nL s6 eL => ⟨L, txs (fDecl x), rfl, .inl (SqL.of eL), lf, fun H7 s7 => kR H7 (s6.trans s7)⟩⟩
    rintro _ H1 ⟨D, rfl, s1, eD⟩
    have lN : (frm p.idxs).length ≤ 10000000 := by
      have : (frm (txs (p.idxs.map Fm.w))).length ≤ 10000000 := li
      rw [eN] at this
      exact this
    have lR : (frm (p.refs.map fun d => tx (.f (fDecl d)))).length ≤ 10000000 := by
      have : (frm (txs (p.refs.map fun d => .f (fDecl d)))).length ≤ 10000000 := lr
      rw [eR] at this
      exact this
    refine set_k (fun u H' => ∃ L, u = .ref L ∧ Same H1 H' ∧ H' L = some (.lst ((["procedure", p.name, frm p.idxs, frm (p.refs.map fun d => tx (.f (fDecl d)))] : List Str).map V.str))) (fun Q' kk => ?_) ?_
    · obtain ⟨ai, zi, ei, si, li2⟩ := t2.carry (same_carry s1)
      subst ei
      have ez := tvl_str li2
      subst ez
      refine ⟨_, rfl, _, rfl, ai, p.idxs, rfl, .inr si, lN, fun H2 s2 => ⟨_, rfl, D, _, rfl, .inl (SqL.of (s2 _ _ eD)), lR, fun H3 s3 => ⟨(show 4 ≤ sizeLine by decide), fun L nL => kk _ _ ⟨L, rfl, (s2.trans s3).trans (same_alloc nL), upd_same⟩⟩⟩⟩
    rintro _ H2 ⟨L, rfl, s2, eL⟩
    have s12 := s1.trans s2
    refine ⟨_, rfl, _, rfl, u4, p.body, rfl, t4.carry (same_carry s12), fun s hs => Nat.lt_of_le_of_lt (depSts_mem hs) ok2, ok1, tb, fun M H3 nM s3 eM => ?_⟩
    have eF : tx (fProc p) = frm ((["procedure", p.name, frm p.idxs, frm (p.refs.map fun d => tx (.f (fDecl d)))] : List Str) ++ txs (fSts p.body)) := by
      have e4 : ([.w "procedure", .w p.name, .f (p.idxs.map Fm.w), .f (p.refs.map fun d => .f (fDecl d))] : List Fm).map tx = (["procedure", p.name, frm (txs (p.idxs.map Fm.w)), frm (txs (p.refs.map fun d => .f (fDecl d)))] : List Str) := rfl
      rw [eP]
      have e5 : tx (.f ([.w "procedure", .w p.name, .f (p.idxs.map Fm.w), .f (p.refs.map fun d => .f (fDecl d))] ++ fSts p.body)) = frm (txs ([.w "procedure", .w p.name, .f (p.idxs.map Fm.w), .f (p.refs.map fun d => .f (fDecl d))] ++ fSts p.body)) := by simp only [tx]
      rw [e5, txs_map, List.map_append, e4, ← txs_map, eN, eR]
    have big : 10000002 ≤ sizeLine := by decide
    rw [eF] at hb q
    refine ⟨L, M, _, _, rfl, rfl, s3 _ _ eL, eM, ?_, fun N nN => ⟨N, (["procedure", p.name, frm p.idxs, frm (p.refs.map fun d => tx (.f (fDecl d)))] : List Str) ++ txs (fSts p.body), rfl, .inl (SqL.of (by rw [upd_same, List.map_append])), hb, fun H4 s4 => q _ H4 ((s12.trans s3).trans ((same_alloc nN).trans s4)) rfl⟩⟩
    have := frm_len ((["procedure", p.name, frm p.idxs, frm (p.refs.map fun d => tx (.f (fDecl d)))] : List Str) ++ txs (fSts p.body))
    rw [List.length_append] at this
    rw [List.length_map, List.length_map]
    omega
end
end Sd

namespace Sd
open PySem L2 Tr Pu PyProof.Rows
def fHd (h : Str) (d : Decl) : Fm := .f (.w h :: fDecl d)
def textT (t : Tr.Tree) : Str := Txt.join ("\n" : Str) (txs (fTree t))
def okTr (t : Tr.Tree) : Prop := (∀ d ∈ t.state, Small d.2) ∧ (∀ d ∈ t.params, Small d.2) ∧ (∀ p ∈ t.procs, okPr p) ∧ okSts t.beat ∧ depSts t.beat < 16
def spWpr (K : PySem.W.Frag) : Sp := fun vs H Q _ => ∃ (v : V) (t : Tr.Tree), vs = [v] ∧ Tv K H t.enc v ∧ okTr t ∧ tot (fTree t) ≤ 10000000 ∧ ∀ H', Same H H' → Q (.str (textT t)) H'
section
variable {P : Program} {w : World} {K : PySem.W.Frag} {mg : Str → Option Value} {base : Heap}
theorem scWpr : FnScope nWpr ["tree"] (defScope sWpr) := ⟨rfl, rfl, rfl, by decide +kernel, rfl, by decide +kernel, by decide +kernel⟩
theorem ok_wpr {f : Addr} {fd : FuncData} (F : Fun K "write_program" "write_program" sWpr f fd) (T : Bi mg) (c_wf : Cal P w K mg base CX0 1 "write_form" ["parts"] (spWf K)) (c_wv : Cal P w K mg base CX0 1 "write_variable" ["variable"] (spWv K)) (c_wp : Cal P w K mg base CX0 64 "write_procedure" ["procedure"] (spP K 1 dWp))
    (c_wss : Cal P w K mg base CX0 63 "write_statements" ["body"] (spWss K 16)) : FnOk P w K mg base CX0 65 f fd ["tree"] (spWpr K) := by
  refine F.ok scWpr (fun vs H Q E h => ?_) (fun cdv A outer s H vs Q E hr h => ?_)
  · obtain ⟨v, t, rfl, _⟩ := h
    rfl
  · obtain ⟨v, t, rfl, tv, ⟨o1, o2, o3, o4, o5⟩, hb, q⟩ := h
    have nd := scWpr.nd
    have big : 10000002 ≤ sizeLine := by decide
    obtain ⟨a, xs, rfl, sq, u1, r1, rfl, t1, u2, r2, rfl, t2, u3, r3, rfl, t3, u4, r4, rfl, t4, rfl⟩ := tv
    have eT : fTree t = ((t.state.map (fHd "state") ++ t.params.map (fHd "param")) ++ t.procs.map fProc) ++ [.f (.w "beat" :: fSts t.beat)] := rfl
    have hb' := hb
    rw [eT, tot_app, tot_app, tot_app] at hb'
    refine ⟨_, pss_cons (ps_asg (pv 0) (pg_tup (by rfl) (pgs_cons (pg_name (i := 1) nd rfl (.inl rfl)) (pgs_cons (pg_name (i := 2) nd rfl (.inl rfl)) (pgs_cons (pg_name (i := 3) nd rfl (.inl rfl)) (pgs_cons (pg_name (i := 4) nd rfl (.inl rfl)) pgs_nil))))))
      (pss_cons (ps_setLc (i := 5) (own := [("variable", 6)]) (g := gName 6) (tt := tYes) rfl nd rfl rfl (sw_true rfl rfl rfl (by decide +kernel)) (pi_tup (pv 1)) (blkOk_by (N := nWpr) (sc := defScope sWpr) (by decide +kernel)) (fun _ _ _ _ _ => pg_name (i := 6) nd rfl (.inl rfl)) (fun _ _ _ _ _ => pts_nil) (fun _ _ _ _ _ => (pe_call c_wf.ok (hr.mono (by first | decide | omega)) rfl c_wf.m c_wf.kp c_wf.b .nil pass0 (pa_cons (pe_op op_cat (pe_lst (pa_cons pe_str pa_nil)) (pe_call c_wv.ok (hr.mono (by first | decide | omega)) rfl c_wv.m c_wv.kp c_wv.b .nil pass0 (pa_cons (pv 6) pa_nil))) pa_nil))))
      (pss_cons (ps_aug (i := 5) nd rfl (.inl rfl) (pe_lc (own := [("variable", 6)]) (g := gName 6) (tt := tYes) rfl nd (pi_tup (pv 2)) (blkOk_by (N := nWpr) (sc := defScope sWpr) (by decide +kernel)) (fun _ _ _ _ _ => pg_name (i := 6) nd rfl (.inl rfl)) (fun _ _ _ _ _ => pts_nil) (fun _ _ _ _ _ => (pe_call c_wf.ok (hr.mono (by first | decide | omega)) rfl c_wf.m c_wf.kp c_wf.b .nil pass0 (pa_cons (pe_op op_cat (pe_lst (pa_cons pe_str pa_nil)) (pe_call c_wv.ok (hr.mono (by first | decide | omega)) rfl c_wv.m c_wv.kp c_wv.b .nil pass0 (pa_cons (pv 6) pa_nil))) pa_nil)))) iop_ext)
      (pss_cons (ps_aug (i := 5) nd rfl (.inl rfl) (pe_lc (own := [("procedure", 7)]) (g := gName 7) (tt := tYes) rfl nd (pi_tup (pv 3)) (blkOk_by (N := nWpr) (sc := defScope sWpr) (by decide +kernel)) (fun _ _ _ _ _ => pg_name (i := 7) nd rfl (.inl rfl)) (fun _ _ _ _ _ => pts_nil) (fun _ _ _ _ _ => (pe_call c_wp.ok (hr.mono (by first | decide | omega)) rfl c_wp.m c_wp.kp c_wp.b .nil pass0 (pa_cons (pv 7) pa_nil)))) iop_ext)
      (pss_cons (ps_expr (pe_bm PySem.F.plainAttrs_list PySem.F.slot_list_append PySem.F.type_list_append mt_append (pv 5) (pa_cons (pe_call c_wf.ok (hr.mono (by first | decide | omega)) rfl c_wf.m c_wf.kp c_wf.b .nil pass0 (pa_cons (pe_op op_cat (pe_lst (pa_cons pe_str pa_nil)) (pe_call c_wss.ok (hr.mono (by first | decide | omega)) rfl c_wss.m c_wss.kp c_wss.b .nil pass0 (pa_cons (pv 4) pa_nil))) pa_nil)) pa_nil)))
      (pss_one (ps_ret (pe_join pe_str (pv 5)))))))), ?_⟩
    refine ⟨_, rfl, a, _, rfl, sq, rfl, _, _, rfl, _, _, rfl, _, _, rfl, _, _, rfl, rfl, ?_⟩
    dsimp only
    -- a row of declarations
    have row : ∀ (h : Str) (l : List Decl) (H5 : Hp) (z : V) (x : Decl) (R : VK) (σ : L2.St), x ∈ l → (∀ d ∈ l, Small d.2) → tot (l.map (fHd h)) ≤ 10000000 → Tv K H5 (Decl.enc x) z → σ[6]? = some (some z) → σ.length = 8 → (∀ H6, Same H5 H6 → R (.str (tx (fHd h x))) H6) →
        tCall (spWf K) [] E0 (tCons (tOp rCat (tLst (tCons (tC (.str h)) tNil)) (tCall (spWv K) [] E0 (tCons (tVar 6) tNil))) tNil) σ H5 R := by
      intro h l H5 z x R σ xm sm tt tz h6 l8 kR
      have en : En K H5 σ (List.replicate 8 none) := ⟨by rw [l8]; rfl, fun i d e => by
        rw [List.getElem?_replicate] at e
        split at e <;> cases e⟩
      have lf : (tx (fHd h x)).length ≤ 10000000 := tot_mem tt (List.mem_map.mpr ⟨x, xm, rfl⟩)
      exact form_cat (ss := [h]) (us := txs (fDecl x)) (da_one de_str) en (show 1 ≤ 1000 by decide) (fun H1 Q' s1 kk => ⟨_, h6, z, x, rfl, tz.carry (same_carry s1), sm x xm, fun L H2 nL s2 eL => kk L H2 s2 eL⟩) lf kR
    refine set_k (fun u H' => ∃ L, u = .ref L ∧ H L = none ∧ Same H H' ∧ H' L = some (.lst ((t.state.map fun d => tx (fHd "state" d)).map V.str))) (fun Q' kk => ?_) ?_
    · obtain ⟨a2, ys, rfl, sq2, tl2⟩ := id t1
      have nR : t.state.length ≤ 10000000 := by
        have : tot (t.state.map (fHd "state")) ≤ 10000000 := by omega
        unfold tot at this
        rw [List.length_map] at this
        omega
      refine ⟨_, rfl, a2, rfl, ⟨_, sq2⟩, fun D hD => ?_⟩
      exact lc_of (g := fun d => tx (fHd "state" d)) tl2 sq2 hD nR (fun z => rfl) (fun x z H5 R xm s5 tz kR => row "state" t.state H5 z x R _ xm o1 (by omega) tz rfl rfl kR) (fun H' s' e' => kk _ _ ⟨D, rfl, hD, s', e'⟩)
    rintro _ H1 ⟨L, rfl, nL, s1, eL⟩
    refine seq_k (fun σ' H' => Same H H' ∧ H' L = some (.lst (((t.state.map fun d => tx (fHd "state" d)) ++ (t.params.map fun d => tx (fHd "param" d))).map V.str)) ∧ σ' = [some (.ref a), some u1, some u2, some u3, some u4, some (.ref L), none, none]) (fun D' hD k => ?_) ?_
    · obtain ⟨a2, ys, rfl, sq2, tl2⟩ := t2.carry (same_carry s1)
      have nR : t.params.length ≤ 10000000 := by
        have : tot (t.params.map (fHd "param")) ≤ 10000000 := by omega
        unfold tot at this
        rw [List.length_map] at this
        omega
      have nS : t.state.length + t.params.length ≤ 10000000 := by
        have : tot (t.state.map (fHd "state")) + tot (t.params.map (fHd "param")) ≤ 10000000 := by omega
        unfold tot at this
        rw [List.length_map, List.length_map] at this
        omega
      refine ⟨_, rfl, _, rfl, a2, rfl, ⟨_, sq2⟩, fun D hD2 => ?_⟩
      refine lc_of (g := fun d => tx (fHd "param" d)) tl2 sq2 hD2 nR (fun z => rfl) (fun x z H5 R xm s5 tz kR => row "param" t.params H5 z x R _ xm o2 (by omega) tz rfl rfl kR) (fun H' s' e' => ?_)
      refine ⟨L, D, _, _, rfl, rfl, s' _ _ eL, e', by rw [List.length_map, List.length_map, List.length_map, List.length_map]; omega, ?_⟩
      exact k _ _ ⟨same_put (s1.trans s') nL, by rw [upd_same, List.map_append], rfl⟩
    clear s1 eL
    rintro _ H2 ⟨s2, eL, rfl⟩
    refine seq_k (fun σ' H' => Same H H' ∧ H' L = some (.lst ((((t.state.map fun d => tx (fHd "state" d)) ++ (t.params.map fun d => tx (fHd "param" d))) ++ (t.procs.map fun p => tx (fProc p))).map V.str)) ∧ σ' = [some (.ref a), some u1, some u2, some u3, some u4, some (.ref L), none, none]) (fun D' hD k => ?_) ?_
    · obtain ⟨a2, ys, rfl, sq2, tl2⟩ := t3.carry (same_carry s2)
      have lall : tot (t.procs.map fProc) ≤ 10000000 := by omega
      have nR : t.procs.length ≤ 10000000 := by
        have := lall
        unfold tot at this
        rw [List.length_map] at this
        omega
      have nS : t.state.length + t.params.length + t.procs.length ≤ 10000000 := by
        have : tot (t.state.map (fHd "state")) + tot (t.params.map (fHd "param")) + tot (t.procs.map fProc) ≤ 10000000 := by omega
        unfold tot at this
        rw [List.length_map, List.length_map, List.length_map] at this
        omega
      refine ⟨_, rfl, _, rfl, a2, rfl, ⟨_, sq2⟩, fun D hD2 => ?_⟩
      refine lc_of (g := fun p => tx (fProc p)) tl2 sq2 hD2 nR (fun z => rfl) (fun x z H5 R xm s5 tz kR => ?_) (fun H' s' e' => ?_)
      · refine ⟨_, rfl, [Proc.enc x], _, rfl, ⟨_, _, rfl, tz, rfl⟩, ⟨x, rfl, o3 x xm, tot_mem lall (List.mem_map.mpr ⟨x, xm, rfl⟩), rfl⟩, fun u H6 s6 tu => ?_⟩
        cases tu
        exact kR H6 s6
      · refine ⟨L, D, _, _, rfl, rfl, s' _ _ eL, e', by rw [List.length_map, List.length_append, List.length_map, List.length_map, List.length_map, List.length_map]; omega, ?_⟩
        exact k _ _ ⟨same_put (s2.trans s') nL, by rw [upd_same, List.map_append (l₁ := (t.state.map fun d => tx (fHd "state" d)) ++ (t.params.map fun d => tx (fHd "param" d)))], rfl⟩
    clear s2 eL
    rintro _ H3 ⟨s3, eL, rfl⟩
    have lb : (tx (.f (.w "beat" :: fSts t.beat))).length ≤ 10000000 := tot_mem (l := [.f (.w "beat" :: fSts t.beat)]) (by omega) List.mem_cons_self
    have tb : tot (fSts t.beat) ≤ 10000000 := by
      have h2 := tot_le ([.w "beat"] ++ fSts t.beat)
      rw [tot_app] at h2
      have h3 := Nat.le_trans h2 lb
      omega
    have nB := hb
    unfold tot at nB
    have eX : txs (fTree t) = (((t.state.map fun d => tx (fHd "state" d)) ++ (t.params.map fun d => tx (fHd "param" d))) ++ (t.procs.map fun p => tx (fProc p))) ++ [tx (.f (.w "beat" :: fSts t.beat))] := by
      rw [eT, txs_map, List.map_append, List.map_append, List.map_append, List.map_map, List.map_map, List.map_map]
      rfl
    have lX : (txs (fTree t)).length = (fTree t).length := by rw [txs_map, List.length_map]
    have en : En K H3 [some (.ref a), some u1, some u2, some u3, some u4, some (.ref L), none, none] (List.replicate 8 none) := ⟨rfl, fun i d e => by
      rw [List.getElem?_replicate] at e
      split at e <;> cases e⟩
    have eA : ∀ (A : List Str) (z : Str), A.map V.str ++ [V.str z] = (A ++ [z]).map V.str := fun A z => by rw [List.map_append]; rfl
    refine ⟨_, rfl, .inl ⟨rfl, _, SqL.of eL⟩, ?_⟩
    refine form_cat (ss := ["beat"]) (us := txs (fSts t.beat)) (da_one de_str) en (show 1 ≤ 1000 by decide) (fun H4 Q' s4 kk => ⟨_, rfl, u4, t.beat, rfl, t4.carry (same_carry (s3.trans s4)), fun s hs => Nat.lt_of_le_of_lt (depSts_mem hs) o5, o4, tb, fun M H5 nM s5 eM => kk M H5 s5 eM⟩) lb fun H6 s6 => ?_
    have eL6 := s6 _ _ eL
    refine ⟨L, _, _, rfl, rfl, eL6, ?_, ?_⟩
    · have := congrArg List.length eX
      rw [lX, List.length_append] at this
      rw [List.length_map]
      have h1 : ([tx (.f (.w "beat" :: fSts t.beat))] : List Str).length = 1 := rfl
      omega
    refine ⟨⟨_, rfl⟩, _, rfl, _, L, txs (fTree t), rfl, rfl, .inl (SqL.of (by rw [upd_same, eX]; exact congrArg (fun z => some (HO.lst z)) (eA _ (tx (.f (.w "beat" :: fSts t.beat)))))), ?_, q _ (same_put (s3.trans s6) nL)⟩
    have e1 : ("\n" : Str).length = 1 := by decide +kernel
    rw [e1, lX]
    omega
end
end Sd

namespace Pu
open PySem L2 Tr PyProof.Rows
/-! ### pure code whose worth is a list of texts -/
def DL (K : PySem.W.Frag) (te : TE) (ρ : Rho) (ss : List Str) : Prop := ∀ σ H (Q : VK), En K H σ ρ → (∀ L H2, Same H H2 → H2 L = some (.lst (ss.map V.str)) → Q (.ref L) H2) → te σ H Q
def DLR (K : PySem.W.Frag) (ts : TS) (ρ : Rho) (ss : List Str) : Prop := ∀ (D : Ends) σ H, En K H σ ρ → (∀ L H2, Same H H2 → H2 L = some (.lst (ss.map V.str)) → D.rt (.ref L) H2) → ts D σ H
def spL (K : PySem.W.Frag) (n : Nat) (dom : List PyData → List Str → Prop) : Sp := fun vs H Q _ => ∃ (ds : List PyData) (ss : List Str), ds.length = n ∧ TvL K H ds vs ∧ dom ds ss ∧ ∀ L H2, Same H H2 → H2 L = some (.lst (ss.map V.str)) → Q (.ref L) H2
section
variable {K : PySem.W.Frag} {H : Hp} {σ : L2.St} {ρ ρ' : Rho} {te ta tb : TE} {tl : TA} {t : TT} {ts tu tz : TS} {ss us : List Str} {d : PyData} {ds : List PyData}
theorem tvl_strs' : ∀ {ss : List Str} {xs : List V}, TvL K H (ss.map PyData.str) xs → xs = ss.map V.str
  | [], xs, h => h
  | s :: r, xs, h => by
    obtain ⟨x, ys, rfl, t, l⟩ := h
    cases t
    rw [tvl_strs' l]
    rfl
theorem dl_lst (h : DA K tl ρ (ss.map PyData.str)) (hl : ss.length ≤ 1000 := by decide) : DL K (tLst tl) ρ ss := fun σ H Q en q =>
  h σ H _ en fun xs H1 s1 t => by
    have e := tvl_strs' t
    subst e
    exact ⟨by rw [List.length_map]; exact Nat.le_of_lt (small1000 hl), fun L nL => q L _ (s1.trans (same_put nL)) upd_same⟩
theorem dl_cat (ha : DL K ta ρ ss) (hb : DL K tb ρ us) (hl : ss.length + us.length ≤ 10000000) : DL K (tOp rCat ta tb) ρ (ss ++ us) := fun σ H Q en q =>
  ha σ H _ en fun L H1 s1 e1 => hb σ H1 _ (en.next s1) fun M H2 s2 e2 => by
    have big : 10000002 ≤ sizeLine := by decide
    refine ⟨L, M, _, _, rfl, rfl, s2 _ _ e1, e2, by rw [List.length_map, List.length_map]; omega, fun N nN => ?_⟩
    exact q N _ ((s1.trans s2).trans (same_put nN)) (by rw [upd_same, List.map_append])
theorem dl_call {sp : Sp} {E : XK} (h : DA K tl ρ ds) (g : ∀ vs H (Q : VK), TvL K H ds vs → (∀ L H2, Same H H2 → H2 L = some (.lst (ss.map V.str)) → Q (.ref L) H2) → sp vs H Q E) : DL K (tCall sp [] E tl) ρ ss := fun σ H Q en q =>
  h σ H _ en fun vs H1 s1 tv => by
    show sp (vs ++ []) H1 Q E
    rw [List.append_nil]
    exact g vs H1 Q tv fun L H2 s2 e => q L H2 (s1.trans s2) e
theorem pl_L {n : Nat} {dom : List PyData → List Str → Prop} {E : XK} (h : dom ds ss) (hn : ds.length = n := by rfl) : ∀ vs H (Q : VK), TvL K H ds vs → (∀ L H2, Same H H2 → H2 L = some (.lst (ss.map V.str)) → Q (.ref L) H2) → spL K n dom vs H Q E := fun vs H Q tv q => ⟨ds, ss, hn, tv, h, q⟩
theorem dl_of {a b : List Str} (e : a = b) (h : DL K te ρ a) : DL K te ρ b := e ▸ h
theorem dlr_ret (h : DL K te ρ ss) : DLR K (tRet te) ρ ss := fun D σ H en q => h σ H _ en q
theorem dlr_whenT (h : DT K t ρ true) (g : DLR K ts ρ ss) : DLR K (tSeq (tIfS t ts tz) tu) ρ ss := fun D σ H en q => h σ H _ en fun H1 s1 => by
  exact iteT' rfl (g { D with nx := tu D } σ H1 (en.next s1) fun L H2 s2 e => q L H2 (s1.trans s2) e)
theorem dlr_whenF (h : DT K t ρ false) (g : DLR K tu ρ ss) : DLR K (tSeq (tIfS t ts tNext) tu) ρ ss := fun D σ H en q => h σ H _ en fun H1 s1 => by
  exact iteF' rfl (g D σ H1 (en.next s1) fun L H2 s2 e => q L H2 (s1.trans s2) e)
theorem dlr_set {i : Nat} (h : DE K te ρ d) (g : DLR K tu (ρ.set i (some d)) ss) : DLR K (tSeq (tAsg te (gName i)) tu) ρ ss := fun D σ H en q => h σ H _ en fun v H1 s1 tv => g D _ H1 ((en.next s1).put tv) fun L H2 s2 e => q L H2 (s1.trans s2) e
end
section
variable {P : Program} {w : World} {K : PySem.W.Frag} {mg : Str → Option Value} {base : Heap}
theorem ok_L {x qual : Str} {st : Stmt} {f : Addr} {fd : FuncData} {N ps : List Str} {k : Nat} {dom : List PyData → List Str → Prop} (F : Fun K x qual st f fd) (S : FnScope N ps (defScope st))
    (hN : ps.length ≤ N.length)
    (body : ∀ (cdv : Value) (A : Around) (outer : List Env) (s : Shared) (H : Hp) (E : XK), Room k (A.deeper (envOfC qual (defScope st) s.heap.objs.size f cdv)) →
      ∃ t, PSs (cxOf CX0 P w K mg base N qual (defScope st) f cdv A outer s H E).nox (defBody st) t ∧ ∀ ds ss, ds.length = ps.length → dom ds ss → DLR K t (ds.map some ++ List.replicate (N.length - ds.length) none) ss) :
    FnOk P w K mg base CX0 (k + 1) f fd ps (spL K ps.length dom) := by
  refine F.ok S (fun vs H Q E h => ?_) (fun cdv A outer s H vs Q E hr h => ?_)
  · obtain ⟨ds, ss, hl, tl, _⟩ := h
    rw [tvl_len tl, hl]
  · obtain ⟨ds, ss, hl, tl, hd, q⟩ := h
    obtain ⟨t, ht, hb⟩ := body cdv A outer s H E hr
    exact ⟨t, ht, hb ds ss hl hd _ _ H (en_start tl (by rw [hl]; exact hN)) q⟩
end
end Pu

namespace Sd
open PySem L2 Tr Pu PyProof.Rows
/-! ### the law's own words -/
mutual
def wd : Fm → List Str
  | .w s => [s]
  | .f l => ("(" : Str) :: (wds l ++ [(")" : Str)])
def wds : List Fm → List Str
  | [] => []
  | x :: r => wd x ++ wds r
end
theorem wds_app : ∀ a b : List Fm, wds (a ++ b) = wds a ++ wds b
  | [], b => rfl
  | x :: r, b => by
    show wd x ++ wds (r ++ b) = (wd x ++ wds r) ++ wds b
    rw [wds_app r b, List.append_assoc]
abbrev sLix : Stmt := top 73
abbrev sLpl : Stmt := top 74
abbrev sLex : Stmt := top 75
abbrev sLts : Stmt := top 76
def dLix (k : Nat) (ds : List PyData) (ss : List Str) : Prop := ∃ x : Ix, ds = [x.enc] ∧ depIx x < k ∧ okIx x ∧ (wd (fIx x)).length ≤ 1000000 ∧ ss = wd (fIx x)
def dLpl (k : Nat) (ds : List PyData) (ss : List Str) : Prop := ∃ (nm : Str) (ix : Option Ix), ds = [.str nm, encO ix] ∧ depOx ix < k ∧ okOx ix ∧ (wd (fPl nm ix)).length ≤ 1000000 ∧ ss = wd (fPl nm ix)
def dLex (k : Nat) (ds : List PyData) (ss : List Str) : Prop := ∃ x : Ex, ds = [x.enc] ∧ depEx x < k ∧ okEx x ∧ okDx x ∧ (wd (fEx x)).length ≤ 1000000 ∧ ss = wd (fEx x)
def dLts (k : Nat) (ds : List PyData) (ss : List Str) : Prop := ∃ x : Ts, ds = [x.enc] ∧ depTs x < k ∧ okTs x ∧ okDt x ∧ (wd (fTs x)).length ≤ 1000000 ∧ ss = wd (fTs x)
theorem wd_mem {l : List Fm} {x : Fm} {n : Nat} (h : (wd (.f l)).length ≤ n) (m : x ∈ l) : (wd x).length ≤ n := by
  have g : ∀ l : List Fm, x ∈ l → (wd x).length ≤ (wds l).length := by
    intro l
    induction l with
    | nil => intro m; cases m
    | cons y r ih =>
      intro m
      show (wd x).length ≤ (wd y ++ wds r).length
      rw [List.length_append]
      rcases List.mem_cons.mp m with rfl | m
      · omega
      · have := ih m; omega
  have h1 := g l m
  have h2 : (("(" : Str) :: (wds l ++ [(")" : Str)])).length ≤ n := h
  rw [List.length_cons, List.length_append] at h2
  omega
section
variable {P : Program} {w : World} {K : PySem.W.Frag} {mg : Str → Option Value} {base : Heap}
theorem scLix : FnScope ["index", "op"] ["index"] (defScope sLix) := ⟨rfl, rfl, rfl, by decide +kernel, rfl, by decide +kernel, by decide +kernel⟩
theorem de_strN {te : TE} {ρ : Rho} {i : Int} (h : DE K te ρ (.int i)) (hs : Small i) : DE K (tCB (fun xs H Q => ∃ i, xs = [.int i] ∧ i.natAbs.log2 < 1920 ∧ Q (.str (toString i)) H) (tCons te tNil)) ρ (.str (toString i)) := fun σ H Q en q =>
  h σ H _ en fun v H1 s1 tv => ⟨i, by cases tv; rfl, hs, q _ H1 s1 rfl⟩
theorem ok_lix1 {f : Addr} {fd : FuncData} {k : Nat} (F : Fun K "_law_index_text" "_law_index_text" sLix f fd) (T : Bi mg) (c_lix : Cal P w K mg base CX0 (k + 1) "_law_index_text" ["index"] (spL K 1 (dLix k))) :
    FnOk P w K mg base CX0 (k + 1 + 1) f fd ["index"] (spL K 1 (dLix (k + 1))) := by
  have nd := scLix.nd
  refine ok_L F scLix (by decide) (fun cdv A outer s H E hr => ⟨_, pss_cons (ps_set (i := 1) nd rfl (.inl rfl) (pe_ix ix_tup (pv 0) pe_int (fun _ _ => rfl)))
      (pss_cons (ps_if (pt_cmpR op_eq (pv 1) pe_str (nomark _)) (pss_one (ps_ret (pe_lst (pa_cons (pe_callTy call_str_int rfl T.str PyProof.Rows.boot_str (pa_cons (pe_ix ix_tup (pv 0) pe_int (fun _ _ => rfl)) pa_nil)) pa_nil)))) pss_nil)
      (pss_cons (ps_if (pt_cmpR op_eq (pv 1) pe_str (nomark _)) (pss_one (ps_ret (pe_lst (pa_cons (pe_ix ix_tup (pv 0) pe_int (fun _ _ => rfl)) pa_nil)))) pss_nil)
      (pss_cons (ps_if (pt_cmpR op_eq (pv 1) pe_str (nomark _)) (pss_one (ps_ret (pe_lst (pa_cons pe_str pa_nil)))) pss_nil)
      (pss_cons (ps_if (pt_cmpR op_eq (pv 1) pe_str (nomark _)) (pss_one (ps_ret (pe_op op_cat (pe_op op_cat (pe_lst (pa_cons pe_str (pa_cons pe_str pa_nil))) (pe_call c_lix.ok (hr.mono (by first | decide | omega)) rfl c_lix.m c_lix.kp c_lix.b .nil pass0 (pa_cons (pe_ix ix_tup (pv 0) pe_int (fun _ _ => rfl)) pa_nil))) (pe_lst (pa_cons (pe_callTy call_str_int rfl T.str PyProof.Rows.boot_str (pa_cons (pe_ix ix_tup (pv 0) pe_int (fun _ _ => rfl)) pa_nil)) (pa_cons pe_str pa_nil)))))) pss_nil)
      (pss_one (ps_ret (pe_op op_cat (pe_op op_cat (pe_op op_cat (pe_lst (pa_cons pe_str (pa_cons (pv 1) pa_nil))) (pe_call c_lix.ok (hr.mono (by first | decide | omega)) rfl c_lix.m c_lix.kp c_lix.b .nil pass0 (pa_cons (pe_ix ix_tup (pv 0) pe_int (fun _ _ => rfl)) pa_nil))) (pe_call c_lix.ok (hr.mono (by first | decide | omega)) rfl c_lix.m c_lix.kp c_lix.b .nil pass0 (pa_cons (pe_ix ix_tup (pv 0) pe_int (fun _ _ => rfl)) pa_nil))) (pe_lst (pa_cons pe_str pa_nil))))))))), ?_⟩)
  rintro ds d - ⟨x, rfl, hk, ok, hb, rfl⟩
  cases x with
  | int n =>
    refine dlr_set (de_ix (d := .str "integer") (de_var rfl) de_int rfl) ?_
    exact dlr_whenT (dt_test (de_eqS (b := true) (de_var rfl) de_str (by decide +kernel))) (dlr_ret (dl_lst (ss := [toString n]) (da_one (de_strN (de_ix (d := .int n) (de_var rfl) de_int rfl) ok)) (show 1 ≤ 1000 by decide)))
  | beat =>
    refine dlr_set (de_ix (d := .str "beat") (de_var rfl) de_int rfl) ?_
    refine dlr_whenF (dt_test (de_eqS (b := false) (de_var rfl) de_str (by decide +kernel))) ?_
    refine dlr_whenF (dt_test (de_eqS (b := false) (de_var rfl) de_str (by decide +kernel))) ?_
    exact dlr_whenT (dt_test (de_eqS (b := true) (de_var rfl) de_str (by decide +kernel))) (dlr_ret (dl_lst (ss := ["beat"]) (da_one de_str) (show 1 ≤ 1000 by decide)))
  | var z =>
    refine dlr_set (de_ix (d := .str "index") (de_var rfl) de_int rfl) ?_
    refine dlr_whenF (dt_test (de_eqS (b := false) (de_var rfl) de_str (by decide +kernel))) ?_
    exact dlr_whenT (dt_test (de_eqS (b := true) (de_var rfl) de_str (by decide +kernel))) (dlr_ret (dl_lst (ss := [z]) (da_one (de_ix (d := .str z) (de_var rfl) de_int rfl)) (show 1 ≤ 1000 by decide)))
  | rem a n =>
    have ha : depIx a < k := Nat.lt_of_succ_lt_succ hk
    have la : (wd (fIx a)).length ≤ 1000000 := wd_mem (l := [.w "rem", fIx a, num n]) hb (by simp)
    refine dlr_set (de_ix (d := .str "rem") (de_var rfl) de_int rfl) ?_
    refine dlr_whenF (dt_test (de_eqS (b := false) (de_var rfl) de_str (by decide +kernel))) ?_
    refine dlr_whenF (dt_test (de_eqS (b := false) (de_var rfl) de_str (by decide +kernel))) ?_
    refine dlr_whenF (dt_test (de_eqS (b := false) (de_var rfl) de_str (by decide +kernel))) ?_
    refine dlr_whenT (dt_test (de_eqS (b := true) (de_var rfl) de_str (by decide +kernel))) (dlr_ret ?_)
    refine dl_of (a := ((["(", "rem"] : List Str) ++ wd (fIx a)) ++ ([toString n, ")"] : List Str)) ?_ (dl_cat (dl_cat (dl_lst (ss := ["(", "rem"]) (da_cons de_str (da_one de_str)) (show 2 ≤ 1000 by decide)) (dl_call (da_one (de_ix (d := a.enc) (de_var rfl) de_int rfl)) (pl_L ⟨a, rfl, ha, ok.1, la, rfl⟩)) ?_) (dl_lst (ss := [toString n, ")"]) (da_cons (de_strN (de_ix (d := .int n) (de_var rfl) de_int rfl) ok.2) (da_one de_str)) (show 2 ≤ 1000 by decide)) ?_)
    · show _ = ("(" : Str) :: (([("rem" : Str)] ++ (wd (fIx a) ++ ([Str.ofString (toString n)] ++ []))) ++ [(")" : Str)])
      simp
    · show 2 + _ ≤ _; omega
    · rw [List.length_append]; show 2 + _ + 2 ≤ _; omega
  | op o a b =>
    have ha : depIx a < k := Nat.lt_of_le_of_lt (Nat.le_max_left _ _) (Nat.lt_of_succ_lt_succ hk)
    have hbb : depIx b < k := Nat.lt_of_le_of_lt (Nat.le_max_right _ _) (Nat.lt_of_succ_lt_succ hk)
    have la : (wd (fIx a)).length ≤ 1000000 := wd_mem (l := [.w o.str, fIx a, fIx b]) hb (by simp)
    have lb : (wd (fIx b)).length ≤ 1000000 := wd_mem (l := [.w o.str, fIx a, fIx b]) hb (by simp)
    have e1 : decide (o.str = ("beat" : Str)) = false := by cases o <;> decide +kernel
    have e2 : decide (o.str = ("integer" : Str)) = false := by cases o <;> decide +kernel
    have e3 : decide (o.str = ("index" : Str)) = false := by cases o <;> decide +kernel
    have e4 : decide (o.str = ("rem" : Str)) = false := by cases o <;> decide +kernel
    refine dlr_set (de_ix (d := .str o.str) (de_var rfl) de_int rfl) ?_
    refine dlr_whenF (dt_test (de_eqS (b := false) (de_var rfl) de_str e2)) ?_
    refine dlr_whenF (dt_test (de_eqS (b := false) (de_var rfl) de_str e3)) ?_
    refine dlr_whenF (dt_test (de_eqS (b := false) (de_var rfl) de_str e1)) ?_
    refine dlr_whenF (dt_test (de_eqS (b := false) (de_var rfl) de_str e4)) (dlr_ret ?_)
    refine dl_of (a := (((["(", o.str] : List Str) ++ wd (fIx a)) ++ wd (fIx b)) ++ ([")"] : List Str)) ?_ (dl_cat (dl_cat (dl_cat (dl_lst (ss := ["(", o.str]) (da_cons de_str (da_one (de_var rfl))) (show 2 ≤ 1000 by decide)) (dl_call (da_one (de_ix (d := a.enc) (de_var rfl) de_int rfl)) (pl_L ⟨a, rfl, ha, ok.1, la, rfl⟩)) ?_) (dl_call (da_one (de_ix (d := b.enc) (de_var rfl) de_int rfl)) (pl_L ⟨b, rfl, hbb, ok.2, lb, rfl⟩)) ?_) (dl_lst (ss := [")"]) (da_one de_str) (show 1 ≤ 1000 by decide)) ?_)
    · show _ = ("(" : Str) :: (([o.str] ++ (wd (fIx a) ++ (wd (fIx b) ++ []))) ++ [(")" : Str)])
      simp
    · show 2 + _ ≤ _; omega
    · rw [List.length_append]; show 2 + _ + _ ≤ _; omega
    · rw [List.length_append, List.length_append]; show 2 + _ + _ + 1 ≤ _; omega
theorem ok_lix {f : Addr} {fd : FuncData} (F : Fun K "_law_index_text" "_law_index_text" sLix f fd) (T : Bi mg) (b : Binds K fd ["index"] []) (m : mg "_law_index_text" = some (.ref f)) : ∀ k : Nat, FnOk P w K mg base CX0 (k + 1) f fd ["index"] (spL K 1 (dLix k))
  | 0 => ⟨fun vs H Q E h => by obtain ⟨_, _, _, _, ⟨_, _, z, _⟩, _⟩ := h; exact absurd z (Nat.not_lt_zero _), fun A outer s H args us vs Q E _ _ _ _ h => by obtain ⟨_, _, _, _, ⟨_, _, z, _⟩, _⟩ := h; exact absurd z (Nat.not_lt_zero _)⟩
  | k + 1 => ok_lix1 F T ⟨f, fd, ok_lix F T b m k, b, F.kp, m⟩
theorem scLpl : FnScope ["name", "index"] ["name", "index"] (defScope sLpl) := ⟨rfl, rfl, rfl, by decide +kernel, rfl, by decide +kernel, by decide +kernel⟩
theorem ok_lpl {f : Addr} {fd : FuncData} {k : Nat} (F : Fun K "_law_place_text" "_law_place_text" sLpl f fd) (T : Bi mg) (c_lix : Cal P w K mg base CX0 (k + 1) "_law_index_text" ["index"] (spL K 1 (dLix k))) :
    FnOk P w K mg base CX0 (k + 1 + 1) f fd ["name", "index"] (spL K 2 (dLpl k)) := by
  refine ok_L F scLpl (by decide) (fun cdv A outer s H E hr => ⟨_, pss_cons (ps_if (pt_cmpR op_isN (pv 1) pe_non (nomark _)) (pss_one (ps_ret (pe_lst (pa_cons (pv 0) pa_nil)))) pss_nil)
      (pss_one (ps_ret (pe_op op_cat (pe_op op_cat (pe_lst (pa_cons pe_str (pa_cons pe_str (pa_cons (pv 0) pa_nil)))) (pe_call c_lix.ok (hr.mono (by first | decide | omega)) rfl c_lix.m c_lix.kp c_lix.b .nil pass0 (pa_cons (pv 1) pa_nil))) (pe_lst (pa_cons pe_str pa_nil))))), ?_⟩)
  rintro ds d - ⟨nm, ix, rfl, hk, ok, hb, rfl⟩
  cases ix with
  | none => exact dlr_whenT (dt_test (de_isN (b := true) (d := .none) (fun _ _ _ q => ⟨rfl, q⟩) (de_var rfl) rfl)) (dlr_ret (dl_lst (ss := [nm]) (da_one (de_var rfl)) (show 1 ≤ 1000 by decide)))
  | some x =>
    have lx : (wd (fIx x)).length ≤ 1000000 := wd_mem (l := [.w "at", .w nm, fIx x]) hb (by simp)
    refine dlr_whenF (dt_test (de_isN (b := false) (d := x.enc) (fun _ _ _ q => ⟨rfl, q⟩) (de_var rfl) (by cases x <;> rfl))) (dlr_ret ?_)
    refine dl_of (a := ((["(", "at", nm] : List Str) ++ wd (fIx x)) ++ ([")"] : List Str)) ?_ (dl_cat (dl_cat (dl_lst (ss := ["(", "at", nm]) (da_cons de_str (da_cons de_str (da_one (de_var rfl)))) (show 3 ≤ 1000 by decide)) (dl_call (da_one (de_var (d := x.enc) rfl)) (pl_L ⟨x, rfl, hk, ok, lx, rfl⟩)) ?_) (dl_lst (ss := [")"]) (da_one de_str) (show 1 ≤ 1000 by decide)) ?_)
    · show _ = ("(" : Str) :: (([("at" : Str)] ++ ([nm] ++ (wd (fIx x) ++ []))) ++ [(")" : Str)])
      simp
    · show 3 + _ ≤ _; omega
    · rw [List.length_append]; show 3 + _ + 1 ≤ _; omega
theorem scLex : FnScope ["expression", "op"] ["expression"] (defScope sLex) := ⟨rfl, rfl, rfl, by decide +kernel, rfl, by decide +kernel, by decide +kernel⟩
theorem ok_lex1 {f : Addr} {fd : FuncData} {k : Nat} (F : Fun K "_law_expression_text" "_law_expression_text" sLex f fd) (T : Bi mg) (c_lpl : Cal P w K mg base CX0 10 "_law_place_text" ["name", "index"] (spL K 2 (dLpl 8))) (c_lex : Cal P w K mg base CX0 (k + 10) "_law_expression_text" ["expression"] (spL K 1 (dLex k))) :
    FnOk P w K mg base CX0 (k + 10 + 1) f fd ["expression"] (spL K 1 (dLex (k + 1))) := by
  have nd := scLex.nd
  refine ok_L F scLex (by decide) (fun cdv A outer s H E hr => ⟨_, pss_cons (ps_set (i := 1) nd rfl (.inl rfl) (pe_ix ix_tup (pv 0) pe_int (fun _ _ => rfl)))
      (pss_cons (ps_if (pt_cmpR op_eq (pv 1) pe_str (nomark _)) (pss_one (ps_ret (pe_lst (pa_cons (pe_callTy call_str_int rfl T.str PyProof.Rows.boot_str (pa_cons (pe_ix ix_tup (pv 0) pe_int (fun _ _ => rfl)) pa_nil)) pa_nil)))) pss_nil)
      (pss_cons (ps_if (pt_cmpR op_eq (pv 1) pe_str (nomark _)) (pss_one (ps_ret (pe_call c_lpl.ok (hr.mono (by first | decide | omega)) rfl c_lpl.m c_lpl.kp c_lpl.b .nil pass0 (pa_cons (pe_ix ix_tup (pv 0) pe_int (fun _ _ => rfl)) (pa_cons (pe_ix ix_tup (pv 0) pe_int (fun _ _ => rfl)) pa_nil))))) pss_nil)
      (pss_one (ps_ret (pe_op op_cat (pe_op op_cat (pe_op op_cat (pe_lst (pa_cons pe_str (pa_cons (pv 1) pa_nil))) (pe_call c_lex.ok (hr.mono (by first | decide | omega)) rfl c_lex.m c_lex.kp c_lex.b .nil pass0 (pa_cons (pe_ix ix_tup (pv 0) pe_int (fun _ _ => rfl)) pa_nil))) (pe_call c_lex.ok (hr.mono (by first | decide | omega)) rfl c_lex.m c_lex.kp c_lex.b .nil pass0 (pa_cons (pe_ix ix_tup (pv 0) pe_int (fun _ _ => rfl)) pa_nil))) (pe_lst (pa_cons pe_str pa_nil))))))), ?_⟩)
  rintro ds d - ⟨x, rfl, hk, ok, hx, hb, rfl⟩
  cases x with
  | num n =>
    refine dlr_set (de_ix (d := .str "number") (de_var rfl) de_int rfl) ?_
    exact dlr_whenT (dt_test (de_eqS (b := true) (de_var rfl) de_str (by decide +kernel))) (dlr_ret (dl_lst (ss := [toString n]) (da_one (de_strN (de_ix (d := .int n) (de_var rfl) de_int rfl) ok)) (show 1 ≤ 1000 by decide)))
  | place nm ix =>
    refine dlr_set (de_ix (d := .str "place") (de_var rfl) de_int rfl) ?_
    refine dlr_whenF (dt_test (de_eqS (b := false) (de_var rfl) de_str (by decide +kernel))) ?_
    exact dlr_whenT (dt_test (de_eqS (b := true) (de_var rfl) de_str (by decide +kernel))) (dlr_ret (dl_call (da_cons (de_ix (d := .str nm) (de_var rfl) de_int rfl) (da_one (de_ix (d := encO ix) (de_var rfl) de_int rfl))) (pl_L ⟨nm, ix, rfl, hx, ok, hb, rfl⟩)))
  | op o a b =>
    have ha : depEx a < k := Nat.lt_of_le_of_lt (Nat.le_max_left _ _) (Nat.lt_of_succ_lt_succ hk)
    have hbb : depEx b < k := Nat.lt_of_le_of_lt (Nat.le_max_right _ _) (Nat.lt_of_succ_lt_succ hk)
    have la : (wd (fEx a)).length ≤ 1000000 := wd_mem (l := [.w o.str, fEx a, fEx b]) hb (by simp)
    have lb : (wd (fEx b)).length ≤ 1000000 := wd_mem (l := [.w o.str, fEx a, fEx b]) hb (by simp)
    have e1 : decide (o.str = ("number" : Str)) = false := by cases o <;> decide +kernel
    have e2 : decide (o.str = ("place" : Str)) = false := by cases o <;> decide +kernel
    refine dlr_set (de_ix (d := .str o.str) (de_var rfl) de_int rfl) ?_
    refine dlr_whenF (dt_test (de_eqS (b := false) (de_var rfl) de_str e1)) ?_
    refine dlr_whenF (dt_test (de_eqS (b := false) (de_var rfl) de_str e2)) (dlr_ret ?_)
    refine dl_of (a := (((["(", o.str] : List Str) ++ wd (fEx a)) ++ wd (fEx b)) ++ ([")"] : List Str)) ?_ (dl_cat (dl_cat (dl_cat (dl_lst (ss := ["(", o.str]) (da_cons de_str (da_one (de_var rfl))) (show 2 ≤ 1000 by decide)) (dl_call (da_one (de_ix (d := a.enc) (de_var rfl) de_int rfl)) (pl_L ⟨a, rfl, ha, ok.1, hx.1, la, rfl⟩)) ?_) (dl_call (da_one (de_ix (d := b.enc) (de_var rfl) de_int rfl)) (pl_L ⟨b, rfl, hbb, ok.2, hx.2, lb, rfl⟩)) ?_) (dl_lst (ss := [")"]) (da_one de_str) (show 1 ≤ 1000 by decide)) ?_)
    · show _ = ("(" : Str) :: (([o.str] ++ (wd (fEx a) ++ (wd (fEx b) ++ []))) ++ [(")" : Str)])
      simp
    · show 2 + _ ≤ _; omega
    · rw [List.length_append]; show 2 + _ + _ ≤ _; omega
    · rw [List.length_append, List.length_append]; show 2 + _ + _ + 1 ≤ _; omega
theorem ok_lex {f : Addr} {fd : FuncData} (F : Fun K "_law_expression_text" "_law_expression_text" sLex f fd) (T : Bi mg) (c_lpl : Cal P w K mg base CX0 10 "_law_place_text" ["name", "index"] (spL K 2 (dLpl 8))) (b : Binds K fd ["expression"] []) (m : mg "_law_expression_text" = some (.ref f)) : ∀ k : Nat, FnOk P w K mg base CX0 (k + 10) f fd ["expression"] (spL K 1 (dLex k))
  | 0 => ⟨fun vs H Q E h => by obtain ⟨_, _, _, _, ⟨_, _, z, _⟩, _⟩ := h; exact absurd z (Nat.not_lt_zero _), fun A outer s H args us vs Q E _ _ _ _ h => by obtain ⟨_, _, _, _, ⟨_, _, z, _⟩, _⟩ := h; exact absurd z (Nat.not_lt_zero _)⟩
  | k + 1 => ok_lex1 F T c_lpl ⟨f, fd, ok_lex F T c_lpl b m k, b, F.kp, m⟩
theorem scLts : FnScope ["test"] ["test"] (defScope sLts) := ⟨rfl, rfl, rfl, by decide +kernel, rfl, by decide +kernel, by decide +kernel⟩
theorem ok_lts1 {f : Addr} {fd : FuncData} {k : Nat} (F : Fun K "_law_test_text" "_law_test_text" sLts f fd) (T : Bi mg) (c_lix : Cal P w K mg base CX0 9 "_law_index_text" ["index"] (spL K 1 (dLix 8))) (c_lex : Cal P w K mg base CX0 18 "_law_expression_text" ["expression"] (spL K 1 (dLex 8)))
    (c_lts : Cal P w K mg base CX0 (k + 18) "_law_test_text" ["test"] (spL K 1 (dLts k))) : FnOk P w K mg base CX0 (k + 18 + 1) f fd ["test"] (spL K 1 (dLts (k + 1))) := by
  refine ok_L F scLts (by decide) (fun cdv A outer s H E hr => ⟨_, pss_cons (ps_if (pt_cmpR op_eq (pe_ix ix_tup (pv 0) pe_int (fun _ _ => rfl)) pe_str (nomark _)) (pss_one (ps_ret (pe_op op_cat (pe_op op_cat (pe_lst (pa_cons pe_str (pa_cons pe_str pa_nil))) (pe_call c_lex.ok (hr.mono (by first | decide | omega)) rfl c_lex.m c_lex.kp c_lex.b .nil pass0 (pa_cons (pe_ix ix_tup (pv 0) pe_int (fun _ _ => rfl)) pa_nil))) (pe_lst (pa_cons pe_str pa_nil))))) pss_nil)
      (pss_cons (ps_if (pt_cmpR op_eq (pe_ix ix_tup (pv 0) pe_int (fun _ _ => rfl)) pe_str (nomark _)) (pss_one (ps_ret (pe_op op_cat (pe_op op_cat (pe_lst (pa_cons pe_str (pa_cons pe_str pa_nil))) (pe_call c_lts.ok (hr.mono (by first | decide | omega)) rfl c_lts.m c_lts.kp c_lts.b .nil pass0 (pa_cons (pe_ix ix_tup (pv 0) pe_int (fun _ _ => rfl)) pa_nil))) (pe_lst (pa_cons pe_str pa_nil))))) pss_nil)
      (pss_one (ps_ret (pe_op op_cat (pe_op op_cat (pe_op op_cat (pe_lst (pa_cons pe_str (pa_cons (pe_ix ix_tup (pv 0) pe_int (fun _ _ => rfl)) pa_nil))) (pe_call c_lix.ok (hr.mono (by first | decide | omega)) rfl c_lix.m c_lix.kp c_lix.b .nil pass0 (pa_cons (pe_ix ix_tup (pv 0) pe_int (fun _ _ => rfl)) pa_nil))) (pe_call c_lix.ok (hr.mono (by first | decide | omega)) rfl c_lix.m c_lix.kp c_lix.b .nil pass0 (pa_cons (pe_ix ix_tup (pv 0) pe_int (fun _ _ => rfl)) pa_nil))) (pe_lst (pa_cons pe_str pa_nil)))))), ?_⟩)
  rintro ds d - ⟨x, rfl, hk, ok, hx, hb, rfl⟩
  cases x with
  | zero e =>
    have le : (wd (fEx e)).length ≤ 1000000 := wd_mem (l := [.w "zero", fEx e]) hb (by simp)
    refine dlr_whenT (dt_test (de_eqS (b := true) (de_ix (d := .str "zero") (de_var rfl) de_int rfl) de_str (by decide +kernel))) (dlr_ret ?_)
    refine dl_of (a := ((["(", "zero"] : List Str) ++ wd (fEx e)) ++ ([")"] : List Str)) ?_ (dl_cat (dl_cat (dl_lst (ss := ["(", "zero"]) (da_cons de_str (da_one de_str)) (show 2 ≤ 1000 by decide)) (dl_call (da_one (de_ix (d := e.enc) (de_var rfl) de_int rfl)) (pl_L ⟨e, rfl, hx.1, ok, hx.2, le, rfl⟩)) ?_) (dl_lst (ss := [")"]) (da_one de_str) (show 1 ≤ 1000 by decide)) ?_)
    · show _ = ("(" : Str) :: (([("zero" : Str)] ++ (wd (fEx e) ++ [])) ++ [(")" : Str)])
      simp
    · show 2 + _ ≤ _; omega
    · rw [List.length_append]; show 2 + _ + 1 ≤ _; omega
  | not t =>
    have lt : (wd (fTs t)).length ≤ 1000000 := wd_mem (l := [.w "not", fTs t]) hb (by simp)
    refine dlr_whenF (dt_test (de_eqS (b := false) (de_ix (d := .str "not") (de_var rfl) de_int rfl) de_str (by decide +kernel))) ?_
    refine dlr_whenT (dt_test (de_eqS (b := true) (de_ix (d := .str "not") (de_var rfl) de_int rfl) de_str (by decide +kernel))) (dlr_ret ?_)
    refine dl_of (a := ((["(", "not"] : List Str) ++ wd (fTs t)) ++ ([")"] : List Str)) ?_ (dl_cat (dl_cat (dl_lst (ss := ["(", "not"]) (da_cons de_str (da_one de_str)) (show 2 ≤ 1000 by decide)) (dl_call (da_one (de_ix (d := t.enc) (de_var rfl) de_int rfl)) (pl_L ⟨t, rfl, Nat.lt_of_succ_lt_succ hk, ok, hx, lt, rfl⟩)) ?_) (dl_lst (ss := [")"]) (da_one de_str) (show 1 ≤ 1000 by decide)) ?_)
    · show _ = ("(" : Str) :: (([("not" : Str)] ++ (wd (fTs t) ++ [])) ++ [(")" : Str)])
      simp
    · show 2 + _ ≤ _; omega
    · rw [List.length_append]; show 2 + _ + 1 ≤ _; omega
  | less a b =>
    have la : (wd (fIx a)).length ≤ 1000000 := wd_mem (l := [.w "less", fIx a, fIx b]) hb (by simp)
    have lb : (wd (fIx b)).length ≤ 1000000 := wd_mem (l := [.w "less", fIx a, fIx b]) hb (by simp)
    refine dlr_whenF (dt_test (de_eqS (b := false) (de_ix (d := .str "less") (de_var rfl) de_int rfl) de_str (by decide +kernel))) ?_
    refine dlr_whenF (dt_test (de_eqS (b := false) (de_ix (d := .str "less") (de_var rfl) de_int rfl) de_str (by decide +kernel))) (dlr_ret ?_)
    refine dl_of (a := (((["(", "less"] : List Str) ++ wd (fIx a)) ++ wd (fIx b)) ++ ([")"] : List Str)) ?_ (dl_cat (dl_cat (dl_cat (dl_lst (ss := ["(", "less"]) (da_cons de_str (da_one (de_ix (d := .str "less") (de_var rfl) de_int rfl))) (show 2 ≤ 1000 by decide)) (dl_call (da_one (de_ix (d := a.enc) (de_var rfl) de_int rfl)) (pl_L ⟨a, rfl, hx.1, ok.1, la, rfl⟩)) ?_) (dl_call (da_one (de_ix (d := b.enc) (de_var rfl) de_int rfl)) (pl_L ⟨b, rfl, hx.2, ok.2, lb, rfl⟩)) ?_) (dl_lst (ss := [")"]) (da_one de_str) (show 1 ≤ 1000 by decide)) ?_)
    · show _ = ("(" : Str) :: (([("less" : Str)] ++ (wd (fIx a) ++ (wd (fIx b) ++ []))) ++ [(")" : Str)])
      simp
    · show 2 + _ ≤ _; omega
    · rw [List.length_append]; show 2 + _ + _ ≤ _; omega
    · rw [List.length_append, List.length_append]; show 2 + _ + _ + 1 ≤ _; omega
  | equal a b =>
    have la : (wd (fIx a)).length ≤ 1000000 := wd_mem (l := [.w "equal", fIx a, fIx b]) hb (by simp)
    have lb : (wd (fIx b)).length ≤ 1000000 := wd_mem (l := [.w "equal", fIx a, fIx b]) hb (by simp)
    refine dlr_whenF (dt_test (de_eqS (b := false) (de_ix (d := .str "equal") (de_var rfl) de_int rfl) de_str (by decide +kernel))) ?_
    refine dlr_whenF (dt_test (de_eqS (b := false) (de_ix (d := .str "equal") (de_var rfl) de_int rfl) de_str (by decide +kernel))) (dlr_ret ?_)
    refine dl_of (a := (((["(", "equal"] : List Str) ++ wd (fIx a)) ++ wd (fIx b)) ++ ([")"] : List Str)) ?_ (dl_cat (dl_cat (dl_cat (dl_lst (ss := ["(", "equal"]) (da_cons de_str (da_one (de_ix (d := .str "equal") (de_var rfl) de_int rfl))) (show 2 ≤ 1000 by decide)) (dl_call (da_one (de_ix (d := a.enc) (de_var rfl) de_int rfl)) (pl_L ⟨a, rfl, hx.1, ok.1, la, rfl⟩)) ?_) (dl_call (da_one (de_ix (d := b.enc) (de_var rfl) de_int rfl)) (pl_L ⟨b, rfl, hx.2, ok.2, lb, rfl⟩)) ?_) (dl_lst (ss := [")"]) (da_one de_str) (show 1 ≤ 1000 by decide)) ?_)
    · show _ = ("(" : Str) :: (([("equal" : Str)] ++ (wd (fIx a) ++ (wd (fIx b) ++ []))) ++ [(")" : Str)])
      simp
    · show 2 + _ ≤ _; omega
    · rw [List.length_append]; show 2 + _ + _ ≤ _; omega
    · rw [List.length_append, List.length_append]; show 2 + _ + _ + 1 ≤ _; omega
theorem ok_lts {f : Addr} {fd : FuncData} (F : Fun K "_law_test_text" "_law_test_text" sLts f fd) (T : Bi mg) (c_lix : Cal P w K mg base CX0 9 "_law_index_text" ["index"] (spL K 1 (dLix 8))) (c_lex : Cal P w K mg base CX0 18 "_law_expression_text" ["expression"] (spL K 1 (dLex 8)))
    (b : Binds K fd ["test"] []) (m : mg "_law_test_text" = some (.ref f)) : ∀ k : Nat, FnOk P w K mg base CX0 (k + 18) f fd ["test"] (spL K 1 (dLts k))
  | 0 => ⟨fun vs H Q E h => by obtain ⟨_, _, _, _, ⟨_, _, z, _⟩, _⟩ := h; exact absurd z (Nat.not_lt_zero _), fun A outer s H args us vs Q E _ _ _ _ h => by obtain ⟨_, _, _, _, ⟨_, _, z, _⟩, _⟩ := h; exact absurd z (Nat.not_lt_zero _)⟩
  | k + 1 => ok_lts1 F T c_lix c_lex ⟨f, fd, ok_lts F T c_lix c_lex b m k, b, F.kp, m⟩
end
end Sd

namespace Sd
open PySem L2 Tr Pu PyProof.Rows
/-! ### lists of texts, at one heap -/
def LTs (σ : L2.St) (H : Hp) (te : TE) (ss : List Str) : Prop := ∀ H1, Same H H1 → ∀ Q : VK, (∀ L H2, Same H1 H2 → H2 L = some (.lst (ss.map V.str)) → Q (.ref L) H2) → te σ H1 Q
section
variable {K : PySem.W.Frag} {H H' : Hp} {σ : L2.St} {ρ : Rho} {te ta tb : TE} {ss us : List Str}
theorem LTs.next (h : LTs σ H te ss) (s : Same H H') : LTs σ H' te ss := fun H1 s1 Q q => h H1 (s.trans s1) Q q
theorem lt_dl (en : En K H σ ρ) (h : DL K te ρ ss) : LTs σ H te ss := fun H1 s1 Q q => h σ H1 Q (en.next s1) q
theorem lt_var {i : Nat} {L : Addr} (e : σ[i]? = some (some (.ref L))) (h : H L = some (.lst (ss.map V.str))) : LTs σ H (tVar i) ss := fun H1 s1 Q q => ⟨_, e, q L H1 (same_refl H1) (s1 _ _ h)⟩
theorem lt_cat (ha : LTs σ H ta ss) (hb : LTs σ H tb us) (hl : ss.length + us.length ≤ 10000000) : LTs σ H (tOp rCat ta tb) (ss ++ us) := fun H1 s1 Q q =>
  ha H1 s1 _ fun L H2 s2 e2 => hb H2 (s1.trans s2) _ fun M H3 s3 e3 => by
    have big : 10000002 ≤ sizeLine := by decide
    refine ⟨L, M, _, _, rfl, rfl, s3 _ _ e2, e3, by rw [List.length_map, List.length_map]; omega, fun N nN => ?_⟩
    exact q N _ ((s2.trans s3).trans (same_put nN)) (by rw [upd_same, List.map_append])
theorem lt_go {Q : VK} (h : LTs σ H te ss) (k : ∀ L H2, Same H H2 → H2 L = some (.lst (ss.map V.str)) → Q (.ref L) H2) : te σ H Q := h H (same_refl H) Q k
theorem asg_l {i : Nat} {D : Ends} (h : LTs σ H te ss) (k : ∀ L H2, Same H H2 → H2 L = some (.lst (ss.map V.str)) → D.nx (σ.set i (some (.ref L))) H2) : tAsg te (gName i) D σ H := h H (same_refl H) _ k
theorem set_l {i : Nat} {tu : TS} {D : Ends} (h : LTs σ H te ss) (k : ∀ L H2, Same H H2 → H2 L = some (.lst (ss.map V.str)) → tu D (σ.set i (some (.ref L))) H2) : tSeq (tAsg te (gName i)) tu D σ H := h H (same_refl H) _ k
theorem lt_of {a b : List Str} (e : a = b) (h : LTs σ H te a) : LTs σ H te b := e ▸ h
end
/-- the forms of a statement -/
def inS : Tr.St → List Fm
  | .set nm ix e => [.w "set", fPl nm ix, fEx e]
  | .call g xs ns => [.w "call", .w g, .f (xs.map fIx), .f (ns.map Fm.w)]
  | .loop nm c b => [.w "loop", .w nm, fIx c] ++ fSts b
  | .ite t a b => [.w "if", fTs t, .f (fSts a), .f (fSts b)]
  | .bind nm e b => [.w "let", .w nm, fEx e] ++ fSts b
theorem fSt_in (x : Tr.St) : fSt x = .f (inS x) := by cases x <;> rfl
theorem wd_f (l : List Fm) : wd (.f l) = ("(" : Str) :: (wds l ++ [(")" : Str)]) := by simp only [wd]
theorem wds_mem {x : Fm} : ∀ {l : List Fm}, x ∈ l → (wd x).length ≤ (wds l).length
  | y :: r, m => by
    show (wd x).length ≤ (wd y ++ wds r).length
    rw [List.length_append]
    rcases List.mem_cons.mp m with rfl | m
    · omega
    · have := wds_mem m; omega
abbrev sLbt : Stmt := top 77
abbrev nLbt : List Str := ["body", "words", "statement"]
abbrev sLst : Stmt := top 78
abbrev nLst : List Str := ["statement", "op", "words", "index"]
def dLst (k : Nat) (ds : List PyData) (ss : List Str) : Prop := ∃ x : Tr.St, ds = [x.enc] ∧ depSt x < k ∧ okSt x ∧ (wds (inS x)).length ≤ 1000000 ∧ ss = wds (inS x)
def dLbt (k : Nat) (ds : List PyData) (ss : List Str) : Prop := ∃ b : List Tr.St, ds = [.tuple (St.encs b)] ∧ (∀ s ∈ b, depSt s < k) ∧ okSts b ∧ (wds (fSts b)).length ≤ 1000000 ∧ ss = wds (fSts b)
section
variable {P : Program} {w : World} {K : PySem.W.Frag} {mg : Str → Option Value} {base : Heap}
theorem scLbt : FnScope nLbt ["body"] (defScope sLbt) := ⟨rfl, rfl, rfl, by decide +kernel, rfl, by decide +kernel, by decide +kernel⟩
theorem ok_lbt {f : Addr} {fd : FuncData} {k c : Nat} (F : Fun K "_law_body_text" "_law_body_text" sLbt f fd) (c_lst : Cal P w K mg base CX0 c "_law_statement_text" ["statement"] (spL K 1 (dLst k))) : FnOk P w K mg base CX0 (c + 1) f fd ["body"] (spL K 1 (dLbt k)) := by
  refine F.ok scLbt (fun vs H Q E h => ?_) (fun cdv A outer s H vs Q E hr h => ?_)
  · obtain ⟨ds, ss, hl, tl, _⟩ := h
    exact (tvl_len tl).trans hl
  · obtain ⟨ds, ss, hl, tl, ⟨b, rfl, hd, ho, ht, rfl⟩, q⟩ := h
    obtain ⟨v, _, rfl, tv, rfl⟩ := tl
    have nd := scLbt.nd
    obtain ⟨a, xs, rfl, sq, tl⟩ := tv
    have lx : xs.length = b.length := by rw [tvl_len tl, encs_map, List.length_map]
    refine ⟨_, pss_cons (ps_set (i := 1) nd rfl (.inl rfl) (pe_lst pa_nil))
      (pss_cons (ps_for PassesOwn.never rfl (pi_tup (pv 0)) (pg_name (i := 2) nd rfl (.inl rfl)) (pss_one (ps_set (i := 1) nd rfl (.inl rfl) (pe_op op_cat (pe_op op_cat (pe_op op_cat (pv 1) (pe_lst (pa_cons pe_str pa_nil))) (pe_call c_lst.ok (hr.mono (by first | decide | omega)) rfl c_lst.m c_lst.kp c_lst.b .nil pass0 (pa_cons (pv 2) pa_nil))) (pe_lst (pa_cons pe_str pa_nil))))))
      (pss_one (ps_ret (pv 1)))), ?_⟩
    refine set_k (fun u H' => ∃ L, u = .ref L ∧ Same H H' ∧ H' L = some (.lst [])) (fun Q' kk => ⟨Nat.zero_le _, fun L nL => kk _ _ ⟨L, rfl, same_alloc nL, upd_same⟩⟩) ?_
    rintro _ H1 ⟨L0, rfl, s1, e1⟩
    refine ⟨_, rfl, a, rfl, ⟨_, same_carry s1 _ _ sq⟩, for_tup (K := K) (a := a) (xs := xs) (fun i σ H' => Same H H' ∧ ∃ (L : Addr) (w : Option V), σ = [some (.ref a), some (.ref L), w] ∧ H' L = some (.lst ((wds ((fSts b).take i)).map V.str))) ⟨s1, L0, none, rfl, e1⟩ (fun i σ H' _ h => same_carry h.1 _ _ sq) ?_ ?_⟩
    · rintro i x σ H2 hi ⟨s2, L, w0, rfl, eL⟩
      have il : i < b.length := by rw [← lx]; exact (List.getElem?_eq_some_iff.mp hi).1
      obtain ⟨y, hy⟩ : ∃ y, b[i]? = some y := ⟨_, List.getElem?_eq_getElem il⟩
      have ym := List.mem_of_getElem? hy
      obtain ⟨x', hx', tx⟩ := tvl_get (j := i) (d := y.enc) (TvL.carry (same_carry s2) _ _ tl) (by rw [encs_map, List.getElem?_map, hy]; rfl)
      rw [hi] at hx'
      cases hx'
      have ef : (fSts b)[i]? = some (fSt y) := by rw [fSts_map, List.getElem?_map, hy]; rfl
      have tk : wds ((fSts b).take (i + 1)) = ((wds ((fSts b).take i) ++ (["("] : List Str)) ++ wds (inS y)) ++ ([")"] : List Str) := by
        have e0 : (fSts b).take (i + 1) = (fSts b).take i ++ [fSt y] := by rw [List.take_add_one, ef]; rfl
        have e2 : wds [fSt y] = wd (fSt y) ++ [] := rfl
        rw [e0, wds_app, e2, fSt_in, wd_f, List.append_nil]
        simp
      have len : (wds ((fSts b).take (i + 1))).length ≤ 1000000 := by
        have e3 : wds (fSts b) = wds ((fSts b).take (i + 1)) ++ wds ((fSts b).drop (i + 1)) := by rw [← wds_app, List.take_append_drop]
        rw [e3, List.length_append] at ht
        omega
      rw [tk, List.length_append, List.length_append, List.length_append] at len
      have one : (([")"] : List Str)).length = 1 := rfl
      have one' : ((["("] : List Str)).length = 1 := rfl
      rw [one, one'] at len
      have en : En K H2 [some (.ref a), some (.ref L), some x] [none, none, some y.enc] := en_n (en_n (en_s tx en_0))
      show tAsg _ (gName 1) _ [some (.ref a), some (.ref L), some x] H2
      refine asg_l (ss := ((wds ((fSts b).take i) ++ (["("] : List Str)) ++ wds (inS y)) ++ ([")"] : List Str)) ?_ fun M H3 s3 eM => ?_
      · exact lt_cat (lt_cat (lt_cat (lt_var rfl eL) (lt_dl en (dl_lst (ss := ["("]) (da_one de_str) (show 1 ≤ 1000 by decide))) (by rw [one']; omega)) (lt_dl en (dl_call (da_one (de_var (d := y.enc) rfl)) (pl_L ⟨y, rfl, hd y ym, okSts_mem ho ym, by omega, rfl⟩))) (by rw [List.length_append, one']; omega)) (lt_dl en (dl_lst (ss := [")"]) (da_one de_str) (show 1 ≤ 1000 by decide))) (by rw [List.length_append, List.length_append, one, one']; omega)
      exact ⟨s2.trans s3, M, some x, rfl, by rw [eM, tk]⟩
    · rintro σ H2 ⟨s2, L, w0, rfl, eL⟩
      have e6 : (fSts b).take xs.length = fSts b := List.take_of_length_le (by rw [fSts_map, List.length_map, lx]; exact Nat.le_refl _)
      rw [e6] at eL
      exact ⟨_, rfl, q L H2 s2 eL⟩
end
end Sd

namespace Sd
open PySem L2 Tr Pu PyProof.Rows
section
variable {K : PySem.W.Frag} {H H' : Hp} {σ : L2.St} {ρ : Rho} {te ta tb : TE} {ss us : List Str} {tu : TS}
theorem en_setN {i : Nat} {v : V} (en : En K H σ ρ) (hi : ρ[i]? = some none) : En K H (σ.set i (some v)) ρ := ⟨by rw [List.length_set]; exact en.1, fun j d q => by
  rw [List.getElem?_set]
  by_cases c : i = j
  · subst c; rw [hi] at q; cases q
  · rw [if_neg c]; exact en.2 j d q⟩
theorem en_at {i : Nat} {v : V} (en : En K H σ ρ) (hi : ρ[i]? = some none) : (σ.set i (some v))[i]? = some (some v) := by
  have l : i < σ.length := by rw [en.1]; exact (List.getElem?_eq_some_iff.mp hi).1
  rw [List.getElem?_set_self l]
theorem dlr_setL {i : Nat} (hi : ρ[i]? = some none) (h : DL K te ρ us) (g : ∀ (D : Ends) σ H L, En K H σ ρ → σ[i]? = some (some (.ref L)) → H L = some (.lst (us.map V.str)) → (∀ M H2, Same H H2 → H2 M = some (.lst (ss.map V.str)) → D.rt (.ref M) H2) → tu D σ H) :
    DLR K (tSeq (tAsg te (gName i)) tu) ρ ss := fun D σ H en q => h σ H _ en fun L H1 s1 e => g D _ H1 L (en_setN (en.next s1) hi) (en_at en hi) e fun M H2 s2 e2 => q M H2 (s1.trans s2) e2
theorem dlr_go {ts : TS} {D : Ends} (h : DLR K ts ρ ss) (en : En K H σ ρ) (q : ∀ L H2, Same H H2 → H2 L = some (.lst (ss.map V.str)) → D.rt (.ref L) H2) : ts D σ H := h D σ H en q
theorem ret_l {D : Ends} (h : LTs σ H te ss) (k : ∀ L H2, Same H H2 → H2 L = some (.lst (ss.map V.str)) → D.rt (.ref L) H2) : tRet te D σ H := h H (same_refl H) _ k
theorem dl_list (h : DE K te ρ (.tuple (ss.map PyData.str))) : DL K (tCB (fun xs H Q => ∃ p ys, xs = [.ref p] ∧ (SqL K H p ys ∨ SqT K H p ys) ∧ ∀ l, H l = none → Q (.ref l) (upd H l (.lst ys))) (tCons te tNil)) ρ ss := fun σ H Q en q =>
  h σ H _ en fun v H1 s1 tv => by
    obtain ⟨a, xs, rfl, sq, tl⟩ := tv
    have e := tvl_strs' tl
    subst e
    exact ⟨a, _, rfl, .inr sq, fun l hl => q l _ (s1.trans (same_put hl)) upd_same⟩
end
/-- a loop over the items of a tuple -/
theorem for_k {K : PySem.W.Frag} {H : Hp} {σ : L2.St} {ρ : Rho} {te : TE} {tb tu : TS} {g : TG} {D : Ends} {ds : List PyData} (Pr : Nat → L2.St → Hp → Prop) (h : DE K te ρ (.tuple ds)) (en : En K H σ ρ) (h0 : ∀ H1, Same H H1 → Pr 0 σ H1)
    (step : ∀ i x d σ2 H2 (D2 : Ends), ds[i]? = some d → Pr i σ2 H2 → Tv K H2 d x → (∀ σ3 H3, Same H2 H3 → Pr (i + 1) σ3 H3 → D2.nx σ3 H3) → g x σ2 H2 fun σ3 H3 => tb D2 σ3 H3) (hd : ∀ σ2 H2, Pr ds.length σ2 H2 → tu D σ2 H2) :
    tSeq (tFor (iTup K te) g tb) tu D σ H := h σ H _ en fun v H1 s1 tv => by
  obtain ⟨a, xs, rfl, sq, tl⟩ := tv
  refine ⟨a, rfl, ⟨_, sq⟩, for_tup (K := K) (a := a) (xs := xs) (fun i σ' H' => Same H1 H' ∧ Pr i σ' H') ⟨same_refl _, h0 H1 s1⟩ (fun i σ' H' _ h => same_carry h.1 _ _ sq) ?_ ?_⟩
  · rintro i x σ2 H2 hi ⟨s2, pr⟩
    have il : i < ds.length := by rw [← tvl_len tl]; exact (List.getElem?_eq_some_iff.mp hi).1
    obtain ⟨d, hd⟩ : ∃ d, ds[i]? = some d := ⟨_, List.getElem?_eq_getElem il⟩
    obtain ⟨x', hx', t⟩ := tvl_get (TvL.carry (same_carry s2) _ _ tl) hd
    rw [hi] at hx'
    cases hx'
    exact step i x d σ2 H2 _ hd pr t fun σ3 H3 s3 pr3 => ⟨s2.trans s3, pr3⟩
  · rintro σ2 H2 ⟨s2, pr⟩
    rw [tvl_len tl] at pr
    exact hd σ2 H2 pr
theorem wds_w : ∀ ns : List Str, wds (ns.map Fm.w) = ns
  | [] => rfl
  | s :: r => by
    show [s] ++ wds (r.map Fm.w) = s :: r
    rw [wds_w r]
    rfl
theorem wds_c (x : Fm) (r : List Fm) : wds (x :: r) = wd x ++ wds r := by simp only [wds]
theorem wds_n : wds [] = [] := by simp only [wds]
theorem wd_w (s : Str) : wd (.w s) = [s] := by simp only [wd]
section
variable {P : Program} {w : World} {K : PySem.W.Frag} {mg : Str → Option Value} {base : Heap}
theorem scLst : FnScope nLst ["statement"] (defScope sLst) := ⟨rfl, rfl, rfl, by decide +kernel, rfl, by decide +kernel, by decide +kernel⟩
theorem ok_lst1 {f : Addr} {fd : FuncData} {k c : Nat} (F : Fun K "_law_statement_text" "_law_statement_text" sLst f fd) (T : Bi mg) (hc : 26 ≤ c) (c_lix : Cal P w K mg base CX0 9 "_law_index_text" ["index"] (spL K 1 (dLix 8))) (c_lpl : Cal P w K mg base CX0 10 "_law_place_text" ["name", "index"] (spL K 2 (dLpl 8)))
    (c_lex : Cal P w K mg base CX0 18 "_law_expression_text" ["expression"] (spL K 1 (dLex 8))) (c_lts : Cal P w K mg base CX0 26 "_law_test_text" ["test"] (spL K 1 (dLts 8))) (c_lbt : Cal P w K mg base CX0 c "_law_body_text" ["body"] (spL K 1 (dLbt k))) :
    FnOk P w K mg base CX0 (c + 1) f fd ["statement"] (spL K 1 (dLst (k + 1))) := by
  have nd := scLst.nd
  refine ok_L F scLst (by decide) (fun cdv A outer s H E hr => ⟨_, pss_cons (ps_set (i := 1) nd rfl (.inl rfl) (pe_ix ix_tup (pv 0) pe_int (fun _ _ => rfl)))
      (pss_cons (ps_if (pt_cmpR op_eq (pv 1) pe_str (nomark _)) (pss_one (ps_ret (pe_op op_cat (pe_op op_cat (pe_lst (pa_cons pe_str pa_nil)) (pe_call c_lpl.ok (hr.mono (by first | decide | omega)) rfl c_lpl.m c_lpl.kp c_lpl.b .nil pass0 (pa_cons (pe_ix ix_tup (pe_ix ix_tup (pv 0) pe_int (fun _ _ => rfl)) pe_int (fun _ _ => rfl)) (pa_cons (pe_ix ix_tup (pe_ix ix_tup (pv 0) pe_int (fun _ _ => rfl)) pe_int (fun _ _ => rfl)) pa_nil)))) (pe_call c_lex.ok (hr.mono (by first | decide | omega)) rfl c_lex.m c_lex.kp c_lex.b .nil pass0 (pa_cons (pe_ix ix_tup (pv 0) pe_int (fun _ _ => rfl)) pa_nil))))) pss_nil)
      (pss_cons (ps_if (pt_cmpR op_eq (pv 1) pe_str (nomark _)) (pss_one (ps_ret (pe_op op_cat (pe_op op_cat (pe_lst (pa_cons pe_str (pa_cons (pe_ix ix_tup (pv 0) pe_int (fun _ _ => rfl)) pa_nil))) (pe_call c_lix.ok (hr.mono (by first | decide | omega)) rfl c_lix.m c_lix.kp c_lix.b .nil pass0 (pa_cons (pe_ix ix_tup (pv 0) pe_int (fun _ _ => rfl)) pa_nil))) (pe_call c_lbt.ok (hr.mono (by first | decide | omega)) rfl c_lbt.m c_lbt.kp c_lbt.b .nil pass0 (pa_cons (pe_ix ix_tup (pv 0) pe_int (fun _ _ => rfl)) pa_nil))))) pss_nil)
      (pss_cons (ps_if (pt_cmpR op_eq (pv 1) pe_str (nomark _)) (pss_one (ps_ret (pe_op op_cat (pe_op op_cat (pe_lst (pa_cons pe_str (pa_cons (pe_ix ix_tup (pv 0) pe_int (fun _ _ => rfl)) pa_nil))) (pe_call c_lex.ok (hr.mono (by first | decide | omega)) rfl c_lex.m c_lex.kp c_lex.b .nil pass0 (pa_cons (pe_ix ix_tup (pv 0) pe_int (fun _ _ => rfl)) pa_nil))) (pe_call c_lbt.ok (hr.mono (by first | decide | omega)) rfl c_lbt.m c_lbt.kp c_lbt.b .nil pass0 (pa_cons (pe_ix ix_tup (pv 0) pe_int (fun _ _ => rfl)) pa_nil))))) pss_nil)
      (pss_cons (ps_if (pt_cmpR op_eq (pv 1) pe_str (nomark _)) (pss_cons (ps_set (i := 2) nd rfl (.inl rfl) (pe_op op_cat (pe_op op_cat (pe_op op_cat (pe_op op_cat (pe_lst (pa_cons pe_str pa_nil)) (pe_call c_lts.ok (hr.mono (by first | decide | omega)) rfl c_lts.m c_lts.kp c_lts.b .nil pass0 (pa_cons (pe_ix ix_tup (pv 0) pe_int (fun _ _ => rfl)) pa_nil))) (pe_lst (pa_cons pe_str pa_nil))) (pe_call c_lbt.ok (hr.mono (by first | decide | omega)) rfl c_lbt.m c_lbt.kp c_lbt.b .nil pass0 (pa_cons (pe_ix ix_tup (pv 0) pe_int (fun _ _ => rfl)) pa_nil))) (pe_lst (pa_cons pe_str pa_nil))))
      (pss_one (ps_ret (pe_op op_cat (pe_op op_cat (pe_op op_cat (pv 2) (pe_lst (pa_cons pe_str pa_nil))) (pe_call c_lbt.ok (hr.mono (by first | decide | omega)) rfl c_lbt.m c_lbt.kp c_lbt.b .nil pass0 (pa_cons (pe_ix ix_tup (pv 0) pe_int (fun _ _ => rfl)) pa_nil))) (pe_lst (pa_cons pe_str pa_nil)))))) pss_nil)
      (pss_cons (ps_set (i := 2) nd rfl (.inl rfl) (pe_lst (pa_cons pe_str (pa_cons (pe_ix ix_tup (pv 0) pe_int (fun _ _ => rfl)) (pa_cons pe_str pa_nil)))))
      (pss_cons (ps_for PassesOwn.never rfl (pi_tup (pe_ix ix_tup (pv 0) pe_int (fun _ _ => rfl))) (pg_name (i := 3) nd rfl (.inl rfl)) (pss_one (ps_set (i := 2) nd rfl (.inl rfl) (pe_op op_cat (pv 2) (pe_call c_lix.ok (hr.mono (by first | decide | omega)) rfl c_lix.m c_lix.kp c_lix.b .nil pass0 (pa_cons (pv 3) pa_nil))))))
      (pss_one (ps_ret (pe_op op_cat (pe_op op_cat (pe_op op_cat (pv 2) (pe_lst (pa_cons pe_str (pa_cons pe_str pa_nil)))) (pe_callTy call_list_of rfl T.list PyProof.Rows.boot_list (pa_cons (pe_ix ix_tup (pv 0) pe_int (fun _ _ => rfl)) pa_nil))) (pe_lst (pa_cons pe_str pa_nil))))))))))), ?_⟩)
  rintro ds d - ⟨x, rfl, hk, ok, hb, rfl⟩
  cases x with
  | set nm ix e =>
    obtain ⟨o1, o2, o3, o4, o5⟩ := ok
    have lp : (wd (fPl nm ix)).length ≤ 1000000 := Nat.le_trans (wds_mem (l := inS (.set nm ix e)) (List.mem_cons_of_mem _ List.mem_cons_self)) hb
    have le : (wd (fEx e)).length ≤ 1000000 := Nat.le_trans (wds_mem (l := inS (.set nm ix e)) (List.mem_cons_of_mem _ (List.mem_cons_of_mem _ List.mem_cons_self))) hb
    refine dlr_set (de_ix (d := .str "set") (de_var rfl) de_int rfl) ?_
    refine dlr_whenT (dt_test (de_eqS (b := true) (de_var rfl) de_str (by decide +kernel))) (dlr_ret ?_)
    refine dl_of (a := ((["set"] : List Str) ++ wd (fPl nm ix)) ++ wd (fEx e)) ?_ (dl_cat (dl_cat (dl_lst (ss := ["set"]) (da_one de_str) (show 1 ≤ 1000 by decide)) (dl_call (da_cons (de_ix (d := .str nm) (de_ix (d := encPl nm ix) (de_var rfl) de_int rfl) de_int rfl) (da_one (de_ix (d := encO ix) (de_ix (d := encPl nm ix) (de_var rfl) de_int rfl) de_int rfl))) (pl_L ⟨nm, ix, rfl, o2, o1, lp, rfl⟩)) ?_) (dl_call (da_one (de_ix (d := e.enc) (de_var rfl) de_int rfl)) (pl_L ⟨e, rfl, o5, o3, o4, le, rfl⟩)) ?_)
    · show _ = wds [.w "set", fPl nm ix, fEx e]
      rw [wds_c, wds_c, wds_c, wds_n, wd_w]
      simp
    · show 1 + _ ≤ _; omega
    · rw [List.length_append]; show 1 + _ + _ ≤ _; omega
  | loop nm i b =>
    obtain ⟨o1, o2, o3⟩ := ok
    have e0 : wds (inS (.loop nm i b)) = ((["loop", nm] : List Str) ++ wd (fIx i)) ++ wds (fSts b) := by
      show wds ([.w "loop", .w nm, fIx i] ++ fSts b) = _
      rw [wds_app, wds_c, wds_c, wds_c, wds_n, wd_w, wd_w]
      simp
    have hb2 := hb
    rw [e0, List.length_append, List.length_append] at hb2
    have li : (wd (fIx i)).length ≤ 1000000 := by omega
    have lb : (wds (fSts b)).length ≤ 1000000 := by omega
    refine dlr_set (de_ix (d := .str "loop") (de_var rfl) de_int rfl) ?_
    refine dlr_whenF (dt_test (de_eqS (b := false) (de_var rfl) de_str (by decide +kernel))) ?_
    refine dlr_whenT (dt_test (de_eqS (b := true) (de_var rfl) de_str (by decide +kernel))) (dlr_ret ?_)
    refine dl_of e0.symm (dl_cat (dl_cat (dl_lst (ss := ["loop", nm]) (da_cons de_str (da_one (de_ix (d := .str nm) (de_var rfl) de_int rfl))) (show 2 ≤ 1000 by decide)) (dl_call (da_one (de_ix (d := i.enc) (de_var rfl) de_int rfl)) (pl_L ⟨i, rfl, o2, o1, li, rfl⟩)) ?_) (dl_call (da_one (de_ix (d := .tuple (St.encs b)) (de_var rfl) de_int rfl)) (pl_L ⟨b, rfl, fun s hs => Nat.lt_of_le_of_lt (depSts_mem hs) (Nat.lt_of_succ_lt_succ hk), o3, lb, rfl⟩)) ?_)
    · show 2 + _ ≤ _; omega
    · rw [List.length_append]; show 2 + _ + _ ≤ _; omega
  | bind nm e b =>
    obtain ⟨o1, o2, o3, o4⟩ := ok
    have e0 : wds (inS (.bind nm e b)) = ((["let", nm] : List Str) ++ wd (fEx e)) ++ wds (fSts b) := by
      show wds ([.w "let", .w nm, fEx e] ++ fSts b) = _
      rw [wds_app, wds_c, wds_c, wds_c, wds_n, wd_w, wd_w]
      simp
    have hb2 := hb
    rw [e0, List.length_append, List.length_append] at hb2
    have li : (wd (fEx e)).length ≤ 1000000 := by omega
    have lb : (wds (fSts b)).length ≤ 1000000 := by omega
    refine dlr_set (de_ix (d := .str "let") (de_var rfl) de_int rfl) ?_
    refine dlr_whenF (dt_test (de_eqS (b := false) (de_var rfl) de_str (by decide +kernel))) ?_
    refine dlr_whenF (dt_test (de_eqS (b := false) (de_var rfl) de_str (by decide +kernel))) ?_
    refine dlr_whenT (dt_test (de_eqS (b := true) (de_var rfl) de_str (by decide +kernel))) (dlr_ret ?_)
    refine dl_of e0.symm (dl_cat (dl_cat (dl_lst (ss := ["let", nm]) (da_cons de_str (da_one (de_ix (d := .str nm) (de_var rfl) de_int rfl))) (show 2 ≤ 1000 by decide)) (dl_call (da_one (de_ix (d := e.enc) (de_var rfl) de_int rfl)) (pl_L ⟨e, rfl, o3, o1, o2, li, rfl⟩)) ?_) (dl_call (da_one (de_ix (d := .tuple (St.encs b)) (de_var rfl) de_int rfl)) (pl_L ⟨b, rfl, fun s hs => Nat.lt_of_le_of_lt (depSts_mem hs) (Nat.lt_of_succ_lt_succ hk), o4, lb, rfl⟩)) ?_)
    · show 2 + _ ≤ _; omega
    · rw [List.length_append]; show 2 + _ + _ ≤ _; omega
  | ite t a b =>
    obtain ⟨o1, o2, o3, o4, o5⟩ := ok
    have e0 : wds (inS (.ite t a b)) = ((((((["if"] : List Str) ++ wd (fTs t)) ++ (["("] : List Str)) ++ wds (fSts a)) ++ ([")"] : List Str)) ++ (["("] : List Str) ++ wds (fSts b)) ++ ([")"] : List Str) := by
      show wds [.w "if", fTs t, .f (fSts a), .f (fSts b)] = _
      rw [wds_c, wds_c, wds_c, wds_c, wds_n, wd_w, wd_f, wd_f]
      simp
    have hb2 := hb
    rw [e0] at hb2
    have n1 : (([")"] : List Str)).length = 1 := rfl
    have n2 : ((["("] : List Str)).length = 1 := rfl
    have n3 : ((["if"] : List Str)).length = 1 := rfl
    simp only [List.length_append, n1, n2, n3] at hb2
    have lt : (wd (fTs t)).length ≤ 1000000 := by omega
    have la : (wds (fSts a)).length ≤ 1000000 := by omega
    have lb : (wds (fSts b)).length ≤ 1000000 := by omega
    have da : depSts a < k := Nat.lt_of_le_of_lt (Nat.le_max_left _ _) (Nat.lt_of_succ_lt_succ hk)
    have db : depSts b < k := Nat.lt_of_le_of_lt (Nat.le_max_right _ _) (Nat.lt_of_succ_lt_succ hk)
    refine dlr_set (de_ix (d := .str "if") (de_var rfl) de_int rfl) ?_
    refine dlr_whenF (dt_test (de_eqS (b := false) (de_var rfl) de_str (by decide +kernel))) ?_
    refine dlr_whenF (dt_test (de_eqS (b := false) (de_var rfl) de_str (by decide +kernel))) ?_
    refine dlr_whenF (dt_test (de_eqS (b := false) (de_var rfl) de_str (by decide +kernel))) ?_
    refine dlr_whenT (dt_test (de_eqS (b := true) (de_var rfl) de_str (by decide +kernel))) ?_
    refine dlr_setL (us := ((((["if"] : List Str) ++ wd (fTs t)) ++ (["("] : List Str)) ++ wds (fSts a)) ++ ([")"] : List Str)) rfl (dl_cat (dl_cat (dl_cat (dl_cat (dl_lst (ss := ["if"]) (da_one de_str) (show 1 ≤ 1000 by decide)) (dl_call (da_one (de_ix (d := t.enc) (de_var rfl) de_int rfl)) (pl_L ⟨t, rfl, o3, o1, o2, lt, rfl⟩)) ?_) (dl_lst (ss := ["("]) (da_one de_str) (show 1 ≤ 1000 by decide)) ?_)
      (dl_call (da_one (de_ix (d := .tuple (St.encs a)) (de_var rfl) de_int rfl)) (pl_L ⟨a, rfl, fun s hs => Nat.lt_of_le_of_lt (depSts_mem hs) da, o4, la, rfl⟩)) ?_) (dl_lst (ss := [")"]) (da_one de_str) (show 1 ≤ 1000 by decide)) ?_) ?_
    · simp only [List.length_append, n1, n2, n3]; omega
    · simp only [List.length_append, n1, n2, n3]; omega
    · simp only [List.length_append, n1, n2, n3]; omega
    · simp only [List.length_append, n1, n2, n3]; omega
    · intro D σ H L en eL hL q
      rw [e0] at q
      refine ret_l ?_ q
      exact lt_cat (lt_cat (lt_cat (lt_var eL hL) (lt_dl en (dl_lst (ss := ["("]) (da_one de_str) (show 1 ≤ 1000 by decide))) (by simp only [List.length_append, n1, n2, n3]; omega)) (lt_dl en (dl_call (da_one (de_ix (d := .tuple (St.encs b)) (de_var rfl) de_int rfl)) (pl_L ⟨b, rfl, fun s hs => Nat.lt_of_le_of_lt (depSts_mem hs) db, o5, lb, rfl⟩))) (by simp only [List.length_append, n1, n2, n3]; omega))
        (lt_dl en (dl_lst (ss := [")"]) (da_one de_str) (show 1 ≤ 1000 by decide))) (by simp only [List.length_append, n1, n2, n3]; omega)
  | call g xs ns =>
    have e0 : wds (inS (.call g xs ns)) = ((((["call", g, "("] : List Str) ++ wds (xs.map fIx)) ++ ([")", "("] : List Str)) ++ ns) ++ ([")"] : List Str) := by
      show wds [.w "call", .w g, .f (xs.map fIx), .f (ns.map Fm.w)] = _
      rw [wds_c, wds_c, wds_c, wds_c, wds_n, wd_w, wd_w, wd_f, wd_f, wds_w]
      simp
    have hb2 := hb
    rw [e0] at hb2
    have n1 : (([")"] : List Str)).length = 1 := rfl
    have n2 : (([")", "("] : List Str)).length = 2 := rfl
    have n3 : ((["call", g, "("] : List Str)).length = 3 := rfl
    simp only [List.length_append, n1, n2, n3] at hb2
    refine dlr_set (de_ix (d := .str "call") (de_var rfl) de_int rfl) ?_
    refine dlr_whenF (dt_test (de_eqS (b := false) (de_var rfl) de_str (by decide +kernel))) ?_
    refine dlr_whenF (dt_test (de_eqS (b := false) (de_var rfl) de_str (by decide +kernel))) ?_
    refine dlr_whenF (dt_test (de_eqS (b := false) (de_var rfl) de_str (by decide +kernel))) ?_
    refine dlr_whenF (dt_test (de_eqS (b := false) (de_var rfl) de_str (by decide +kernel))) ?_
    refine dlr_setL (us := ["call", g, "("]) rfl (dl_lst (ss := ["call", g, "("]) (da_cons de_str (da_cons (de_ix (d := .str g) (de_var rfl) de_int rfl) (da_one de_str))) (show 3 ≤ 1000 by decide)) ?_
    intro D σ H L en eL hL q
    refine for_k (ρ := [some (St.call g xs ns).enc, some (.str "call"), none, none]) (ds := xs.map Ix.enc) (fun i σ' H' => Same H H' ∧ ∃ L', En K H' σ' [some (St.call g xs ns).enc, some (.str "call"), none, none] ∧ σ'[2]? = some (some (.ref L')) ∧ H' L' = some (.lst ((([ "call", g, "("] : List Str) ++ wds ((xs.map fIx).take i)).map V.str)))
      (de_ix (d := .tuple (xs.map Ix.enc)) (de_var rfl) de_int rfl) en (fun H1 s1 => ⟨s1, L, en.next s1, eL, by rw [List.take_zero, wds_n, List.append_nil]; exact s1 _ _ hL⟩) ?_ ?_
    · rintro i v d σ2 H2 D2 hd ⟨s2, L2, en2, e2, h2⟩ tv nx
      rw [List.getElem?_map] at hd
      obtain ⟨y, hy, rfl⟩ := Option.map_eq_some_iff.mp hd
      have ym := List.mem_of_getElem? hy
      have ef : (xs.map fIx)[i]? = some (fIx y) := by rw [List.getElem?_map, hy]; rfl
      have tk : wds ((xs.map fIx).take (i + 1)) = wds ((xs.map fIx).take i) ++ wd (fIx y) := by
        have e5 : (xs.map fIx).take (i + 1) = (xs.map fIx).take i ++ [fIx y] := by rw [List.take_add_one, ef]; rfl
        rw [e5, wds_app, wds_c, wds_n, List.append_nil]
      have len : (wds ((xs.map fIx).take (i + 1))).length ≤ (wds (xs.map fIx)).length := by
        have e3 : wds (xs.map fIx) = wds ((xs.map fIx).take (i + 1)) ++ wds ((xs.map fIx).drop (i + 1)) := by rw [← wds_app, List.take_append_drop]
        rw [e3, List.length_append]
        omega
      rw [tk, List.length_append] at len
      have en3 : En K H2 (σ2.set 3 (some v)) [some (St.call g xs ns).enc, some (.str "call"), none, some y.enc] := en2.put (i := 3) tv
      have e3 : (σ2.set 3 (some v))[2]? = some (some (.ref L2)) := by rw [List.getElem?_set_ne (by decide)]; exact e2
      show tAsg _ (gName 2) _ (σ2.set 3 (some v)) H2
      refine asg_l (ss := (([ "call", g, "("] : List Str) ++ wds ((xs.map fIx).take i)) ++ wd (fIx y)) ?_ fun M H3 s3 eM => ?_
      · exact lt_cat (lt_var e3 h2) (lt_dl en3 (dl_call (da_one (de_var (d := y.enc) rfl)) (pl_L ⟨y, rfl, (ok y ym).2, (ok y ym).1, by omega, rfl⟩))) (by rw [List.length_append, n3]; omega)
      · have en4 : En K H3 (σ2.set 3 (some v)) [some (St.call g xs ns).enc, some (.str "call"), none, none] := en_setN (en2.next s3) rfl
        exact nx _ H3 s3 ⟨s2.trans s3, M, en_setN en4 rfl, en_at en4 rfl, by rw [eM, tk, List.append_assoc]⟩
    · rintro σ2 H2 ⟨s2, L2, en2, e2, h2⟩
      have e6 : (xs.map fIx).take (xs.map Ix.enc).length = xs.map fIx := List.take_of_length_le (by rw [List.length_map, List.length_map]; exact Nat.le_refl _)
      rw [e6] at h2
      rw [e0] at q
      refine ret_l ?_ fun M H3 s3 eM => q M H3 (s2.trans s3) eM
      exact lt_cat (lt_cat (lt_cat (lt_var e2 h2) (lt_dl en2 (dl_lst (ss := [")", "("]) (da_cons de_str (da_one de_str)) (show 2 ≤ 1000 by decide))) (by simp only [List.length_append, n1, n2, n3]; omega)) (lt_dl en2 (dl_list (ss := ns) (de_ix (d := .tuple (ns.map PyData.str)) (de_var rfl) de_int rfl))) (by simp only [List.length_append, n1, n2, n3]; omega))
        (lt_dl en2 (dl_lst (ss := [")"]) (da_one de_str) (show 1 ≤ 1000 by decide))) (by simp only [List.length_append, n1, n2, n3]; omega)
theorem ok_lst {f fB : Addr} {fd fdB : FuncData} (F : Fun K "_law_statement_text" "_law_statement_text" sLst f fd) (T : Bi mg) (c_lix : Cal P w K mg base CX0 9 "_law_index_text" ["index"] (spL K 1 (dLix 8))) (c_lpl : Cal P w K mg base CX0 10 "_law_place_text" ["name", "index"] (spL K 2 (dLpl 8)))
    (c_lex : Cal P w K mg base CX0 18 "_law_expression_text" ["expression"] (spL K 1 (dLex 8))) (c_lts : Cal P w K mg base CX0 26 "_law_test_text" ["test"] (spL K 1 (dLts 8))) (b : Binds K fd ["statement"] []) (m : mg "_law_statement_text" = some (.ref f))
    (FB : Fun K "_law_body_text" "_law_body_text" sLbt fB fdB) (bB : Binds K fdB ["body"] []) (mB : mg "_law_body_text" = some (.ref fB)) : ∀ k : Nat, FnOk P w K mg base CX0 (2 * k + 30) f fd ["statement"] (spL K 1 (dLst k))
  | 0 => ⟨fun vs H Q E h => by obtain ⟨_, _, _, _, ⟨_, _, z, _⟩, _⟩ := h; exact absurd z (Nat.not_lt_zero _), fun A outer s H args us vs Q E _ _ _ _ h => by obtain ⟨_, _, _, _, ⟨_, _, z, _⟩, _⟩ := h; exact absurd z (Nat.not_lt_zero _)⟩
  | k + 1 => ok_lst1 (c := 2 * k + 31) F T (by omega) c_lix c_lpl c_lex c_lts ⟨fB, fdB, ok_lbt FB ⟨f, fd, ok_lst F T c_lix c_lpl c_lex c_lts b m FB bB mB k, b, F.kp, m⟩, bB, FB.kp, mB⟩
end
end Sd

namespace Sd
open PySem L2 Tr Pu PyProof.Rows
/-! ### lists of lists of texts -/
def LL (H : Hp) (L : Addr) (rows : List (List Str)) : Prop := ∃ l : List (Addr × List Str), H L = some (.lst (l.map fun p => V.ref p.1)) ∧ (∀ p ∈ l, H p.1 = some (.lst (p.2.map V.str))) ∧ l.map (·.2) = rows
theorem ll_nil {H : Hp} {L : Addr} (h : H L = some (.lst [])) : LL H L [] := ⟨[], h, fun p m => (by cases m), rfl⟩
theorem LL.next {H H' : Hp} {L : Addr} {rows : List (List Str)} (h : LL H L rows) (s : Same H H') : LL H' L rows := by
  obtain ⟨l, a, b, c⟩ := h
  exact ⟨l, s _ _ a, fun p m => s _ _ (b p m), c⟩
theorem ll_push {H : Hp} {L M : Addr} {l : List (Addr × List Str)} {rows : List (List Str)} {r : List Str} (a : H L = some (.lst (l.map fun p => V.ref p.1))) (b : ∀ p ∈ l, H p.1 = some (.lst (p.2.map V.str))) (c : l.map (·.2) = rows) (m : H M = some (.lst (r.map V.str))) (hr : r ≠ []) :
    LL (upd H L (.lst ((l.map fun p => V.ref p.1) ++ [.ref M]))) L (rows ++ [r]) := by
  have key : ∀ (q : Addr) (t : List Str), H q = some (.lst (t.map V.str)) → (t ≠ [] ∨ l ≠ []) → q ≠ L := by
    intro q t e ne z
    subst z
    rw [a] at e
    have e2 : (l.map fun p => V.ref p.1) = t.map V.str := by
      injection e with e
      injection e
    cases l with
    | nil =>
      cases t with
      | nil => rcases ne with h | h <;> exact h rfl
      | cons x y => cases e2
    | cons x y =>
      cases t with
      | nil => cases e2
      | cons u w => injection e2 with e3 _; cases e3
  refine ⟨l ++ [(M, r)], ?_, ?_, ?_⟩
  · rw [upd_same, List.map_append]
    rfl
  · intro p m2
    rcases List.mem_append.mp m2 with m2 | m2
    · have := key _ _ (b p m2) (.inr fun z => by rw [z] at m2; cases m2)
      rw [upd_ne this]
      exact b p m2
    · rw [List.mem_singleton.mp m2]
      have := key _ _ m (.inl hr)
      rw [upd_ne this]
      exact m
  · rw [List.map_append, c]
    rfl
theorem ll_cat {H H' : Hp} {L M N : Addr} {a b : List (List Str)} (ha : LL H L a) (hb : LL H M b) : ∃ xs ys, H L = some (.lst xs) ∧ H M = some (.lst ys) ∧ xs.length = a.length ∧ ys.length = b.length ∧ (Same H H' → H' N = some (.lst (xs ++ ys)) → LL H' N (a ++ b)) := by
  obtain ⟨l, a1, a2, a3⟩ := ha
  obtain ⟨m, b1, b2, b3⟩ := hb
  refine ⟨_, _, a1, b1, by rw [← a3]; simp, by rw [← b3]; simp, fun s e => ⟨l ++ m, by rw [e, List.map_append], fun p hp => ?_, by rw [List.map_append, a3, b3]⟩⟩
  rcases List.mem_append.mp hp with h | h
  · exact s _ _ (a2 p h)
  · exact s _ _ (b2 p h)
section
variable {P : Program} {w : World} {K : PySem.W.Frag} {mg : Str → Option Value} {base : Heap}
/-- lists of texts of the items of a tuple, in a comprehension -/
theorem lc_ll {α : Type} {l : List α} {enc : α → PyData} {g : α → List Str} {a D : Addr} {xs : List V} {H1 : Hp} {i : Nat} {te : TE} {vs : List Nat} {σ : L2.St} {Qd : Hp → Prop} (tl : TvL K H1 (l.map enc) xs) (sq : SqT K H1 a xs) (hD : H1 D = none) (hl : l.length ≤ 10000000) (hne : ∀ x, g x ≠ [])
    (hw : ∀ z, wipe ((wipe σ vs).set i (some z)) vs = wipe σ vs) (step : ∀ x z H5 (R : VK), x ∈ l → Same H1 H5 → Tv K H5 (enc x) z → (∀ M H6, Same H5 H6 → H6 M = some (.lst ((g x).map V.str)) → R (.ref M) H6) → te ((wipe σ vs).set i (some z)) H5 R)
    (fin : ∀ H', Same H1 H' → LL H' D (l.map g) → Qd H') :
    ∃ W : Nat → Nat → Hp → Prop, (∃ m, W 0 m (upd H1 D (.lst []))) ∧ ∀ j m H, W j m H →
      ((Itt K a).stop j H ∧ Qd H) ∨ ((Itt K a).go j H ∧ ∃ Nx : Hp → Prop, (∀ H', Nx H' → ∃ m', m' < m ∧ W (j + 1) m' H') ∧ ∀ x H', (Itt K a).yld j H x H' → gName i x (wipe σ vs) H' fun σ2 H2 => wipe σ2 vs = wipe σ vs ∧ tYes σ2 H2 fun b H3 =>
        if b = true then te σ2 H3 fun y H4 => ∃ acc, H4 D = some (.lst acc) ∧ acc.length < sizeLine ∧ Nx (upd H4 D (.lst (acc ++ [y]))) else Nx H3) := by
  have big : 10000002 ≤ sizeLine := by decide
  have lx : xs.length = l.length := by rw [tvl_len tl, List.length_map]
  refine lc_tup (K := K) (a := a) (xs := xs) (fun j H' => Same H1 H' ∧ LL H' D ((l.map g).take j)) ⟨same_alloc hD, ll_nil upd_same⟩ (fun j H' _ h => same_carry h.1 _ _ sq) ?_ ?_
  · rintro j z H5 hj ⟨s5, eD⟩
    have jl : j < l.length := by rw [← lx]; exact (List.getElem?_eq_some_iff.mp hj).1
    obtain ⟨x, hx⟩ : ∃ x, l[j]? = some x := ⟨_, List.getElem?_eq_getElem jl⟩
    obtain ⟨z', hz', tz⟩ := tvl_get (j := j) (d := enc x) (TvL.carry (same_carry s5) _ _ tl) (by rw [List.getElem?_map, hx]; rfl)
    rw [hj] at hz'
    cases hz'
    have tke : (l.map g).take (j + 1) = (l.map g).take j ++ [g x] := by
      rw [List.take_add_one, List.getElem?_map, hx]
      rfl
    refine ⟨hw z, step x z H5 _ (List.mem_of_getElem? hx) s5 tz fun M H6 s6 eM => ?_⟩
    obtain ⟨l2, c1, c2, c3⟩ := eD.next s6
    refine ⟨_, c1, ?_, same_put (s5.trans s6) hD, ?_⟩
    · have := congrArg List.length c3
      rw [List.length_map, List.length_take, List.length_map] at this
      rw [List.length_map]
      omega
    · rw [tke]
      exact ll_push c1 c2 c3 eM (hne x)
  · rintro H5 ⟨s5, eD⟩
    have e6 : (l.map g).take xs.length = l.map g := List.take_of_length_le (by rw [List.length_map, lx]; exact Nat.le_refl _)
    rw [e6] at eD
    exact fin H5 s5 eD
abbrev sLva : Stmt := top 79
def spLva : Sp := fun vs H Q _ => ∃ (W : Addr) (ws : List Str) (d : Decl), vs = [.ref W, .str d.1, .int d.2] ∧ H W = some (.lst (ws.map V.str)) ∧ ws.length ≤ 1000 ∧ Small d.2 ∧ 0 ≤ d.2 ∧ ∀ L H2, Same H H2 → H2 L = some (.lst ((("(" : Str) :: (ws ++ wds (fDecl d) ++ [(")" : Str)])).map V.str)) → Q (.ref L) H2
theorem scLva : FnScope ["words", "name", "size"] ["words", "name", "size"] (defScope sLva) := ⟨rfl, rfl, rfl, by decide +kernel, rfl, by decide +kernel, by decide +kernel⟩
theorem ok_lva {f : Addr} {fd : FuncData} (F : Fun K "_law_variable_text" "_law_variable_text" sLva f fd) (T : Bi mg) : FnOk P w K mg base CX0 1 f fd ["words", "name", "size"] spLva := by
  refine F.ok scLva (fun vs H Q E h => ?_) (fun cdv A outer s H vs Q E hr h => ?_)
  · obtain ⟨W, ws, d, rfl, _⟩ := h
    rfl
  · obtain ⟨W, ws, ⟨nm, z⟩, rfl, eW, lw, sm, zz, q⟩ := h
    have nd := scLva.nd
    have one : (["("] : List Str).length = 1 := rfl
    refine ⟨_, pss_cons (ps_if (pt_cmpR op_gt (pv 2) pe_int (nomark _)) (pss_one (ps_ret (pe_op op_cat (pe_op op_cat (pe_lst (pa_cons pe_str pa_nil)) (pv 0)) (pe_lst (pa_cons (pv 1) (pa_cons (pe_callTy call_str_int rfl T.str PyProof.Rows.boot_str (pa_cons (pv 2) pa_nil)) (pa_cons pe_str pa_nil))))))) pss_nil)
      (pss_one (ps_ret (pe_op op_cat (pe_op op_cat (pe_lst (pa_cons pe_str pa_nil)) (pv 0)) (pe_lst (pa_cons (pv 1) (pa_cons pe_str pa_nil)))))), ?_⟩
    have en : En K H [some (.ref W), some (.str nm), some (.int z)] [none, some (.str nm), some (.int z)] := en_n (en_s rfl (en_s rfl en_0))
    by_cases c : z = 0
    · refine ⟨_, rfl, z, 0, rfl, rfl, _, rfl, iteF' (decide_eq_false (by show ¬ (0 : Int) < z; omega)) ?_⟩
      have e : fDecl (nm, z) = [.w nm] := if_pos c
      rw [e, wds_c, wds_n, wd_w] at q
      unfold tNext
      dsimp only
      refine ret_l (ss := ((["("] : List Str) ++ ws) ++ ([nm, ")"] : List Str)) ?_ fun L H2 s2 eL => q L H2 s2 (by rw [eL]; simp)
      exact lt_cat (lt_cat (lt_dl en (dl_lst (ss := ["("]) (da_one de_str) (show 1 ≤ 1000 by decide))) (lt_var rfl eW) (by rw [one]; omega)) (lt_dl en (dl_lst (ss := [nm, ")"]) (da_cons (de_var rfl) (da_one de_str)) (show 2 ≤ 1000 by decide))) (by rw [List.length_append, one]; show 1 + _ + 2 ≤ _; omega)
    · refine ⟨_, rfl, z, 0, rfl, rfl, _, rfl, iteT' (decide_eq_true (by show (0 : Int) < z; omega)) ?_⟩
      have e : fDecl (nm, z) = [.w nm, num z] := if_neg c
      have e2 : wds [.w nm, num z] = [nm, (toString z : Str)] := by
        unfold num
        rw [wds_c, wds_c, wds_n, wd_w, wd_w]
        rfl
      rw [e, e2] at q
      refine ret_l (ss := ((["("] : List Str) ++ ws) ++ ([nm, (toString z : Str), ")"] : List Str)) ?_ fun L H2 s2 eL => q L H2 s2 (by rw [eL]; simp)
      exact lt_cat (lt_cat (lt_dl en (dl_lst (ss := ["("]) (da_one de_str) (show 1 ≤ 1000 by decide))) (lt_var rfl eW) (by rw [one]; omega)) (lt_dl en (dl_lst (ss := [nm, (toString z : Str), ")"]) (da_cons (de_var rfl) (da_cons (de_strN (de_var rfl) sm) (da_one de_str))) (show 3 ≤ 1000 by decide))) (by rw [List.length_append, one]; show 1 + _ + 3 ≤ _; omega)
end
end Sd

namespace Sd
open PySem L2 Tr Pu PyProof.Rows
abbrev sLwo : Stmt := top 80
abbrev nLwo : List Str := ["tree", "rows", "name", "indexes", "references", "body", "words", "reference", "row"]
def okZ (t : Tr.Tree) : Prop := (∀ d ∈ t.state, 0 ≤ d.2) ∧ (∀ d ∈ t.params, 0 ≤ d.2) ∧ ∀ p ∈ t.procs, ∀ d ∈ p.refs, 0 ≤ d.2
def spLwo (K : PySem.W.Frag) : Sp := fun vs H Q _ => ∃ (v : V) (t : Tr.Tree), vs = [v] ∧ Tv K H t.enc v ∧ okTr t ∧ okZ t ∧ (wds (fTree t)).length ≤ 1000000 ∧ ∀ L H', Same H H' → LL H' L ((fTree t).map wd) → Q (.ref L) H'
theorem wd_ne (x : Fm) : wd x ≠ [] := by
  cases x with
  | w s => rw [wd_w]; exact List.cons_ne_nil _ _
  | f l => rw [wd_f]; exact List.cons_ne_nil _ _
theorem rows_le : ∀ l : List Fm, l.length ≤ (wds l).length
  | [] => Nat.zero_le _
  | x :: r => by
    rw [wds_c, List.length_append, List.length_cons]
    have h1 := rows_le r
    have h2 : 0 < (wd x).length := List.length_pos_iff.mpr (wd_ne x)
    omega
section
variable {P : Program} {w : World} {K : PySem.W.Frag} {mg : Str → Option Value} {base : Heap}
theorem lt_lva {H : Hp} {σ : L2.St} {ρ : Rho} {ta tb tc : TE} {ws : List Str} {d : Decl} {E : XK} (en : En K H σ ρ) (ha : LTs σ H ta ws) (hb : DE K tb ρ (.str d.1)) (hc : DE K tc ρ (.int d.2)) (lw : ws.length ≤ 1000) (sm : Small d.2) (zz : 0 ≤ d.2) :
    LTs σ H (tCall spLva [] E (tCons ta (tCons tb (tCons tc tNil)))) (("(" : Str) :: (ws ++ wds (fDecl d) ++ [(")" : Str)])) := fun H0 s0 Q q =>
  ha H0 s0 _ fun L H1 s1 e1 => hb σ H1 _ (en.next (s0.trans s1)) fun v H2 s2 t2 => hc σ H2 _ (en.next ((s0.trans s1).trans s2)) fun u H3 s3 t3 => by
    cases t2
    cases t3
    exact ⟨L, ws, d, rfl, (s2.trans s3) _ _ e1, lw, sm, zz, fun M H6 s6 e6 => q M H6 (((s1.trans s2).trans s3).trans s6) e6⟩
theorem scLwo : FnScope nLwo ["tree"] (defScope sLwo) := ⟨rfl, rfl, rfl, by decide +kernel, rfl, by decide +kernel, by decide +kernel⟩
theorem ok_lwo {f : Addr} {fd : FuncData} (F : Fun K "_law_words" "_law_words" sLwo f fd) (T : Bi mg) (c_lva : Cal P w K mg base CX0 1 "_law_variable_text" ["words", "name", "size"] spLva) (c_lbt : Cal P w K mg base CX0 63 "_law_body_text" ["body"] (spL K 1 (dLbt 16))) :
    FnOk P w K mg base CX0 64 f fd ["tree"] (spLwo K) := by
  refine F.ok scLwo (fun vs H Q E h => ?_) (fun cdv A outer s H vs Q E hr h => ?_)
  · obtain ⟨v, t, rfl, _⟩ := h
    rfl
  · obtain ⟨v, t, rfl, tv, ⟨o1, o2, o3, o4, o5⟩, ⟨z1, z2, z3⟩, hb, q⟩ := h
    have nd := scLwo.nd
    have big : 10000002 ≤ sizeLine := by decide
    obtain ⟨a, xs, rfl, sq, u1, r1, rfl, t1, u2, r2, rfl, t2, u3, r3, rfl, t3, u4, r4, rfl, t4, rfl⟩ := id tv
    have eT : fTree t = ((t.state.map (fHd "state") ++ t.params.map (fHd "param")) ++ t.procs.map fProc) ++ [.f (.w "beat" :: fSts t.beat)] := rfl
    have hn := rows_le (fTree t)
    rw [eT, List.length_append, List.length_append, List.length_append, List.length_map, List.length_map, List.length_map] at hn
    rw [← eT] at hn
    have each : ∀ x ∈ fTree t, (wd x).length ≤ 1000000 := fun x m => Nat.le_trans (wds_mem m) hb
    refine ⟨_, pss_cons (ps_setLc (i := 1) (own := [("row", 8)]) (g := gName 8) (tt := tYes) rfl nd rfl rfl (sw_true rfl rfl rfl (by decide +kernel)) (pi_tup (pe_ix ix_tup (pv 0) pe_int (fun _ _ => rfl))) (blkOk_by (N := nLwo) (sc := defScope sLwo) (by decide +kernel)) (fun _ _ _ _ _ => pg_name (i := 8) nd rfl (.inl rfl)) (fun _ _ _ _ _ => pts_nil) (fun _ _ _ _ _ => (pe_call c_lva.ok (hr.mono (by first | decide | omega)) rfl c_lva.m c_lva.kp c_lva.b .nil pass0 (pa_cons (pe_lst (pa_cons pe_str pa_nil)) (pa_cons (pe_ix (ixT (K' := K) rfl) (pv 8) pe_int (fun _ _ => rfl)) (pa_cons (pe_ix (ixT (K' := K) rfl) (pv 8) pe_int (fun _ _ => rfl)) pa_nil))))))
      (pss_cons (ps_set (i := 1) nd rfl (.inl rfl) (pe_op op_cat (pv 1) (pe_lc (own := [("row", 8)]) (g := gName 8) (tt := tYes) rfl nd (pi_tup (pe_ix ix_tup (pv 0) pe_int (fun _ _ => rfl))) (blkOk_by (N := nLwo) (sc := defScope sLwo) (by decide +kernel)) (fun _ _ _ _ _ => pg_name (i := 8) nd rfl (.inl rfl)) (fun _ _ _ _ _ => pts_nil) (fun _ _ _ _ _ => (pe_call c_lva.ok (hr.mono (by first | decide | omega)) rfl c_lva.m c_lva.kp c_lva.b .nil pass0 (pa_cons (pe_lst (pa_cons pe_str pa_nil)) (pa_cons (pe_ix (ixT (K' := K) rfl) (pv 8) pe_int (fun _ _ => rfl)) (pa_cons (pe_ix (ixT (K' := K) rfl) (pv 8) pe_int (fun _ _ => rfl)) pa_nil))))))))
      (pss_cons (ps_for PassesOwn.never rfl (pi_tup (pe_ix ix_tup (pv 0) pe_int (fun _ _ => rfl))) (pg_tup (by rfl) (pgs_cons (pg_name (i := 2) nd rfl (.inl rfl)) (pgs_cons (pg_name (i := 3) nd rfl (.inl rfl)) (pgs_cons (pg_name (i := 4) nd rfl (.inl rfl)) (pgs_cons (pg_name (i := 5) nd rfl (.inl rfl)) pgs_nil))))) (pss_cons (ps_set (i := 6) nd rfl (.inl rfl) (pe_op op_cat (pe_op op_cat (pe_lst (pa_cons pe_str (pa_cons pe_str (pa_cons (pv 2) (pa_cons pe_str pa_nil))))) (pe_callTy call_list_of rfl T.list PyProof.Rows.boot_list (pa_cons (pv 3) pa_nil))) (pe_lst (pa_cons pe_str (pa_cons pe_str pa_nil)))))
      (pss_cons (ps_for PassesOwn.never rfl (pi_tup (pv 4)) (pg_name (i := 7) nd rfl (.inl rfl)) (pss_one (ps_set (i := 6) nd rfl (.inl rfl) (pe_op op_cat (pv 6) (pe_call c_lva.ok (hr.mono (by first | decide | omega)) rfl c_lva.m c_lva.kp c_lva.b .nil pass0 (pa_cons (pe_lst pa_nil) (pa_cons (pe_ix ix_tup (pv 7) pe_int (fun _ _ => rfl)) (pa_cons (pe_ix ix_tup (pv 7) pe_int (fun _ _ => rfl)) pa_nil))))))))
      (pss_one (ps_expr (pe_bm PySem.F.plainAttrs_list PySem.F.slot_list_append PySem.F.type_list_append mt_append (pv 1) (pa_cons (pe_op op_cat (pe_op op_cat (pe_op op_cat (pv 6) (pe_lst (pa_cons pe_str pa_nil))) (pe_call c_lbt.ok (hr.mono (by first | decide | omega)) rfl c_lbt.m c_lbt.kp c_lbt.b .nil pass0 (pa_cons (pv 5) pa_nil))) (pe_lst (pa_cons pe_str pa_nil))) pa_nil)))))))
      (pss_cons (ps_expr (pe_bm PySem.F.plainAttrs_list PySem.F.slot_list_append PySem.F.type_list_append mt_append (pv 1) (pa_cons (pe_op op_cat (pe_op op_cat (pe_lst (pa_cons pe_str (pa_cons pe_str pa_nil))) (pe_call c_lbt.ok (hr.mono (by first | decide | omega)) rfl c_lbt.m c_lbt.kp c_lbt.b .nil pass0 (pa_cons (pe_ix ix_tup (pv 0) pe_int (fun _ _ => rfl)) pa_nil))) (pe_lst (pa_cons pe_str pa_nil))) pa_nil)))
      (pss_one (ps_ret (pv 1)))))), ?_⟩
    have hdr : ∀ (h : Str) (d : Decl), wd (fHd h d) = ("(" : Str) :: (([h] : List Str) ++ wds (fDecl d) ++ [(")" : Str)]) := fun h d => by
      show wd (.f (.w h :: fDecl d)) = _
      rw [wd_f, wds_c, wd_w]
    refine set_k (fun u H' => ∃ L, u = .ref L ∧ Same H H' ∧ LL H' L (t.state.map fun d => wd (fHd "state" d))) (fun Q' kk => ?_) ?_
    · obtain ⟨a2, ys, rfl, sq2, tl2⟩ := id t1
      refine ⟨_, rfl, a, _, 0, _, rfl, rfl, sq, at0 _ _, a2, rfl, ⟨_, sq2⟩, fun D hD => ?_⟩
      refine lc_ll (g := fun d => wd (fHd "state" d)) tl2 sq2 hD (by omega) (fun x => wd_ne _) (fun z => rfl) (fun x z H5 R xm s5 tz kR => ?_) (fun H' s' e' => kk _ _ ⟨D, rfl, s', e'⟩)
      have en : En K H5 [some (.ref a), none, none, none, none, none, none, none, some z] [none, none, none, none, none, none, none, none, some (Decl.enc x)] := en_n (en_n (en_n (en_n (en_n (en_n (en_n (en_n (en_s tz en_0))))))))
      rw [hdr] at kR
      exact lt_lva en (lt_dl en (dl_lst (ss := ["state"]) (da_one de_str) (show 1 ≤ 1000 by decide))) (de_ix (d := .str x.1) (de_var (d := Decl.enc x) rfl) de_int rfl) (de_ix (d := .int x.2) (de_var (d := Decl.enc x) rfl) de_int rfl) (by show 1 ≤ 1000; decide) (o1 x xm) (z1 x xm) H5 (same_refl H5) R kR
    rintro _ H1 ⟨L0, rfl, s1, eL0⟩
    refine set_k (fun u H' => ∃ L, u = .ref L ∧ H L = none ∧ Same H H' ∧ LL H' L ((t.state.map fun d => wd (fHd "state" d)) ++ (t.params.map fun d => wd (fHd "param" d)))) (fun Q' kk => ?_) ?_
    · obtain ⟨a2, ys, rfl, sq2, tl2⟩ := t2.carry (same_carry s1)
      refine ⟨_, rfl, _, rfl, a, _, 1, _, rfl, rfl, same_carry s1 _ _ sq, rfl, a2, rfl, ⟨_, sq2⟩, fun D hD => ?_⟩
      refine lc_ll (g := fun d => wd (fHd "param" d)) tl2 sq2 hD (by omega) (fun x => wd_ne _) (fun z => rfl) (fun x z H5 R xm s5 tz kR => ?_) (fun H' s' e' => ?_)
      · have en : En K H5 [some (.ref a), some (.ref L0), none, none, none, none, none, none, some z] [none, none, none, none, none, none, none, none, some (Decl.enc x)] := en_n (en_n (en_n (en_n (en_n (en_n (en_n (en_n (en_s tz en_0))))))))
        rw [hdr] at kR
        exact lt_lva en (lt_dl en (dl_lst (ss := ["param"]) (da_one de_str) (show 1 ≤ 1000 by decide))) (de_ix (d := .str x.1) (de_var (d := Decl.enc x) rfl) de_int rfl) (de_ix (d := .int x.2) (de_var (d := Decl.enc x) rfl) de_int rfl) (by show 1 ≤ 1000; decide) (o2 x xm) (z2 x xm) H5 (same_refl H5) R kR
      · obtain ⟨xs', ys', f1, f2, f3, f4, _⟩ := ll_cat (H' := H') (N := L0) (eL0.next s') e'
        refine ⟨L0, D, xs', ys', rfl, rfl, f1, f2, by rw [f3, f4, List.length_map, List.length_map]; omega, fun N nN => ?_⟩
        obtain ⟨xs2, ys2, g1, g2, _, _, g5⟩ := ll_cat (H' := upd H' N (.lst (xs' ++ ys'))) (N := N) (eL0.next s') e'
        rw [f1] at g1
        rw [f2] at g2
        cases g1
        cases g2
        have hN : H N = none := by
          cases c : H N with
          | none => rfl
          | some o => rw [s' _ _ (s1 _ _ c)] at nN; cases nN
        exact kk _ _ ⟨N, rfl, hN, (s1.trans s').trans (same_put nN), g5 (same_put nN) upd_same⟩
    rintro _ H2 ⟨L, rfl, nL, s2, eL⟩
    obtain ⟨a3, ys, rfl, sq3, tl3⟩ := id t3
    have ly : ys.length = t.procs.length := by rw [tvl_len tl3, List.length_map]
    have n1 : (([")"] : List Str)).length = 1 := rfl
    have n2 : (([")", "("] : List Str)).length = 2 := rfl
    refine seq_k (fun σ' H' => Same H H' ∧ LL H' L (((t.state.map fun d => wd (fHd "state" d)) ++ (t.params.map fun d => wd (fHd "param" d))) ++ (t.procs.map fun p => wd (fProc p))) ∧ ∃ w2 w3 w4 w5 w6 w7 w8 : Option V, σ' = [some (.ref a), some (.ref L), w2, w3, w4, w5, w6, w7, w8]) (fun D' hD k => ?_) ?_
    · refine ⟨_, rfl, a, _, 2, _, rfl, rfl, same_carry s2 _ _ sq, rfl, a3, rfl, ⟨_, same_carry s2 _ _ sq3⟩, for_tup (K := K) (a := a3) (xs := ys) (fun i σ' H' => Same H H' ∧ LL H' L (((t.state.map fun d => wd (fHd "state" d)) ++ (t.params.map fun d => wd (fHd "param" d))) ++ ((t.procs.map fun p => wd (fProc p)).take i)) ∧ ∃ w2 w3 w4 w5 w6 w7 w8 : Option V, σ' = [some (.ref a), some (.ref L), w2, w3, w4, w5, w6, w7, w8])
        ⟨s2, by rw [List.take_zero, List.append_nil]; exact eL, none, none, none, none, none, none, none, rfl⟩ (fun i σ' H' _ h => same_carry h.1 _ _ sq3) ?_ ?_⟩
      · rintro i x σ' H3 hi ⟨s3, eL3, w2, w3, w4, w5, w6, w7, w8, rfl⟩
        have il : i < t.procs.length := by rw [← ly]; exact (List.getElem?_eq_some_iff.mp hi).1
        obtain ⟨p, hp⟩ : ∃ p, t.procs[i]? = some p := ⟨_, List.getElem?_eq_getElem il⟩
        have pm := List.mem_of_getElem? hp
        obtain ⟨x', hx', tx⟩ := tvl_get (j := i) (d := Proc.enc p) (TvL.carry (same_carry s3) _ _ tl3) (by rw [List.getElem?_map, hp]; rfl)
        rw [hi] at hx'
        cases hx'
        obtain ⟨b, zs, rfl, sqb, v1, q1, rfl, p1, v2, q2, rfl, p2, v3, q3, rfl, p3, v4, q4, rfl, p4, rfl⟩ := id tx
        cases p1
        have wP : (wd (fProc p)).length ≤ 1000000 := each _ (by
          rw [eT]
          exact List.mem_append.mpr (.inl (List.mem_append.mpr (.inr (List.mem_map.mpr ⟨p, pm, rfl⟩)))))
        have eP : wd (fProc p) = (((((["(", "procedure", p.name, "("] : List Str) ++ p.idxs) ++ ([")", "("] : List Str)) ++ wds (p.refs.map fun d => Fm.f (fDecl d))) ++ ([")"] : List Str) ++ wds (fSts p.body)) ++ ([")"] : List Str) := by
          show wd (.f ([.w "procedure", .w p.name, .f (p.idxs.map Fm.w), .f (p.refs.map fun d => .f (fDecl d))] ++ fSts p.body)) = _
          rw [wd_f, wds_app, wds_c, wds_c, wds_c, wds_c, wds_n, wd_w, wd_w, wd_f, wd_f, wds_w]
          simp
        have n3 : ((["(", "procedure", p.name, "("] : List Str)).length = 4 := rfl
        have wQ := wP
        rw [eP] at wQ
        simp only [List.length_append, n1, n2, n3] at wQ
        refine ⟨b, _, rfl, sqb, rfl, _, _, rfl, _, _, rfl, _, _, rfl, _, _, rfl, rfl, ?_⟩
        dsimp only
        have en : En K H3 [some (.ref a), some (.ref L), some (.str p.name), some v2, some v3, some v4, w6, w7, w8] [none, none, some (.str p.name), some (.tuple (p.idxs.map PyData.str)), some (.tuple (p.refs.map Decl.enc)), some (.tuple (St.encs p.body)), none, none, none] := en_n (en_n (en_s rfl (en_s p2 (en_s p3 (en_s p4 (en_n (en_n (en_n en_0))))))))
        refine set_l (ss := ((["(", "procedure", p.name, "("] : List Str) ++ p.idxs) ++ ([")", "("] : List Str)) ?_ fun M H4 s4 eM => ?_
        · exact lt_cat (lt_cat (lt_dl en (dl_lst (ss := ["(", "procedure", p.name, "("]) (da_cons de_str (da_cons de_str (da_cons (de_var rfl) (da_one de_str)))) (show 4 ≤ 1000 by decide))) (lt_dl en (dl_list (ss := p.idxs) (de_var rfl))) (by rw [n3]; omega)) (lt_dl en (dl_lst (ss := [")", "("]) (da_cons de_str (da_one de_str)) (show 2 ≤ 1000 by decide))) (by rw [List.length_append, n3, n2]; omega)
        have en4 : En K H4 [some (.ref a), some (.ref L), some (.str p.name), some v2, some v3, some v4, some (.ref M), w7, w8] [none, none, some (.str p.name), some (.tuple (p.idxs.map PyData.str)), some (.tuple (p.refs.map Decl.enc)), some (.tuple (St.encs p.body)), none, none, none] := en_setN (i := 6) (en.next s4) rfl
        refine for_k (ρ := [none, none, some (.str p.name), some (.tuple (p.idxs.map PyData.str)), some (.tuple (p.refs.map Decl.enc)), some (.tuple (St.encs p.body)), none, none, none]) (ds := p.refs.map Decl.enc) (fun j σ' H' => Same H4 H' ∧ ∃ (M' : Addr) (y7 : Option V), σ' = [some (.ref a), some (.ref L), some (.str p.name), some v2, some v3, some v4, some (.ref M'), y7, w8] ∧ H' M' = some (.lst (((((["(", "procedure", p.name, "("] : List Str) ++ p.idxs) ++ ([")", "("] : List Str)) ++ wds ((p.refs.map fun d => Fm.f (fDecl d)).take j)).map V.str)))
          (de_var rfl) en4 (fun H5 s5 => ⟨s5, M, w7, rfl, by rw [List.take_zero, wds_n, List.append_nil]; exact s5 _ _ eM⟩) ?_ ?_
        · rintro j v d σ2 H5 D2 hd ⟨s5, M', y7, rfl, e5⟩ tz nx
          rw [List.getElem?_map] at hd
          obtain ⟨y, hy, rfl⟩ := Option.map_eq_some_iff.mp hd
          have ym := List.mem_of_getElem? hy
          have ef : (p.refs.map fun d => Fm.f (fDecl d))[j]? = some (.f (fDecl y)) := by rw [List.getElem?_map, hy]; rfl
          have tk : wds ((p.refs.map fun d => Fm.f (fDecl d)).take (j + 1)) = wds ((p.refs.map fun d => Fm.f (fDecl d)).take j) ++ (("(" : Str) :: (([] : List Str) ++ wds (fDecl y) ++ [(")" : Str)])) := by
            have e5 : (p.refs.map fun d => Fm.f (fDecl d)).take (j + 1) = (p.refs.map fun d => Fm.f (fDecl d)).take j ++ [.f (fDecl y)] := by rw [List.take_add_one, ef]; rfl
            rw [e5, wds_app, wds_c, wds_n, List.append_nil, wd_f, List.nil_append]
          have len : (wds ((p.refs.map fun d => Fm.f (fDecl d)).take (j + 1))).length ≤ (wds (p.refs.map fun d => Fm.f (fDecl d))).length := by
            have e3 : wds (p.refs.map fun d => Fm.f (fDecl d)) = wds ((p.refs.map fun d => Fm.f (fDecl d)).take (j + 1)) ++ wds ((p.refs.map fun d => Fm.f (fDecl d)).drop (j + 1)) := by rw [← wds_app, List.take_append_drop]
            rw [e3, List.length_append]
            omega
          rw [tk, List.length_append] at len
          have en5 : En K H5 [some (.ref a), some (.ref L), some (.str p.name), some v2, some v3, some v4, some (.ref M'), some v, w8] [none, none, none, none, none, none, none, some (Decl.enc y), none] := en_n (en_n (en_n (en_n (en_n (en_n (en_n (en_s tz (en_n en_0))))))))
          show tAsg _ (gName 6) _ [some (.ref a), some (.ref L), some (.str p.name), some v2, some v3, some v4, some (.ref M'), some v, w8] H5
          refine asg_l (ss := ((((["(", "procedure", p.name, "("] : List Str) ++ p.idxs) ++ ([")", "("] : List Str)) ++ wds ((p.refs.map fun d => Fm.f (fDecl d)).take j)) ++ (("(" : Str) :: (([] : List Str) ++ wds (fDecl y) ++ [(")" : Str)]))) ?_ fun N H6 s6 eN => nx _ H6 s6 ⟨s5.trans s6, N, some v, rfl, by rw [eN, tk, List.append_assoc]⟩
          exact lt_cat (lt_var rfl e5) (lt_lva en5 (lt_dl en5 (dl_lst (ss := []) da_nil (show 0 ≤ 1000 by decide))) (de_ix (d := .str y.1) (de_var (d := Decl.enc y) rfl) de_int rfl) (de_ix (d := .int y.2) (de_var (d := Decl.enc y) rfl) de_int rfl) (by show 0 ≤ 1000; decide) ((o3 p pm).2.2 y ym) (z3 p pm y ym)) (by rw [List.length_append, List.length_append, List.length_append, n3, n2]; omega)
        · rintro σ2 H5 ⟨s5, M', y7, rfl, e5⟩
          have e6 : (p.refs.map fun d => Fm.f (fDecl d)).take (p.refs.map Decl.enc).length = p.refs.map fun d => Fm.f (fDecl d) := List.take_of_length_le (by rw [List.length_map, List.length_map]; exact Nat.le_refl _)
          rw [e6] at e5
          have s45 := s4.trans s5
          obtain ⟨l, c1, c2, c3⟩ := eL3.next s45
          have en6 : En K H5 [some (.ref a), some (.ref L), some (.str p.name), some v2, some v3, some v4, some (.ref M'), y7, w8] [none, none, none, none, none, some (.tuple (St.encs p.body)), none, none, none] := en_n (en_n (en_n (en_n (en_n (en_s (p4.carry (same_carry s45)) (en_n (en_n (en_n en_0))))))))
          refine ⟨_, rfl, .inl ⟨rfl, _, SqL.of c1⟩, ?_⟩
          refine lt_go (ss := (((((["(", "procedure", p.name, "("] : List Str) ++ p.idxs) ++ ([")", "("] : List Str)) ++ wds (p.refs.map fun d => Fm.f (fDecl d))) ++ ([")"] : List Str) ++ wds (fSts p.body)) ++ ([")"] : List Str)) ?_ fun N H6 s6 eN => ?_
          · exact lt_cat (lt_cat (lt_cat (lt_var rfl e5) (lt_dl en6 (dl_lst (ss := [")"]) (da_one de_str) (show 1 ≤ 1000 by decide))) (by simp only [List.length_append, n1, n2, n3]; omega)) (lt_dl en6 (dl_call (da_one (de_var (d := .tuple (St.encs p.body)) rfl)) (pl_L ⟨p.body, rfl, fun s hs => Nat.lt_of_le_of_lt (depSts_mem hs) (o3 p pm).2.1, (o3 p pm).1, by omega, rfl⟩))) (by simp only [List.length_append, n1, n2, n3]; omega)) (lt_dl en6 (dl_lst (ss := [")"]) (da_one de_str) (show 1 ≤ 1000 by decide))) (by simp only [List.length_append, n1, n2, n3]; omega)
          · rw [← eP] at eN
            have tke : (t.procs.map fun p => wd (fProc p)).take (i + 1) = (t.procs.map fun p => wd (fProc p)).take i ++ [wd (fProc p)] := by
              rw [List.take_add_one, List.getElem?_map, hp]
              rfl
            have lc := congrArg List.length c3
            rw [List.length_map, List.length_append, List.length_append, List.length_map, List.length_map, List.length_take, List.length_map] at lc
            refine ⟨L, _, _, rfl, rfl, s6 _ _ c1, by rw [List.length_map]; omega, ?_⟩
            refine ⟨same_put ((s3.trans s45).trans s6) nL, ?_, _, _, _, _, _, _, _, rfl⟩
            rw [tke, ← List.append_assoc]
            exact ll_push (s6 _ _ c1) (fun p m => s6 _ _ (c2 p m)) c3 eN (wd_ne _)
      · rintro σ' H3 ⟨s3, eL3, w2, w3, w4, w5, w6, w7, w8, rfl⟩
        have e6 : (t.procs.map fun p => wd (fProc p)).take ys.length = t.procs.map fun p => wd (fProc p) := List.take_of_length_le (by rw [List.length_map, ly]; exact Nat.le_refl _)
        rw [e6] at eL3
        exact k _ _ ⟨s3, eL3, w2, w3, w4, w5, w6, w7, w8, rfl⟩
    clear s2 eL
    rintro _ H3 ⟨s3, eL, w2, w3, w4, w5, w6, w7, w8, rfl⟩
    obtain ⟨l, c1, c2, c3⟩ := eL
    have wB : (wd (.f (.w "beat" :: fSts t.beat))).length ≤ 1000000 := each _ (by
      rw [eT]
      exact List.mem_append.mpr (.inr List.mem_cons_self))
    have eB : wd (.f (.w "beat" :: fSts t.beat)) = ((["(", "beat"] : List Str) ++ wds (fSts t.beat)) ++ ([")"] : List Str) := by
      rw [wd_f, wds_c, wd_w]
      simp
    have n4 : ((["(", "beat"] : List Str)).length = 2 := rfl
    have wQ := wB
    rw [eB] at wQ
    simp only [List.length_append, n1, n4] at wQ
    have en : En K H3 [some (.ref a), some (.ref L), w2, w3, w4, w5, w6, w7, w8] [some t.enc, none, none, none, none, none, none, none, none] := en_s (tv.carry (same_carry s3)) (en_n (en_n (en_n (en_n (en_n (en_n (en_n (en_n en_0))))))))
    refine ⟨_, rfl, .inl ⟨rfl, _, SqL.of c1⟩, ?_⟩
    refine lt_go (ss := ((["(", "beat"] : List Str) ++ wds (fSts t.beat)) ++ ([")"] : List Str)) ?_ fun N H6 s6 eN => ?_
    · exact lt_cat (lt_cat (lt_dl en (dl_lst (ss := ["(", "beat"]) (da_cons de_str (da_one de_str)) (show 2 ≤ 1000 by decide))) (lt_dl en (dl_call (da_one (de_ix (d := .tuple (St.encs t.beat)) (de_var rfl) de_int rfl)) (pl_L ⟨t.beat, rfl, fun s hs => Nat.lt_of_le_of_lt (depSts_mem hs) o5, o4, by omega, rfl⟩))) (by rw [n4]; omega)) (lt_dl en (dl_lst (ss := [")"]) (da_one de_str) (show 1 ≤ 1000 by decide))) (by simp only [List.length_append, n1, n4]; omega)
    · rw [← eB] at eN
      have lc := congrArg List.length c3
      rw [List.length_map, List.length_append, List.length_append, List.length_map, List.length_map, List.length_map] at lc
      refine ⟨L, _, _, rfl, rfl, s6 _ _ c1, by rw [List.length_map]; omega, ?_⟩
      refine ⟨_, rfl, q L _ (same_put (s3.trans s6) nL) ?_⟩
      have eR : (fTree t).map wd = (((t.state.map fun d => wd (fHd "state" d)) ++ (t.params.map fun d => wd (fHd "param" d))) ++ (t.procs.map fun p => wd (fProc p))) ++ [wd (.f (.w "beat" :: fSts t.beat))] := by
        rw [eT, List.map_append, List.map_append, List.map_append, List.map_map, List.map_map, List.map_map]
        rfl
      rw [eR]
      exact ll_push (s6 _ _ c1) (fun p m => s6 _ _ (c2 p m)) c3 eN (wd_ne _)
end
end Sd

namespace Sd
open PySem L2 Tr Pu PyProof.Rows
/-! ### the law's line of words -/
def spB (ws : List Str) (i : Nat) : Bool := decide (0 < i) && (!decide (ws.getD i "" = (")" : Str)) && !decide (ws.getD (i - 1) "" = ("(" : Str)))
def lnTo (ws : List Str) : Nat → Str
  | 0 => ""
  | i + 1 => (if spB ws i = true then lnTo ws i ++ (" " : Str) else lnTo ws i) ++ ws.getD i ""
theorem lnTo_le (ws : List Str) {i n : Nat} (h : i ≤ n) : (lnTo ws i).length ≤ (lnTo ws n).length := by
  induction n with
  | zero => have : i = 0 := by omega
            subst this; exact Nat.le_refl _
  | succ n ih =>
    by_cases c : i = n + 1
    · subst c; exact Nat.le_refl _
    · have := ih (by omega)
      show _ ≤ ((if spB ws n = true then lnTo ws n ++ (" " : Str) else lnTo ws n) ++ ws.getD n "").length
      rw [strLen_append]
      split
      · rw [strLen_append]; omega
      · omega
abbrev sLli : Stmt := top 81
def spLli : Sp := fun vs H Q _ => ∃ (W : Addr) (ws : List Str), vs = [.ref W] ∧ H W = some (.lst (ws.map V.str)) ∧ ws.length ≤ 1000000 ∧ (lnTo ws ws.length).length ≤ 10000000 ∧ Q (.str (lnTo ws ws.length)) H
section
variable {P : Program} {w : World} {K : PySem.W.Frag} {mg : Str → Option Value} {base : Heap}
theorem scLli : FnScope ["words", "text", "at"] ["words"] (defScope sLli) := ⟨rfl, rfl, rfl, by decide +kernel, rfl, by decide +kernel, by decide +kernel⟩
theorem ok_lli {f : Addr} {fd : FuncData} (F : Fun K "_law_line" "_law_line" sLli f fd) (T : Bi mg) : FnOk P w K mg base CX0 1 f fd ["words"] spLli := by
  refine F.ok scLli (fun vs H Q E h => ?_) (fun cdv A outer s H vs Q E hr h => ?_)
  · obtain ⟨W, ws, rfl, _⟩ := h
    rfl
  · obtain ⟨W, ws, rfl, eW, lw, lt, q⟩ := h
    have nd := scLli.nd
    have big : 10000002 ≤ sizeLine := by decide
    have one : (" " : Str).length = 1 := by decide +kernel
    refine ⟨_, pss_cons (ps_set (i := 1) nd rfl (.inl rfl) pe_str)
      (pss_cons (ps_for PassesOwn.never rfl (pi_range1 rfl T.range (pa_cons (pe_callB call_len_seq rfl T.len PySem.boot_len (pa_cons (pv 0) pa_nil)) pa_nil)) (pg_name (i := 2) nd rfl (.inl rfl)) (pss_cons (ps_if (PW.pt (pw_and (pt_cmpR op_gt (pv 2) pe_int (nomark _)) (pw_and (pt_cmpR op_ne (pe_ix ix_list (pv 0) (pv 2) (fun _ _ => rfl)) pe_str (nomark _)) (pw_and1 (pt_cmpR op_ne (pe_ix ix_list (pv 0) (pe_op op_sub (pv 2) pe_int) (fun _ _ => rfl)) pe_str (nomark _)))))) (pss_one (ps_set (i := 1) nd rfl (.inl rfl) (pe_op op_add_str (pv 1) pe_str))) pss_nil)
      (pss_one (ps_set (i := 1) nd rfl (.inl rfl) (pe_op op_add_str (pv 1) (pe_ix ix_list (pv 0) (pv 2) (fun _ _ => rfl)))))))
      (pss_one (ps_ret (pv 1)))), ?_⟩
    refine set_k (fun u H' => u = .str "" ∧ H = H') (fun Q' kk => kk _ _ ⟨rfl, rfl⟩) ?_
    rintro _ _ ⟨rfl, rfl⟩
    refine ⟨_, rfl, W, _, rfl, .inl (SqL.of eW), ((ws.map V.str).length : Int), rfl, by rw [List.length_map]; omega, by rw [List.length_map]; omega, for_range (lo := 0) (n := ((ws.map V.str).length : Int).toNat) (fun i σ' H' => H = H' ∧ ∃ w2 : Option V, σ' = [some (.ref W), some (.str (lnTo ws i)), w2]) ⟨rfl, none, rfl⟩ ?_ ?_⟩
    · rintro i σ' H' hi ⟨rfl, w2, rfl⟩
      have il : i < ws.length := by rw [List.length_map, Int.toNat_natCast] at hi; exact hi
      have ei : ws[i]? = some (ws.getD i "") := by rw [List.getD_eq_getElem?_getD, List.getElem?_eq_getElem il]; rfl
      have ea : atI (ws.map V.str) (i : Int) = some (.str (ws.getD i "")) := atI_nat (by rw [List.getElem?_map, ei]; rfl)
      have up := lnTo_le ws (show i + 1 ≤ ws.length from il)
      have e1 : lnTo ws (i + 1) = (if spB ws i = true then lnTo ws i ++ (" " : Str) else lnTo ws i) ++ ws.getD i "" := rfl
      rw [e1, strLen_append] at up
      rw [Int.zero_add]
      refine if_k (fun σ' H2 => H = H2 ∧ σ' = [some (.ref W), some (.str (if spB ws i = true then lnTo ws i ++ (" " : Str) else lnTo ws i)), some (.int (i : Int))]) (fun D' hD k => ?_) ?_
      · refine ⟨_, rfl, (i : Int), 0, rfl, rfl, _, rfl, ?_⟩
        by_cases c : 0 < i
        · refine iteT' (decide_eq_true (by omega)) ?_
          refine ⟨_, rfl, _, rfl, W, _, _, _, rfl, rfl, SqL.of eW, ea, rfl, _, rfl, ?_⟩
          have e3 : decide (V.str (ws.getD i "") = V.str (")" : Str)) = decide (ws.getD i "" = (")" : Str)) := by simp
          by_cases c2 : ws.getD i "" = (")" : Str)
          · refine iteF' (by rw [e3, decide_eq_true c2]; rfl) (k _ _ ⟨rfl, ?_⟩)
            have : spB ws i = false := by unfold spB; rw [decide_eq_true c2]; simp
            rw [this]
            rfl
          · refine iteT' (by rw [e3, decide_eq_false c2]; rfl) ?_
            have ej : ws[i - 1]? = some (ws.getD (i - 1) "") := by rw [List.getD_eq_getElem?_getD, List.getElem?_eq_getElem (show i - 1 < ws.length by omega)]; rfl
            have eb : atI (ws.map V.str) ((i : Int) - 1) = some (.str (ws.getD (i - 1) "")) := by
              have z : (i : Int) - 1 = ((i - 1 : Nat) : Int) := by omega
              rw [z]
              exact atI_nat (by rw [List.getElem?_map, ej]; rfl)
            refine ⟨_, rfl, _, rfl, (i : Int), 1, rfl, rfl, W, _, _, _, rfl, rfl, SqL.of eW, eb, rfl, _, rfl, ?_⟩
            have e4 : decide (V.str (ws.getD (i - 1) "") = V.str ("(" : Str)) = decide (ws.getD (i - 1) "" = ("(" : Str)) := by simp
            by_cases c3 : ws.getD (i - 1) "" = ("(" : Str)
            · refine iteF' (by rw [e4, decide_eq_true c3]; rfl) (k _ _ ⟨rfl, ?_⟩)
              have : spB ws i = false := by unfold spB; rw [decide_eq_true c3]; simp
              rw [this]
              rfl
            · refine iteT' (by rw [e4, decide_eq_false c3]; rfl) ?_
              have : spB ws i = true := by unfold spB; rw [decide_eq_false c2, decide_eq_false c3, decide_eq_true c]; rfl
              rw [if_pos this, strLen_append] at up
              refine ⟨_, rfl, _, _, rfl, rfl, by omega, k _ _ ⟨rfl, ?_⟩⟩
              rw [if_pos this]
              rfl
        · refine iteF' (decide_eq_false (by omega)) (k _ _ ⟨rfl, ?_⟩)
          have : spB ws i = false := by unfold spB; rw [decide_eq_false c]; rfl
          rw [this]
          rfl
      · rintro _ _ ⟨rfl, rfl⟩
        refine ⟨_, rfl, _, rfl, _, rfl, W, _, _, _, rfl, rfl, SqL.of eW, ea, _, _, rfl, rfl, by omega, rfl, some (.int (i : Int)), rfl⟩
    · rintro σ' H' ⟨rfl, w2, rfl⟩
      rw [List.length_map, Int.toNat_natCast]
      exact ⟨_, rfl, q⟩
end
end Sd

namespace Sd
open PySem L2 Tr Pu PyProof.Rows
/-! ### the line of a form's words is its text -/
def sepP : Option Str → Str → Bool
  | none, _ => false
  | some p, x => !decide (x = (")" : Str)) && !decide (p = ("(" : Str))
def lineA (acc : Str) (prev : Option Str) : List Str → Str
  | [] => acc
  | x :: r => lineA ((if sepP prev x = true then acc ++ (" " : Str) else acc) ++ x) (some x) r
theorem lineA_ln : ∀ (r pre ws : List Str), ws = pre ++ r → lineA (lnTo ws pre.length) pre.getLast? r = lnTo ws ws.length
  | [], pre, ws, e => by rw [List.append_nil] at e; subst e; rfl
  | x :: r, pre, ws, e => by
    have ih := lineA_ln r (pre ++ [x]) ws (by rw [e, List.append_assoc]; rfl)
    rw [← ih]
    have gx : ws.getD pre.length "" = x := by rw [e, List.getD_eq_getElem?_getD, List.getElem?_append_right (Nat.le_refl _), Nat.sub_self]; rfl
    have es : sepP pre.getLast? x = spB ws pre.length := by
      unfold spB
      rw [gx]
      rcases List.eq_nil_or_concat pre with rfl | ⟨q, y, rfl⟩
      · rfl
      ·
        rw [List.concat_eq_append] at *
        have gy : ws.getD ((q ++ [y]).length - 1) "" = y := by
          rw [e, List.length_append, List.getD_eq_getElem?_getD, List.append_assoc, List.getElem?_append_right (by show q.length ≤ q.length + 1 - 1; omega)]
          have : q.length + [y].length - 1 - q.length = 0 := by show q.length + 1 - 1 - q.length = 0; omega
          rw [this]
          rfl
        rw [gy, List.getLast?_concat]
        have : decide (0 < (q ++ [y]).length) = true := decide_eq_true (by rw [List.length_append]; show 0 < q.length + 1; omega)
        rw [this]
        rfl
    have e1 : lnTo ws (pre ++ [x]).length = (if sepP pre.getLast? x = true then lnTo ws pre.length ++ (" " : Str) else lnTo ws pre.length) ++ x := by
      rw [List.length_append]
      show (if spB ws pre.length = true then lnTo ws pre.length ++ (" " : Str) else lnTo ws pre.length) ++ ws.getD pre.length "" = _
      rw [gx, es]
    rw [e1, List.getLast?_concat]
    rfl
mutual
def okF : Fm → Prop
  | .w s => s ≠ ("(" : Str) ∧ s ≠ (")" : Str)
  | .f l => okFs l
def okFs : List Fm → Prop
  | [] => True
  | x :: r => okF x ∧ okFs r
end
def sepS (prev : Option Str) (acc : Str) : Str := match prev with
  | none => acc
  | some p => if p = ("(" : Str) then acc else acc ++ (" " : Str)
def jn : List Str → Str
  | [] => ""
  | t :: r => (" " : Str) ++ t ++ jn r
theorem join_jn : ∀ (t : Str) (r : List Str), Txt.join (" " : Str) (t :: r) = t ++ jn r
  | t, [] => by
    rw [TL.join_eq]
    show t = t ++ ("" : Str)
    exact (W.KFm.cat_t).symm
  | t, x :: r => by
    have ih := join_jn x r
    rw [TL.join_eq] at ih ⊢
    show t ++ (" " : Str) ++ Str.join " " (x :: r) = t ++ ((" " : Str) ++ x ++ jn r)
    rw [ih, Str.append_assoc, Str.append_assoc]
theorem sep_first {prev : Option Str} {x acc : Str} (h : x ≠ (")" : Str)) : (if sepP prev x = true then acc ++ (" " : Str) else acc) = sepS prev acc := by
  cases prev with
  | none => rfl
  | some p =>
    show (if (!decide (x = (")" : Str)) && !decide (p = ("(" : Str))) = true then acc ++ (" " : Str) else acc) = if p = ("(" : Str) then acc else acc ++ (" " : Str)
    by_cases c : p = ("(" : Str)
    · rw [if_pos c, decide_eq_true c]; simp
    · rw [if_neg c, decide_eq_false c, decide_eq_false h]; rfl
theorem ob_ne : ("(" : Str) ≠ (")" : Str) := by decide +kernel
mutual
theorem la_F : ∀ (F : Fm), okF F → ∀ (acc : Str) (prev : Option Str) (r : List Str), ∃ p, p ≠ ("(" : Str) ∧ lineA acc prev (wd F ++ r) = lineA (sepS prev acc ++ tx F) (some p) r
  | .w s, h, acc, prev, r => ⟨s, h.1, by
    rw [wd_w]
    show lineA ((if sepP prev s = true then acc ++ (" " : Str) else acc) ++ s) (some s) r = _
    rw [sep_first h.2]
    simp only [tx]⟩
  | .f [], _, acc, prev, r => ⟨")", fun z => ob_ne z.symm, by
    rw [wd_f, wds_n]
    show lineA ((if sepP (some ("(" : Str)) (")" : Str) = true then _ else ((if sepP prev ("(" : Str) = true then acc ++ (" " : Str) else acc) ++ ("(" : Str))) ++ (")" : Str)) (some (")" : Str)) r = _
    rw [if_neg (by unfold sepP; decide +kernel), sep_first ob_ne]
    simp only [tx, txs]
    unfold frm
    have e : Txt.join (" " : Str) [] = ("" : Str) := by rw [TL.join_eq]; rfl
    rw [e, W.KFm.cat_t, Str.append_assoc]⟩
  | .f (x :: l), h, acc, prev, r => by
    obtain ⟨p, hp, e⟩ := la_F x h.1 (sepS prev acc ++ ("(" : Str)) (some ("(" : Str)) (wds l ++ (")" : Str) :: r)
    refine ⟨")", fun z => ob_ne z.symm, ?_⟩
    have e0 : wd (.f (x :: l)) ++ r = ("(" : Str) :: (wd x ++ (wds l ++ (")" : Str) :: r)) := by
      rw [wd_f, wds_c]
      simp
    rw [e0]
    show lineA ((if sepP prev ("(" : Str) = true then acc ++ (" " : Str) else acc) ++ ("(" : Str)) (some ("(" : Str)) _ = _
    rw [sep_first ob_ne, e, la_L l h.2 _ p r hp]
    have e2 : sepS (some ("(" : Str)) (sepS prev acc ++ ("(" : Str)) = sepS prev acc ++ ("(" : Str) := by
      show (if ("(" : Str) = ("(" : Str) then (sepS prev acc ++ ("(" : Str)) else (sepS prev acc ++ ("(" : Str)) ++ (" " : Str)) = _
      exact if_pos rfl
    have e3 : tx (.f (x :: l)) = ("(" : Str) ++ (tx x ++ jn (txs l)) ++ (")" : Str) := by
      simp only [tx, txs]
      unfold frm
      rw [join_jn]
    rw [e2, e3]
    simp only [Str.append_assoc]
theorem la_L : ∀ (l : List Fm), okFs l → ∀ (acc : Str) (p : Str) (r : List Str), p ≠ ("(" : Str) → lineA acc (some p) (wds l ++ (")" : Str) :: r) = lineA (acc ++ jn (txs l) ++ (")" : Str)) (some (")" : Str)) r
  | [], _, acc, p, r, hp => by
    rw [wds_n]
    show lineA ((if sepP (some p) (")" : Str) = true then acc ++ (" " : Str) else acc) ++ (")" : Str)) (some (")" : Str)) r = _
    have : ¬ (sepP (some p) (")" : Str) = true) := by unfold sepP; simp
    rw [if_neg this]
    simp only [txs, jn]
    rw [W.KFm.cat_t]
  | x :: l, h, acc, p, r, hp => by
    obtain ⟨p2, hp2, e⟩ := la_F x h.1 acc (some p) (wds l ++ (")" : Str) :: r)
    have e0 : wds (x :: l) ++ (")" : Str) :: r = wd x ++ (wds l ++ (")" : Str) :: r) := by
      rw [wds_c, List.append_assoc]
    rw [e0, e, la_L l h.2 _ p2 r hp2]
    have e2 : sepS (some p) acc = acc ++ (" " : Str) := by
      show (if p = ("(" : Str) then acc else acc ++ (" " : Str)) = _
      exact if_neg hp
    rw [e2]
    simp only [txs, jn, Str.append_assoc]
end
theorem line_wd (F : Fm) (h : okF F) : lnTo (wd F) (wd F).length = tx F := by
  obtain ⟨p, _, e⟩ := la_F F h "" none []
  have := lineA_ln (wd F) [] (wd F) rfl
  rw [← this]
  show lineA "" none (wd F) = tx F
  rw [List.append_nil] at e
  rw [e]
  show ("" : Str) ++ tx F = tx F
  exact Str.append_left_empty rfl
end Sd

namespace Sd
open PySem L2 Tr Pu PyProof.Rows
/-! ### what holds of drawn trees' forms -/
def Good (s : Str) : Prop := TL.tl s ≠ [] ∧ s.length ≤ 30 ∧ 40 ∉ TL.tl s ∧ 41 ∉ TL.tl s ∧ 32 ∉ TL.tl s ∧ 10 ∉ TL.tl s ∧ ∀ c ∈ TL.tl s, 33 ≤ c ∧ c ≤ 126 ∧ c ≠ 37
instance (s : Str) : Decidable (Good s) := by unfold Good; infer_instance
theorem good_cat {a b : Str} (ha : Good a) (hb : 40 ∉ TL.tl b ∧ 41 ∉ TL.tl b ∧ 32 ∉ TL.tl b ∧ 10 ∉ TL.tl b ∧ ∀ c ∈ TL.tl b, 33 ≤ c ∧ c ≤ 126 ∧ c ≠ 37) (hl : a.length + b.length ≤ 30) : Good (a ++ b) := by
  obtain ⟨a1, a2, a3, a4, a5, a6, a7⟩ := ha
  obtain ⟨b3, b4, b5, b6, b7⟩ := hb
  refine ⟨?_, by rw [strLen_append]; exact hl, ?_, ?_, ?_, ?_, fun c m => ?_⟩
  · rw [TL.tl_append]; intro z; exact a1 (List.append_eq_nil_iff.mp z).1
  rotate_left 4
  · rw [TL.tl_append] at m
    rcases List.mem_append.mp m with m | m
    · exact a7 c m
    · exact b7 c m
  all_goals
    rw [TL.tl_append]
    intro z
    rcases List.mem_append.mp z with z | z <;> contradiction
theorem num_free (n : Nat) : 40 ∉ TL.tl (Str.ofString (toString ((n : Nat) : Int))) ∧ 41 ∉ TL.tl (Str.ofString (toString ((n : Nat) : Int))) ∧ 32 ∉ TL.tl (Str.ofString (toString ((n : Nat) : Int))) ∧ 10 ∉ TL.tl (Str.ofString (toString ((n : Nat) : Int))) ∧ ∀ c ∈ TL.tl (Str.ofString (toString ((n : Nat) : Int))), 33 ≤ c ∧ c ≤ 126 ∧ c ≠ 37 := by
  rw [TL.tl_num]
  refine ⟨TL.numL_free (by omega), TL.numL_free (by omega), TL.numL_free (by omega), TL.numL_free (by omega), fun c m => ?_⟩
  have lo : ¬ c < 48 := fun h => TL.numL_free (.inl h) m
  have hi : ¬ 57 < c := fun h => TL.numL_free (.inr h) m
  omega
theorem num_len {n : Nat} (h : n < 10 ^ 10) : (Str.ofString (toString ((n : Nat) : Int))).length ≤ 10 := by
  rw [TL.len_tl, TL.tl_num]
  exact TL.numL_len (by decide) h
theorem good_num {i : Int} (h0 : 0 ≤ i) (h1 : i < 2147483648) : Good (toString i : Str) := by
  obtain ⟨n, rfl⟩ : ∃ n : Nat, i = (n : Int) := ⟨i.toNat, by omega⟩
  have f := num_free n
  refine ⟨by rw [TL.tl_num]; exact TL.numL_ne n, Nat.le_trans (num_len (by omega)) (by decide), f.1, f.2.1, f.2.2.1, f.2.2.2.1, f.2.2.2.2⟩
theorem good_lvl {c : Str} {n : Nat} (hc : Good c) (l : c.length ≤ 20) (h : n < 1000) : Good (lvl c n) := good_cat hc (num_free n) (by
  have : (Str.ofString (toString ((n : Nat) : Int))).length ≤ 10 := num_len (by omega)
  omega)
theorem good_ob {s : Str} (h : Good s) : s ≠ ("(" : Str) ∧ s ≠ (")" : Str) := ⟨fun z => h.2.2.1 (by rw [z]; decide +kernel), fun z => h.2.2.2.1 (by rw [z]; decide +kernel)⟩
mutual
def okA (P : Str → Prop) : Fm → Prop
  | .w s => P s
  | .f l => okAs P l
def okAs (P : Str → Prop) : List Fm → Prop
  | [] => True
  | x :: r => okA P x ∧ okAs P r
end
theorem okAs_of {P : Str → Prop} : ∀ {l : List Fm}, (∀ x ∈ l, okA P x) → okAs P l
  | [], _ => by simp only [okAs]
  | x :: r, h => by
    simp only [okAs]
    exact ⟨h x List.mem_cons_self, okAs_of fun y m => h y (List.mem_cons_of_mem _ m)⟩
theorem okAs_mem {P : Str → Prop} : ∀ {l : List Fm} {x : Fm}, okAs P l → x ∈ l → okA P x
  | y :: r, x, h, m => by
    simp only [okAs] at h
    rcases List.mem_cons.mp m with rfl | m
    · exact h.1
    · exact okAs_mem h.2 m
theorem okAs_app {P : Str → Prop} {a b : List Fm} (h : okAs P a) (g : okAs P b) : okAs P (a ++ b) := okAs_of fun x m => by
  rcases List.mem_append.mp m with m | m
  · exact okAs_mem h m
  · exact okAs_mem g m
mutual
theorem okA_F : ∀ {F : Fm}, okA Good F → okF F
  | .w s, h => by
    simp only [okA] at h
    simp only [okF]
    exact good_ob h
  | .f l, h => by
    simp only [okA] at h
    simp only [okF]
    exact okA_Fs h
theorem okA_Fs : ∀ {l : List Fm}, okAs Good l → okFs l
  | [], _ => by simp only [okFs]
  | x :: r, h => by
    simp only [okAs] at h
    simp only [okFs]
    exact ⟨okA_F h.1, okA_Fs h.2⟩
end
mutual
theorem wd_short : ∀ {F : Fm}, okA Good F → ∀ s ∈ wd F, s.length ≤ 30
  | .w s, h, x, m => by
    simp only [okA] at h
    rw [wd_w] at m
    rw [List.mem_singleton.mp m]
    exact h.2.1
  | .f l, h, x, m => by
    simp only [okA] at h
    rw [wd_f] at m
    rcases List.mem_cons.mp m with rfl | m
    · decide +kernel
    · rcases List.mem_append.mp m with m | m
      · exact wds_short h x m
      · rw [List.mem_singleton.mp m]; decide +kernel
theorem wds_short : ∀ {l : List Fm}, okAs Good l → ∀ s ∈ wds l, s.length ≤ 30
  | [], _, x, m => by rw [wds_n] at m; cases m
  | y :: r, h, x, m => by
    simp only [okAs] at h
    rw [wds_c] at m
    rcases List.mem_append.mp m with m | m
    · exact wd_short h.1 x m
    · exact wds_short h.2 x m
end
theorem lnTo_len {ws : List Str} (h : ∀ s ∈ ws, s.length ≤ 30) : ∀ n, (lnTo ws n).length ≤ 31 * n
  | 0 => by show ("" : Str).length ≤ 0; decide +kernel
  | n + 1 => by
    have ih := lnTo_len h n
    have one : (" " : Str).length = 1 := by decide +kernel
    have g : (ws.getD n "").length ≤ 30 := by
      rw [List.getD_eq_getElem?_getD]
      cases c : ws[n]? with
      | none => show ("" : Str).length ≤ 30; decide +kernel
      | some s => exact h s (List.mem_of_getElem? c)
    show ((if spB ws n = true then lnTo ws n ++ (" " : Str) else lnTo ws n) ++ ws.getD n "").length ≤ _
    rw [strLen_append]
    split
    · rw [strLen_append, one]; omega
    · omega
theorem tx_le {F : Fm} (h : okA Good F) : (tx F).length ≤ 31 * (wd F).length := by
  rw [← line_wd F (okA_F h)]
  exact lnTo_len (wd_short h) _
theorem wds_le {M : Nat} : ∀ {l : List Fm}, (∀ x ∈ l, (wd x).length ≤ M) → (wds l).length ≤ l.length * M
  | [], _ => by rw [wds_n]; exact Nat.zero_le _
  | x :: r, h => by
    rw [wds_c, List.length_append, List.length_cons, Nat.add_mul, Nat.one_mul]
    have h1 := h x List.mem_cons_self
    have h2 := wds_le (l := r) (M := M) fun y m => h y (List.mem_cons_of_mem _ m)
    omega
theorem small_of {i : Int} (h0 : 0 ≤ i) (h1 : i < 2147483648) : Small i := by
  unfold Small
  have : i.natAbs < 2 ^ 31 := by omega
  by_cases c : i.natAbs = 0
  · rw [c]; decide
  · have := (Nat.log2_lt c).mpr this
    omega
theorem wd_3 (a b c : Fm) : (wd (.f [a, b, c])).length = (wd a).length + (wd b).length + (wd c).length + 2 := by
  rw [wd_f, wds_c, wds_c, wds_c, wds_n, List.length_cons, List.length_append, List.length_append, List.length_append, List.length_append]
  show _ + (_ + (_ + 0)) + 1 + 1 = _
  omega
theorem wd_2 (a b : Fm) : (wd (.f [a, b])).length = (wd a).length + (wd b).length + 2 := by
  rw [wd_f, wds_c, wds_c, wds_n, List.length_cons, List.length_append, List.length_append, List.length_append]
  show _ + (_ + 0) + 1 + 1 = _
  omega
theorem wd_1 (s : Str) : (wd (.w s)).length = 1 := by rw [wd_w]; rfl
theorem ok3 {P : Str → Prop} {a b c : Fm} (ha : okA P a) (hb : okA P b) (hc : okA P c) : okA P (.f [a, b, c]) := by
  simp only [okA, okAs]
  exact ⟨ha, hb, hc, trivial⟩
theorem ok2 {P : Str → Prop} {a b : Fm} (ha : okA P a) (hb : okA P b) : okA P (.f [a, b]) := by
  simp only [okA, okAs]
  exact ⟨ha, hb, trivial⟩
theorem ok1 {P : Str → Prop} {s : Str} (h : P s) : okA P (.w s) := by simp only [okA]; exact h
theorem b_ix {is : List Str} (hi : ∀ s ∈ is, Good s) {d : Nat} {x : Ix} (g : GIx is d x) : okA Good (fIx x) ∧ okIx x ∧ depIx x ≤ d ∧ (wd (fIx x)).length + 3 ≤ 2 ^ (d + 2) := by
  have p0 : ∀ d : Nat, 1 ≤ 2 ^ d := fun d => Nat.one_le_two_pow
  induction g with
  | int h0 h1 => exact ⟨ok1 (good_num h0 (by omega)), small_of h0 (by omega), Nat.zero_le _, by
      show (wd (num _)).length + 3 ≤ _
      unfold num
      rw [wd_1, Nat.pow_add]
      have := p0 (by assumption)
      omega⟩
  | beat => exact ⟨ok1 (by decide +kernel), trivial, Nat.zero_le _, by
      show (wd (.w _)).length + 3 ≤ _
      rw [wd_1, Nat.pow_add]
      have := p0 (by assumption)
      omega⟩
  | var h => exact ⟨ok1 (hi _ h), trivial, Nat.zero_le _, by
      show (wd (.w _)).length + 3 ≤ _
      rw [wd_1, Nat.pow_add]
      have := p0 (by assumption)
      omega⟩
  | @rem d0 _ _ ha h0 h1 ih =>
    obtain ⟨i1, i2, i3, i4⟩ := ih
    refine ⟨ok3 (ok1 (by decide +kernel)) i1 (ok1 (good_num (by omega) (by omega))), ⟨i2, small_of (by omega) (by omega)⟩, Nat.succ_le_succ i3, ?_⟩
    show (wd (.f [.w "rem", fIx _, num _])).length + 3 ≤ _
    unfold num
    rw [wd_3, wd_1, wd_1, Nat.add_right_comm, Nat.pow_succ]
    have := p0 d0
    have e : 2 ^ (d0 + 2) = 2 ^ d0 * 4 := by rw [Nat.pow_add]
    omega
  | op ha hb iha ihb =>
    obtain ⟨i1, i2, i3, i4⟩ := iha
    obtain ⟨j1, j2, j3, j4⟩ := ihb
    refine ⟨ok3 (ok1 (by rename_i o _ _; cases o <;> decide +kernel)) i1 j1, ⟨i2, j2⟩, Nat.succ_le_succ (Nat.max_le.mpr ⟨i3, j3⟩), ?_⟩
    show (wd (.f [.w _, fIx _, fIx _])).length + 3 ≤ _
    rw [wd_3, wd_1, Nat.add_right_comm, Nat.pow_succ]
    omega
structure Ctx (vars : List VRow) (is : List Str) : Prop where
  v : ∀ r ∈ vars, Good r.1 ∧ 0 ≤ r.2.1 ∧ r.2.1 ≤ 3
  i : ∀ s ∈ is, Good s
theorem b_pl {vars : List VRow} {is : List Str} (c : Ctx vars is) {nm : Str} {ix : Option Ix} (g : GPl vars is nm ix) : okA Good (fPl nm ix) ∧ okOx ix ∧ depOx ix < 8 ∧ (wd (fPl nm ix)).length ≤ 21 := by
  cases g with
  | plain h => exact ⟨ok1 (c.v _ h).1, trivial, by show 0 < 8; decide, by show (wd (.w _)).length ≤ 21; rw [wd_1]; decide⟩
  | raw h hs g =>
    obtain ⟨i1, i2, i3, i4⟩ := b_ix c.i g
    refine ⟨ok3 (ok1 (by decide +kernel)) (ok1 (c.v _ h).1) i1, i2, Nat.lt_of_le_of_lt i3 (by decide), ?_⟩
    show (wd (.f [.w _, .w _, fIx _])).length ≤ 21
    rw [wd_3, wd_1, wd_1]
    have : (2 : Nat) ^ (2 + 2) = 16 := rfl
    omega
  | wrapped h hs g =>
    obtain ⟨i1, i2, i3, i4⟩ := b_ix c.i g
    obtain ⟨v1, v2, v3⟩ := c.v _ h
    refine ⟨ok3 (ok1 (by decide +kernel)) (ok1 v1) (ok3 (ok1 (by decide +kernel)) i1 (ok1 (good_num v2 (Int.lt_of_le_of_lt v3 (by decide))))), ⟨i2, small_of v2 (Int.lt_of_le_of_lt v3 (by decide))⟩, Nat.lt_of_le_of_lt (Nat.succ_le_succ i3) (by decide), ?_⟩
    show (wd (.f [.w _, .w _, .f [.w _, fIx _, num _]])).length ≤ 21
    unfold num
    rw [wd_3, wd_3, wd_1, wd_1, wd_1, wd_1]
    have : (2 : Nat) ^ (2 + 2) = 16 := rfl
    omega
theorem b_ex {vars : List VRow} {is : List Str} (c : Ctx vars is) {d : Nat} {x : Ex} (g : GEx vars is d x) : okA Good (fEx x) ∧ okEx x ∧ okDx x ∧ depEx x ≤ d ∧ (wd (fEx x)).length + 3 ≤ 24 * 2 ^ d := by
  have p0 : ∀ d : Nat, 1 ≤ 2 ^ d := fun d => Nat.one_le_two_pow
  induction g with
  | @num d0 _ h => exact ⟨ok1 (good_num h.1 (by have := h.2; omega)), small_of h.1 (by have := h.2; omega), trivial, Nat.zero_le _, by
      show (wd (num _)).length + 3 ≤ _
      unfold num
      rw [wd_1]
      have := p0 d0
      omega⟩
  | @place d0 _ _ h =>
    obtain ⟨i1, i2, i3, i4⟩ := b_pl c h
    exact ⟨i1, i2, i3, Nat.zero_le _, by
      show (wd (fPl _ _)).length + 3 ≤ _
      have := p0 d0
      omega⟩
  | op ha hb iha ihb =>
    obtain ⟨i1, i2, i3, i4, i5⟩ := iha
    obtain ⟨j1, j2, j3, j4, j5⟩ := ihb
    refine ⟨ok3 (ok1 (by rename_i o _ _; cases o <;> decide +kernel)) i1 j1, ⟨i2, j2⟩, ⟨i3, j3⟩, Nat.succ_le_succ (Nat.max_le.mpr ⟨i4, j4⟩), ?_⟩
    show (wd (.f [.w _, fEx _, fEx _])).length + 3 ≤ _
    rw [wd_3, wd_1, Nat.pow_succ]
    omega
theorem b_ts {vars : List VRow} {is : List Str} (c : Ctx vars is) {x : Ts} (g : GTs vars is x) : okA Good (fTs x) ∧ okTs x ∧ okDt x ∧ depTs x < 8 ∧ (wd (fTs x)).length ≤ 51 := by
  have e2 : (2 : Nat) ^ 1 = 2 := rfl
  have e8 : (2 : Nat) ^ (1 + 2) = 8 := rfl
  cases g with
  | zero h =>
    obtain ⟨i1, i2, i3, i4, i5⟩ := b_ex c h
    refine ⟨ok2 (ok1 (by decide +kernel)) i1, i2, ⟨Nat.lt_of_le_of_lt i4 (by decide), i3⟩, by show 0 < 8; decide, ?_⟩
    show (wd (.f [.w _, fEx _])).length ≤ 51
    rw [wd_2, wd_1]
    omega
  | notz h =>
    obtain ⟨i1, i2, i3, i4, i5⟩ := b_ex c h
    refine ⟨ok2 (ok1 (by decide +kernel)) (ok2 (ok1 (by decide +kernel)) i1), i2, ⟨Nat.lt_of_le_of_lt i4 (by decide), i3⟩, by show 0 + 1 < 8; decide, ?_⟩
    show (wd (.f [.w _, .f [.w _, fEx _]])).length ≤ 51
    rw [wd_2, wd_2, wd_1, wd_1]
    omega
  | less ha hb =>
    obtain ⟨i1, i2, i3, i4⟩ := b_ix c.i ha
    obtain ⟨j1, j2, j3, j4⟩ := b_ix c.i hb
    refine ⟨ok3 (ok1 (by decide +kernel)) i1 j1, ⟨i2, j2⟩, ⟨Nat.lt_of_le_of_lt i3 (by decide), Nat.lt_of_le_of_lt j3 (by decide)⟩, by show 0 < 8; decide, ?_⟩
    show (wd (.f [.w _, fIx _, fIx _])).length ≤ 51
    rw [wd_3, wd_1]
    omega
  | equal ha hb =>
    obtain ⟨i1, i2, i3, i4⟩ := b_ix c.i ha
    obtain ⟨j1, j2, j3, j4⟩ := b_ix c.i hb
    refine ⟨ok3 (ok1 (by decide +kernel)) i1 j1, ⟨i2, j2⟩, ⟨Nat.lt_of_le_of_lt i3 (by decide), Nat.lt_of_le_of_lt j3 (by decide)⟩, by show 0 < 8; decide, ?_⟩
    show (wd (.f [.w _, fIx _, fIx _])).length ≤ 51
    rw [wd_3, wd_1]
    omega
end Sd

namespace Sd
open PySem L2 Tr Pu PyProof.Rows
def KOk (ks : List KRow) : Prop := ∀ r ∈ ks, Good r.1 ∧ r.2.1 ≤ 2 ∧ r.2.2.length ≤ 2
theorem picks_good {vars : List VRow} (c : ∀ r ∈ vars, Good r.1 ∧ 0 ≤ r.2.1 ∧ r.2.1 ≤ 3) {zs : List Int} {ns : List Str} (h : Picks vars zs ns) : ∀ n ∈ ns, Good n := by
  induction h with
  | nil => intro n m; cases m
  | snoc h m d ih =>
    intro n mn
    rcases List.mem_append.mp mn with mn | mn
    · exact ih n mn
    · rw [List.mem_singleton.mp mn]; exact (c _ m).1
theorem wds_names : ∀ ns : List Str, (wds (ns.map Fm.w)).length = ns.length := fun ns => by rw [wds_w]
theorem okAs_names {ns : List Str} (h : ∀ n ∈ ns, Good n) : okAs Good (ns.map Fm.w) := okAs_of fun x m => by
  obtain ⟨n, hn, rfl⟩ := List.mem_map.mp m
  exact ok1 (h n hn)
theorem okA_f {P : Str → Prop} {l : List Fm} (h : okAs P l) : okA P (.f l) := by simp only [okA]; exact h
theorem okAs_c {P : Str → Prop} {x : Fm} {l : List Fm} (h : okA P x) (g : okAs P l) : okAs P (x :: l) := by simp only [okAs]; exact ⟨h, g⟩
theorem okAs_n {P : Str → Prop} : okAs P [] := by simp only [okAs]
theorem wd_fl (l : List Fm) : (wd (.f l)).length = (wds l).length + 2 := by
  rw [wd_f, List.length_cons, List.length_append]
  show _ + 1 + 1 = _
  omega
theorem wds_cl (x : Fm) (l : List Fm) : (wds (x :: l)).length = (wd x).length + (wds l).length := by rw [wds_c, List.length_append]
theorem wds_nl : (wds []).length = 0 := by rw [wds_n]; rfl
theorem okSts_of : ∀ {b : List Tr.St}, (∀ s ∈ b, okSt s) → okSts b
  | [], _ => trivial
  | s :: r, h => ⟨h s List.mem_cons_self, okSts_of fun x m => h x (List.mem_cons_of_mem _ m)⟩
theorem depSts_of {d : Nat} : ∀ {b : List Tr.St}, (∀ s ∈ b, depSt s ≤ d) → depSts b ≤ d
  | [], _ => Nat.zero_le _
  | s :: r, h => Nat.max_le.mpr ⟨h s List.mem_cons_self, depSts_of fun x m => h x (List.mem_cons_of_mem _ m)⟩
theorem b_call {ks : List KRow} {vars : List VRow} {is : List Str} (kk : KOk ks) (c : Ctx vars is) {f : Str} {xs : List Ix} {ns : List Str} (g : GCall ks vars is f xs ns) : okA Good (fSt (.call f xs ns)) ∧ okSt (.call f xs ns) ∧ (wd (fSt (.call f xs ns))).length ≤ 40 := by
  obtain ⟨zs, hm, hp⟩ := g.row
  obtain ⟨k1, k2, k3⟩ := kk _ hm
  have k2' : xs.length ≤ 2 := k2
  have k3' : zs.length ≤ 2 := k3
  have gn := picks_good c.v hp
  have ln := hp.len
  have each : ∀ x ∈ xs, _ := fun x m => b_ix c.i (g.idx x m)
  have e16 : (2 : Nat) ^ (2 + 2) = 16 := rfl
  have lx : (wds (xs.map fIx)).length ≤ 26 := by
    have := wds_le (l := xs.map fIx) (M := 13) fun y m => by
      obtain ⟨x, hx, rfl⟩ := List.mem_map.mp m
      have := (each x hx).2.2.2
      omega
    rw [List.length_map] at this
    omega
  refine ⟨okA_f (okAs_c (ok1 (by decide +kernel)) (okAs_c (ok1 k1) (okAs_c (okA_f (okAs_of fun y m => ?_)) (okAs_c (okA_f (okAs_names gn)) okAs_n)))), fun x m => ⟨(each x m).2.1, Nat.lt_of_le_of_lt (each x m).2.2.1 (by decide)⟩, ?_⟩
  · obtain ⟨x, hx, rfl⟩ := List.mem_map.mp m
    exact (each x hx).1
  · show (wd (.f [.w "call", .w f, .f (xs.map fIx), .f (ns.map Fm.w)])).length ≤ 40
    rw [wd_fl, wds_cl, wds_cl, wds_cl, wds_cl, wds_nl, wd_1, wd_1, wd_fl, wd_fl, wds_names]
    omega
theorem b_sts {d : Nat} {b : List Tr.St} (h3 : b.length ≤ 3) (h : ∀ s ∈ b, okA Good (fSt s) ∧ okSt s ∧ depSt s ≤ d ∧ (wd (fSt s)).length + 12 ≤ 140 * 6 ^ d) : okAs Good (fSts b) ∧ okSts b ∧ depSts b ≤ d ∧ (wds (fSts b)).length + 36 ≤ 420 * 6 ^ d := by
  have p0 : 1 ≤ 6 ^ d := Nat.one_le_pow _ _ (by decide)
  refine ⟨?_, okSts_of fun s m => (h s m).2.1, depSts_of fun s m => (h s m).2.2.1, ?_⟩
  · rw [fSts_map]
    refine okAs_of fun y m => ?_
    obtain ⟨s, hs, rfl⟩ := List.mem_map.mp m
    exact (h s hs).1
  · have := wds_le (l := fSts b) (M := 140 * 6 ^ d - 12) fun y m => by
      rw [fSts_map] at m
      obtain ⟨s, hs, rfl⟩ := List.mem_map.mp m
      have := (h s hs).2.2.2
      omega
    have l3 : (fSts b).length ≤ 3 := by rw [fSts_map, List.length_map]; exact h3
    have := Nat.le_trans this (Nat.mul_le_mul_right (140 * 6 ^ d - 12) l3)
    omega
theorem Ctx.addI {vars : List VRow} {is : List Str} (c : Ctx vars is) {s : Str} (h : Good s) : Ctx vars (is ++ [s]) := ⟨c.v, fun x m => by
  rcases List.mem_append.mp m with m | m
  · exact c.i x m
  · rw [List.mem_singleton.mp m]; exact h⟩
theorem Ctx.addV {vars : List VRow} {is : List Str} (c : Ctx vars is) {s : Str} {b : Bool} (h : Good s) : Ctx (vars ++ [(s, 0, b)]) is := ⟨fun x m => by
  rcases List.mem_append.mp m with m | m
  · exact c.v x m
  · rw [List.mem_singleton.mp m]; exact ⟨h, Int.le_refl _, by show (0 : Int) ≤ 3; decide⟩, c.i⟩
theorem Ctx.free {vars : List VRow} {is : List Str} (c : Ctx vars is) : Ctx (freeOf vars) is := ⟨fun r m => c.v r (List.mem_filter.mp m).1, c.i⟩
theorem b_st {ks : List KRow} (kk : KOk ks) {vars : List VRow} {is : List Str} {d : Nat} {x : Tr.St} (g : GSt ks vars is d x) : Ctx vars is → vars.length + is.length + d ≤ 100 → okA Good (fSt x) ∧ okSt x ∧ depSt x ≤ d ∧ (wd (fSt x)).length + 12 ≤ 140 * 6 ^ d := by
  have p0 : ∀ d : Nat, 1 ≤ 6 ^ d := fun d => Nat.one_le_pow _ _ (by decide)
  have e4 : (2 : Nat) ^ 2 = 4 := rfl
  have e8 : (2 : Nat) ^ (1 + 2) = 8 := rfl
  induction g with
  | @set vars is d nm ix e hp he =>
    intro c hl
    obtain ⟨p1, p2, p3, p4⟩ := b_pl c.free hp
    obtain ⟨i1, i2, i3, i4, i5⟩ := b_ex c he
    refine ⟨ok3 (ok1 (by decide +kernel)) p1 i1, ⟨p2, p3, i2, i3, Nat.lt_of_le_of_lt i4 (by decide)⟩, Nat.zero_le _, ?_⟩
    show (wd (.f [.w _, fPl _ _, fEx _])).length + 12 ≤ _
    rw [wd_3, wd_1]
    have := p0 d
    omega
  | @call vars is d f xs ns h =>
    intro c hl
    obtain ⟨c1, c2, c3⟩ := b_call kk c h
    have := p0 d
    exact ⟨c1, c2, Nat.zero_le _, by omega⟩
  | @loop vars is d cc b hc h1 h3 hb ih =>
    intro c hl
    obtain ⟨i1, i2, i3, i4⟩ := b_ix c.i hc
    have gl : Good (lvl "i" (vars.length + is.length)) := good_lvl (by decide +kernel) (by decide +kernel) (by omega)
    obtain ⟨s1, s2, s3, s4⟩ := b_sts h3 fun s m => ih s m (c.addI gl) (by rw [List.length_append]; show _ + (_ + 1) + _ ≤ _; omega)
    refine ⟨okA_f (okAs_app (okAs_c (ok1 (by decide +kernel)) (okAs_c (ok1 gl) (okAs_c i1 okAs_n))) s1), ⟨i2, Nat.lt_of_le_of_lt i3 (by decide), s2⟩, Nat.succ_le_succ s3, ?_⟩
    show (wd (.f ([.w _, .w _, fIx _] ++ fSts _))).length + 12 ≤ _
    rw [wd_fl, wds_app, List.length_append, wds_cl, wds_cl, wds_cl, wds_nl, wd_1, wd_1, Nat.pow_succ]
    have := p0 d
    omega
  | @ite vars is d t a b ht a1 a3 ha b1 b3 hb iha ihb =>
    intro c hl
    obtain ⟨t1, t2, t3, t4, t5⟩ := b_ts c ht
    obtain ⟨s1, s2, s3, s4⟩ := b_sts a3 fun s m => iha s m c (by omega)
    obtain ⟨r1, r2, r3, r4⟩ := b_sts b3 fun s m => ihb s m c (by omega)
    refine ⟨okA_f (okAs_c (ok1 (by decide +kernel)) (okAs_c t1 (okAs_c (okA_f s1) (okAs_c (okA_f r1) okAs_n)))), ⟨t2, t3, t4, s2, r2⟩, Nat.succ_le_succ (Nat.max_le.mpr ⟨s3, r3⟩), ?_⟩
    show (wd (.f [.w _, fTs _, .f (fSts _), .f (fSts _)])).length + 12 ≤ _
    rw [wd_fl, wds_cl, wds_cl, wds_cl, wds_cl, wds_nl, wd_1, wd_fl, wd_fl, Nat.pow_succ]
    have := p0 d
    omega
  | @bind vars is d e b he h1 h3 hb ih =>
    intro c hl
    obtain ⟨i1, i2, i3, i4, i5⟩ := b_ex c he
    have gl : Good (lvl "l" (vars.length + is.length)) := good_lvl (by decide +kernel) (by decide +kernel) (by omega)
    obtain ⟨s1, s2, s3, s4⟩ := b_sts h3 fun s m => ih s m (c.addV gl) (by rw [List.length_append]; show (_ + 1) + _ + _ ≤ _; omega)
    refine ⟨okA_f (okAs_app (okAs_c (ok1 (by decide +kernel)) (okAs_c (ok1 gl) (okAs_c i1 okAs_n))) s1), ⟨i2, i3, Nat.lt_of_le_of_lt i4 (by decide), s2⟩, Nat.succ_le_succ s3, ?_⟩
    show (wd (.f ([.w _, .w _, fEx _] ++ fSts _))).length + 12 ≤ _
    rw [wd_fl, wds_app, List.length_append, wds_cl, wds_cl, wds_cl, wds_nl, wd_1, wd_1, Nat.pow_succ]
    have := p0 d
    omega
end Sd

namespace Sd
open PySem L2 Tr Pu PyProof.Rows
def DOk (d : Decl) : Prop := Good d.1 ∧ 0 ≤ d.2 ∧ d.2 ≤ 3
theorem b_decl {d : Decl} (h : DOk d) : okAs Good (fDecl d) ∧ (wds (fDecl d)).length ≤ 2 ∧ Small d.2 := by
  refine ⟨?_, ?_, small_of h.2.1 (Int.lt_of_le_of_lt h.2.2 (by decide))⟩
  · unfold fDecl
    split
    · exact okAs_c (ok1 h.1) okAs_n
    · exact okAs_c (ok1 h.1) (okAs_c (ok1 (good_num h.2.1 (Int.lt_of_le_of_lt h.2.2 (by decide)))) okAs_n)
  · unfold fDecl num
    split
    · rw [wds_cl, wd_1, wds_nl]; omega
    · rw [wds_cl, wds_cl, wd_1, wd_1, wds_nl]; decide
theorem take_of {α : Type} {P : α → Prop} {l : List α} (h : ∀ x ∈ l, P x) (n : Nat) : ∀ x ∈ l.take n, P x := fun x m => h x (List.mem_of_mem_take m)
theorem ctx_rows {b : Bool} {ds : List Decl} (h : ∀ d ∈ ds, DOk d) : ∀ r ∈ rowsOf b ds, Good r.1 ∧ 0 ≤ r.2.1 ∧ r.2.1 ≤ 3 := fun r m => by
  obtain ⟨d, hd, rfl⟩ := List.mem_map.mp m
  exact h d hd
theorem ctx_app {a b : List VRow} {is : List Str} (ha : ∀ r ∈ a, Good r.1 ∧ 0 ≤ r.2.1 ∧ r.2.1 ≤ 3) (hb : ∀ r ∈ b, Good r.1 ∧ 0 ≤ r.2.1 ∧ r.2.1 ≤ 3) (hi : ∀ s ∈ is, Good s) : Ctx (a ++ b) is := ⟨fun r m => by
  rcases List.mem_append.mp m with m | m
  · exact ha r m
  · exact hb r m, hi⟩
theorem b_body {ks : List KRow} (kk : KOk ks) {vars : List VRow} {is : List Str} {d : Nat} {b : List Tr.St} (g : GBody ks vars is d b) (c : Ctx vars is) (hl : vars.length + is.length + d ≤ 100) : okAs Good (fSts b) ∧ okSts b ∧ depSts b ≤ d ∧ (wds (fSts b)).length + 36 ≤ 420 * 6 ^ d :=
  b_sts g.three fun s m => b_st kk (g.each s m) c hl
theorem okSts_app {a b : List Tr.St} (h : okSts a) (g : okSts b) : okSts (a ++ b) := okSts_of fun x m => by
  rcases List.mem_append.mp m with m | m
  · exact okSts_mem h m
  · exact okSts_mem g m
theorem b_again {p : Proc} (hn : Good p.name) (hi : p.idxs.length ≤ 2) (gi : ∀ s ∈ p.idxs, Good s) (hr : p.refs.length ≤ 2) (gr : ∀ d ∈ p.refs, DOk d) : okA Good (fSt (again p)) ∧ okSt (again p) ∧ depSt (again p) ≤ 2 ∧ (wd (fSt (again p))).length ≤ 60 := by
  have n0 : Good ("n0" : Str) := by decide +kernel
  have gt : ∀ s ∈ p.idxs.tail, Good s := fun s m => gi s (List.mem_of_mem_tail m)
  have eC : fSt (.call p.name (.op .minus (.var "n0") (.int 1) :: p.idxs.tail.map Ix.var) (p.refs.map (·.1))) = .f [.w "call", .w p.name, .f (fIx (.op .minus (.var "n0") (.int 1)) :: (p.idxs.tail.map Ix.var).map fIx), .f ((p.refs.map (·.1)).map Fm.w)] := rfl
  have eT : (p.idxs.tail.map Ix.var).map fIx = p.idxs.tail.map Fm.w := by rw [List.map_map]; rfl
  have eA : fSt (again p) = .f [.w "if", .f [.w "less", num 0, .w "n0"], .f [fSt (.call p.name (.op .minus (.var "n0") (.int 1) :: p.idxs.tail.map Ix.var) (p.refs.map (·.1)))], .f []] := rfl
  have oI : okA Good (fIx (.op .minus (.var "n0") (.int 1))) := ok3 (ok1 (by decide +kernel)) (ok1 n0) (ok1 (good_num (by decide) (by decide)))
  have wI : (wd (fIx (.op .minus (.var "n0") (.int 1)))).length = 5 := by
    show (wd (.f [.w _, .w _, num 1])).length = 5
    unfold num
    rw [wd_3, wd_1, wd_1, wd_1]
  have lt : p.idxs.tail.length ≤ 2 := by rw [List.length_tail]; omega
  refine ⟨?_, ⟨⟨small_of (by decide) (by decide), trivial⟩, ⟨by show 0 < 8; decide, by show 0 < 8; decide⟩, by show 0 < 8; decide, ⟨fun x m => ?_, trivial⟩, trivial⟩, ?_, ?_⟩
  · rw [eA, eC, eT]
    refine okA_f (okAs_c (ok1 (by decide +kernel)) (okAs_c (ok3 (ok1 (by decide +kernel)) (ok1 (good_num (by decide) (by decide))) (ok1 n0)) (okAs_c (okA_f (okAs_c (okA_f (okAs_c (ok1 (by decide +kernel)) (okAs_c (ok1 hn) (okAs_c (okA_f (okAs_c oI (okAs_names gt))) (okAs_c (okA_f (okAs_names ?_)) okAs_n))))) okAs_n)) (okAs_c (okA_f okAs_n) okAs_n))))
    intro n m
    obtain ⟨d, hd, rfl⟩ := List.mem_map.mp m
    exact (gr d hd).1
  · rcases List.mem_cons.mp m with rfl | m
    · exact ⟨⟨trivial, small_of (by decide) (by decide)⟩, by show (max 0 0) + 1 < 8; decide⟩
    · obtain ⟨s, _, rfl⟩ := List.mem_map.mp m
      exact ⟨trivial, by show 0 < 8; decide⟩
  · show max (max 0 0) 0 + 1 ≤ 2
    decide
  · rw [eA, eC, eT]
    unfold num
    rw [wd_fl, wds_cl, wds_cl, wds_cl, wds_cl, wds_nl, wd_1, wd_3, wd_1, wd_1, wd_1, wd_fl, wds_cl, wds_nl, wd_fl, wds_cl, wds_cl, wds_cl, wds_cl, wds_nl, wd_1, wd_1, wd_fl, wds_cl, wI, wd_fl, wds_names, wds_names, wd_fl, wds_nl, List.length_map]
    omega
theorem b_proc {fixed : List VRow} {ks : List KRow} {k : Nat} {p : Proc} (g : GProc fixed ks k p) (hk : k < 1000) (kk : KOk ks) (cf : ∀ r ∈ fixed, Good r.1 ∧ 0 ≤ r.2.1 ∧ r.2.1 ≤ 3) (lf : fixed.length ≤ 2) :
    (Good p.row.1 ∧ p.row.2.1 ≤ 2 ∧ p.row.2.2.length ≤ 2) ∧ okA Good (fProc p) ∧ okPr p ∧ (∀ d ∈ p.refs, 0 ≤ d.2) ∧ (wd (fProc p)).length ≤ 15300 := by
  have hn : Good p.name := by rw [g.nm]; exact good_lvl (by decide +kernel) (by decide +kernel) hk
  obtain ⟨c, hc, ei⟩ := g.idxs
  have hi : p.idxs.length ≤ 2 := by rw [ei, List.length_map, List.length_range]; exact hc
  have gi : ∀ s ∈ p.idxs, Good s := fun s m => by
    rw [ei] at m
    obtain ⟨j, hj, rfl⟩ := List.mem_map.mp m
    have := List.mem_range.mp hj
    exact good_lvl (by decide +kernel) (by decide +kernel) (by omega)
  obtain ⟨s, b, hs, b1, b2, er⟩ := g.refs
  have gr : ∀ d ∈ p.refs, DOk d := by
    rw [er]
    refine take_of (fun d m => ?_) _
    rcases List.mem_cons.mp m with rfl | m
    · exact ⟨by decide +kernel, Int.le_refl _, by show (0 : Int) ≤ 3; decide⟩
    · rw [List.mem_singleton.mp m]
      exact ⟨(by decide +kernel : Good ("v" : Str)), by show 0 ≤ s; omega, by show s ≤ 3; omega⟩
  have lr : p.refs.length ≤ 2 := by rw [er, List.length_take]; omega
  have row : Good p.row.1 ∧ p.row.2.1 ≤ 2 ∧ p.row.2.2.length ≤ 2 := ⟨hn, hi, by show (p.refs.map (·.2)).length ≤ 2; rw [List.length_map]; exact lr⟩
  obtain ⟨b0, ks', hks, gb, hb⟩ := g.bodies
  have kk' : KOk ks' := by
    rcases hks with rfl | rfl
    · exact kk
    · intro r m
      rcases List.mem_append.mp m with m | m
      · exact kk r m
      · rw [List.mem_singleton.mp m]; exact row
  obtain ⟨s1, s2, s3, s4⟩ := b_body kk' gb (ctx_app (ctx_rows gr) cf gi) (by
    rw [List.length_append]
    show (p.refs.map _).length + _ + _ + 2 ≤ 100
    rw [List.length_map]
    omega)
  have e36 : (6 : Nat) ^ 2 = 36 := rfl
  have body : okAs Good (fSts p.body) ∧ okSts p.body ∧ depSts p.body ≤ 2 ∧ (wds (fSts p.body)).length ≤ 15200 := by
    rcases hb with e | ⟨_, e⟩
    · rw [e]; exact ⟨s1, s2, s3, by omega⟩
    · obtain ⟨a1, a2, a3, a4⟩ := b_again hn hi gi lr gr
      have es : fSts (b0 ++ [again p]) = fSts b0 ++ [fSt (again p)] := by rw [fSts_map, fSts_map, List.map_append]; rfl
      rw [e]
      refine ⟨by rw [es]; exact okAs_app s1 (okAs_c a1 okAs_n), okSts_app s2 ⟨a2, trivial⟩, depSts_of fun s m => ?_, ?_⟩
      · rcases List.mem_append.mp m with m | m
        · exact Nat.le_trans (depSts_mem m) s3
        · rw [List.mem_singleton.mp m]; exact a3
      · rw [es, wds_app, List.length_append, wds_cl, wds_nl]
        omega
  obtain ⟨t1, t2, t3, t4⟩ := body
  have oR : ∀ x ∈ p.refs.map (fun d => Fm.f (fDecl d)), okA Good x ∧ (wd x).length ≤ 4 := fun x m => by
    obtain ⟨d, hd, rfl⟩ := List.mem_map.mp m
    obtain ⟨d1, d2, _⟩ := b_decl (gr d hd)
    exact ⟨okA_f d1, by rw [wd_fl]; omega⟩
  refine ⟨row, okA_f (okAs_app (okAs_c (ok1 (by decide +kernel)) (okAs_c (ok1 hn) (okAs_c (okA_f (okAs_names gi)) (okAs_c (okA_f (okAs_of fun x m => (oR x m).1)) okAs_n)))) t1), ⟨t2, Nat.lt_of_le_of_lt t3 (by decide), fun d m => (b_decl (gr d m)).2.2⟩, fun d m => (gr d m).2.1, ?_⟩
  show (wd (.f ([.w "procedure", .w p.name, .f (p.idxs.map Fm.w), .f (p.refs.map fun d => .f (fDecl d))] ++ fSts p.body))).length ≤ 15300
  have := wds_le (l := p.refs.map fun d => Fm.f (fDecl d)) (M := 4) fun x m => (oR x m).2
  rw [List.length_map] at this
  rw [wd_fl, wds_app, List.length_append, wds_cl, wds_cl, wds_cl, wds_cl, wds_nl, wd_1, wd_1, wd_fl, wd_fl, wds_names]
  omega
theorem b_procs {fixed : List VRow} {ks : List KRow} {ps : List Proc} (g : GProcs fixed ks ps) (cf : ∀ r ∈ fixed, Good r.1 ∧ 0 ≤ r.2.1 ∧ r.2.1 ≤ 3) (lf : fixed.length ≤ 2) : ps.length ≤ 900 → KOk ks ∧ ∀ p ∈ ps, okA Good (fProc p) ∧ okPr p ∧ (∀ d ∈ p.refs, 0 ≤ d.2) ∧ (wd (fProc p)).length ≤ 15300 := by
  induction g with
  | nil => exact fun _ => ⟨fun r m => (by cases m), fun p m => (by cases m)⟩
  | @snoc ks ps p h g ih =>
    intro hl
    rw [List.length_append] at hl
    have one : [p].length = 1 := rfl
    obtain ⟨i1, i2⟩ := ih (by omega)
    obtain ⟨r, rest⟩ := b_proc g (by omega) i1 cf lf
    refine ⟨fun x m => ?_, fun x m => ?_⟩
    · rcases List.mem_append.mp m with m | m
      · exact i1 x m
      · rw [List.mem_singleton.mp m]; exact r
    · rcases List.mem_append.mp m with m | m
      · exact i2 x m
      · rw [List.mem_singleton.mp m]; exact rest
theorem b_tree {t : Tr.Tree} (g : GTree t) : (∀ F ∈ fTree t, okA Good F) ∧ okTr t ∧ okZ t ∧ (wds (fTree t)).length ≤ 130000 ∧ tot (fTree t) ≤ 10000000 := by
  obtain ⟨a, b, r, ha, hb1, hb4, r1, r3, es⟩ := g.state
  obtain ⟨c, hc, ep⟩ := g.params
  have gs : ∀ d ∈ t.state, DOk d := by
    rw [es]
    refine take_of (fun d m => ?_) _
    have m := List.mem_of_mem_drop m
    rcases List.mem_cons.mp m with rfl | m
    · exact ⟨by decide +kernel, Int.le_refl _, by show (0 : Int) ≤ 3; decide⟩
    rcases List.mem_cons.mp m with rfl | m
    · exact ⟨by decide +kernel, Int.le_refl _, by show (0 : Int) ≤ 3; decide⟩
    rcases List.mem_cons.mp m with rfl | m
    · exact ⟨(by decide +kernel : Good ("r" : Str)), by show 0 ≤ r; omega, by show r ≤ 3; omega⟩
    rw [List.mem_singleton.mp m]
    exact ⟨by decide +kernel, Int.le_refl _, by show (0 : Int) ≤ 3; decide⟩
  have gp : ∀ d ∈ t.params, DOk d := by
    rw [ep]
    refine take_of (fun d m => ?_) _
    rcases List.mem_cons.mp m with rfl | m
    · exact ⟨by decide +kernel, Int.le_refl _, by show (0 : Int) ≤ 3; decide⟩
    rw [List.mem_singleton.mp m]
    exact ⟨by decide +kernel, by show (0 : Int) ≤ 2; decide, by show (2 : Int) ≤ 3; decide⟩
  have ls : t.state.length ≤ 4 := by rw [es, List.length_take]; omega
  have lp : t.params.length ≤ 2 := by rw [ep, List.length_take]; omega
  obtain ⟨ks, gps, l2, gb⟩ := g.rest
  obtain ⟨kk, pr⟩ := b_procs gps (ctx_rows gp) (by show (t.params.map _).length ≤ 2; rw [List.length_map]; exact lp) (by omega)
  obtain ⟨s1, s2, s3, s4⟩ := b_body kk gb (ctx_app (ctx_rows gs) (ctx_rows gp) (fun s m => by cases m)) (by
    rw [List.length_append]
    show (t.state.map _).length + (t.params.map _).length + 0 + 3 ≤ 100
    rw [List.length_map, List.length_map]
    omega)
  have e216 : (6 : Nat) ^ 3 = 216 := rfl
  have eT : fTree t = ((t.state.map (fHd "state") ++ t.params.map (fHd "param")) ++ t.procs.map fProc) ++ [.f (.w "beat" :: fSts t.beat)] := rfl
  have hd : ∀ (h : Str) (l : List Decl), Good h → (∀ d ∈ l, DOk d) → ∀ x ∈ l.map (fHd h), okA Good x ∧ (wd x).length ≤ 5 := fun h l gh gl x m => by
    obtain ⟨d, hd, rfl⟩ := List.mem_map.mp m
    obtain ⟨d1, d2, _⟩ := b_decl (gl d hd)
    refine ⟨okA_f (okAs_c (ok1 gh) d1), ?_⟩
    show (wd (.f (.w h :: fDecl d))).length ≤ 5
    rw [wd_fl, wds_cl, wd_1]
    omega
  have h1 := hd "state" t.state (by decide +kernel) gs
  have h2 := hd "param" t.params (by decide +kernel) gp
  have hB : (wd (.f (.w "beat" :: fSts t.beat))).length ≤ 90725 := by
    rw [wd_fl, wds_cl, wd_1]
    omega
  have all : ∀ F ∈ fTree t, okA Good F := fun F m => by
    rw [eT] at m
    rcases List.mem_append.mp m with m | m
    · rcases List.mem_append.mp m with m | m
      · rcases List.mem_append.mp m with m | m
        · exact (h1 F m).1
        · exact (h2 F m).1
      · obtain ⟨p, hp, rfl⟩ := List.mem_map.mp m
        exact (pr p hp).1
    · rw [List.mem_singleton.mp m]
      exact okA_f (okAs_c (ok1 (by decide +kernel)) s1)
  have lw : (wds (fTree t)).length ≤ 130000 := by
    have w1 := wds_le fun x m => (h1 x m).2
    have w2 := wds_le fun x m => (h2 x m).2
    have w3 := wds_le (l := t.procs.map fProc) (M := 15300) fun x m => by
      obtain ⟨p, hp, rfl⟩ := List.mem_map.mp m
      exact (pr p hp).2.2.2
    rw [List.length_map] at w1 w2 w3
    rw [eT, wds_app, wds_app, wds_app, List.length_append, List.length_append, List.length_append, wds_cl, wds_nl]
    omega
  refine ⟨all, ⟨fun d m => (b_decl (gs d m)).2.2, fun d m => (b_decl (gp d m)).2.2, fun p m => (pr p m).2.1, s2, Nat.lt_of_le_of_lt s3 (by decide)⟩, ⟨fun d m => (gs d m).2.1, fun d m => (gp d m).2.1, fun p m => (pr p m).2.2.1⟩, lw, ?_⟩
  have h3 := tot_le (fTree t)
  have h4 := tx_le (okA_f (okAs_of all))
  rw [wd_fl] at h4
  omega
end Sd

namespace Sd
open PySem L2 Tr Pu PyProof.Rows
/-! ### texts as lists of signs -/
def Ls (l : List Nat) : Str := ⟨l.toArray⟩
theorem ls_len (l : List Nat) : (Ls l).length = l.length := by simp [Ls, Str.length]
theorem ls_tl (l : List Nat) : (Ls l).cps.toList = l := rfl
theorem ls_app (a b : List Nat) : Ls a ++ Ls b = Ls (a ++ b) := by
  show (⟨a.toArray ++ b.toArray⟩ : Str) = ⟨(a ++ b).toArray⟩
  rw [List.append_toArray]
theorem ls_of (z : Str) : z = Ls z.cps.toList := rfl
/-! ### the words of a text -/
def sepC (c : Nat) : Prop := c ∈ [32, 10, 40, 41]
def parC (c : Nat) : Prop := c ∈ [40, 41]
instance (c : Nat) : Decidable (sepC c) := inferInstanceAs (Decidable (_ ∈ _))
instance (c : Nat) : Decidable (parC c) := inferInstanceAs (Decidable (_ ∈ _))
abbrev Wd := List Nat × Nat
/-- the word that is under way, the words so far -/
def pend (l : List Nat) (s : Option Nat) (i : Nat) : List Wd := match s with
  | some k => [((l.drop k).take (i - k), k)]
  | none => []
def stp (l : List Nat) (i : Nat) (z : Option Nat × List Wd) : Option Nat × List Wd :=
  if sepC (l.getD i 32) then (none, z.2 ++ pend l z.1 i ++ (if parC (l.getD i 32) then [([l.getD i 32], i)] else [])) else (some (z.1.getD i), z.2)
def wst (l : List Nat) : Nat → Option Nat × List Wd
  | 0 => (none, [])
  | i + 1 => stp l i (wst l i)
def wordsOf (l : List Nat) : List Wd := (wst l (l.length + 1)).2
def wdEnc (w : Wd) : PyData := .tuple [.str (Ls w.1), .int (w.2 : Int)]
theorem wst_lt (l : List Nat) : ∀ (i k : Nat), (wst l i).1 = some k → k < i
  | 0, k, h => by cases h
  | i + 1, k, h => by
    have h' : (stp l i (wst l i)).1 = some k := h
    unfold stp at h'
    split at h'
    · cases h'
    · cases e : (wst l i).1 with
      | none =>
        rw [e] at h'
        have : i = k := Option.some.inj h'
        omega
      | some j =>
        rw [e] at h'
        have : j = k := Option.some.inj h'
        have := wst_lt l i j e
        omega
theorem wst_len (l : List Nat) : ∀ i : Nat, (wst l i).2.length ≤ 2 * i
  | 0 => Nat.le_refl _
  | i + 1 => by
    have ih := wst_len l i
    show (stp l i (wst l i)).2.length ≤ _
    unfold stp
    split
    · rw [List.length_append, List.length_append]
      have h1 : (pend l (wst l i).1 i).length ≤ 1 := by
        unfold pend
        split
        · exact Nat.le_refl _
        · exact Nat.zero_le _
      have h2 : (if parC (l.getD i 32) then [([l.getD i 32], i)] else ([] : List Wd)).length ≤ 1 := by
        split
        · exact Nat.le_refl _
        · exact Nat.zero_le _
      omega
    · exact Nat.le_trans ih (by omega)
theorem wst_sep {l : List Nat} {i : Nat} (h : sepC (l.getD i 32)) : wst l (i + 1) = (none, (wst l i).2 ++ pend l (wst l i).1 i ++ (if parC (l.getD i 32) then [([l.getD i 32], i)] else [])) := if_pos h
theorem wst_no {l : List Nat} {i : Nat} (h : ¬ sepC (l.getD i 32)) : wst l (i + 1) = (some ((wst l i).1.getD i), (wst l i).2) := if_neg h
/-! ### the words of a text that is put together from words and gaps -/
inductive Tk where
  | g (c : Nat)
  | b (c : Nat)
  | w (l : List Nat)
def Tk.ok : Tk → Prop
  | .g c => c = 32 ∨ c = 10
  | .b c => c = 40 ∨ c = 41
  | .w l => l ≠ [] ∧ ∀ c ∈ l, ¬ sepC c
def Tk.l : Tk → List Nat
  | .g c => [c]
  | .b c => [c]
  | .w l => l
def flat : List Tk → List Nat
  | [] => []
  | t :: r => t.l ++ flat r
/-- two words never stand side by side -/
def apart : List Tk → Prop
  | .w _ :: .w _ :: _ => False
  | _ :: r => apart r
  | [] => True
def tkW : Nat → List Tk → List Wd
  | _, [] => []
  | i, .g _ :: r => tkW (i + 1) r
  | i, .b c :: r => ([c], i) :: tkW (i + 1) r
  | i, .w l :: r => (l, i) :: tkW (i + l.length) r
theorem getD_at {pre post : List Nat} {c : Nat} : (pre ++ c :: post).getD pre.length 32 = c := by
  rw [List.getD_eq_getElem?_getD, List.getElem?_append_right (Nat.le_refl _), Nat.sub_self]
  rfl
/-- the word under way -/
theorem wst_word {l pre q post : List Nat} {W : List Wd} {i : Nat} (h : wst l i = (none, W)) (e : l = pre ++ q ++ post) (hp : pre.length = i) (hq : ∀ c ∈ q, ¬ sepC c) : ∀ n, n ≤ q.length → wst l (i + n) = (if n = 0 then none else some i, W)
  | 0, _ => h
  | n + 1, hn => by
    have ih := wst_word h e hp hq n (by omega)
    have gc : l.getD (i + n) 32 = q[n]'(by omega) := by
      rw [List.getD_eq_getElem?_getD, e, List.append_assoc, List.getElem?_append_right (by omega), List.getElem?_append_left (by omega)]
      have : i + n - pre.length = n := by omega
      rw [this, List.getElem?_eq_getElem (by omega)]
      rfl
    have ns : ¬ sepC (l.getD (i + n) 32) := by rw [gc]; exact hq _ (List.getElem_mem _)
    have := wst_no ns
    show wst l (i + n + 1) = _
    rw [this, ih, if_neg (Nat.succ_ne_zero n)]
    by_cases c : n = 0
    · subst c; rfl
    · rw [if_neg c]; rfl
theorem wst_gap {l : List Nat} {W : List Wd} {i : Nat} {s : Option Nat} (h : wst l i = (s, W)) (c : l.getD i 32 = 32 ∨ l.getD i 32 = 10) : wst l (i + 1) = (none, W ++ pend l s i) := by
  have sp : sepC (l.getD i 32) := by rcases c with c | c <;> rw [c] <;> decide
  have np : ¬ parC (l.getD i 32) := by rcases c with c | c <;> rw [c] <;> decide
  rw [wst_sep sp, h, if_neg np, List.append_nil]
theorem wst_par {l : List Nat} {W : List Wd} {i : Nat} {s : Option Nat} (h : wst l i = (s, W)) {c : Nat} (e : l.getD i 32 = c) (k : c = 40 ∨ c = 41) : wst l (i + 1) = (none, W ++ pend l s i ++ [([c], i)]) := by
  have sp : sepC (l.getD i 32) := by rw [e]; rcases k with c | c <;> rw [c] <;> decide
  have np : parC (l.getD i 32) := by rw [e]; rcases k with c | c <;> rw [c] <;> decide
  rw [wst_sep sp, h, if_pos np, e]
theorem pend_word {l pre q post : List Nat} (e : l = pre ++ q ++ post) : pend l (some pre.length) (pre.length + q.length) = [(q, pre.length)] := by
  show [((l.drop pre.length).take (pre.length + q.length - pre.length), pre.length)] = _
  rw [e, List.append_assoc, List.drop_left, Nat.add_sub_cancel_left, List.take_left]
theorem scan : ∀ (ts : List Tk) (l pre : List Nat) (W : List Wd), (∀ t ∈ ts, t.ok) → apart ts → l = pre ++ flat ts → wst l pre.length = (none, W) → wordsOf l = W ++ tkW pre.length ts
  | [], l, pre, W, _, _, e, h => by
    have e2 : l = pre := by rw [e]; exact List.append_nil _
    unfold wordsOf
    have lh : l.length = pre.length := by rw [e2]
    have := wst_gap (l := l) (i := pre.length) h (.inl (by rw [List.getD_eq_getElem?_getD, List.getElem?_eq_none (by omega)]; rfl))
    rw [lh, this]
    rfl
  | .g c :: r, l, pre, W, ok, ap, e, h => by
    have e2 : l = pre ++ c :: flat r := e
    have g := wst_gap h (by rw [e2, getD_at]; exact ok (.g c) List.mem_cons_self)
    have := scan r l (pre ++ [c]) W (fun t m => ok t (List.mem_cons_of_mem _ m)) ap (by rw [e2, List.append_assoc]; rfl) (by
      rw [List.length_append]
      show wst l (pre.length + 1) = _
      rw [g]
      show (none, W ++ []) = _
      rw [List.append_nil])
    rw [this, List.length_append]
    rfl
  | .b c :: r, l, pre, W, ok, ap, e, h => by
    have e2 : l = pre ++ c :: flat r := e
    have g := wst_par h (by rw [e2, getD_at]) (ok (.b c) List.mem_cons_self)
    have := scan r l (pre ++ [c]) (W ++ [([c], pre.length)]) (fun t m => ok t (List.mem_cons_of_mem _ m)) ap (by rw [e2, List.append_assoc]; rfl) (by
      rw [List.length_append]
      show wst l (pre.length + 1) = _
      rw [g]
      show (none, W ++ [] ++ _) = _
      rw [List.append_nil])
    rw [this, List.length_append, List.append_assoc]
    rfl
  | .w q :: [], l, pre, W, ok, ap, e, h => by
    obtain ⟨qn, qs⟩ := ok (.w q) List.mem_cons_self
    have e2 : l = pre ++ q ++ [] := by rw [e, List.append_nil]; exact congrArg (pre ++ ·) (List.append_nil q)
    have g := wst_word h e2 rfl qs q.length (Nat.le_refl _)
    have ql : 0 < q.length := List.length_pos_iff.mpr qn
    rw [if_neg (by omega)] at g
    have lh : l.length = pre.length + q.length := by rw [e2, List.append_nil, List.length_append]
    have g2 := wst_gap g (.inl (by rw [List.getD_eq_getElem?_getD, List.getElem?_eq_none (by omega)]; rfl))
    unfold wordsOf
    rw [lh, g2, pend_word e2]
    rfl
  | .w q :: .w q2 :: r, l, pre, W, ok, ap, e, h => by exact ap.elim
  | .w q :: .g c :: r, l, pre, W, ok, ap, e, h => by
    obtain ⟨qn, qs⟩ := ok (.w q) List.mem_cons_self
    have e2 : l = pre ++ q ++ (c :: flat r) := by rw [e, List.append_assoc]; rfl
    have g := wst_word h e2 rfl qs q.length (Nat.le_refl _)
    have ql : 0 < q.length := List.length_pos_iff.mpr qn
    rw [if_neg (by omega)] at g
    have lp : (pre ++ q).length = pre.length + q.length := List.length_append
    have g2 := wst_gap g (by rw [← lp, e2, getD_at]; exact ok (.g c) (List.mem_cons_of_mem _ List.mem_cons_self))
    rw [pend_word e2] at g2
    have := scan r l (pre ++ q ++ [c]) (W ++ [(q, pre.length)]) (fun t m => ok t (List.mem_cons_of_mem _ (List.mem_cons_of_mem _ m))) ap (by rw [e2, List.append_assoc (pre ++ q)]; rfl) (by
      rw [List.length_append, lp]
      exact g2)
    rw [this, List.length_append, lp, List.append_assoc]
    rfl
  | .w q :: .b c :: r, l, pre, W, ok, ap, e, h => by
    obtain ⟨qn, qs⟩ := ok (.w q) List.mem_cons_self
    have e2 : l = pre ++ q ++ (c :: flat r) := by rw [e, List.append_assoc]; rfl
    have g := wst_word h e2 rfl qs q.length (Nat.le_refl _)
    have ql : 0 < q.length := List.length_pos_iff.mpr qn
    rw [if_neg (by omega)] at g
    have lp : (pre ++ q).length = pre.length + q.length := List.length_append
    have g2 := wst_par g (by rw [← lp, e2, getD_at]) (ok (.b c) (List.mem_cons_of_mem _ List.mem_cons_self))
    rw [pend_word e2] at g2
    have := scan r l (pre ++ q ++ [c]) (W ++ [(q, pre.length)] ++ [([c], pre.length + q.length)]) (fun t m => ok t (List.mem_cons_of_mem _ (List.mem_cons_of_mem _ m))) ap (by rw [e2, List.append_assoc (pre ++ q)]; rfl) (by
      rw [List.length_append, lp]
      exact g2)
    rw [this, List.length_append, lp, List.append_assoc, List.append_assoc]
    rfl
/-- the words of a text put together so -/
theorem words_flat {ts : List Tk} (ok : ∀ t ∈ ts, t.ok) (ap : apart ts) : wordsOf (flat ts) = tkW 0 ts := scan ts (flat ts) [] [] ok ap rfl rfl
end Sd

/-! ## enumerate of a text -/
namespace En
open PySem PySem.Spec PyProof.Rows L2
/-- the signs of a text, each in a new pair with its place -/
def Iss (x : Str) : It :=
  ⟨fun i _ => i < x.cps.size, fun i H v H' => ∃ T c, v = .ref T ∧ H T = none ∧ H' = upd H T (.tup [.int (i : Nat), .str ⟨#[c]⟩]) ∧ x.cps[i]? = some c, fun i _ => x.cps.size ≤ i⟩
theorem draws_str {prog : Program} {w : World} {A : Around} (hh : A.handled = none) (it : Addr) (x : Str) (t : Tok) :
    Draws prog w A it [it] x.cps.size (fun i v => ∃ c u, x.cps[i]? = some c ∧ v = .str ⟨#[c]⟩ u) (fun i h => h.IsStrIter it (strIterType x) x t i) := by
  unfold strIterType
  split
  · exact Draws.strAscii hh it x t
  · exact Draws.strWide hh it x t
theorem turn_enumS {P : Program} {w : World} {K : PySem.W.Frag} {elts : List Expr} {kk : Nat} {tpos : Pos} (x : Str) (t : Tok) (e it : Addr) :
    Turn P w K (.Tuple elts kk tpos) (Iss x) [e, it] e (fun i h => (∃ old, IsEnum h e it ((i : Nat) : Int) old) ∧ h.IsStrIter it (strIterType x) x t i ∧ e ≠ it ∧ i ≤ x.cps.size) where
  mem := by simp
  obj := fun i h st b hb => by
    obtain ⟨⟨old, he⟩, ⟨o, ho, hc, hd⟩, _⟩ := st
    have e' : b = e ∨ b = it := by simpa using hb
    rcases e' with z | z
    · rw [z]; exact ⟨_, he, fun v q => nomatch q⟩
    · rw [z]; exact ⟨o, ho, fun v q => by rw [hd] at q; cases q⟩
  keep := fun i h h' st k => let ⟨⟨old, he⟩, ⟨o, ho, r⟩, hne, hi⟩ := st; ⟨⟨old, k e (by simp) _ he⟩, ⟨o, k it (by simp) o ho, r⟩, hne, hi⟩
  item := by
    intro X hP hw hK hc i pins s σ H E I hf st hg
    subst hP hw hK
    obtain ⟨⟨old, he⟩, hit, hne, _⟩ := st
    have hel : e < s.heap.objs.size := Heap.lt_size he
    have hil : it < s.heap.objs.size := by obtain ⟨_, q, _⟩ := hit; exact Heap.lt_size q
    refine wpAny_pyNext_enum_itemD (D := draws_str (A := X.A.in1) (I.ok.hd hc) it x t) he hit hg hne (by simpa using hne) fun v h' tk hv ho hit' hT hsz hk => ?_
    obtain ⟨c, u, hcx, rfl⟩ := hv
    refine ⟨_, rfl, wpAny_letOwnedTupleGo_enum (s := { s with heap := h', toks := tk + 1 }) ho fun h'' he' sb => ?_⟩
    have hT2 : h''.get? s.heap.objs.size = some { cls := .type "tuple", data := .seq #[.int i tk, .str ⟨#[c]⟩ u] } := (sb.2 _ (Nat.ne_of_gt hel)).trans hT
    have new : ObjOk X.prog X.w (upd H s.heap.objs.size (.tup [.int (i : Nat), .str ⟨#[c]⟩])) h'' s.heap.objs.size (.tup [.int (i : Nat), .str ⟨#[c]⟩]) :=
      ⟨by show 2 ≤ sizeLine; decide, [.int i tk, .str ⟨#[c]⟩ u], .cons ⟨_, rfl⟩ (.cons ⟨_, rfl⟩ .nil), ⟨_, hT2, rfl, _, rfl⟩⟩
    have I1 : Inv X pins σ (upd H s.heap.objs.size (.tup [.int (i : Nat), .str ⟨#[c]⟩])) { s with heap := h'', toks := tk + 1 } :=
      I.turnedNew (ch := [e, it]) (fun b ob hb q => (sb.2 b (fun z => hb (by simp [z]))).trans (hk b ob (fun z => hb (by simp [z])) (fun z => hb (by simp [z])) q)) hf (Nat.le_refl _) new
    refine ⟨.ref s.heap.objs.size, _, I1, rfl, ⟨_, c, rfl, I.hok.fresh (Nat.le_refl _), rfl, hcx⟩, ⟨⟨.str ⟨#[c]⟩ u, ?_⟩, ?_, hne, hg⟩, fun b hb => ?_⟩
    · have e1 : ((i + 1 : Nat) : Int) = (i : Int) + 1 := by omega
      rw [e1]; exact he'
    · obtain ⟨o, hq, r⟩ := hit'
      exact ⟨o, (sb.2 it (Ne.symm hne)).trans hq, r⟩
    · have hb' : b < s.heap.objs.size := by
        have e' : b = e ∨ b = it := by simpa using hb
        rcases e' with z | z
        · rw [z]; exact hel
        · rw [z]; exact hil
      rw [upd_ne (Nat.ne_of_lt hb')]
      exact (hf b hb).1
  done := by
    intro X hP hw hK hc i pins s σ H E I hf st hg
    subst hP hw hK
    obtain ⟨⟨old, he⟩, hit, hne, hi⟩ := st
    obtain ⟨f0, f1, f2, f3, f4, f5⟩ := hf it (by simp)
    have ei : i = x.cps.size := Nat.le_antisymm hi hg
    rw [ei] at hit he
    exact wpAny_pyNext_enum_endD (D := draws_str (A := X.A.in1) (I.ok.hd hc) it x t) he hit fun h' eb => ⟨rfl, I.turned (t' := s.toks) (fun b o hb q => eb b o hb q) f0 f1 f3 f4 f5⟩
  self := fun A i s Q E st h => let ⟨⟨_, he⟩, _⟩ := st; wpAny_pyIter_enum he h
def iEnumS (ta : TA) : TI := fun σ H R => ta σ H fun vs H1 => ∃ x, vs = [.str x] ∧ R (Iss x) H1
theorem pi_enumS {X : Cx} {e : Expr} {ta : TA} {p pos tpos : Pos} {elts : List Expr} {kk : Nat} (hg : Gl X "enumerate") (hm : X.mg "enumerate" = none) (ha : PA X [e] ta) (hs : starEach [e] X.env = [(false, eval e X.env)] := by rfl) :
    PI X (.Tuple elts kk tpos) (.Call (.Name "enumerate" p) [e] [] pos) (iEnumS ta) := by
  refine ⟨fun pins s σ H R I h => ?_⟩
  refine Call_ (ld_blt I hg hm boot_enumerate (PyProof.Rows.callWith_type1 (thn (ha.run pos pins s σ H _ I h) fun us s1 ⟨vs, H1, I1, r1, q1⟩ => ?_) hs rfl))
  obtain ⟨x, ex, q⟩ := q1
  subst ex
  cases r1 with
  | cons r rr =>
    cases rr
    obtain ⟨t, rfl⟩ := r
    refine call_enumerate_str fun h' he hit hsz hk => wpAny_pyIter_enum he ?_
    have I2 : Inv X pins σ H1 { s1 with heap := h' } := I1.kept (t' := s1.toks) hk
    refine ⟨s1.heap.objs.size + 1, [s1.heap.objs.size + 1, s1.heap.objs.size], _, _, H1, rfl, I2, turn_enumS x t (s1.heap.objs.size + 1) s1.heap.objs.size, ⟨⟨.none, he⟩, hit, Nat.succ_ne_self _, Nat.zero_le _⟩, fun b hb => ?_, q⟩
    have e' : b = s1.heap.objs.size + 1 ∨ b = s1.heap.objs.size := by simpa using hb
    have hle : s1.heap.objs.size ≤ b := by
      rcases e' with z | z
      · rw [z]; exact Nat.le_add_right _ _
      · rw [z]; exact Nat.le_refl _
    exact I1.fpOk hle (I1.hok.fresh hle)
/-- a loop over the signs of a text -/
theorem for_signs {x : Str} {g : TG} {tb : TS} {D : Ends} {σ : L2.St} {H : Hp} (Pv : Nat → L2.St → Hp → Prop) (h0 : Pv 0 σ H)
    (hb : ∀ (i c : Nat) (σ : L2.St) (H : Hp) (T : Addr), x.cps[i]? = some c → H T = none → Pv i σ H → g (.ref T) σ (upd H T (.tup [.int (i : Nat), .str ⟨#[c]⟩])) fun σ2 H2 => tb { D with nx := Pv (i + 1), ct := Pv (i + 1), bk := D.nx } σ2 H2)
    (hd : ∀ σ H, Pv x.cps.size σ H → D.nx σ H) :
    ∃ W : Nat → Nat → L2.St → Hp → Prop, (∃ m, W 0 m σ H) ∧ ∀ i m σ H, W i m σ H →
      ((Iss x).stop i H ∧ D.nx σ H) ∨ ((Iss x).go i H ∧ ∃ N : L2.St → Hp → Prop, (∀ σ' H', N σ' H' → ∃ m', m' < m ∧ W (i + 1) m' σ' H') ∧ ∀ v H', (Iss x).yld i H v H' → g v σ H' fun σ2 H2 => tb { D with nx := N, ct := N, bk := D.nx } σ2 H2) := by
  refine ⟨fun i m σ H => m = x.cps.size - i ∧ i ≤ x.cps.size ∧ Pv i σ H, ⟨x.cps.size, by simp, Nat.zero_le _, h0⟩, ?_⟩
  rintro i m σ H ⟨rfl, hi, p⟩
  by_cases hlt : i < x.cps.size
  · refine .inr ⟨hlt, Pv (i + 1), fun σ' H' p' => ⟨x.cps.size - (i + 1), by omega, rfl, hlt, p'⟩, fun v H' y => ?_⟩
    obtain ⟨T, c, rfl, hT, rfl, hc⟩ := y
    exact hb i c σ H T hc hT p
  · have e : i = x.cps.size := by omega
    subst e
    exact .inl ⟨Nat.le_refl _, hd σ H p⟩
end En

namespace Er
open PySem PySem.Spec PyProof.Rows L2
section
variable {P : Program} {w : World} {K : PySem.W.Frag} {mg : Str → Option Value} {base : Heap}
abbrev sXE : Stmt := inClass (Tr.top 2) 0
def spXE (K : PySem.W.Frag) (C : Addr) : Sp := fun vs H Q _ => ∃ (a : Addr) (n : Int), vs = [.ref a, .int n] ∧ n.natAbs < 10 ^ 12 ∧ H a = some (exo a C none) ∧ ∀ dx, H dx = none → dx ≠ a → Q .non (upd (upd H dx (exd dx [("at", .int n)])) a (exo a C (some dx)))
theorem scXE : Su.Scp ["self", "at"] (defScope sXE) := ⟨rfl, rfl, rfl, by decide +kernel, by decide +kernel, by decide +kernel, by decide +kernel, by decide +kernel, by decide +kernel⟩
theorem log_12 {n : Int} (h : n.natAbs < 10 ^ 12) : n.natAbs.log2 < 1920 := by
  by_cases z : n.natAbs = 0
  · rw [z]; decide
  · exact Nat.lt_trans ((Nat.log2_lt z).mpr (Nat.lt_of_lt_of_le h (show 10 ^ 12 ≤ 2 ^ 40 by decide))) (by decide)
theorem ok_xe {f cda cc C : Addr} {oc kV doc pm ct : Value} {od an : Option Addr} {osl : Array (Option Value)}
    (look : K.lookup f = some ⟨oc, od, .func (PySem.W.ksFn "__init__" "TextError.__init__" (defArgs sXE) (defBody sXE) (defScope sXE) .none kV doc pm an (.ref cda) ct cc), osl⟩)
    (code : PySem.W.codeIn K (.ref cda) "TextError.__init__" = true) (T : Su.Sup P K C cc cda) (n1 : PySem.W.findIn K (.ref C) "at" = some none) :
    FnOk P w K mg base CX0 1 f (PySem.W.ksFn "__init__" "TextError.__init__" (defArgs sXE) (defBody sXE) (defScope sXE) .none kV doc pm an (.ref cda) ct cc) ["self", "at"] (spXE K C) := by
  refine Su.fn_sup look code scXE T rfl rfl (fun vs H Q E h => ?_) (fun A outer s H vs Q E hr h => ?_)
  · obtain ⟨a, n, rfl, _⟩ := h
    rfl
  · obtain ⟨a, n, rfl, hn, ea, q⟩ := h
    refine ⟨a, _, _, rfl, ea, pa_cons (pe_joined (.cons pe_str (.cons (pe_fmt (pv 1)) .nil))) pa_nil, pss_one (ps_ost (pv 0) (pv 1)), ?_⟩
    have hl := PyData.shown_int_le hn
    rw [PyData.shown_int] at hl
    refine ⟨_, rfl, ?_, _, rfl, .inr ⟨n, rfl, log_12 hn, _, rfl, ?_, ?_⟩⟩
    · exact Nat.le_trans (show (Str.empty ++ ("the text is wrong at " : Str)).length ≤ 100 by decide +kernel) (by decide)
    · rw [strLen_append]
      exact Nat.le_trans (Nat.add_le_add (show (Str.empty ++ ("the text is wrong at " : Str)).length ≤ 100 by decide +kernel) hl) (by decide)
    refine ⟨(show 1 ≤ 1000 by decide), ea, ?_⟩
    exact ⟨_, rfl, _, rfl, a, C, rfl, T.ex, n1, .inl ⟨ea, fun dx hdx ne => q dx hdx ne⟩⟩
end
end Er

namespace Sd
open PySem PySem.Spec L2 Tr Pu PyProof.Rows
theorem in_sep (c : Nat) : (!(Builtin.Str.occurrences (" \n()" : Str) (Ls [c]) 0 (" \n()" : Str).length 1).isEmpty) = decide (sepC c) := SX.in_one [32, 10, 40, 41] c
theorem in_par (c : Nat) : (!(Builtin.Str.occurrences ("()" : Str) (Ls [c]) 0 ("()" : Str).length 1).isEmpty) = decide (parC c) := SX.in_one [40, 41] c
def okc (c : Nat) : Prop := c = 10 ∨ (32 ≤ c ∧ c ≤ 126 ∧ c ≠ 37)
instance (c : Nat) : Decidable (okc c) := inferInstanceAs (Decidable (_ ∨ _))
theorem ls_cut {l : List Nat} {a b : Nat} (h1 : a ≤ b) (h2 : b ≤ l.length) : cutS (Ls l) (some (a : Int)) (some (b : Int)) = Ls ((l.drop a).take (b - a)) := by
  unfold cutS
  rw [HT.sIx_nat, HT.sIx_nat, ls_len, Nat.min_eq_left h2, Nat.min_eq_left (Nat.le_trans h1 h2)]
  rfl
theorem word_put {K : PySem.W.Frag} {H H' : Hp} {W t : Addr} {xs : List V} {ds : List PyData} {z : List Nat} {k : Nat} (sm : Same H H') (hW : H W = none) (e : H' W = some (.lst xs)) (tv : TvL K H' ds xs) (ht : H' t = none) :
    (upd H' t (.tup [.str (Ls z), .int (k : Int)])) W = some (.lst xs) ∧ Same H (upd (upd H' t (.tup [.str (Ls z), .int (k : Int)])) W (.lst (xs ++ [.ref t]))) ∧
      TvL K (upd (upd H' t (.tup [.str (Ls z), .int (k : Int)])) W (.lst (xs ++ [.ref t]))) (ds ++ [wdEnc (z, k)]) (xs ++ [.ref t]) := by
  have ne : t ≠ W := fun y => by rw [y, e] at ht; cases ht
  have e2 : (upd H' t (.tup [.str (Ls z), .int (k : Int)])) W = some (.lst xs) := by rw [upd_ne (Ne.symm ne)]; exact e
  refine ⟨e2, same_put (sm.trans (same_alloc ht)) hW, ?_⟩
  exact tvl_append (TvL.carry (carry_store e2) _ _ (TvL.carry (carry_new ht) _ _ tv)) ⟨t, _, rfl, SqT.of (by rw [upd_ne ne]; exact upd_same), _, _, rfl, rfl, _, _, rfl, rfl, rfl⟩
/-! ### the program: words.py -/
section
variable (P : Program) (w : World) (K : PySem.W.Frag) (mg : Str → Option Value) (base : Heap)
/-- an error class of the program with an __init__ of its own, as its makers want it -/
structure Mk (x : Str) (C : Addr) (ps : List Str) (sp : Sp) where
  fI : Addr
  fd : FuncData
  ok : FnOk P w K mg base CX0 1 fI fd ps sp
  b : Binds K fd ps []
  ex : OexC K C
  iC : PySem.W.findIn K (.ref C) "__init__" = some (some (.ref fI))
  tI : PySem.W.typeIn K (.ref fI) = some (.type "function")
  m : mg x = some (.ref C)
end
def spAllow : Sp := fun vs H Q _ => ∃ c : Nat, vs = [.str (Ls [c])] ∧ Q (.bl (decide (okc c))) H
/-- what check_characters promises of a text of the law -/
def spCheck (K : PySem.W.Frag) (C : Addr) : Sp := fun vs H Q E => ∃ l : List Nat, vs = [.str (Ls l)] ∧ l.length ≤ 10000 ∧
  (∀ (n : Int) (d : Addr) H', ((6000 < l.length ∧ n = 0) ∨ (l.length ≤ 6000 ∧ ∃ k : Nat, n = (k : Int) ∧ k < l.length ∧ ¬ okc (l.getD k 0) ∧ ∀ j < k, okc (l.getD j 0))) → Same H H' → H' d = some (.xd [("at", .int n)]) → E (.ref C) (some d) H') ∧
  (l.length ≤ 6000 → (∀ j < l.length, okc (l.getD j 0)) → ∀ H', Same H H' → Q .non H')
/-- what split_words promises of a text of the law -/
def spSplit (K : PySem.W.Frag) (C : Addr) : Sp := fun vs H Q E => ∃ l : List Nat, vs = [.str (Ls l)] ∧ l.length ≤ 10000 ∧
  (∀ (n : Int) (d : Addr) H', ((6000 < l.length ∧ n = 0) ∨ (l.length ≤ 6000 ∧ ∃ k : Nat, n = (k : Int) ∧ k < l.length ∧ ¬ okc (l.getD k 0) ∧ ∀ j < k, okc (l.getD j 0))) → Same H H' → H' d = some (.xd [("at", .int n)]) → E (.ref C) (some d) H') ∧
  (l.length ≤ 6000 → (∀ j < l.length, okc (l.getD j 0)) → ∀ a xs H', Same H H' → H a = none → H' a = some (.lst xs) → TvL K H' ((wordsOf l).map wdEnc) xs → Q (.ref a) H')
abbrev sAllow : Stmt := top 56
abbrev sCheck : Stmt := top 55
abbrev sSplit : Stmt := top 54
section
variable {P : Program} {w : World} {K : PySem.W.Frag} {mg : Str → Option Value} {base : Heap} {C : Addr}
theorem scAllow : FnScope ["character", "number"] ["character"] (defScope sAllow) := ⟨rfl, rfl, rfl, by decide +kernel, rfl, by decide +kernel, by decide +kernel⟩
theorem scCheck : FnScope ["text", "at", "character"] ["text"] (defScope sCheck) := ⟨rfl, rfl, rfl, by decide +kernel, rfl, by decide +kernel, by decide +kernel⟩
theorem scSplit : FnScope ["text", "words", "start", "at", "character"] ["text"] (defScope sSplit) := ⟨rfl, rfl, rfl, by decide +kernel, rfl, by decide +kernel, by decide +kernel⟩
theorem ok_allow {f : Addr} {fd : FuncData} (F : Fun K "is_text_character" "is_text_character" sAllow f fd) (zo : mg "ord" = none) {t1 t2 t3 : Tok} (gS : mg "SPACE" = some (.int 32 t1)) (gT : mg "TILDE" = some (.int 126 t2)) (gP : mg "PERCENT" = some (.int 37 t3)) :
    FnOk P w K mg base CX0 1 f fd ["character"] spAllow := by
  refine F.ok scAllow (fun vs H Q E h => ?_) (fun cdv A outer s H vs Q E hr h => ?_)
  · obtain ⟨c, rfl, _⟩ := h
    rfl
  · obtain ⟨c, rfl, q⟩ := h
    have nd := scAllow.nd
    refine ⟨_, pss_cons (ps_set (i := 1) nd rfl (.inl rfl) (pe_callB call_ord rfl zo (by decide +kernel) (pa_cons (pv 0) pa_nil)))
      (pss_one (ps_ret (pe_or (pe_cmpR op_eq (pv 0) pe_str (nomark _)) (pe_one (pe_and (pe_chain op_le op_le (pe_glob (v := .int 32) rfl gS ⟨_, rfl⟩) (pv 1) (pe_glob (v := .int 126) rfl gT ⟨_, rfl⟩)) (pe_one (pe_cmpR op_ne (pv 1) (pe_glob (v := .int 37) rfl gP ⟨_, rfl⟩) (nomark _)))))))), ?_⟩
    refine ⟨_, rfl, Ls [c], rfl, rfl, _, rfl, rfl, ?_⟩
    have ev : (((Ls [c]).cps.getD 0 0 : Nat) : Int) = (c : Int) := rfl
    rw [ev]
    by_cases c10 : c = 10
    · refine ⟨true, congrArg V.bl (decide_eq_true (by rw [c10]; rfl)), iteT ?_⟩
      rw [decide_eq_true (show okc c from .inl c10)] at q
      exact q
    have n10 : ¬ V.str (Ls [c]) = V.str (Str.ofString "\n") := fun y => c10 (by
      have e : (Ls [c]).cps.toList = (Str.ofString "\n").cps.toList := congrArg (fun z : Str => z.cps.toList) (V.str.inj y)
      have e2 : [c] = [10] := e
      cases e2
      rfl)
    refine ⟨false, congrArg V.bl (decide_eq_false n10), iteF ?_⟩
    refine ⟨_, rfl, _, _, rfl, rfl, ?_⟩
    by_cases c32 : 32 ≤ c
    · refine ⟨true, congrArg V.bl (decide_eq_true (show (32 : Int) ≤ (c : Int) by omega)), iteT ⟨_, _, rfl, rfl, ?_⟩⟩
      by_cases c126 : c ≤ 126
      · refine ⟨true, congrArg V.bl (decide_eq_true (show (c : Int) ≤ 126 by omega)), iteT ⟨_, rfl, ?_⟩⟩
        have e : (!decide (V.int (c : Int) = V.int 37)) = decide (okc c) := by
          by_cases c37 : c = 37
          · rw [decide_eq_true (show V.int (c : Int) = V.int 37 by rw [c37]; rfl), decide_eq_false (show ¬ okc c from fun h => by rcases h with h | ⟨_, _, h⟩ <;> omega)]
            rfl
          · rw [decide_eq_false (fun y => c37 (by have := V.int.inj y; omega)), decide_eq_true (show okc c from .inr ⟨c32, c126, c37⟩)]
            rfl
        refine ⟨rfl, ?_⟩
        exact Eq.mpr (congrArg (fun z => Q (.bl z) H) e) q
      · refine ⟨false, congrArg V.bl (decide_eq_false (show ¬ (c : Int) ≤ 126 by omega)), iteF ?_⟩
        rw [decide_eq_false (show ¬ okc c from fun h => by rcases h with h | ⟨_, h, _⟩ <;> omega)] at q
        exact q
    · refine ⟨false, congrArg V.bl (decide_eq_false (show ¬ (32 : Int) ≤ (c : Int) by omega)), iteF ⟨false, rfl, iteF ?_⟩⟩
      rw [decide_eq_false (show ¬ okc c from fun h => by rcases h with h | ⟨h, _⟩ <;> omega)] at q
      exact q
theorem ok_check {f : Addr} {fd : FuncData} (F : Fun K "check_characters" "check_characters" sCheck f fd) (T : Bi mg) (zE : mg "enumerate" = none) {tM : Tok} (gM : mg "MAX_TEXT" = some (.int 6000 tM)) (c_mk : Mk P w K mg base "TextError" C ["self", "at"] (Er.spXE K C))
    (c_allow : Cal P w K mg base CX0 1 "is_text_character" ["character"] spAllow) : FnOk P w K mg base (L2.CX P w) 3 f fd ["text"] (spCheck K C) := by
  refine F.okX scCheck (fun vs H Q E h => ?_) (fun cdv A outer s H vs Q E hr h => ?_)
  · obtain ⟨l, rfl, _⟩ := h
    rfl
  · obtain ⟨l, rfl, hl, qe, q⟩ := h
    have nd := scCheck.nd
    have big : 20000 ≤ sizeLine := by decide
    have fit : (Ls l).length ≤ sizeLine := by rw [ls_len]; omega
    -- the error being raised
    have err : ∀ (n : Int) (H1 : Hp) (W : XK), Same H H1 → n.natAbs < 10 ^ 12 → (∀ d H', Same H H' → H' d = some (.xd [("at", .int n)]) → W (.ref C) (some d) H') →
        [V.int n].length ≤ 1000 ∧ ∀ a, H1 a = none → Er.spXE K C (.ref a :: ([V.int n] ++ [])) (upd H1 a (exo a C none))
          (fun v H2 => v = .non ∧ ∃ (d : Addr) (fs : List (Str × V)), H2 a = some (exo a C (some d)) ∧ H2 d = some (exd d fs) ∧ H1 d = none ∧ W (.ref C) (some d) (upd (del H2 a) d (.xd fs))) (fun _ _ _ => False) := by
      intro n H1 W sm hn k
      refine ⟨(show 1 ≤ 1000 by decide), fun a ha => ⟨a, n, rfl, hn, upd_same, fun dx hdx ne => ⟨rfl, dx, _, upd_same, (by rw [upd_ne ne]; exact upd_same), (by rw [upd_ne ne] at hdx; exact hdx), ?_⟩⟩⟩
      rw [upd_ne ne] at hdx
      refine k dx _ (fun b u e => ?_) upd_same
      have e1 := sm _ _ e
      have nb : b ≠ a := ne_of_none e1 ha
      have nb2 : b ≠ dx := ne_of_none e1 hdx
      rw [upd_ne nb2, del_ne nb, upd_ne nb, upd_ne nb2, upd_ne nb]
      exact e1
    refine ⟨_, pss_cons (ps_if (pt_cmpR op_gt (pe_callB call_len_str rfl T.len PySem.boot_len (pa_cons (pv 0) pa_nil)) (pe_glob (v := .int 6000) rfl gM ⟨_, rfl⟩) (nomark _)) (pss_one (ps_raise rfl (takes_of rfl rfl rfl rfl) (pmk_oex c_mk.ex c_mk.iC c_mk.tI c_mk.ok (hr.mono (by first | decide | omega)) c_mk.b .nil pass0 rfl c_mk.m (pa_cons pe_int pa_nil)))) pss_nil)
      (pss_one (ps_for (passes_of rfl) rfl (En.pi_enumS rfl zE (pa_cons (pv 0) pa_nil)) (pg_tup (by rfl) (pgs_cons (pg_name (i := 1) nd rfl (.inl rfl)) (pgs_cons (pg_name (i := 2) nd rfl (.inl rfl)) pgs_nil))) (pss_one (ps_if (pt_not (pt_val (pe_call c_allow.ok (hr.mono (by first | decide | omega)) rfl c_allow.m c_allow.kp c_allow.b .nil pass0 (pa_cons (pv 2) pa_nil)))) (pss_one (ps_raise rfl (takes_of rfl rfl rfl rfl) (pmk_oex c_mk.ex c_mk.iC c_mk.tI c_mk.ok (hr.mono (by first | decide | omega)) c_mk.b .nil pass0 rfl c_mk.m (pa_cons (pv 1) pa_nil)))) pss_nil)))), ?_⟩
    refine ⟨_, rfl, Ls l, rfl, fit, _, _, rfl, rfl, _, rfl, ?_⟩
    rw [ls_len]
    by_cases c : 6000 < l.length
    · refine iteT' (decide_eq_true (show (6000 : Int) < (l.length : Int) by omega)) ?_
      exact err 0 H _ (fun _ _ e => e) (by decide) fun d H' s1 e1 => qe 0 d H' (.inl ⟨c, rfl⟩) s1 e1
    refine iteF' (decide_eq_false (show ¬ (6000 : Int) < (l.length : Int) by omega)) ?_
    refine ⟨_, rfl, Ls l, rfl, En.for_signs (fun i σ H' => Same H H' ∧ (∀ j < i, okc (l.getD j 0)) ∧ ∃ w1 w2 : Option V, σ = [some (.str (Ls l)), w1, w2])
      ⟨fun _ _ e => e, (fun j h => absurd h (Nat.not_lt_zero _)), _, _, rfl⟩ ?_ ?_⟩
    · rintro i c σ H' t hc ht ⟨sm, al, w1, w2, rfl⟩
      have hi : i < l.length := by
        have := (Array.getElem?_eq_some_iff.mp hc).1
        exact this
      have ec : c = l.getD i 0 := by
        have e1 : l[i]? = some c := by
          have := hc
          rw [← Array.getElem?_toList] at this
          exact this
        rw [List.getD_eq_getElem?_getD, e1]
        rfl
      subst ec
      refine ⟨t, _, rfl, SqT.of upd_same, rfl, _, _, rfl, _, _, rfl, rfl, ?_⟩
      have sm2 : Same H (upd H' t (.tup [.int (i : Nat), .str ⟨#[l.getD i 0]⟩])) := sm.trans (same_alloc ht)
      refine ⟨_, rfl, l.getD i 0, rfl, _, rfl, ?_⟩
      by_cases o : okc (l.getD i 0)
      · rw [decide_eq_true o]
        refine iteF ⟨sm2, fun j hj => ?_, _, _, rfl⟩
        rcases Nat.lt_or_eq_of_le (Nat.le_of_lt_succ hj) with h | h
        · exact al j h
        · rw [h]; exact o
      · rw [decide_eq_false o]
        refine iteT ⟨_, rfl, ?_⟩
        refine err (i : Int) _ _ sm2 (by rw [Int.natAbs_natCast]; exact Nat.lt_of_lt_of_le (show i < 10000 by omega) (by decide)) fun d H' s1 e1 => qe _ d H' (.inr ⟨by omega, i, rfl, hi, o, al⟩) s1 e1
    · rintro σ H' ⟨sm, al, w1, w2, rfl⟩
      exact q (by omega) al H' sm
theorem ok_split {f : Addr} {fd : FuncData} (F : Fun K "split_words" "split_words" sSplit f fd) (zE : mg "enumerate" = none)
    (c_check : Cal P w K mg base (L2.CX P w) 3 "check_characters" ["text"] (spCheck K C)) : FnOk P w K mg base (L2.CX P w) 4 f fd ["text"] (spSplit K C) := by
  refine F.okX scSplit (fun vs H Q E h => ?_) (fun cdv A outer s H vs Q E hr h => ?_)
  · obtain ⟨l, rfl, _⟩ := h
    rfl
  · obtain ⟨l, rfl, hl, qe, q⟩ := h
    have nd := scSplit.nd
    have big : 20000 ≤ sizeLine := by decide
    have fit : (Ls l).length ≤ sizeLine := by rw [ls_len]; omega
    refine ⟨_, pss_cons (ps_expr (pe_call c_check.ok (hr.mono (by first | decide | omega)) rfl c_check.m c_check.kp c_check.b .nil (passes_call (takes_of rfl rfl rfl rfl) (fun _ _ _ _ h => h)) (pa_cons (pv 0) pa_nil)))
      (pss_cons (ps_set (i := 1) nd rfl (.inl rfl) (pe_lst pa_nil))
      (pss_cons (ps_set (i := 2) nd rfl (.inl rfl) pe_int)
      (pss_cons (ps_for (passes_of rfl) rfl (En.pi_enumS rfl zE (pa_cons (pe_op op_add_str (pv 0) pe_str) pa_nil)) (pg_tup (by rfl) (pgs_cons (pg_name (i := 3) nd rfl (.inl rfl)) (pgs_cons (pg_name (i := 4) nd rfl (.inl rfl)) pgs_nil))) (pss_one (ps_if (pt_cmpR op_in_str (pv 4) pe_str (by rfl)) (pss_cons (ps_if (pt_cmpR op_lt (pv 2) (pv 3) (nomark _)) (pss_one (ps_expr (pe_bm PySem.F.plainAttrs_list PySem.F.slot_list_append PySem.F.type_list_append mt_append (pv 1) (pa_cons (pe_tup (pa_cons (pe_slice sl_str (pv 0) (po_some (pv 2)) (po_some (pv 3))) (pa_cons (pv 2) pa_nil))) pa_nil)))) pss_nil)
      (pss_cons (ps_if (pt_cmpR op_in_str (pv 4) pe_str (by rfl)) (pss_one (ps_expr (pe_bm PySem.F.plainAttrs_list PySem.F.slot_list_append PySem.F.type_list_append mt_append (pv 1) (pa_cons (pe_tup (pa_cons (pv 4) (pa_cons (pv 3) pa_nil))) pa_nil)))) pss_nil)
      (pss_one (ps_set (i := 2) nd rfl (.inl rfl) (pe_op op_add (pv 3) pe_int))))) pss_nil)))
      (pss_one (ps_ret (pv 1)))))), ?_⟩
    refine ⟨_, rfl, l, rfl, hl, qe, fun h6 hok H1 s1 => ?_⟩
    refine ⟨Nat.zero_le _, fun W hW => ?_⟩
    have hW0 : H W = none := by
      cases e : H W with
      | none => rfl
      | some u => rw [s1 _ _ e] at hW; cases hW
    have sE : Ls l ++ (" " : Str) = Ls (l ++ [32]) := ls_app l [32]
    refine ⟨_, rfl, _, _, rfl, rfl, (by rw [ls_len, show ((" " : Str).length) = 1 from rfl]; omega), _, rfl, ?_⟩
    rw [sE]
    refine En.for_signs (fun i σ H' => Same H1 H' ∧ (∃ xs, H' W = some (.lst xs) ∧ TvL K H' ((wst l i).2.map wdEnc) xs ∧ xs.length ≤ 2 * i) ∧
        ∃ w3 w4 : Option V, σ = [some (.str (Ls l)), some (.ref W), some (.int (((wst l i).1.getD i : Nat) : Int)), w3, w4])
      ⟨same_alloc hW, ⟨[], upd_same, rfl, Nat.le_refl _⟩, _, _, rfl⟩ ?_ ?_
    · rintro i c σ H0 t hc ht ⟨sm0, ⟨xs, eW0, tv0, lx⟩, w3, w4, rfl⟩
      have hi : i < l.length + 1 := by
        have h := (Array.getElem?_eq_some_iff.mp hc).1
        have h2 : i < (l ++ [32]).length := h
        rw [List.length_append] at h2
        exact h2
      have ec : c = l.getD i 32 := by
        have e1 : (l ++ [32])[i]? = some c := by
          have h := hc
          rw [← Array.getElem?_toList] at h
          exact h
        rw [List.getD_eq_getElem?_getD]
        by_cases hl2 : i < l.length
        · rw [List.getElem?_append_left hl2] at e1
          rw [e1]
          rfl
        · have : i = l.length := by omega
          subst this
          rw [List.getElem?_append_right (Nat.le_refl _), Nat.sub_self] at e1
          rw [List.getElem?_eq_none (Nat.le_refl _)]
          exact (Option.some.inj e1).symm
      subst ec
      refine ⟨t, _, rfl, SqT.of upd_same, rfl, _, _, rfl, _, _, rfl, rfl, ?_⟩
      have sm : Same H1 (upd H0 t (.tup [.int (i : Nat), .str ⟨#[l.getD i 32]⟩])) := sm0.trans (same_alloc ht)
      have eW : (upd H0 t (.tup [.int (i : Nat), .str ⟨#[l.getD i 32]⟩])) W = some (.lst xs) := by rw [upd_ne (ne_of_none eW0 ht)]; exact eW0
      have tv : TvL K (upd H0 t (.tup [.int (i : Nat), .str ⟨#[l.getD i 32]⟩])) ((wst l i).2.map wdEnc) xs := TvL.carry (carry_new ht) _ _ tv0
      generalize (upd H0 t (.tup [.int (i : Nat), .str ⟨#[l.getD i 32]⟩])) = H' at sm eW tv
      have lsc : (⟨#[l.getD i 32]⟩ : Str) = Ls [l.getD i 32] := rfl
      rw [lsc]
      refine ⟨_, rfl, _, _, rfl, rfl, _, rfl, ?_⟩
      by_cases sc : sepC (l.getD i 32)
      · refine iteT' ((in_sep _).trans (decide_eq_true sc)) ?_
        refine ⟨_, rfl, _, rfl, _, _, rfl, rfl, _, rfl, ?_⟩
        cases es : (wst l i).1 with
        | some k =>
          have kl := wst_lt l i k es
          refine iteT' (decide_eq_true (show (k : Int) < (i : Int) by omega)) ?_
          refine ⟨_, rfl, .inl ⟨rfl, _, SqL.of eW⟩, _, rfl, _, rfl, _, rfl, _, rfl, _, rfl, Ls l, rfl, fit, _, rfl, (show 2 ≤ sizeLine by decide), fun t1 ht1 => ?_⟩
          have ec : cutS (Ls l) (some (((some k).getD i : Nat) : Int)) (some ((i : Nat) : Int)) = Ls ((l.drop k).take (i - k)) := ls_cut (Nat.le_of_lt kl) (by omega)
          rw [ec]
          obtain ⟨f1, f2, f3⟩ := word_put (z := (l.drop k).take (i - k)) (k := k) sm hW eW tv ht1
          have f3' : TvL K (upd (upd H' t1 (.tup [.str (Ls ((l.drop k).take (i - k))), .int (k : Int)])) W (.lst (xs ++ [.ref t1]))) (((wst l i).2 ++ pend l (wst l i).1 i).map wdEnc) (xs ++ [.ref t1]) := by
            rw [es, List.map_append]
            exact f3
          have ln : (xs ++ [V.ref t1]).length ≤ 2 * i + 1 := by
            rw [List.length_append]
            show xs.length + 1 ≤ _
            omega
          refine ⟨W, _, _, rfl, rfl, f1, by omega, ?_⟩
          refine ⟨_, rfl, _, _, rfl, rfl, _, rfl, ?_⟩
          by_cases pc : parC (l.getD i 32)
          · refine iteT' ((in_par _).trans (decide_eq_true pc)) ?_
            refine ⟨_, rfl, .inl ⟨rfl, _, SqL.of (upd_same)⟩, _, rfl, _, rfl, (show 2 ≤ sizeLine by decide), fun t2 ht2 => ?_⟩
            obtain ⟨g1, g2, g3⟩ := word_put (z := [l.getD i 32]) (k := i) (f2) hW (upd_same) (f3') ht2
            refine ⟨W, _, _, rfl, rfl, g1, ?_, _, rfl, _, _, rfl, rfl, g2, ⟨_, upd_same, ?_, ?_⟩, some (V.int (i : Int)), some (V.str (Ls [l.getD i 32])), ?_⟩
            · have := ln
              omega
            · rw [wst_sep sc, if_pos pc, List.map_append]
              exact g3
            · have := ln
              rw [List.length_append]
              show _ + 1 ≤ 2 * (i + 1)
              omega
            · rw [wst_sep sc]
              rfl
          · refine iteF' ((in_par _).trans (decide_eq_false pc)) ?_
            refine ⟨_, rfl, _, _, rfl, rfl, f2, ⟨_, upd_same, ?_, ?_⟩, some (V.int (i : Int)), some (V.str (Ls [l.getD i 32])), ?_⟩
            · rw [wst_sep sc, if_neg pc, List.append_nil]
              exact f3'
            · have := ln
              omega
            · rw [wst_sep sc]
              rfl
        | none =>
          refine iteF' (decide_eq_false (show ¬ ((i : Int) < (i : Int)) by omega)) ?_
          have tv' : TvL K H' (((wst l i).2 ++ pend l (wst l i).1 i).map wdEnc) xs := by
            rw [es]
            show TvL K H' (((wst l i).2 ++ []).map wdEnc) xs
            rw [List.append_nil]
            exact tv
          have ln : xs.length ≤ 2 * i + 1 := by omega
          refine ⟨_, rfl, _, _, rfl, rfl, _, rfl, ?_⟩
          by_cases pc : parC (l.getD i 32)
          · refine iteT' ((in_par _).trans (decide_eq_true pc)) ?_
            refine ⟨_, rfl, .inl ⟨rfl, _, SqL.of (eW)⟩, _, rfl, _, rfl, (show 2 ≤ sizeLine by decide), fun t2 ht2 => ?_⟩
            obtain ⟨g1, g2, g3⟩ := word_put (z := [l.getD i 32]) (k := i) (sm) hW (eW) (tv') ht2
            refine ⟨W, _, _, rfl, rfl, g1, ?_, _, rfl, _, _, rfl, rfl, g2, ⟨_, upd_same, ?_, ?_⟩, some (V.int (i : Int)), some (V.str (Ls [l.getD i 32])), ?_⟩
            · have := ln
              omega
            · rw [wst_sep sc, if_pos pc, List.map_append]
              exact g3
            · have := ln
              rw [List.length_append]
              show _ + 1 ≤ 2 * (i + 1)
              omega
            · rw [wst_sep sc]
              rfl
          · refine iteF' ((in_par _).trans (decide_eq_false pc)) ?_
            refine ⟨_, rfl, _, _, rfl, rfl, sm, ⟨_, eW, ?_, ?_⟩, some (V.int (i : Int)), some (V.str (Ls [l.getD i 32])), ?_⟩
            · rw [wst_sep sc, if_neg pc, List.append_nil]
              exact tv'
            · have := ln
              omega
            · rw [wst_sep sc]
              rfl

      · refine iteF' ((in_sep _).trans (decide_eq_false sc)) ?_
        refine ⟨sm, ⟨xs, eW, ?_, by omega⟩, some (V.int (i : Int)), some (V.str (Ls [l.getD i 32])), ?_⟩
        · rw [wst_no sc]
          exact tv
        · rw [wst_no sc]
          rfl
    · rintro σ H' ⟨sm, ⟨xs, eW, tv, lx⟩, w3, w4, rfl⟩
      have e : (Ls (l ++ [32])).cps.size = l.length + 1 := by
        show (l ++ [32]).length = _
        rw [List.length_append]
        rfl
      rw [e] at tv
      exact ⟨_, rfl, q h6 hok W xs H' (s1.trans sm) hW0 eW tv⟩
end
end Sd

namespace Sd
open PySem L2 Tr Pu PyProof.Rows
/-! ### the pieces of a form's text -/
def tkS : List Tk → List Str
  | [] => []
  | .g _ :: r => tkS r
  | .b c :: r => Ls [c] :: tkS r
  | .w l :: r => Ls l :: tkS r
theorem tkS_app : ∀ a b : List Tk, tkS (a ++ b) = tkS a ++ tkS b
  | [], b => rfl
  | .g c :: r, b => tkS_app r b
  | .b c :: r, b => congrArg (Ls [c] :: ·) (tkS_app r b)
  | .w l :: r, b => congrArg (Ls l :: ·) (tkS_app r b)
theorem tkW_S : ∀ (ts : List Tk) (i : Nat), (tkW i ts).map (fun z => Ls z.1) = tkS ts
  | [], i => rfl
  | .g c :: r, i => tkW_S r (i + 1)
  | .b c :: r, i => congrArg (Ls [c] :: ·) (tkW_S r (i + 1))
  | .w l :: r, i => congrArg (Ls l :: ·) (tkW_S r (i + l.length))
theorem flat_app : ∀ a b : List Tk, flat (a ++ b) = flat a ++ flat b
  | [], b => rfl
  | t :: r, b => by
    show t.l ++ flat (r ++ b) = (t.l ++ flat r) ++ flat b
    rw [flat_app r b, List.append_assoc]
def firstW : List Tk → Bool
  | .w _ :: _ => true
  | _ => false
theorem apart_w {q : List Nat} : ∀ {r : List Tk}, apart r → firstW r = false → apart (.w q :: r)
  | [], _, _ => trivial
  | .g c :: r, h, _ => h
  | .b c :: r, h, _ => h
  | .w l :: r, _, e => by cases e
mutual
def tkF : Fm → List Tk
  | .w s => [.w (TL.tl s)]
  | .f l => .b 40 :: (tkL l ++ [.b 41])
def tkL : List Fm → List Tk
  | [] => []
  | x :: r => tkF x ++ tkR r
def tkR : List Fm → List Tk
  | [] => []
  | x :: r => .g 32 :: (tkF x ++ tkR r)
end
mutual
theorem ap_F : ∀ (F : Fm) (r : List Tk), apart r → firstW r = false → apart (tkF F ++ r)
  | .w s, r, h, e => by
    simp only [tkF]
    exact apart_w h e
  | .f l, r, h, e => by
    simp only [tkF]
    have : (Tk.b 40 :: (tkL l ++ [.b 41])) ++ r = .b 40 :: (tkL l ++ (.b 41 :: r)) := by simp
    rw [this]
    exact ap_L l (.b 41 :: r) h rfl
theorem ap_L : ∀ (l : List Fm) (r : List Tk), apart r → firstW r = false → apart (tkL l ++ r)
  | [], r, h, _ => by simp only [tkL]; exact h
  | x :: l, r, h, e => by
    simp only [tkL]
    rw [List.append_assoc]
    obtain ⟨h2, e2⟩ := ap_R l r h e
    exact ap_F x _ h2 e2
theorem ap_R : ∀ (l : List Fm) (r : List Tk), apart r → firstW r = false → apart (tkR l ++ r) ∧ firstW (tkR l ++ r) = false
  | [], r, h, e => by simp only [tkR]; exact ⟨h, e⟩
  | x :: l, r, h, e => by
    simp only [tkR]
    obtain ⟨h2, e2⟩ := ap_R l r h e
    have := ap_F x _ h2 e2
    refine ⟨?_, rfl⟩
    have e3 : (Tk.g 32 :: (tkF x ++ tkR l)) ++ r = .g 32 :: (tkF x ++ (tkR l ++ r)) := by simp
    rw [e3]
    exact this
end
theorem good_tk {s : Str} (h : Good s) : (Tk.w (TL.tl s)).ok := ⟨h.1, fun c m sp => by
  have sp' : c ∈ [32, 10, 40, 41] := sp
  rcases List.mem_cons.mp sp' with rfl | sp'
  · exact h.2.2.2.2.1 m
  rcases List.mem_cons.mp sp' with rfl | sp'
  · exact h.2.2.2.2.2.1 m
  rcases List.mem_cons.mp sp' with rfl | sp'
  · exact h.2.2.1 m
  rw [List.mem_singleton.mp sp'] at m
  exact h.2.2.2.1 m⟩
mutual
theorem okT_F : ∀ (F : Fm), okA Good F → ∀ t ∈ tkF F, t.ok
  | .w s, h, t, m => by
    simp only [okA] at h
    simp only [tkF] at m
    rw [List.mem_singleton.mp m]
    exact good_tk h
  | .f l, h, t, m => by
    simp only [okA] at h
    simp only [tkF] at m
    rcases List.mem_cons.mp m with rfl | m
    · exact .inl rfl
    rcases List.mem_append.mp m with m | m
    · exact okT_L l h t m
    · rw [List.mem_singleton.mp m]; exact .inr rfl
theorem okT_L : ∀ (l : List Fm), okAs Good l → ∀ t ∈ tkL l, t.ok
  | [], _, t, m => by simp only [tkL] at m; cases m
  | x :: l, h, t, m => by
    simp only [okAs] at h
    simp only [tkL] at m
    rcases List.mem_append.mp m with m | m
    · exact okT_F x h.1 t m
    · exact okT_R l h.2 t m
theorem okT_R : ∀ (l : List Fm), okAs Good l → ∀ t ∈ tkR l, t.ok
  | [], _, t, m => by simp only [tkR] at m; cases m
  | x :: l, h, t, m => by
    simp only [okAs] at h
    simp only [tkR] at m
    rcases List.mem_cons.mp m with rfl | m
    · exact .inl rfl
    rcases List.mem_append.mp m with m | m
    · exact okT_F x h.1 t m
    · exact okT_R l h.2 t m
end
mutual
theorem wd_tk : ∀ (F : Fm), tkS (tkF F) = wd F
  | .w s => by
    simp only [tkF, wd]
    rfl
  | .f l => by
    simp only [tkF, wd]
    show Ls [40] :: tkS (tkL l ++ [.b 41]) = _
    rw [tkS_app, wds_tk l]
    rfl
theorem wds_tk : ∀ (l : List Fm), tkS (tkL l) = wds l
  | [] => by simp only [tkL, wds]; rfl
  | x :: l => by
    simp only [tkL, wds]
    rw [tkS_app, wd_tk x, wdr_tk l]
theorem wdr_tk : ∀ (l : List Fm), tkS (tkR l) = wds l
  | [] => by simp only [tkR, wds]; rfl
  | x :: l => by
    simp only [tkR, wds]
    show tkS (tkF x ++ tkR l) = _
    rw [tkS_app, wd_tk x, wdr_tk l]
end
mutual
theorem tl_tx : ∀ (F : Fm), flat (tkF F) = TL.tl (tx F)
  | .w s => by
    simp only [tkF, tx]
    exact List.append_nil _
  | .f [] => by
    simp only [tkF, tx, tkL, txs]
    decide +kernel
  | .f (x :: l) => by
    simp only [tkF, tx, tkL, txs]
    show [40] ++ flat ((tkF x ++ tkR l) ++ [.b 41]) = _
    unfold frm
    rw [join_jn, flat_app, flat_app, tl_tx x, tl_jn l, TL.tl_append, TL.tl_append, TL.tl_append]
    rw [show TL.tl ("(" : Str) = [40] from by decide +kernel, show TL.tl (")" : Str) = [41] from by decide +kernel]
    simp only [List.append_assoc]
    rfl
theorem tl_jn : ∀ (l : List Fm), flat (tkR l) = TL.tl (jn (txs l))
  | [] => by
    simp only [tkR, txs, jn]
    decide +kernel
  | x :: l => by
    simp only [tkR, txs, jn]
    show [32] ++ flat (tkF x ++ tkR l) = _
    rw [flat_app, tl_tx x, tl_jn l, TL.tl_append, TL.tl_append]
    rw [show TL.tl (" " : Str) = [32] from by decide +kernel]
    simp only [List.append_assoc]
end
/-- the pieces of a whole text, a line each form -/
def tkT : List Fm → List Tk
  | [] => []
  | [x] => tkF x
  | x :: y :: r => tkF x ++ .g 10 :: tkT (y :: r)
theorem ap_T : ∀ (l : List Fm), apart (tkT l)
  | [] => trivial
  | [x] => by
    have := ap_F x [] trivial rfl
    rw [List.append_nil] at this
    exact this
  | x :: y :: r => ap_F x (.g 10 :: tkT (y :: r)) (ap_T (y :: r)) rfl
theorem okT_T : ∀ (l : List Fm), okAs Good l → ∀ t ∈ tkT l, t.ok
  | [], _, t, m => by cases m
  | [x], h, t, m => by
    simp only [okAs] at h
    exact okT_F x h.1 t m
  | x :: y :: r, h, t, m => by
    simp only [okAs] at h
    have m : t ∈ tkF x ++ .g 10 :: tkT (y :: r) := m
    rcases List.mem_append.mp m with m | m
    · exact okT_F x h.1 t m
    rcases List.mem_cons.mp m with rfl | m
    · exact .inr rfl
    · exact okT_T (y :: r) (by simp only [okAs]; exact h.2) t m
theorem wds_T : ∀ (l : List Fm), tkS (tkT l) = wds l
  | [] => by simp only [wds]; rfl
  | [x] => by
    simp only [wds]
    rw [List.append_nil]
    exact wd_tk x
  | x :: y :: r => by
    rw [wds_c, ← wds_T (y :: r), ← wd_tk x]
    exact tkS_app _ _
theorem tl_T : ∀ (l : List Fm), flat (tkT l) = TL.tl (Txt.join ("\n" : Str) (txs l))
  | [] => by
    simp only [txs]
    rw [TL.join_eq]
    decide +kernel
  | [x] => by
    simp only [txs]
    rw [TL.join_eq]
    exact tl_tx x
  | x :: y :: r => by
    have ih := tl_T (y :: r)
    simp only [txs] at ih ⊢
    rw [TL.join_eq] at ih ⊢
    show flat (tkF x ++ .g 10 :: tkT (y :: r)) = TL.tl (tx x ++ ("\n" : Str) ++ Str.join ("\n" : Str) (tx y :: txs r))
    rw [flat_app, tl_tx x, TL.tl_append, TL.tl_append, ← ih, show TL.tl ("\n" : Str) = [10] from by decide +kernel]
    simp only [List.append_assoc]
    rfl
/-- the words of the text that write_program makes -/
theorem words_text {l : List Fm} (h : okAs Good l) : (wordsOf (TL.tl (Txt.join ("\n" : Str) (txs l)))).map (fun z => Ls z.1) = wds l := by
  rw [← tl_T, words_flat (okT_T l h) (ap_T l), tkW_S, wds_T]
end Sd

namespace Sd
open PySem L2 Tr Pu PyProof.Rows
/-! ### the forms of a list of words, without a heap -/
/-- a part: a word or a form, with its index in the text -/
inductive PF where
  | w (s : Str) (i : Int)
  | f (l : List PF) (i : Int)
mutual
def strip : PF → Fm
  | .w s _ => .w s
  | .f l _ => .f (strips l)
def strips : List PF → List Fm
  | [] => []
  | x :: r => strip x :: strips r
end
theorem strips_app : ∀ a b : List PF, strips (a ++ b) = strips a ++ strips b
  | [], b => by simp only [strips, List.nil_append]
  | x :: r, b => by
    simp only [List.cons_append, strips]
    rw [strips_app r b]
mutual
def nest : Fm → Nat
  | .w _ => 0
  | .f l => nests l + 1
def nests : List Fm → Nat
  | [] => 0
  | x :: r => max (nest x) (nests r)
end
abbrev Zs := List PF × List (List PF × Int)
/-- one word more; none where read_forms would refuse -/
def rfStep (M : Nat) (z : Str × Int) (s : Zs) : Option Zs :=
  if z.1 = ("(" : Str) then (if s.2.length = M then none else some ([], (s.1, z.2) :: s.2))
  else match s.2 with
    | [] => none
    | (p, a) :: r => if z.1 = (")" : Str) then some (p ++ [.f s.1 a], r) else some (s.1 ++ [.w z.1 z.2], s.2)
def rfRun (M : Nat) : List (Str × Int) → Zs → Option Zs
  | [], s => some s
  | z :: r, s => (rfStep M z s).bind (rfRun M r)
theorem rf_open {M : Nat} {z : Str × Int} {r : List (Str × Int)} {cur : List PF} {stk : List (List PF × Int)} (h : z.1 = ("(" : Str)) (l : stk.length < M) : rfRun M (z :: r) (cur, stk) = rfRun M r ([], (cur, z.2) :: stk) := by
  show (rfStep M z (cur, stk)).bind (rfRun M r) = _
  unfold rfStep
  rw [if_pos h, if_neg (by show ¬ stk.length = M; omega)]
  rfl
theorem rf_close {M : Nat} {z : Str × Int} {r : List (Str × Int)} {cur p : List PF} {a : Int} {stk : List (List PF × Int)} (h : z.1 = (")" : Str)) : rfRun M (z :: r) (cur, (p, a) :: stk) = rfRun M r (p ++ [.f cur a], stk) := by
  show (rfStep M z (cur, (p, a) :: stk)).bind (rfRun M r) = _
  unfold rfStep
  rw [if_neg (by rw [h]; exact fun y => ob_ne y.symm)]
  show ((if z.1 = (")" : Str) then some (p ++ [PF.f cur a], stk) else _).bind (rfRun M r)) = _
  rw [if_pos h]
  rfl
theorem rf_word {M : Nat} {z : Str × Int} {r : List (Str × Int)} {cur p : List PF} {a : Int} {stk : List (List PF × Int)} (h1 : z.1 ≠ ("(" : Str)) (h2 : z.1 ≠ (")" : Str)) : rfRun M (z :: r) (cur, (p, a) :: stk) = rfRun M r (cur ++ [.w z.1 z.2], (p, a) :: stk) := by
  show (rfStep M z (cur, (p, a) :: stk)).bind (rfRun M r) = _
  unfold rfStep
  rw [if_neg h1]
  show ((if z.1 = (")" : Str) then some (p ++ [PF.f cur a], stk) else some (cur ++ [PF.w z.1 z.2], (p, a) :: stk)).bind (rfRun M r)) = _
  rw [if_neg h2]
  rfl
mutual
theorem rf_F (M : Nat) : ∀ (F : Fm), okF F → ∀ (zs : List (Str × Int)) (rs : List Str), zs.map (·.1) = wd F ++ rs → ∃ zs' pf, zs'.map (·.1) = rs ∧ strip pf = F ∧ ∀ cur p a stk, stk.length + 1 + nest F ≤ M → rfRun M zs (cur, (p, a) :: stk) = rfRun M zs' (cur ++ [pf], (p, a) :: stk)
  | .w s, h, zs, rs, e => by
    simp only [okF] at h
    rw [wd_w] at e
    cases zs with
    | nil => cases e
    | cons z r =>
      injection e with e1 e2
      have e1 : z.1 = s := e1
      refine ⟨r, .w z.1 z.2, e2, by simp only [strip]; rw [e1], fun cur p a stk _ => rf_word (by rw [e1]; exact h.1) (by rw [e1]; exact h.2)⟩
  | .f l, h, zs, rs, e => by
    simp only [okF] at h
    rw [wd_f] at e
    cases zs with
    | nil => cases e
    | cons z r =>
      injection e with e1 e2
      obtain ⟨zs', ps, f1, f2, f3⟩ := rf_L M l h r (")" :: rs) (by
        rw [e2]
        show (wds l ++ [(")" : Str)]) ++ rs = _
        rw [List.append_assoc]
        rfl)
      cases zs' with
      | nil => cases f1
      | cons y q =>
        injection f1 with g1 g2
        refine ⟨q, .f ps z.2, g2, by simp only [strip]; rw [f2], fun cur p a stk lm => ?_⟩
        simp only [nest] at lm
        rw [rf_open e1 (by show stk.length + 1 < M; omega), f3 [] cur z.2 ((p, a) :: stk) (by show stk.length + 1 + 1 + nests l ≤ M; omega), rf_close g1]
        rfl
theorem rf_L (M : Nat) : ∀ (l : List Fm), okFs l → ∀ (zs : List (Str × Int)) (rs : List Str), zs.map (·.1) = wds l ++ rs → ∃ zs' ps, zs'.map (·.1) = rs ∧ strips ps = l ∧ ∀ cur p a stk, stk.length + 1 + nests l ≤ M → rfRun M zs (cur, (p, a) :: stk) = rfRun M zs' (cur ++ ps, (p, a) :: stk)
  | [], h, zs, rs, e => ⟨zs, [], by rw [wds_n] at e; exact e, by simp only [strips], fun cur p a stk _ => by rw [List.append_nil]⟩
  | x :: l, h, zs, rs, e => by
    simp only [okFs] at h
    rw [wds_c, List.append_assoc] at e
    obtain ⟨z1, pf, a1, a2, a3⟩ := rf_F M x h.1 zs _ e
    obtain ⟨z2, ps, b1, b2, b3⟩ := rf_L M l h.2 z1 rs a1
    refine ⟨z2, pf :: ps, b1, by simp only [strips]; rw [a2, b2], fun cur p a stk lm => ?_⟩
    simp only [nests] at lm
    have l1 := Nat.le_max_left (nest x) (nests l)
    have l2 := Nat.le_max_right (nest x) (nests l)
    rw [a3 cur p a stk (by omega), b3 (cur ++ [pf]) p a stk (by omega), List.append_assoc]
    rfl
end
/-- the forms that stand in no other form -/
theorem rf_all (M : Nat) : ∀ (l : List Fm), okFs l → (∀ x ∈ l, ∃ q, x = .f q) → nests l ≤ M → ∀ (zs : List (Str × Int)), zs.map (·.1) = wds l → ∃ ps, strips ps = l ∧ ∀ cur, rfRun M zs (cur, []) = some (cur ++ ps, [])
  | [], _, _, _, zs, e => by
    rw [wds_n] at e
    cases zs with
    | nil => exact ⟨[], by simp only [strips], fun cur => by rw [List.append_nil]; rfl⟩
    | cons z r => cases e
  | x :: l, h, hf, lm, zs, e => by
    simp only [okFs] at h
    simp only [nests] at lm
    have l1 := Nat.le_max_left (nest x) (nests l)
    have l2 := Nat.le_max_right (nest x) (nests l)
    obtain ⟨q, rfl⟩ := hf x List.mem_cons_self
    rw [wds_c, wd_f] at e
    cases zs with
    | nil => cases e
    | cons z r =>
      injection e with e1 e2
      have hq := h.1
      simp only [okF] at hq
      obtain ⟨z1, ps, a1, a2, a3⟩ := rf_L M q hq r (")" :: wds l) (by
        rw [e2]
        show (wds q ++ [(")" : Str)]) ++ wds l = _
        rw [List.append_assoc]
        rfl)
      cases z1 with
      | nil => cases a1
      | cons y z2 =>
        injection a1 with g1 g2
        obtain ⟨qs, b1, b2⟩ := rf_all M l h.2 (fun x m => hf x (List.mem_cons_of_mem _ m)) (by omega) z2 g2
        simp only [nest] at l1 lm
        refine ⟨.f ps z.2 :: qs, by simp only [strips, strip]; rw [a2, b1], fun cur => ?_⟩
        rw [rf_open e1 (by show 0 < M; omega), a3 [] cur z.2 [] (by show 0 + 1 + nests q ≤ M; omega), rf_close g1, b2, List.append_assoc]
        rfl
end Sd

namespace Sd
open PySem L2 Tr Pu PyProof.Rows
/-! ### how deep the forms of drawn trees are nested -/
theorem nests_le {n : Nat} : ∀ {l : List Fm}, (∀ x ∈ l, nest x ≤ n) → nests l ≤ n
  | [], _ => by simp only [nests]; exact Nat.zero_le _
  | x :: r, h => by
    simp only [nests]
    exact Nat.max_le.mpr ⟨h x List.mem_cons_self, nests_le fun y m => h y (List.mem_cons_of_mem _ m)⟩
theorem nests_mem {x : Fm} : ∀ {l : List Fm}, x ∈ l → nest x ≤ nests l
  | y :: r, m => by
    simp only [nests]
    rcases List.mem_cons.mp m with rfl | m
    · exact Nat.le_max_left _ _
    · exact Nat.le_trans (nests_mem m) (Nat.le_max_right _ _)
theorem nest_f {n : Nat} {l : List Fm} (h : ∀ x ∈ l, nest x ≤ n) : nest (.f l) ≤ n + 1 := by
  simp only [nest]
  exact Nat.succ_le_succ (nests_le h)
theorem nest_w {n : Nat} (s : Str) : nest (.w s) ≤ n := by simp only [nest]; exact Nat.zero_le _
theorem m2 {P : Fm → Prop} {a b : Fm} (ha : P a) (hb : P b) : ∀ x ∈ [a, b], P x := fun x m => by
  rcases List.mem_cons.mp m with rfl | m
  · exact ha
  · rw [List.mem_singleton.mp m]; exact hb
theorem mc {P : Fm → Prop} {a : Fm} {l : List Fm} (ha : P a) (hl : ∀ x ∈ l, P x) : ∀ x ∈ a :: l, P x := fun x m => by
  rcases List.mem_cons.mp m with rfl | m
  · exact ha
  · exact hl x m
theorem mn {P : Fm → Prop} : ∀ x ∈ ([] : List Fm), P x := fun x m => by cases m
theorem n_ix {is : List Str} {d : Nat} {x : Ix} (g : GIx is d x) : nest (fIx x) ≤ d := by
  induction g with
  | int h0 h1 => exact nest_w _
  | beat => exact nest_w _
  | var h => exact nest_w _
  | rem ha h0 h1 ih => exact nest_f (mc (nest_w _) (m2 ih (nest_w _)))
  | op ha hb iha ihb => exact nest_f (mc (nest_w _) (m2 iha ihb))
theorem n_pl {vars : List VRow} {is : List Str} {nm : Str} {ix : Option Ix} (g : GPl vars is nm ix) : nest (fPl nm ix) ≤ 4 := by
  cases g with
  | plain h => exact nest_w _
  | raw h hs g => exact nest_f (mc (nest_w _) (m2 (nest_w _) (Nat.le_trans (n_ix g) (by decide))))
  | wrapped h hs g => exact nest_f (n := 3) (mc (nest_w _) (m2 (nest_w _) (nest_f (n := 2) (mc (nest_w _) (m2 (n_ix g) (nest_w _))))))
theorem n_ex {vars : List VRow} {is : List Str} {d : Nat} {x : Ex} (g : GEx vars is d x) : nest (fEx x) ≤ d + 4 := by
  induction g with
  | num h => exact nest_w _
  | place h => exact Nat.le_trans (n_pl h) (Nat.le_add_left _ _)
  | @op d _ _ _ ha hb iha ihb => exact Nat.le_trans (nest_f (mc (nest_w _) (m2 iha ihb))) (by omega)
theorem n_ts {vars : List VRow} {is : List Str} {x : Ts} (g : GTs vars is x) : nest (fTs x) ≤ 7 := by
  cases g with
  | zero h => exact Nat.le_trans (nest_f (m2 (nest_w _) (n_ex h))) (by decide)
  | notz h => exact nest_f (n := 6) (m2 (nest_w _) (nest_f (n := 5) (m2 (nest_w _) (n_ex h))))
  | less ha hb => exact Nat.le_trans (nest_f (mc (nest_w _) (m2 (n_ix ha) (n_ix hb)))) (by decide)
  | equal ha hb => exact Nat.le_trans (nest_f (mc (nest_w _) (m2 (n_ix ha) (n_ix hb)))) (by decide)
theorem n_names {n : Nat} (ns : List Str) : ∀ x ∈ ns.map Fm.w, nest x ≤ n := fun x m => by
  obtain ⟨s, _, rfl⟩ := List.mem_map.mp m
  exact nest_w _
theorem n_sts {n : Nat} {b : List Tr.St} (h : ∀ s ∈ b, nest (fSt s) ≤ n) : ∀ x ∈ fSts b, nest x ≤ n := fun x m => by
  rw [fSts_map] at m
  obtain ⟨s, hs, rfl⟩ := List.mem_map.mp m
  exact h s hs
theorem n_st {ks : List KRow} {vars : List VRow} {is : List Str} {d : Nat} {x : Tr.St} (g : GSt ks vars is d x) : nest (fSt x) ≤ 2 * d + 8 := by
  induction g with
  | @set vars is d nm ix e hp he => exact Nat.le_trans (nest_f (n := 6) (mc (nest_w _) (m2 (Nat.le_trans (n_pl hp) (by decide)) (n_ex he)))) (by omega)
  | @call vars is d f xs ns h =>
    refine Nat.le_trans (nest_f (n := 3) (mc (nest_w _) (mc (nest_w _) (m2 (nest_f (n := 2) fun y m => ?_) (nest_f (n := 2) (n_names _)))))) (by omega)
    obtain ⟨x, hx, rfl⟩ := List.mem_map.mp m
    exact n_ix (h.idx x hx)
  | @loop vars is d c b hc h1 h3 hb ih =>
    refine Nat.le_trans (nest_f (n := 2 * d + 8) fun y m => ?_) (by omega)
    rcases List.mem_append.mp m with m | m
    · exact mc (P := fun x => nest x ≤ 2 * d + 8) (nest_w _) (m2 (nest_w _) (Nat.le_trans (n_ix hc) (by omega))) y m
    · exact n_sts ih y m
  | @ite vars is d t a b ht a1 a3 ha b1 b3 hb iha ihb =>
    exact Nat.le_trans (nest_f (n := 2 * d + 8 + 1) (mc (nest_w _) (mc (Nat.le_trans (n_ts ht) (by omega)) (m2 (nest_f (n_sts iha)) (nest_f (n_sts ihb)))))) (by omega)
  | @bind vars is d e b he h1 h3 hb ih =>
    refine Nat.le_trans (nest_f (n := 2 * d + 8) fun y m => ?_) (by omega)
    rcases List.mem_append.mp m with m | m
    · exact mc (P := fun x => nest x ≤ 2 * d + 8) (nest_w _) (m2 (nest_w _) (Nat.le_trans (n_ex he) (by omega))) y m
    · exact n_sts ih y m
theorem n_again (p : Proc) : nest (fSt (again p)) ≤ 8 := by
  refine nest_f (n := 7) (mc (nest_w _) (mc (nest_f (n := 6) (mc (nest_w _) (m2 (nest_w _) (nest_w _)))) (m2 (nest_f (n := 6) (mc ?_ mn)) (nest_f (n := 6) mn))))
  refine nest_f (n := 5) (mc (nest_w _) (mc (nest_w _) (m2 (nest_f (n := 4) (mc (nest_f (n := 3) (mc (nest_w _) (m2 (nest_w _) (nest_w _)))) fun y m => ?_)) (nest_f (n := 4) (n_names _)))))
  obtain ⟨x, hx, rfl⟩ := List.mem_map.mp m
  obtain ⟨s, _, rfl⟩ := List.mem_map.mp hx
  exact nest_w _
theorem n_decl {n : Nat} (d : Decl) : ∀ x ∈ fDecl d, nest x ≤ n := fun x m => by
  unfold fDecl at m
  split at m
  · rw [List.mem_singleton.mp m]; exact nest_w _
  · exact m2 (P := fun x => nest x ≤ n) (nest_w _) (nest_w _) x m
theorem n_proc {fixed : List VRow} {ks : List KRow} {k : Nat} {p : Proc} (g : GProc fixed ks k p) : nest (fProc p) ≤ 13 := by
  obtain ⟨b0, ks', hks, gb, hb⟩ := g.bodies
  have body : ∀ s ∈ p.body, nest (fSt s) ≤ 12 := by
    rcases hb with e | ⟨_, e⟩
    · rw [e]; exact fun s m => n_st (gb.each s m)
    · rw [e]
      intro s m
      rcases List.mem_append.mp m with m | m
      · exact n_st (gb.each s m)
      · rw [List.mem_singleton.mp m]; exact Nat.le_trans (n_again p) (by decide)
  refine nest_f (n := 12) fun y m => ?_
  rcases List.mem_append.mp m with m | m
  · refine mc (P := fun x => nest x ≤ 12) (nest_w _) (mc (nest_w _) (m2 (nest_f (n := 11) (n_names _)) (nest_f (n := 11) fun x mx => ?_))) y m
    obtain ⟨d, _, rfl⟩ := List.mem_map.mp mx
    exact nest_f (n := 10) (n_decl d)
  · exact n_sts body y m
theorem n_procs {fixed : List VRow} {ks : List KRow} {ps : List Proc} (g : GProcs fixed ks ps) : ∀ p ∈ ps, nest (fProc p) ≤ 13 := by
  induction g with
  | nil => intro p m; cases m
  | snoc h g ih =>
    intro x m
    rcases List.mem_append.mp m with m | m
    · exact ih x m
    · rw [List.mem_singleton.mp m]; exact n_proc g
theorem n_tree {t : Tr.Tree} (g : GTree t) : nests (fTree t) ≤ 15 := by
  obtain ⟨ks, gps, l2, gb⟩ := g.rest
  have eT : fTree t = ((t.state.map (fHd "state") ++ t.params.map (fHd "param")) ++ t.procs.map fProc) ++ [.f (.w "beat" :: fSts t.beat)] := rfl
  have hd : ∀ (h : Str) (l : List Decl), ∀ x ∈ l.map (fHd h), nest x ≤ 15 := fun h l x m => by
    obtain ⟨d, _, rfl⟩ := List.mem_map.mp m
    exact nest_f (n := 14) (mc (nest_w _) (n_decl d))
  refine nests_le fun x m => ?_
  rw [eT] at m
  rcases List.mem_append.mp m with m | m
  · rcases List.mem_append.mp m with m | m
    · rcases List.mem_append.mp m with m | m
      · exact hd _ _ x m
      · exact hd _ _ x m
    · obtain ⟨p, hp, rfl⟩ := List.mem_map.mp m
      exact Nat.le_trans (n_procs gps p hp) (by decide)
  · rw [List.mem_singleton.mp m]
    exact nest_f (n := 14) (mc (nest_w _) (n_sts fun s ms => n_st (gb.each s ms)))
theorem tree_forms (t : Tr.Tree) : ∀ x ∈ fTree t, ∃ q, x = .f q := fun x m => by
  have eT : fTree t = ((t.state.map (fHd "state") ++ t.params.map (fHd "param")) ++ t.procs.map fProc) ++ [.f (.w "beat" :: fSts t.beat)] := rfl
  rw [eT] at m
  rcases List.mem_append.mp m with m | m
  · rcases List.mem_append.mp m with m | m
    · rcases List.mem_append.mp m with m | m
      · obtain ⟨d, _, rfl⟩ := List.mem_map.mp m; exact ⟨_, rfl⟩
      · obtain ⟨d, _, rfl⟩ := List.mem_map.mp m; exact ⟨_, rfl⟩
    · obtain ⟨p, _, rfl⟩ := List.mem_map.mp m; exact ⟨_, rfl⟩
  · exact ⟨_, List.mem_singleton.mp m⟩
/-- what read_forms finds in a text with a drawn tree's words -/
theorem tree_run {t : Tr.Tree} (g : GTree t) {zs : List (Str × Int)} (e : zs.map (·.1) = wds (fTree t)) : ∃ ps, strips ps = fTree t ∧ rfRun 20 zs ([], []) = some (ps, []) := by
  obtain ⟨ps, h1, h2⟩ := rf_all 20 (fTree t) (okA_Fs (okAs_of (b_tree g).1)) (tree_forms t) (Nat.le_trans (n_tree g) (by decide)) zs e
  exact ⟨ps, h1, h2 []⟩
end Sd

namespace Sd
open PySem L2 Tr Pu PyProof.Rows
/-! ### words laid out with drawn gaps -/
theorem in_brk {s : Str} (h : Good s) : (!(Builtin.Str.occurrences ("()" : Str) s 0 ("()" : Str).length 1).isEmpty) = false := by
  have e : Builtin.Str.occurrences ("()" : Str) s 0 ("()" : Str).length 1 = [] := by
    refine W.occ_nil_of_no _ _ 1 fun i hi => ?_
    rw [StrLaws.subAt_eq]
    refine beq_eq_false_iff_ne.mpr fun z => ?_
    have lt : (TL.tl s).length = s.length := (TL.len_tl s).symm
    obtain ⟨c, r, ec⟩ : ∃ c r, TL.tl s = c :: r := by
      cases q : TL.tl s with
      | nil => exact absurd q h.1
      | cons c r => exact ⟨c, r, rfl⟩
    have cm : c ∈ TL.tl s := by rw [ec]; exact List.mem_cons_self
    have cm2 : c ∈ ([40, 41] : List Nat) := by
      have : c ∈ (([40, 41] : List Nat).drop i).take s.length := by
        have z' : ((([40, 41] : List Nat).drop i).take s.length) = TL.tl s := z
        rw [z']
        exact cm
      exact List.mem_of_mem_drop (List.mem_of_mem_take this)
    rcases List.mem_cons.mp cm2 with rfl | cm2
    · exact h.2.2.1 cm
    · rw [List.mem_singleton.mp cm2] at cm
      exact h.2.2.2.1 cm
  rw [e]
  rfl
def Brk (s : Str) : Prop := s = ("(" : Str) ∨ s = (")" : Str)
instance (s : Str) : Decidable (Brk s) := inferInstanceAs (Decidable (_ ∨ _))
theorem in_brk_T {s : Str} (h : Brk s) : (!(Builtin.Str.occurrences ("()" : Str) s 0 ("()" : Str).length 1).isEmpty) = true := by
  rcases h with rfl | rfl
  · exact (in_par 40).trans (by decide)
  · exact (in_par 41).trans (by decide)
theorem in_brk_is {s : Str} (h : Brk s ∨ Good s) : (!(Builtin.Str.occurrences ("()" : Str) s 0 ("()" : Str).length 1).isEmpty) = decide (Brk s) := by
  by_cases c : Brk s
  · rw [in_brk_T c, decide_eq_true c]
  · rcases h with h | h
    · exact absurd h c
    · rw [in_brk h, decide_eq_false c]
def lastW : List Tk → Bool
  | [] => false
  | [.w _] => true
  | _ :: r => lastW r
theorem ap_app : ∀ (a b : List Tk), apart a → apart b → (lastW a = true → firstW b = false) → apart (a ++ b)
  | [], b, _, hb, _ => hb
  | [.w q], b, _, hb, h => apart_w hb (h rfl)
  | [.g c], b, _, hb, _ => hb
  | [.b c], b, _, hb, _ => hb
  | .w q :: .w r :: t, b, ha, _, _ => ha.elim
  | .w q :: .g c :: t, b, ha, hb, h => ap_app (.g c :: t) b ha hb h
  | .w q :: .b c :: t, b, ha, hb, h => ap_app (.b c :: t) b ha hb h
  | .g c :: x :: t, b, ha, hb, h => ap_app (x :: t) b ha hb h
  | .b c :: x :: t, b, ha, hb, h => ap_app (x :: t) b ha hb h
theorem lastW_g : ∀ (a : List Tk) (c : Nat), lastW (a ++ [.g c]) = false
  | [], c => rfl
  | [x], c => by cases x <;> rfl
  | x :: y :: t, c => by
    have := lastW_g (y :: t) c
    cases x <;> exact this
theorem lastW_b : ∀ (a : List Tk) (c : Nat), lastW (a ++ [.b c]) = false
  | [], c => rfl
  | [x], c => by cases x <;> rfl
  | x :: y :: t, c => by
    have := lastW_b (y :: t) c
    cases x <;> exact this
end Sd

namespace Sd
open PySem L2 Tr Pu PyProof.Rows
def gapP (g : List Nat) : Prop := ∀ c ∈ g, c = 32 ∨ c = 10
def pieceOf (s : Str) : Tk := if s = ("(" : Str) then .b 40 else if s = ")" then .b 41 else .w (TL.tl s)
theorem piece_l (s : Str) : (pieceOf s).l = TL.tl s := by
  unfold pieceOf
  split
  · rename_i h; rw [h]; decide +kernel
  · split
    · rename_i h; rw [h]; decide +kernel
    · rfl
theorem piece_ok {s : Str} (h : Brk s ∨ Good s) : (pieceOf s).ok := by
  unfold pieceOf
  split
  · exact .inl rfl
  · split
    · exact .inr rfl
    · rename_i a b
      rcases h with h | h
      · rcases h with h | h
        · exact absurd h a
        · exact absurd h b
      · exact good_tk h
theorem piece_S (s : Str) : tkS [pieceOf s] = [s] := by
  unfold pieceOf
  split
  · rename_i h; rw [h]; rfl
  · split
    · rename_i h; rw [h]; rfl
    · rfl
theorem piece_W {s : Str} : firstW [pieceOf s] = !decide (Brk s) := by
  unfold pieceOf
  split
  · rename_i h; rw [decide_eq_true (show Brk s from .inl h)]; rfl
  · split
    · rename_i h; rw [decide_eq_true (show Brk s from .inr h)]; rfl
    · rename_i a b; rw [decide_eq_false (show ¬ Brk s from fun z => z.elim a b)]; rfl
theorem lastW_p (a : List Tk) (s : Str) : lastW (a ++ [pieceOf s]) = true → ¬ Brk s := by
  unfold pieceOf
  split
  · rw [lastW_b]; intro h; cases h
  · split
    · rw [lastW_b]; intro h; cases h
    · rename_i a b; exact fun _ z => z.elim a b
theorem flat_gap : ∀ g : List Nat, flat (g.map Tk.g) = g
  | [] => rfl
  | c :: r => congrArg (c :: ·) (flat_gap r)
theorem tkS_gap : ∀ g : List Nat, tkS (g.map Tk.g) = []
  | [] => rfl
  | c :: r => tkS_gap r
theorem ap_gap : ∀ (g : List Nat) (r : List Tk), apart r → apart (g.map Tk.g ++ r)
  | [], _, h => h
  | c :: t, r, h => ap_gap t r h
theorem lastW_gap : ∀ (g : List Nat) (a : List Tk), g ≠ [] → lastW (a ++ g.map Tk.g) = false
  | [], _, h => absurd rfl h
  | [c], a, _ => lastW_g a c
  | c :: d :: t, a, _ => by
    have := lastW_gap (d :: t) (a ++ [.g c]) (List.cons_ne_nil _ _)
    rw [List.append_assoc] at this
    exact this
/-- the text so far: the first k words with their gaps -/
def LoS (ws : List Str) (k : Nat) (z : Str) : Prop := ∃ ts : List Tk, TL.tl z = flat ts ∧ (∀ t ∈ ts, t.ok) ∧ apart ts ∧ tkS ts = ws.take k ∧ (lastW ts = true → ∃ j s, k = j + 1 ∧ ws[j]? = some s ∧ ¬ Brk s) ∧ z.length ≤ 40 * k
theorem los_0 (ws : List Str) : LoS ws 0 "" := ⟨[], by decide +kernel, fun t m => (by cases m), trivial, rfl, fun h => (by cases h), by decide +kernel⟩
theorem los_step {ws : List Str} {k : Nat} {z g s : Str} (h : LoS ws k z) (hs : ws[k]? = some s) (ok : Brk s ∨ Good s) (hg : gapP (TL.tl g)) (lg : g.length ≤ 3) (ne : TL.tl g ≠ [] ∨ Brk s ∨ k = 0 ∨ ∃ j q, k = j + 1 ∧ ws[j]? = some q ∧ Brk q) : LoS ws (k + 1) (z ++ g ++ s) := by
  obtain ⟨ts, h1, h2, h3, h4, h5, h6⟩ := h
  have ls : s.length ≤ 30 := by
    rcases ok with ok | ok
    · rcases ok with rfl | rfl <;> decide +kernel
    · exact ok.2.1
  refine ⟨ts ++ (TL.tl g).map Tk.g ++ [pieceOf s], ?_, ?_, ?_, ?_, fun e => ?_, ?_⟩
  · rw [TL.tl_append, TL.tl_append, h1, flat_app, flat_app, flat_gap]
    show _ = _ ++ ((pieceOf s).l ++ [])
    rw [piece_l, List.append_nil]
  · intro t m
    rcases List.mem_append.mp m with m | m
    · rcases List.mem_append.mp m with m | m
      · exact h2 t m
      · obtain ⟨c, hc, rfl⟩ := List.mem_map.mp m
        exact hg c hc
    · rw [List.mem_singleton.mp m]; exact piece_ok ok
  · have a1 : apart [pieceOf s] := by
      unfold pieceOf
      split
      · trivial
      · split <;> trivial
    by_cases c : TL.tl g = []
    · rw [c]
      show apart (ts ++ [] ++ [pieceOf s])
      rw [List.append_nil]
      refine ap_app ts [pieceOf s] h3 a1 fun e => ?_
      rw [piece_W]
      obtain ⟨j, q, e1, e2, e3⟩ := h5 e
      rcases ne with ne | ne | ne | ⟨j', q', n1, n2, n3⟩
      · exact absurd c ne
      · rw [decide_eq_true ne]; rfl
      · omega
      · have : j = j' := by omega
        subst this
        rw [e2] at n2
        cases n2
        exact absurd n3 e3
    · refine ap_app (ts ++ (TL.tl g).map Tk.g) [pieceOf s] ?_ a1 fun e => ?_
      · refine ap_app ts _ h3 ?_ fun _ => ?_
        · have := ap_gap (TL.tl g) [] trivial
          rw [List.append_nil] at this
          exact this
        · cases q : TL.tl g with
          | nil => exact absurd q c
          | cons x y => rfl
      · rw [lastW_gap _ _ c] at e
        cases e
  · rw [tkS_app, tkS_app, tkS_gap, List.append_nil, piece_S, h4, List.take_add_one, hs]
    rfl
  · exact ⟨k, s, rfl, hs, lastW_p _ s e⟩
  · rw [strLen_append, strLen_append]; omega
theorem los_end {ws : List Str} {z : Str} (h : LoS ws ws.length z) : (wordsOf (TL.tl z)).map (fun y => Ls y.1) = ws := by
  obtain ⟨ts, h1, h2, h3, h4, h5, h6⟩ := h
  rw [h1, words_flat h2 h3, tkW_S, h4, List.take_length]
end Sd

namespace Sd
open PySem L2 Tr Pu PyProof.Rows
theorem ls_hi' {l : List Nat} {b : Nat} : cutS (Ls l) none (some (b : Int)) = Ls (l.take b) := by
  unfold cutS
  rw [HT.sIx_nat, HT.sIx_none, ls_len]
  show Ls ((l.drop 0).take (min b l.length - 0)) = _
  rw [List.drop_zero, Nat.sub_zero]
  rcases Nat.le_total b l.length with h | h
  · rw [Nat.min_eq_left h]
  · rw [Nat.min_eq_right h, List.take_of_length_le h, List.take_of_length_le (Nat.le_refl _)]
abbrev sLlo : Stmt := top 82
abbrev nLlo : List Str := ["words", "draws", "at", "text", "k", "gap"]
def spLlo (K : PySem.W.Frag) : Sp := fun vs H Q _ => ∃ (W d p : Addr) (ws : List Str), vs = [.ref W, .ref d, .ref p] ∧ H W = some (.lst (ws.map V.str)) ∧ Dr K H d p ∧ (∀ s ∈ ws, Brk s ∨ Good s) ∧ ws.length ≤ 200000 ∧ ∀ z H', Stays p H H' → AtL H' p → LoS ws ws.length z → Q (.str z) H'
section
variable {P : Program} {w : World} {K : PySem.W.Frag} {mg : Str → Option Value} {base : Heap}
theorem scLlo : FnScope nLlo ["words", "draws", "at"] (defScope sLlo) := ⟨rfl, rfl, rfl, by decide +kernel, rfl, by decide +kernel, by decide +kernel⟩
theorem gap_cut {H2 : Hp} {σ : L2.St} {D : Ends} {E : XK} {d p : Addr} {g : Str} (e1 : σ[1]? = some (some (.ref d))) (e2 : σ[2]? = some (some (.ref p))) (e5 : σ[5]? = some (some (.str g))) (gl : g.length ≤ 3) (dr : Dr K H2 d p)
    (k : ∀ H3 (n : Nat), Stays p H2 H3 → AtL H3 p → D.nx (σ.set 5 (some (.str (Ls ((TL.tl g).take n))))) H3) :
    tAsg (tSl rSlS (tVar 5) tNoPart (tPart (tCall (spTake K) [] E (tCons (tVar 1) (tCons (tVar 2) (tCons (tC (.int 2)) tNil)))))) (gName 5) D σ H2 := by
  have big : 10000002 ≤ sizeLine := by decide
  refine ⟨_, e5, _, e1, _, e2, d, p, 2, rfl, dr, by decide, fun v H3 v0 v2 s3 c3 => ?_⟩
  refine ⟨v, rfl, g, rfl, by omega, ?_⟩
  have := k H3 v.toNat s3 c3
  have e : cutS g none (some v) = Ls ((TL.tl g).take v.toNat) := by
    obtain ⟨n, rfl⟩ : ∃ n : Nat, v = (n : Int) := ⟨v.toNat, by omega⟩
    exact ls_hi' (l := TL.tl g) (b := n)
  rw [e]
  exact this
theorem ok_llo {f : Addr} {fd : FuncData} (F : Fun K "_law_loose" "_law_loose" sLlo f fd) (T : Bi mg) (c_take : Cal P w K mg base CX0 1 "_law_take" ["draws", "at", "many"] (spTake K)) : FnOk P w K mg base CX0 2 f fd ["words", "draws", "at"] (spLlo K) := by
  refine F.ok scLlo (fun vs H Q E h => ?_) (fun cdv A outer s H vs Q E hr h => ?_)
  · obtain ⟨W, d, p, ws, rfl, _⟩ := h
    rfl
  · obtain ⟨W, d, p, ws, rfl, eW, dr, ok, lw, q⟩ := h
    have nd := scLlo.nd
    have big : 10000002 ≤ sizeLine := by decide
    have nWp : W ≠ p := fun z => by
      obtain ⟨j, _, e⟩ := dr.ctr
      rw [← z, eW] at e
      cases ws with
      | nil => cases e
      | cons x y => cases e
    refine ⟨_, pss_cons (ps_set (i := 3) nd rfl (.inl rfl) pe_str)
      (pss_cons (ps_for PassesOwn.never rfl (pi_range1 rfl T.range (pa_cons (pe_callB call_len_seq rfl T.len PySem.boot_len (pa_cons (pv 0) pa_nil)) pa_nil)) (pg_name (i := 4) nd rfl (.inl rfl)) (pss_cons (ps_set (i := 5) nd rfl (.inl rfl) (pe_ix ix_list (pe_lst (pa_cons pe_str (pa_cons pe_str (pa_cons pe_str (pa_cons pe_str pa_nil))))) (pe_call c_take.ok (hr.mono (by first | decide | omega)) rfl c_take.m c_take.kp c_take.b .nil pass0 (pa_cons (pv 1) (pa_cons (pv 2) (pa_cons pe_int pa_nil)))) (fun _ _ => rfl)))
      (pss_cons (ps_if (PW.pt (pw_or (pt_cmpR op_in_str (pe_ix ix_list (pv 0) (pv 4) (fun _ _ => rfl)) pe_str (by rfl)) (pw_or (PW.pt (pw_and (pt_cmpR op_gt (pv 4) pe_int (nomark _)) (pw_and1 (pt_cmpR op_in_str (pe_ix ix_list (pv 0) (pe_op op_sub (pv 4) pe_int) (fun _ _ => rfl)) pe_str (by rfl))))) (pw_or1 (pt_cmpR op_eq (pv 4) pe_int (nomark _)))))) (pss_one (ps_set (i := 5) nd rfl (.inl rfl) (pe_slice sl_str (pv 5) po_none (po_some (pe_call c_take.ok (hr.mono (by first | decide | omega)) rfl c_take.m c_take.kp c_take.b .nil pass0 (pa_cons (pv 1) (pa_cons (pv 2) (pa_cons pe_int pa_nil)))))))) pss_nil)
      (pss_one (ps_set (i := 3) nd rfl (.inl rfl) (pe_op op_add_str (pe_op op_add_str (pv 3) (pv 5)) (pe_ix ix_list (pv 0) (pv 4) (fun _ _ => rfl))))))))
      (pss_one (ps_ret (pv 3)))), ?_⟩
    refine set_k (fun u H' => u = .str "" ∧ H = H') (fun Q' kk => kk _ _ ⟨rfl, rfl⟩) ?_
    rintro _ _ ⟨rfl, rfl⟩
    refine ⟨_, rfl, W, _, rfl, .inl (SqL.of eW), ((ws.map V.str).length : Int), rfl, by rw [List.length_map]; omega, by rw [List.length_map]; omega, for_range (lo := 0) (n := ((ws.map V.str).length : Int).toNat) (fun i σ' H' => Stays p H H' ∧ AtL H' p ∧ ∃ (z : Str) (w4 w5 : Option V), LoS ws i z ∧ σ' = [some (.ref W), some (.ref d), some (.ref p), some (.str z), w4, w5]) ⟨Stays.refl p H, dr.ctr, "", none, none, los_0 ws, rfl⟩ ?_ ?_⟩
    · rintro i σ' H1 hi ⟨s1, c1, z, w4, w5, lo, rfl⟩
      have il : i < ws.length := by rw [List.length_map, Int.toNat_natCast] at hi; exact hi
      obtain ⟨x, hx⟩ : ∃ x, ws[i]? = some x := ⟨_, List.getElem?_eq_getElem il⟩
      have ea : atI (ws.map V.str) (i : Int) = some (.str x) := atI_nat (by rw [List.getElem?_map, hx]; rfl)
      have okx := ok x (List.mem_of_getElem? hx)
      rw [Int.zero_add]
      have lz : z.length ≤ 40 * i := by obtain ⟨_, _, _, _, _, _, l⟩ := lo; exact l
      have lx : x.length ≤ 30 := by
        rcases okx with h | h
        · rcases h with rfl | rfl <;> decide +kernel
        · exact h.2.1
      refine set_k (fun u H' => ∃ g : Str, u = .str g ∧ gapP (TL.tl g) ∧ TL.tl g ≠ [] ∧ g.length ≤ 3 ∧ Stays p H H' ∧ AtL H' p) (fun Q' kk => ?_) ?_
      · refine ⟨(show 4 ≤ sizeLine by decide), fun L nL => ?_⟩
        have nLp : L ≠ p := fun y => by
          obtain ⟨j, _, e⟩ := c1
          rw [y, e] at nL
          cases nL
        have s2 := s1.trans (stays_new (o := .lst [.str " ", .str "\n", .str "  ", .str " \n "]) nL)
        have c2 := c1.new (o := .lst [.str " ", .str "\n", .str "  ", .str " \n "]) nL
        refine ⟨_, rfl, _, rfl, d, p, 4, rfl, dr.next s2 c2, by decide, fun v H3 v0 v4 s3 c3 => ?_⟩
        have sq := s3.list nLp (SqL.of (K := K) (upd_same (H := H1) (a := L) (o := .lst [.str " ", .str "\n", .str "  ", .str " \n "])))
        have s4 := s2.trans s3
        have cs : v = 0 ∨ v = 1 ∨ v = 2 ∨ v = 3 := by omega
        rcases cs with rfl | rfl | rfl | rfl
        · exact ⟨L, _, _, _, rfl, rfl, sq, rfl, kk _ _ ⟨" ", rfl, by unfold gapP; decide +kernel, by decide +kernel, by decide +kernel, s4, c3⟩⟩
        · exact ⟨L, _, _, _, rfl, rfl, sq, rfl, kk _ _ ⟨"\n", rfl, by unfold gapP; decide +kernel, by decide +kernel, by decide +kernel, s4, c3⟩⟩
        · exact ⟨L, _, _, _, rfl, rfl, sq, rfl, kk _ _ ⟨"  ", rfl, by unfold gapP; decide +kernel, by decide +kernel, by decide +kernel, s4, c3⟩⟩
        · exact ⟨L, _, _, _, rfl, rfl, sq, rfl, kk _ _ ⟨" \n ", rfl, by unfold gapP; decide +kernel, by decide +kernel, by decide +kernel, s4, c3⟩⟩
      rintro _ H2 ⟨g, rfl, gp, gne, gl, s2, c2⟩
      have eW2 := s2.o W _ nWp eW
      refine if_k (fun σ' H' => Stays p H H' ∧ AtL H' p ∧ ∃ g : Str, gapP (TL.tl g) ∧ g.length ≤ 3 ∧ (TL.tl g ≠ [] ∨ Brk x ∨ i = 0 ∨ ∃ j q, i = j + 1 ∧ ws[j]? = some q ∧ Brk q) ∧ σ' = [some (.ref W), some (.ref d), some (.ref p), some (.str z), some (.int (i : Int)), some (.str g)]) (fun D' hD k => ?_) ?_
      · have keep : ∀ c : (Brk x ∨ i = 0 ∨ ∃ j q, i = j + 1 ∧ ws[j]? = some q ∧ Brk q), ∀ H3 (n : Nat), Stays p H2 H3 → AtL H3 p → D'.nx (([some (.ref W), some (.ref d), some (.ref p), some (.str z), some (.int (i : Int)), some (.str g)] : L2.St).set 5 (some (.str (Ls ((TL.tl g).take n))))) H3 := fun c H3 n s3 c3 =>
          k _ _ ⟨s2.trans s3, c3, Ls ((TL.tl g).take n), fun y m => gp y (List.mem_of_mem_take m), by rw [ls_len, List.length_take, ← TL.len_tl]; omega, .inr c, rfl⟩
        have dr2 := dr.next s2 c2
        refine ⟨_, rfl, _, rfl, W, _, _, _, rfl, rfl, SqL.of eW2, ea, _, _, rfl, rfl, _, rfl, ?_⟩
        by_cases cb : Brk x
        · refine iteT' ((in_brk_is okx).trans (decide_eq_true cb)) ?_
          exact gap_cut rfl rfl rfl gl dr2 (keep (.inl cb))
        refine iteF' ((in_brk_is okx).trans (decide_eq_false cb)) ?_
        refine ⟨_, rfl, (i : Int), 0, rfl, rfl, _, rfl, ?_⟩
        by_cases c0 : 0 < i
        · refine iteT' (decide_eq_true (by omega)) ?_
          obtain ⟨y, hy⟩ : ∃ y, ws[i - 1]? = some y := ⟨_, List.getElem?_eq_getElem (by omega)⟩
          have eb : atI (ws.map V.str) ((i : Int) - 1) = some (.str y) := by
            have z : (i : Int) - 1 = ((i - 1 : Nat) : Int) := by omega
            rw [z]
            exact atI_nat (by rw [List.getElem?_map, hy]; rfl)
          have oky := ok y (List.mem_of_getElem? hy)
          refine ⟨_, rfl, _, rfl, (i : Int), 1, rfl, rfl, W, _, _, _, rfl, rfl, SqL.of eW2, eb, _, _, rfl, rfl, _, rfl, ?_⟩
          by_cases cy : Brk y
          · refine iteT' ((in_brk_is oky).trans (decide_eq_true cy)) ?_
            exact gap_cut rfl rfl rfl gl dr2 (keep (.inr (.inr ⟨i - 1, y, by omega, hy, cy⟩)))
          · refine iteF' ((in_brk_is oky).trans (decide_eq_false cy)) ?_
            refine ⟨_, rfl, rfl, _, rfl, ?_⟩
            refine iteF' (decide_eq_false fun h => ?_) (k _ _ ⟨s2, c2, g, gp, gl, .inl gne, rfl⟩)
            have := V.int.inj h
            omega
        · refine iteF' (decide_eq_false (by omega)) ?_
          refine ⟨_, rfl, rfl, _, rfl, ?_⟩
          have i0 : i = 0 := by omega
          refine iteT' (decide_eq_true (by rw [i0]; rfl)) ?_
          exact gap_cut rfl rfl rfl gl dr2 (keep (.inr (.inl i0)))
      · rintro _ H3 ⟨s3, c3, g, gp, gl, ne, rfl⟩
        have eW3 := s3.o W _ nWp eW
        refine ⟨_, rfl, _, rfl, _, _, rfl, rfl, by omega, _, rfl, _, rfl, W, _, _, _, rfl, rfl, SqL.of eW3, ea, _, _, rfl, rfl, by rw [strLen_append]; omega, s3, c3, _, some (.int (i : Int)), some (.str g), los_step lo hx okx gp gl ne, rfl⟩
    · rintro σ' H1 ⟨s1, c1, z, w4, w5, lo, rfl⟩
      rw [List.length_map, Int.toNat_natCast] at lo
      exact ⟨_, rfl, q z H1 s1 c1 lo⟩
end
end Sd

namespace Sd
open PySem L2 Tr Pu PyProof.Rows
/-! ### parts of forms as they stand in a heap; no address of theirs is in X -/
mutual
def RP (H : Hp) (X : Addr → Prop) : PF → V → Prop
  | .w s i, v => ∃ t, v = .ref t ∧ ¬ X t ∧ H t = some (.tup [.str s, .int i])
  | .f l i, v => ∃ t a vs, v = .ref t ∧ ¬ X t ∧ ¬ X a ∧ H t = some (.tup [.ref a, .int i]) ∧ H a = some (.lst vs) ∧ RPs H X l vs
def RPs (H : Hp) (X : Addr → Prop) : List PF → List V → Prop
  | [], vs => vs = []
  | x :: r, vs => ∃ v us, vs = v :: us ∧ RP H X x v ∧ RPs H X r us
end
mutual
theorem RP.next {H H' : Hp} {X X' : Addr → Prop} (s : ∀ b o, ¬ X b → H b = some o → H' b = some o ∧ ¬ X' b) : ∀ {p : PF} {v : V}, RP H X p v → RP H' X' p v
  | .w z i, v, h => by
    simp only [RP] at h ⊢
    obtain ⟨t, rfl, n, e⟩ := h
    exact ⟨t, rfl, (s t _ n e).2, (s t _ n e).1⟩
  | .f l i, v, h => by
    simp only [RP] at h ⊢
    obtain ⟨t, a, vs, rfl, n1, n2, e1, e2, r⟩ := h
    exact ⟨t, a, vs, rfl, (s t _ n1 e1).2, (s a _ n2 e2).2, (s t _ n1 e1).1, (s a _ n2 e2).1, RPs.next s r⟩
theorem RPs.next {H H' : Hp} {X X' : Addr → Prop} (s : ∀ b o, ¬ X b → H b = some o → H' b = some o ∧ ¬ X' b) : ∀ {l : List PF} {vs : List V}, RPs H X l vs → RPs H' X' l vs
  | [], vs, h => by
    simp only [RPs] at h ⊢
    exact h
  | x :: r, vs, h => by
    simp only [RPs] at h ⊢
    obtain ⟨v, us, rfl, h1, h2⟩ := h
    exact ⟨v, us, rfl, RP.next s h1, RPs.next s h2⟩
end
theorem RPs.snoc {H : Hp} {X : Addr → Prop} {p : PF} {v : V} : ∀ {l : List PF} {vs : List V}, RPs H X l vs → RP H X p v → RPs H X (l ++ [p]) (vs ++ [v])
  | [], vs, h, g => by
    simp only [RPs] at h
    subst h
    show RPs H X [p] [v]
    simp only [RPs]
    exact ⟨v, [], rfl, g, rfl⟩
  | x :: r, vs, h, g => by
    simp only [RPs] at h
    obtain ⟨u, us, rfl, h1, h2⟩ := h
    show RPs H X (x :: (r ++ [p])) (u :: (us ++ [v]))
    simp only [RPs]
    exact ⟨u, us ++ [v], rfl, h1, RPs.snoc h2 g⟩
theorem RPs.len {H : Hp} {X : Addr → Prop} : ∀ {l : List PF} {vs : List V}, RPs H X l vs → vs.length = l.length
  | [], vs, h => by
    simp only [RPs] at h
    subst h
    rfl
  | x :: r, vs, h => by
    simp only [RPs] at h
    obtain ⟨u, us, rfl, h1, h2⟩ := h
    exact congrArg (· + 1) (RPs.len h2)
theorem RPs.put {H : Hp} {X : Addr → Prop} {l : List PF} {vs : List V} {b : Addr} {o : HO} (h : RPs H X l vs) (m : X b) : RPs (upd H b o) X l vs :=
  h.next fun c u n e => ⟨by
    have nb : c ≠ b := fun z => by rw [z] at n; exact n m
    rw [upd_ne nb]
    exact e, n⟩
theorem RPs.new {H : Hp} {X : Addr → Prop} {l : List PF} {vs : List V} {b : Addr} {o : HO} (h : RPs H X l vs) (n : H b = none) : RPs (upd H b o) X l vs :=
  h.next fun c u nc e => ⟨by rw [upd_ne (ne_of_none e n)]; exact e, nc⟩
theorem RPs.less {H : Hp} {X X' : Addr → Prop} {l : List PF} {vs : List V} (h : RPs H X l vs) (s : ∀ b, X' b → X b) : RPs H X' l vs := h.next fun c u nc e => ⟨e, fun m => nc (s c m)⟩
/-- the open lists, outward from one of them (a), the outermost last -/
def Chn (H : Hp) (X : Addr → Prop) : Addr → List (List PF × Int) → List Addr → Prop
  | _, [], as => as = []
  | a, (p, i) :: r, as => ∃ b bs t vs, as = b :: bs ∧ ¬ X t ∧ H t = some (.tup [.ref a, .int i]) ∧ H b = some (.lst (vs ++ [.ref t])) ∧ RPs H X p vs ∧ Chn H X b r bs
theorem Chn.next {H H' : Hp} {X X' : Addr → Prop} (s : ∀ b o, ¬ X b → H b = some o → H' b = some o ∧ ¬ X' b) : ∀ {stk : List (List PF × Int)} {a : Addr} {as : List Addr}, (∀ b ∈ as, ∀ o, H b = some o → H' b = some o) → Chn H X a stk as → Chn H' X' a stk as
  | [], a, as, _, h => h
  | (p, i) :: r, a, as, k, h => by
    obtain ⟨b, bs, t, vs, rfl, n, e1, e2, h1, h2⟩ := h
    exact ⟨b, bs, t, vs, rfl, (s t _ n e1).2, (s t _ n e1).1, k b List.mem_cons_self _ e2, h1.next s, Chn.next s (fun c m => k c (List.mem_cons_of_mem _ m)) h2⟩
theorem Chn.len {H : Hp} {X : Addr → Prop} : ∀ {stk : List (List PF × Int)} {a : Addr} {as : List Addr}, Chn H X a stk as → as.length = stk.length
  | [], a, as, h => by
    have : as = [] := h
    rw [this]
    rfl
  | (p, i) :: r, a, as, h => by
    obtain ⟨b, bs, t, vs, rfl, n, e1, e2, h1, h2⟩ := h
    exact congrArg (· + 1) (Chn.len h2)
end Sd

namespace Sd
open PySem L2 Tr Pu PyProof.Rows
/-- what no part's address is: what is open, what stood at the start -/
def NX (H0 : Hp) (L : List Addr) (b : Addr) : Prop := b ∈ L ∨ H0 b ≠ none
/-- read_forms under way: A the list `around`, O the outermost list (H0: the heap at the start; what is open is new since) -/
def RFI (H0 H : Hp) (A O : Addr) (s : Zs) : Prop := ∃ (a : Addr) (as : List Addr) (vs : List V), (∀ b ∈ A :: a :: as, H0 b = none) ∧ (a :: as).getLast? = some O ∧ (A :: a :: as).Nodup ∧ H A = some (.lst ((a :: as).dropLast.reverse.map V.ref)) ∧ H a = some (.lst vs) ∧ RPs H (NX H0 (A :: a :: as)) s.1 vs ∧ Chn H (NX H0 (A :: a :: as)) a s.2 as
theorem RFI.same {H0 H H' : Hp} {A O : Addr} {s : Zs} (h : RFI H0 H A O s) (sm : Same H H') : RFI H0 H' A O s := by
  obtain ⟨a, as, vs, fr, h1, h2, h3, h4, h5, h6⟩ := h
  exact ⟨a, as, vs, fr, h1, h2, sm _ _ h3, sm _ _ h4, h5.next fun b o n e => ⟨sm _ _ e, n⟩, h6.next (fun b o n e => ⟨sm _ _ e, n⟩) fun b _ o e => sm _ _ e⟩
theorem rfi_word {H0 H : Hp} {A O a t : Addr} {as : List Addr} {vs : List V} {cur : List PF} {stk : List (List PF × Int)} {z : Str} {i : Int} (fr : ∀ b ∈ A :: a :: as, H0 b = none) (h1 : (a :: as).getLast? = some O) (h2 : (A :: a :: as).Nodup) (h3 : H A = some (.lst ((a :: as).dropLast.reverse.map V.ref))) (h4 : H a = some (.lst vs)) (h5 : RPs H (NX H0 (A :: a :: as)) cur vs) (h6 : Chn H (NX H0 (A :: a :: as)) a stk as)
    (ht : H t = some (.tup [.str z, .int i])) (nt : ¬ NX H0 (A :: a :: as) t) : RFI H0 (upd H a (.lst (vs ++ [.ref t]))) A O (cur ++ [.w z i], stk) := by
  have nA : A ≠ a := fun y => by rw [y] at h2; exact (List.nodup_cons.mp h2).1 List.mem_cons_self
  have na : a ∉ as := (List.nodup_cons.mp (List.nodup_cons.mp h2).2).1
  have am : a ∈ A :: a :: as := List.mem_cons_of_mem _ List.mem_cons_self
  have keep : ∀ b o, ¬ NX H0 (A :: a :: as) b → H b = some o → upd H a (.lst (vs ++ [.ref t])) b = some o ∧ ¬ NX H0 (A :: a :: as) b := fun b o n e => ⟨by
    have nb : b ≠ a := fun y => by rw [y] at n; exact n (.inl am)
    rw [upd_ne nb]
    exact e, n⟩
  refine ⟨a, as, vs ++ [.ref t], fr, h1, h2, by rw [upd_ne nA]; exact h3, upd_same, (h5.next keep).snoc ?_, h6.next keep fun b m o e => ?_⟩
  · simp only [RP]
    exact ⟨t, rfl, nt, (keep t _ nt ht).1⟩
  · have nb : b ≠ a := fun y => by rw [y] at m; exact na m
    rw [upd_ne nb]
    exact e
theorem rfi_close {H0 H : Hp} {A O a b : Addr} {as : List Addr} {vs : List V} {cur p : List PF} {i : Int} {stk : List (List PF × Int)} (fr : ∀ c ∈ A :: a :: b :: as, H0 c = none) (h1 : (a :: b :: as).getLast? = some O) (h2 : (A :: a :: b :: as).Nodup) (h4 : H a = some (.lst vs)) (h5 : RPs H (NX H0 (A :: a :: b :: as)) cur vs) (h6 : Chn H (NX H0 (A :: a :: b :: as)) a ((p, i) :: stk) (b :: as)) :
    RFI H0 (upd H A (.lst ((b :: as).dropLast.reverse.map V.ref))) A O (p ++ [.f cur i], stk) := by
  obtain ⟨b', bs, t, us, e, n, e1, e2, g1, g2⟩ := h6
  injection e with e3 e4
  subst e3
  subst e4
  obtain ⟨nA, n2⟩ := List.nodup_cons.mp h2
  obtain ⟨na, n3⟩ := List.nodup_cons.mp n2
  obtain ⟨nb, n4⟩ := List.nodup_cons.mp n3
  have aA : a ≠ A := fun y => nA (by rw [← y]; exact List.mem_cons_self)
  have sub : ∀ c, ¬ NX H0 (A :: a :: b :: as) c → ¬ NX H0 (A :: b :: as) c := fun c n m => n (m.imp_left fun m => by
    rcases List.mem_cons.mp m with rfl | m
    · exact List.mem_cons_self
    · exact List.mem_cons_of_mem _ (List.mem_cons_of_mem _ m))
  have keep : ∀ c o, ¬ NX H0 (A :: a :: b :: as) c → H c = some o → upd H A (.lst ((b :: as).dropLast.reverse.map V.ref)) c = some o ∧ ¬ NX H0 (A :: b :: as) c := fun c o n e => ⟨by
    have nc : c ≠ A := fun y => by rw [y] at n; exact n (.inl List.mem_cons_self)
    rw [upd_ne nc]
    exact e, sub c n⟩
  have bA : b ≠ A := fun y => nA (by rw [← y]; exact List.mem_cons_of_mem _ List.mem_cons_self)
  have h1' : (b :: as).getLast? = some O := by
    rw [List.getLast?_cons_cons] at h1
    exact h1
  refine ⟨b, as, us ++ [.ref t], fun c m => fr c (by
    rcases List.mem_cons.mp m with rfl | m
    · exact List.mem_cons_self
    · exact List.mem_cons_of_mem _ (List.mem_cons_of_mem _ m)), h1', List.nodup_cons.mpr ⟨fun m => nA (List.mem_cons_of_mem _ m), n3⟩, upd_same, by rw [upd_ne bA]; exact e2, (g1.next keep).snoc ?_, g2.next keep fun c m o e => ?_⟩
  · simp only [RP]
    refine ⟨t, a, vs, rfl, (keep t _ n e1).2, ?_, (keep t _ n e1).1, by rw [upd_ne aA]; exact h4, h5.next keep⟩
    rintro (m | m)
    · rcases List.mem_cons.mp m with m | m
      · exact aA m
      · exact na m
    · exact m (fr a (List.mem_cons_of_mem _ List.mem_cons_self))
  · have nc : c ≠ A := fun y => nA (by rw [← y]; exact List.mem_cons_of_mem _ (List.mem_cons_of_mem _ m))
    rw [upd_ne nc]
    exact e
/-- a form is opened: a2 the new list, t its pair -/
theorem rfi_open {H0 H : Hp} {A O a a2 t : Addr} {as : List Addr} {vs : List V} {cur : List PF} {i : Int} {stk : List (List PF × Int)} (fr : ∀ b ∈ A :: a :: as, H0 b = none) (h1 : (a :: as).getLast? = some O) (h2 : (A :: a :: as).Nodup)
    (hn : a2 ∉ A :: a :: as) (f2 : H0 a2 = none) (ha2 : H a2 = some (.lst [])) (h5' : RPs H (NX H0 (a2 :: A :: a :: as)) cur vs) (h6' : Chn H (NX H0 (a2 :: A :: a :: as)) a stk as) (ht : H t = some (.tup [.ref a2, .int i])) (nt : ¬ NX H0 (a2 :: A :: a :: as) t) :
    RFI H0 (upd (upd H a (.lst (vs ++ [.ref t]))) A (.lst ((a :: as).dropLast.reverse.map V.ref ++ [.ref a2]))) A O ([], (cur, i) :: stk) := by
  obtain ⟨nA, n2⟩ := List.nodup_cons.mp h2
  obtain ⟨na, n3⟩ := List.nodup_cons.mp n2
  have aA : a ≠ A := fun y => nA (by rw [← y]; exact List.mem_cons_self)
  have mA : A ∈ a2 :: A :: a :: as := List.mem_cons_of_mem _ List.mem_cons_self
  have ma : a ∈ a2 :: A :: a :: as := List.mem_cons_of_mem _ (List.mem_cons_of_mem _ List.mem_cons_self)
  have perm : ∀ c, ¬ NX H0 (a2 :: A :: a :: as) c → ¬ NX H0 (A :: a2 :: a :: as) c := fun c n m => n (m.imp_left fun m => by
    rcases List.mem_cons.mp m with rfl | m
    · exact mA
    rcases List.mem_cons.mp m with rfl | m
    · exact List.mem_cons_self
    · exact List.mem_cons_of_mem _ (List.mem_cons_of_mem _ m))
  have keep : ∀ c o, ¬ NX H0 (a2 :: A :: a :: as) c → H c = some o → upd (upd H a (.lst (vs ++ [.ref t]))) A (.lst ((a :: as).dropLast.reverse.map V.ref ++ [.ref a2])) c = some o ∧ ¬ NX H0 (A :: a2 :: a :: as) c := fun c o n e => ⟨by
    have c1 : c ≠ A := fun y => by rw [y] at n; exact n (.inl mA)
    have c2 : c ≠ a := fun y => by rw [y] at n; exact n (.inl ma)
    rw [upd_ne c1, upd_ne c2]
    exact e, perm c n⟩
  have a2A : a2 ≠ A := fun y => hn (by rw [y]; exact List.mem_cons_self)
  have a2a : a2 ≠ a := fun y => hn (by rw [y]; exact List.mem_cons_of_mem _ List.mem_cons_self)
  refine ⟨a2, a :: as, [], fun c m => ?_, by rw [List.getLast?_cons_cons]; exact h1, ?_, ?_, ?_, by simp only [RPs], a, as, t, vs, rfl, (keep t _ nt ht).2, (keep t _ nt ht).1, ?_, h5'.next keep, h6'.next keep fun c m o e => ?_⟩
  · rcases List.mem_cons.mp m with rfl | m
    · exact fr _ List.mem_cons_self
    rcases List.mem_cons.mp m with rfl | m
    · exact f2
    · exact fr c (List.mem_cons_of_mem _ m)
  · refine List.nodup_cons.mpr ⟨fun m => ?_, List.nodup_cons.mpr ⟨fun m => hn (List.mem_cons_of_mem _ m), n2⟩⟩
    rcases List.mem_cons.mp m with m | m
    · exact a2A m.symm
    · exact nA m
  · rw [upd_same]
    have : (a2 :: a :: as).dropLast = a2 :: (a :: as).dropLast := rfl
    rw [this, List.reverse_cons, List.map_append]
    rfl
  · rw [upd_ne a2A, upd_ne a2a]
    exact ha2
  · rw [upd_ne aA]
    exact upd_same
  · have c1 : c ≠ A := fun y => nA (by rw [← y]; exact List.mem_cons_of_mem _ m)
    have c2 : c ≠ a := fun y => by rw [y] at m; exact na m
    rw [upd_ne c1, upd_ne c2]
    exact e
end Sd

namespace Sd
open PySem PySem.Spec L2 Tr Pu PyProof.Rows
abbrev sRf : Stmt := top 58
abbrev nRf : List Str := ["words", "length", "outermost", "around", "word", "at", "parts", "form"]
def zOf (z : Wd) : Str × Int := (Ls z.1, (z.2 : Int))
def szZ (s : Zs) : Nat := s.1.length + (s.2.map fun q => q.1.length + 1).sum
def spRf (K : PySem.W.Frag) : Sp := fun vs H Q _ => ∃ (W : Addr) (n : Int) (xs : List V) (zs : List Wd) (ps : List PF), vs = [.ref W, .int n] ∧ H W = some (.lst xs) ∧ TvL K H (zs.map wdEnc) xs ∧ zs.length ≤ 1000000 ∧ rfRun 20 (zs.map zOf) ([], []) = some (ps, []) ∧
  ∀ O us H', Same H H' → H O = none → H' O = some (.lst us) → RPs H' (fun b => H b ≠ none) ps us → Q (.ref O) H'
theorem sum_len : ∀ l : List (List PF × Int), l.length ≤ (l.map fun q => q.1.length + 1).sum
  | [] => Nat.zero_le _
  | q :: r => by
    have := sum_len r
    rw [List.map_cons, List.sum_cons, List.length_cons]
    omega
theorem Chn.has {H : Hp} {X : Addr → Prop} : ∀ {stk : List (List PF × Int)} {a : Addr} {as : List Addr}, Chn H X a stk as → ∀ b ∈ as, ∃ o, H b = some o
  | [], a, as, h, c, m => by
    have : as = [] := h
    rw [this] at m
    cases m
  | (p, i) :: r, a, as, h, c, m => by
    obtain ⟨b, bs, t, vs, rfl, n, e1, e2, h1, h2⟩ := h
    rcases List.mem_cons.mp m with rfl | m
    · exact ⟨_, e2⟩
    · exact Chn.has h2 c m
section
variable {P : Program} {w : World} {K : PySem.W.Frag} {mg : Str → Option Value} {base : Heap} {C : Addr}
theorem scRf : FnScope nRf ["words", "length"] (defScope sRf) := ⟨rfl, rfl, rfl, by decide +kernel, rfl, by decide +kernel, by decide +kernel⟩
theorem ok_rf {f : Addr} {fd : FuncData} (F : Fun K "read_forms" "read_forms" sRf f fd) (T : Bi mg) {tM : Tok} (gF : mg "MAX_FORMS" = some (.int 20 tM)) (c_mk : Mk P w K mg base "TextError" C ["self", "at"] (Er.spXE K C)) : FnOk P w K mg base (L2.CX P w) 3 f fd ["words", "length"] (spRf K) := by
  refine F.okX scRf (fun vs H Q E h => ?_) (fun cdv A outer s H vs Q E hr h => ?_)
  · obtain ⟨W, n, xs, zs, ps, rfl, _⟩ := h
    rfl
  · obtain ⟨W, n, xs, zs, ps, rfl, eW, tl, lz, run, q⟩ := h
    have nd := scRf.nd
    have big : 10000002 ≤ sizeLine := by decide
    have lx : xs.length = zs.length := by rw [tvl_len tl, List.length_map]
    refine ⟨_, pss_cons (ps_par (i := 2) (j := 3) rfl nd rfl rfl (by decide) rfl rfl (pa_cons (pe_lst pa_nil) (pa_cons (pe_lst pa_nil) pa_nil)) (by rfl))
      (pss_cons (ps_for (passes_of rfl) rfl (pi_list (pv 0)) (pg_tup (by rfl) (pgs_cons (pg_name (i := 4) nd rfl (.inl rfl)) (pgs_cons (pg_name (i := 5) nd rfl (.inl rfl)) pgs_nil))) (pss_cons (ps_set (i := 6) nd rfl (.inl rfl) (pe_ifExp (pt_truth (pv 3) (by intro _; rfl)) (pe_ix ix_list (pv 3) (pe_un un_neg pe_int) (fun _ _ => rfl)) (pv 2)))
      (pss_one (ps_if (pt_cmpR op_eq (pv 4) pe_str (nomark _)) (pss_cons (ps_if (pt_cmpR op_eq (pe_callB call_len_seq rfl T.len PySem.boot_len (pa_cons (pv 3) pa_nil)) (pe_glob (v := .int 20) rfl gF ⟨_, rfl⟩) (nomark _)) (pss_one (ps_raise rfl (takes_of rfl rfl rfl rfl) (pmk_oex c_mk.ex c_mk.iC c_mk.tI c_mk.ok (hr.mono (by first | decide | omega)) c_mk.b .nil pass0 rfl c_mk.m (pa_cons (pv 5) pa_nil)))) pss_nil)
      (pss_cons (ps_set (i := 7) nd rfl (.inl rfl) (pe_lst pa_nil))
      (pss_cons (ps_expr (pe_bm PySem.F.plainAttrs_list PySem.F.slot_list_append PySem.F.type_list_append mt_append (pv 6) (pa_cons (pe_tup (pa_cons (pv 7) (pa_cons (pv 5) pa_nil))) pa_nil)))
      (pss_one (ps_expr (pe_bm PySem.F.plainAttrs_list PySem.F.slot_list_append PySem.F.type_list_append mt_append (pv 3) (pa_cons (pv 7) pa_nil))))))) (pss_one (ps_if (pt_not (pt_truth (pv 3) (by intro _; rfl))) (pss_one (ps_raise rfl (takes_of rfl rfl rfl rfl) (pmk_oex c_mk.ex c_mk.iC c_mk.tI c_mk.ok (hr.mono (by first | decide | omega)) c_mk.b .nil pass0 rfl c_mk.m (pa_cons (pv 5) pa_nil)))) (pss_one (ps_if (pt_cmpR op_eq (pv 4) pe_str (nomark _)) (pss_one (ps_expr (pe_bm0 PySem.F.plainAttrs_list PySem.F.slot_list_pop PySem.F.type_list_pop mt_pop (pv 3)))) (pss_one (ps_expr (pe_bm PySem.F.plainAttrs_list PySem.F.slot_list_append PySem.F.type_list_append mt_append (pv 6) (pa_cons (pe_tup (pa_cons (pv 4) (pa_cons (pv 5) pa_nil))) pa_nil))))))))))))
      (pss_cons (ps_if (pt_truth (pv 3) (by intro _; rfl)) (pss_one (ps_raise rfl (takes_of rfl rfl rfl rfl) (pmk_oex c_mk.ex c_mk.iC c_mk.tI c_mk.ok (hr.mono (by first | decide | omega)) c_mk.b .nil pass0 rfl c_mk.m (pa_cons (pv 1) pa_nil)))) pss_nil)
      (pss_one (ps_ret (pv 2))))), ?_⟩
    refine ⟨Nat.zero_le _, fun O nO => ⟨Nat.zero_le _, fun A nA => ⟨_, _, rfl, ?_⟩⟩⟩
    have AO : A ≠ O := fun y => by rw [y, upd_same] at nA; cases nA
    have nA0 : H A = none := by rw [upd_ne AO] at nA; exact nA
    have s0 : Same H (upd (upd H O (.lst [])) A (.lst [])) := (same_alloc nO).trans (same_alloc nA)
    have r0 : RFI H (upd (upd H O (.lst [])) A (.lst [])) A O ([], []) := ⟨O, [], [], fun b m => (by
      rcases List.mem_cons.mp m with rfl | m
      · exact nA0
      · rw [List.mem_singleton.mp m]; exact nO), rfl, (by
      refine List.nodup_cons.mpr ⟨fun m => AO (List.mem_singleton.mp m), List.nodup_cons.mpr ⟨fun m => (by cases m), List.nodup_nil⟩⟩), upd_same, (by rw [upd_ne (Ne.symm AO)]; exact upd_same), (by simp only [RPs]), rfl⟩
    refine ⟨_, rfl, W, rfl, ⟨_, SqL.of (s0 _ _ eW)⟩, for_list (K := K) (a := W) (xs := xs) (fun i σ' H' => Same H H' ∧ ∃ (st : Zs) (w4 w5 w6 w7 : Option V), szZ st ≤ i ∧ RFI H H' A O st ∧ rfRun 20 ((zs.map zOf).drop i) st = some (ps, []) ∧ σ' = [some (.ref W), some (.int n), some (.ref O), some (.ref A), w4, w5, w6, w7])
      ⟨s0, ([], []), none, none, none, none, Nat.le_refl _, r0, run, rfl⟩ (fun i σ' H' _ h => SqL.of (h.1 _ _ eW)) ?_ ?_⟩
    · rintro i x σ' H1 hi ⟨s1, ⟨cur, stk⟩, w4, w5, w6, w7, sz, inv, run1, rfl⟩
      have il : i < zs.length := by rw [← lx]; exact (List.getElem?_eq_some_iff.mp hi).1
      obtain ⟨y, hy⟩ : ∃ y, zs[i]? = some y := ⟨_, List.getElem?_eq_getElem il⟩
      obtain ⟨x', hx', tx⟩ := tvl_get (j := i) (d := wdEnc y) (TvL.carry (same_carry s1) _ _ tl) (by rw [List.getElem?_map, hy]; rfl)
      rw [hi] at hx'
      cases hx'
      obtain ⟨t0, vs0, rfl, sq0, v1, q1, rfl, p1, v2, q2, rfl, p2, rfl⟩ := tx
      cases p1
      cases p2
      have ed : (zs.map zOf).drop i = zOf y :: (zs.map zOf).drop (i + 1) := by
        have l2 : i < (zs.map zOf).length := by rw [List.length_map]; exact il
        rw [List.drop_eq_getElem_cons l2]
        congr 1
        have : (zs.map zOf)[i]? = some (zOf y) := by rw [List.getElem?_map, hy]; rfl
        rw [List.getElem?_eq_getElem l2] at this
        exact Option.some.inj this
      rw [ed] at run1
      refine ⟨t0, _, rfl, sq0, rfl, _, _, rfl, _, _, rfl, rfl, ?_⟩
      obtain ⟨a, as, vs, fr, h1, h2, h3, h4, h5, h6⟩ := id inv
      refine set_k (fun u H' => u = .ref a ∧ H1 = H') (fun Q' kk => ?_) ?_
      · cases as with
        | nil =>
          have eo : a = O := Option.some.inj h1
          subst eo
          exact ⟨_, rfl, false, .inl ⟨_, SqL.of h3, rfl⟩, iteF' rfl ⟨_, rfl, kk _ _ ⟨rfl, rfl⟩⟩⟩
        | cons b bs =>
          have e3 : (a :: b :: bs).dropLast.reverse.map V.ref = (b :: bs).dropLast.reverse.map V.ref ++ [.ref a] := by
            have : (a :: b :: bs).dropLast = a :: (b :: bs).dropLast := rfl
            rw [this, List.reverse_cons, List.map_append]
            rfl
          rw [e3] at h3
          exact ⟨_, rfl, true, .inl ⟨_, SqL.of h3, by simp⟩, iteT' rfl ⟨_, rfl, 1, rfl, A, _, _, _, rfl, rfl, SqL.of h3, atI_last _ _, kk _ _ ⟨rfl, rfl⟩⟩⟩
      rintro _ _ ⟨rfl, rfl⟩
      have lv : vs.length = cur.length := h5.len
      have la : as.length = stk.length := h6.len
      have szc : cur.length + (stk.map fun q => q.1.length + 1).sum ≤ i := sz
      have lA : ((a :: as).dropLast.reverse.map V.ref).length = stk.length := by
        rw [List.length_map, List.length_reverse, List.length_dropLast, List.length_cons]
        show as.length + 1 - 1 = stk.length
        omega
      have run2 : (rfStep 20 (zOf y) (cur, stk)).bind (rfRun 20 ((zs.map zOf).drop (i + 1))) = some (ps, []) := run1
      unfold rfStep at run2
      have have_ : ∀ b ∈ A :: a :: as, ∃ o, H1 b = some o := fun b m => by
        rcases List.mem_cons.mp m with rfl | m
        · exact ⟨_, h3⟩
        rcases List.mem_cons.mp m with rfl | m
        · exact ⟨_, h4⟩
        · exact h6.has b m
      have lsum := sum_len stk
      have nAa : A ≠ a := fun y => (List.nodup_cons.mp h2).1 (by rw [y]; exact List.mem_cons_self)
      have z1 : (zOf y).1 = Ls y.1 := rfl
      rw [z1] at run2
      refine ⟨_, rfl, rfl, _, rfl, ?_⟩
      by_cases c1 : Ls y.1 = ("(" : Str)
      · rw [if_pos c1] at run2
        by_cases cl : stk.length = 20
        · rw [if_pos (by exact cl)] at run2
          cases run2
        rw [if_neg (by exact cl)] at run2
        refine iteT' (decide_eq_true (congrArg V.str c1)) ?_
        refine ⟨_, rfl, A, _, rfl, .inl (SqL.of h3), rfl, _, rfl, ?_⟩
        refine iteF' (decide_eq_false fun hh => cl (by
          have := V.int.inj hh
          rw [lA] at this
          omega)) ?_
        refine ⟨Nat.zero_le _, fun a2 n2 => ?_⟩
        have k1 : Same H1 (upd H1 a2 (.lst [])) := same_alloc n2
        refine ⟨_, rfl, .inl ⟨rfl, _, SqL.of (k1 _ _ h4)⟩, _, rfl, _, rfl, (show 2 ≤ sizeLine by decide), fun t nt => ?_⟩
        have k2 : Same H1 (upd (upd H1 a2 (.lst [])) t (.tup [.ref a2, .int (y.2 : Int)])) := k1.trans (same_alloc nt)
        have na2 : a2 ∉ A :: a :: as := fun m => by obtain ⟨o, e⟩ := have_ a2 m; rw [n2] at e; cases e
        have nt2 : ¬ NX H (a2 :: A :: a :: as) t := fun m => by
          rcases m with m | m
          · rcases List.mem_cons.mp m with m | m
            · rw [m, upd_same] at nt; cases nt
            · obtain ⟨o, e⟩ := have_ t m
              rw [k1 _ _ e] at nt
              cases nt
          · cases q : H t with
            | none => exact m q
            | some o => rw [k1 _ _ (s1 _ _ q)] at nt; cases nt
        have ta2 : a2 ≠ t := fun y => nt2 (.inl (by rw [y]; exact List.mem_cons_self))
        have keep : ∀ c u, ¬ NX H (A :: a :: as) c → H1 c = some u → (upd (upd H1 a2 (.lst [])) t (.tup [.ref a2, .int (y.2 : Int)])) c = some u ∧ ¬ NX H (a2 :: A :: a :: as) c := fun c u nc e => ⟨k2 _ _ e, fun m => by
          rcases m with m | m
          · rcases List.mem_cons.mp m with m | m
            · rw [m, n2] at e; cases e
            · exact nc (.inl m)
          · exact nc (.inr m)⟩
        have Ha2 : H a2 = none := by
          cases q : H a2 with
          | none => rfl
          | some o => rw [s1 _ _ q] at n2; cases n2
        refine ⟨a, vs, _, rfl, rfl, k2 _ _ h4, by omega, ?_⟩
        have eA : upd (upd (upd H1 a2 (.lst [])) t (.tup [.ref a2, .int (y.2 : Int)])) a (.lst (vs ++ [.ref t])) A = some (.lst ((a :: as).dropLast.reverse.map V.ref)) := by
          rw [upd_ne nAa]
          exact k2 _ _ h3
        refine ⟨_, rfl, .inl ⟨rfl, _, SqL.of eA⟩, _, rfl, A, _, _, rfl, rfl, eA, by rw [lA]; omega, ?_⟩
        refine ⟨same_put (same_put (s1.trans k2) (fr a (List.mem_cons_of_mem _ List.mem_cons_self))) (fr A List.mem_cons_self), ([], (cur, (y.2 : Int)) :: stk), _, _, _, _, ?_, rfi_open fr h1 h2 na2 Ha2 (by rw [upd_ne ta2]; exact upd_same) (h5.next keep) (h6.next keep fun b _ o e => k2 _ _ e) upd_same nt2, run2, rfl⟩
        show 0 + (((cur, (y.2 : Int)) :: stk).map fun q => q.1.length + 1).sum ≤ i + 1
        rw [List.map_cons, List.sum_cons]
        show 0 + (cur.length + 1 + _) ≤ i + 1
        omega
      · rw [if_neg c1] at run2
        refine iteF' (decide_eq_false fun hh => c1 (V.str.inj hh)) ?_
        cases stk with
        | nil => cases run2
        | cons top r =>
          obtain ⟨p, i2⟩ := top
          cases as with
          | nil => cases la
          | cons b bs =>
            have e3 : (a :: b :: bs).dropLast.reverse.map V.ref = (b :: bs).dropLast.reverse.map V.ref ++ [.ref a] := by
              have : (a :: b :: bs).dropLast = a :: (b :: bs).dropLast := rfl
              rw [this, List.reverse_cons, List.map_append]
              rfl
            rw [e3] at h3
            refine ⟨_, rfl, true, .inl ⟨_, SqL.of h3, by simp⟩, ?_⟩
            refine iteF' rfl ?_
            refine ⟨_, rfl, rfl, _, rfl, ?_⟩
            have run3 : (if Ls y.1 = (")" : Str) then some (p ++ [PF.f cur i2], r) else some (cur ++ [PF.w (Ls y.1) (y.2 : Int)], (p, i2) :: r)).bind (rfRun 20 ((zs.map zOf).drop (i + 1))) = some (ps, []) := run2
            rw [List.map_cons, List.sum_cons] at szc
            have szc : cur.length + (p.length + 1 + (r.map fun q => q.1.length + 1).sum) ≤ i := szc
            by_cases c2 : Ls y.1 = (")" : Str)
            · rw [if_pos c2] at run3
              have run3 : rfRun 20 ((zs.map zOf).drop (i + 1)) (p ++ [PF.f cur i2], r) = some (ps, []) := run3
              refine iteT' (decide_eq_true (congrArg V.str c2)) ?_
              refine ⟨_, rfl, .inl ⟨rfl, _, SqL.of h3⟩, A, _, .ref a, rfl, rfl, h3, by simp, ?_⟩
              rw [List.dropLast_concat]
              refine ⟨same_put s1 (fr A List.mem_cons_self), (p ++ [PF.f cur i2], r), _, _, _, _, ?_, rfi_close fr h1 h2 h4 h5 h6, run3, rfl⟩
              show (p ++ [PF.f cur i2]).length + (r.map fun q => q.1.length + 1).sum ≤ i + 1
              rw [List.length_append]
              show p.length + 1 + _ ≤ _
              omega
            · rw [if_neg c2] at run3
              have run3 : rfRun 20 ((zs.map zOf).drop (i + 1)) (cur ++ [PF.w (Ls y.1) (y.2 : Int)], (p, i2) :: r) = some (ps, []) := run3
              refine iteF' (decide_eq_false fun hh => c2 (V.str.inj hh)) ?_
              refine ⟨_, rfl, .inl ⟨rfl, _, SqL.of h4⟩, _, rfl, _, rfl, (show 2 ≤ sizeLine by decide), fun t nt => ?_⟩
              have k1 : Same H1 (upd H1 t (.tup [.str (Ls y.1), .int (y.2 : Int)])) := same_alloc nt
              have nt2 : ¬ NX H (A :: a :: b :: bs) t := fun m => by
                rcases m with m | m
                · obtain ⟨o, e⟩ := have_ t m; rw [nt] at e; cases e
                · cases q : H t with
                  | none => exact m q
                  | some o => rw [s1 _ _ q] at nt; cases nt
              refine ⟨a, vs, _, rfl, rfl, k1 _ _ h4, by omega, ?_⟩
              refine ⟨same_put (s1.trans k1) (fr a (List.mem_cons_of_mem _ List.mem_cons_self)), (cur ++ [PF.w (Ls y.1) (y.2 : Int)], (p, i2) :: r), _, _, _, _, ?_, rfi_word fr h1 h2 (by rw [e3]; exact k1 _ _ h3) (k1 _ _ h4) (h5.next fun c u nc e => ⟨k1 _ _ e, nc⟩) (h6.next (fun c u nc e => ⟨k1 _ _ e, nc⟩) fun c _ o e => k1 _ _ e) upd_same nt2, run3, rfl⟩
              show (cur ++ [PF.w (Ls y.1) (y.2 : Int)]).length + (((p, i2) :: r).map fun q => q.1.length + 1).sum ≤ i + 1
              rw [List.length_append, List.map_cons, List.sum_cons]
              show cur.length + 1 + (p.length + 1 + _) ≤ i + 1
              omega
    · rintro σ' H1 ⟨s1, ⟨cur, stk⟩, w4, w5, w6, w7, sz, inv, run1, rfl⟩
      rw [lx, List.drop_of_length_le (by rw [List.length_map]; exact Nat.le_refl _)] at run1
      have e := Option.some.inj run1
      injection e with e1 e2
      subst e1
      subst e2
      obtain ⟨a, as, vs, fr, h1, h2, h3, h4, h5, h6⟩ := inv
      have ea : as = [] := h6
      subst ea
      have eo : a = O := Option.some.inj h1
      subst eo
      refine ⟨_, rfl, false, .inl ⟨_, SqL.of h3, rfl⟩, ?_⟩
      refine iteF' rfl ?_
      exact ⟨_, rfl, q a vs H1 s1 (fr a (List.mem_cons_of_mem _ List.mem_cons_self)) h4 (h5.less fun b m => .inr m)⟩
end
end Sd

/-! ## Pure code over nested tuples: what an expression, a statement is worth, whatever the heap -/
namespace Px
open PySem L2 Tr Pu PyProof.Rows
mutual
/-- data with lists; nothing of it changes -/
def Lv (K : PySem.W.Frag) (H : Hp) : PyData → V → Prop
  | .none, v => v = .non
  | .bool b, v => v = .bl b
  | .int i, v => v = .int i
  | .str s, v => v = .str s
  | .tuple ds, v => ∃ a xs, v = .ref a ∧ SqT K H a xs ∧ LvL K H ds xs
  | .list ds, v => ∃ a xs, v = .ref a ∧ H a = some (.lst xs) ∧ LvL K H ds xs
  | .dict _, _ => False
def LvL (K : PySem.W.Frag) (H : Hp) : List PyData → List V → Prop
  | [], vs => vs = []
  | d :: ds, vs => ∃ x xs, vs = x :: xs ∧ Lv K H d x ∧ LvL K H ds xs
end
mutual
theorem Lv.carry {K : PySem.W.Frag} {H H' : Hp} (c : Same H H') : ∀ {d : PyData} {v : V}, Lv K H d v → Lv K H' d v
  | .none, _, h => h
  | .bool _, _, h => h
  | .int _, _, h => h
  | .str _, _, h => h
  | .tuple ds, _, h => by
    obtain ⟨a, xs, e, s, l⟩ := h
    exact ⟨a, xs, e, (same_carry (K := K) c).t a xs s, LvL.carry c l⟩
  | .list ds, _, h => by
    obtain ⟨a, xs, e, s, l⟩ := h
    exact ⟨a, xs, e, c _ _ s, LvL.carry c l⟩
  | .dict _, _, h => False.elim h
theorem LvL.carry {K : PySem.W.Frag} {H H' : Hp} (c : Same H H') : ∀ {ds : List PyData} {vs : List V}, LvL K H ds vs → LvL K H' ds vs
  | [], _, h => h
  | d :: ds, _, h => by
    obtain ⟨x, xs, e, t, l⟩ := h
    exact ⟨x, xs, e, Lv.carry c t, LvL.carry c l⟩
end
/-- the slots hold these data -/
def XEn (K : PySem.W.Frag) (H : Hp) (σ : L2.St) (ρ : List (Option PyData)) : Prop := σ.length = ρ.length ∧ ∀ (i : Nat) (d : PyData), ρ[i]? = some (some d) → ∃ v, σ[i]? = some (some v) ∧ Lv K H d v

def XE (K : PySem.W.Frag) (te : TE) (ρ : Rho) (d : PyData) : Prop := ∀ σ H (Q : VK), XEn K H σ ρ → (∀ v H2, Same H H2 → Lv K H2 d v → Q v H2) → te σ H Q
def XA (K : PySem.W.Frag) (ta : TA) (ρ : Rho) (ds : List PyData) : Prop := ∀ σ H (Q : List V → Hp → Prop), XEn K H σ ρ → (∀ vs H2, Same H H2 → LvL K H2 ds vs → Q vs H2) → ta σ H Q
def XT (K : PySem.W.Frag) (tt : TT) (ρ : Rho) (b : Bool) : Prop := ∀ σ H (Q : Bool → Hp → Prop), XEn K H σ ρ → (∀ H2, Same H H2 → Q b H2) → tt σ H Q
def XO (K : PySem.W.Frag) (to : TO) (ρ : Rho) (o : Option Int) : Prop := ∀ σ H (Q : Option Int → Hp → Prop), XEn K H σ ρ → (∀ H2, Same H H2 → Q o H2) → to σ H Q
/-- a block that returns; one that goes on -/
def XR (K : PySem.W.Frag) (ts : TS) (ρ : Rho) (d : PyData) : Prop := ∀ (D : Ends) σ H, XEn K H σ ρ → (∀ v H2, Same H H2 → Lv K H2 d v → D.rt v H2) → ts D σ H
def XN (K : PySem.W.Frag) (ts : TS) (ρ ρ' : Rho) : Prop := ∀ (D : Ends) σ H, XEn K H σ ρ → (∀ σ' H2, Same H H2 → XEn K H2 σ' ρ' → D.nx σ' H2) → ts D σ H
/-- what a call of a def with this promise is worth -/
def XV (K : PySem.W.Frag) (sp : Sp) (ds : List PyData) (d : PyData) : Prop := ∀ vs H (Q : VK) (E : XK), LvL K H ds vs → (∀ v H2, Same H H2 → Lv K H2 d v → Q v H2) → sp vs H Q E
section
variable {K : PySem.W.Frag} {H H' : Hp} {σ : L2.St} {ρ ρ' ρ2 : Rho} {te ta tb : TE} {tl tr : TA} {t u : TT} {x y d e : PyData} {ds es : List PyData} {b c : Bool} {ts tu tz : TS}
theorem XEn.next (h : XEn K H σ ρ) (s : Same H H') : XEn K H' σ ρ := ⟨h.1, fun i d q => by
  obtain ⟨v, h1, h2⟩ := h.2 i d q
  exact ⟨v, h1, h2.carry s⟩⟩
theorem XEn.put {i : Nat} {v : V} (h : XEn K H σ ρ) (hv : Lv K H d v) : XEn K H (σ.set i (some v)) (ρ.set i (some d)) := ⟨by rw [List.length_set, List.length_set]; exact h.1, fun j e q => by
  rw [List.getElem?_set] at q
  rw [List.getElem?_set]
  by_cases c : i = j
  · rw [if_pos c] at q ⊢
    by_cases c2 : i < ρ.length
    · rw [if_pos c2] at q
      cases q
      rw [if_pos (by rw [h.1]; exact c2)]
      exact ⟨v, rfl, hv⟩
    · rw [if_neg c2] at q
      cases q
  · rw [if_neg c] at q ⊢
    exact h.2 j e q⟩
theorem lw_len : ∀ {ds : List PyData} {xs : List V}, LvL K H ds xs → xs.length = ds.length
  | [], _, h => by subst h; rfl
  | d :: ds, _, h => by
    obtain ⟨x, xs, rfl, _, l⟩ := h
    rw [List.length_cons, List.length_cons, lw_len l]
theorem lw_get : ∀ {ds : List PyData} {xs : List V} {j : Nat} {d : PyData}, LvL K H ds xs → ds[j]? = some d → ∃ x, xs[j]? = some x ∧ Lv K H d x
  | [], _, _, _, _, e => by simp at e
  | d :: ds, _, 0, _, h, e => by
    obtain ⟨x, xs, rfl, t, l⟩ := h
    simp at e
    subst e
    exact ⟨x, rfl, t⟩
  | d :: ds, _, j + 1, e', h, e => by
    obtain ⟨x, xs, rfl, t, l⟩ := h
    obtain ⟨y, h1, h2⟩ := lw_get (j := j) l (by simpa using e)
    exact ⟨y, by simpa using h1, h2⟩
theorem lw_drop : ∀ {ds : List PyData} {xs : List V} (n : Nat), LvL K H ds xs → LvL K H (ds.drop n) (xs.drop n)
  | _, _, 0, h => h
  | [], _, n + 1, h => by subst h; rfl
  | d :: ds, _, n + 1, h => by
    obtain ⟨x, xs, rfl, _, l⟩ := h
    exact lw_drop n l
theorem lw_take : ∀ {ds : List PyData} {xs : List V} (n : Nat), LvL K H ds xs → LvL K H (ds.take n) (xs.take n)
  | _, _, 0, h => rfl
  | [], _, n + 1, h => by subst h; rfl
  | d :: ds, _, n + 1, h => by
    obtain ⟨x, xs, rfl, t, l⟩ := h
    exact ⟨x, _, rfl, t, lw_take n l⟩
theorem lw_app : ∀ {ds es : List PyData} {xs ys : List V}, LvL K H ds xs → LvL K H es ys → LvL K H (ds ++ es) (xs ++ ys)
  | [], _, _, _, h, g => by subst h; exact g
  | d :: ds, _, _, _, h, g => by
    obtain ⟨x, xs, rfl, t, l⟩ := h
    exact ⟨x, _, rfl, t, lw_app l g⟩
theorem lw_atI {xs : List V} {i : Int} (l : LvL K H ds xs) (h : atI ds i = some d) : ∃ x, atI xs i = some x ∧ Lv K H d x := by
  unfold atI at h ⊢
  rw [lw_len l]
  cases e : ixN ds.length i with
  | none => rw [e] at h; cases h
  | some j => rw [e] at h; exact lw_get l h
/-! ### expressions -/
theorem xe_var {i : Nat} (h : ρ[i]? = some (some d)) : XE K (tVar i) ρ d := fun σ H Q en q => by
  obtain ⟨v, h1, h2⟩ := en.2 i d h
  exact ⟨v, h1, q v H (Pu.same_refl H) h2⟩
theorem xe_int {i : Int} : XE K (tC (.int i)) ρ (.int i) := fun σ H Q en q => q _ H (Pu.same_refl H) rfl
theorem xe_str {z : Str} : XE K (tC (.str z)) ρ (.str z) := fun σ H Q en q => q _ H (Pu.same_refl H) rfl
theorem xe_bl : XE K (tC (.bl b)) ρ (.bool b) := fun σ H Q en q => q _ H (Pu.same_refl H) rfl
theorem xe_non : XE K (tC .non) ρ .none := fun σ H Q en q => q _ H (Pu.same_refl H) rfl
theorem xa_nil : XA K tNil ρ [] := fun σ H Q en q => q _ H (Pu.same_refl H) rfl
theorem xa_cons (h : XE K ta ρ d) (hr : XA K tr ρ ds) : XA K (tCons ta tr) ρ (d :: ds) := fun σ H Q en q =>
  h σ H _ en fun v H1 s1 tv => hr σ H1 _ (en.next s1) fun vs H2 s2 tl => q _ H2 (s1.trans s2) ⟨v, vs, rfl, tv.carry s2, tl⟩
theorem xa_one (h : XE K ta ρ d) : XA K (tCons ta tNil) ρ [d] := xa_cons h xa_nil
theorem xe_tup (h : XA K tl ρ ds) (hl : ds.length ≤ 1000 := by decide) : XE K (tTup tl) ρ (.tuple ds) := fun σ H Q en q =>
  h σ H _ en fun vs H1 s1 tv => ⟨by rw [lw_len tv]; exact Nat.le_of_lt (small1000 hl), fun p hp => q _ _ (s1.trans (Pu.same_put hp)) ⟨p, vs, rfl, SqT.of upd_same, LvL.carry (Pu.same_put hp) tv⟩⟩
theorem xe_ix {i : Int} (ha : XE K ta ρ (.tuple ds)) (hb : XE K tb ρ (.int i)) (h : atI ds i = some d := by rfl) : XE K (tOp (rIxT K) ta tb) ρ d := fun σ H Q en q =>
  ha σ H _ en fun v H1 s1 tv => hb σ H1 _ (en.next s1) fun w H2 s2 tw => by
    obtain ⟨a, xs, rfl, sq, l⟩ := tv.carry s2
    obtain ⟨x, hx, tx⟩ := lw_atI l h
    have e : w = .int i := tw
    subst e
    exact ⟨a, xs, i, x, rfl, rfl, sq, hx, q x H2 (s1.trans s2) tx⟩
theorem xe_cat {fs : List PyData} (ha : XE K ta ρ (.tuple ds)) (hb : XE K tb ρ (.tuple es)) (he : ds ++ es = fs := by rfl) (hl : ds.length + es.length ≤ 1000 := by decide) : XE K (tOp (rCatA K) ta tb) ρ (.tuple fs) := by
  subst he
  exact fun σ H Q en q => ha σ H _ en fun v H1 s1 tv => hb σ H1 _ (en.next s1) fun w H2 s2 tw => by
    obtain ⟨a, xs, rfl, sq, l⟩ := tv.carry s2
    obtain ⟨a2, ys, rfl, sq2, l2⟩ := tw
    refine ⟨a, a2, xs, ys, rfl, rfl, sq, sq2, by rw [lw_len l, lw_len l2]; exact Nat.le_of_lt (small1000 hl), fun z => ?_, fun z1 z2 => ?_, fun z1 z2 p hp => ?_⟩
    · refine q _ H2 (s1.trans s2) ⟨a2, ys, rfl, sq2, ?_⟩
      subst z
      have e : ds = [] := by
        have := lw_len l
        cases ds with
        | nil => rfl
        | cons d r => simp at this
      rw [e]
      exact l2
    · refine q _ H2 (s1.trans s2) ⟨a, xs, rfl, sq, ?_⟩
      subst z2
      have e : es = [] := by
        have := lw_len l2
        cases es with
        | nil => rfl
        | cons d r => simp at this
      rw [e, List.append_nil]
      exact l
    · exact q _ _ ((s1.trans s2).trans (Pu.same_put hp)) ⟨p, _, rfl, SqT.of upd_same, LvL.carry (Pu.same_put hp) (lw_app l l2)⟩
theorem xo_none : XO K tNoPart ρ none := fun σ H Q en q => q H (Pu.same_refl H)
theorem xo_some {i : Int} (h : XE K te ρ (.int i)) : XO K (tPart te) ρ (some i) := fun σ H Q en q => h σ H _ en fun v H1 s1 tv => ⟨i, tv, q H1 s1⟩
theorem xe_sl {t1 t2 : TO} {lo hi : Option Int} (h : XE K te ρ (.tuple ds)) (h1 : XO K t1 ρ lo) (h2 : XO K t2 ρ hi) (he : Pu.cutD ds lo hi = es := by rfl) : XE K (tSl (rSlA K) te t1 t2) ρ (.tuple es) := fun σ H Q en q =>
  h σ H _ en fun v H1 s1 tv => h1 σ H1 _ (en.next s1) fun H2 s2 => h2 σ H2 _ (en.next (s1.trans s2)) fun H3 s3 => by
    obtain ⟨a, xs, rfl, sq, l⟩ := tv.carry (s2.trans s3)
    have e := lw_len l
    refine ⟨a, xs, rfl, sq, fun z => ?_, fun z p hp => ?_⟩
    · refine q _ H3 ((s1.trans s2).trans s3) ⟨a, xs, rfl, sq, ?_⟩
      rw [← he]
      unfold Pu.cutD
      rw [← e, z.1, z.2, List.drop_zero, Nat.sub_zero, e, List.take_length]
      exact l
    · refine q _ _ (((s1.trans s2).trans s3).trans (Pu.same_put hp)) ⟨p, _, rfl, SqT.of upd_same, LvL.carry (Pu.same_put hp) ?_⟩
      rw [← he]
      unfold Pu.cutD cutV
      rw [← e]
      exact lw_take _ (lw_drop _ l)
/-! ### equality of texts, whole numbers; is None; in a tuple of texts -/
theorem xe_eqS {p q : Str} (ha : XE K ta ρ (.str p)) (hb : XE K tb ρ (.str q)) (h : decide (p = q) = b := by first | rfl | decide) : XE K (tOp rEq ta tb) ρ (.bool b) := fun σ H Q en k =>
  ha σ H _ en fun v H1 s1 tv => hb σ H1 _ (en.next s1) fun w H2 s2 tw => by
    have e1 : v = .str p := tv
    have e2 : w = .str q := tw
    subst e1 e2
    refine ⟨rfl, k _ H2 (s1.trans s2) ?_⟩
    show V.bl (decide (V.str p = V.str q)) = .bl b
    rw [← h]
    congr 1
    simp
theorem xe_neS {p q : Str} (ha : XE K ta ρ (.str p)) (hb : XE K tb ρ (.str q)) (h : (!decide (p = q)) = b := by first | rfl | decide) : XE K (tOp rNe ta tb) ρ (.bool b) := fun σ H Q en k =>
  ha σ H _ en fun v H1 s1 tv => hb σ H1 _ (en.next s1) fun w H2 s2 tw => by
    have e1 : v = .str p := tv
    have e2 : w = .str q := tw
    subst e1 e2
    refine ⟨rfl, k _ H2 (s1.trans s2) ?_⟩
    show V.bl (!decide (V.str p = V.str q)) = .bl b
    rw [← h]
    congr 2
    simp
theorem xe_eqI {i j : Int} (ha : XE K ta ρ (.int i)) (hb : XE K tb ρ (.int j)) : XE K (tOp rEq ta tb) ρ (.bool (decide (i = j))) := fun σ H Q en k =>
  ha σ H _ en fun v H1 s1 tv => hb σ H1 _ (en.next s1) fun w H2 s2 tw => by
    have e1 : v = .int i := tv
    have e2 : w = .int j := tw
    subst e1 e2
    exact ⟨rfl, k _ H2 (s1.trans s2) (by rw [dec_V]; rfl)⟩
theorem isNo_lv {v : V} (h : Lv K H d v) : decide (v = .non) = isNo d := by
  cases d with
  | none => cases h; rfl
  | bool b => cases h; rfl
  | int i => cases h; rfl
  | str s => cases h; rfl
  | tuple ds => obtain ⟨a, xs, rfl, _⟩ := h; rfl
  | list ds => obtain ⟨a, xs, rfl, _⟩ := h; rfl
  | dict ds => exact False.elim h
theorem xe_isN {r : R2} (hr : ∀ x H Q, Q (V.bl (decide (x = .non))) H → r x .non H Q) (ha : XE K ta ρ d) (h : isNo d = b := by rfl) : XE K (tOp r ta (tC .non)) ρ (.bool b) := fun σ H Q en k =>
  ha σ H _ en fun v H1 s1 tv => hr _ _ _ (k _ H1 s1 (by rw [isNo_lv tv, h]; rfl))
theorem xe_notN {r : R2} (hr : ∀ x H Q, Q (V.bl (!decide (x = .non))) H → r x .non H Q) (ha : XE K ta ρ d) (h : (!isNo d) = b := by rfl) : XE K (tOp r ta (tC .non)) ρ (.bool b) := fun σ H Q en k =>
  ha σ H _ en fun v H1 s1 tv => hr _ _ _ (k _ H1 s1 (by rw [isNo_lv tv, h]; rfl))
theorem strs_lv : ∀ {ds : List PyData} {zs : List Str} {xs : List V}, strsOf ds = some zs → LvL K H ds xs → xs = zs.map V.str
  | [], zs, xs, h, l => by
    simp only [strsOf] at h
    cases h
    exact l
  | d :: r, zs, xs, h, l => by
    obtain ⟨x, ys, rfl, tx, l2⟩ := l
    cases d with
    | str z =>
      simp only [strsOf] at h
      cases e : strsOf r with
      | none => rw [e] at h; cases h
      | some ws =>
        rw [e] at h
        cases h
        rw [List.map_cons, ← strs_lv e l2]
        rw [show x = V.str z from tx]
    | none => simp [strsOf] at h
    | bool b => simp [strsOf] at h
    | int i => simp [strsOf] at h
    | tuple ds => simp [strsOf] at h
    | list ds => simp [strsOf] at h
    | dict ds => simp [strsOf] at h
theorem xe_in {z : Str} {zs : List Str} (ha : XE K ta ρ (.str z)) (hb : XE K tb ρ (.tuple ds)) (hs : strsOf ds = some zs := by rfl) (h : decide (z ∈ zs) = b := by first | rfl | decide) : XE K (tOp (rIn K false) ta tb) ρ (.bool b) := fun σ H Q en k =>
  ha σ H _ en fun v H1 s1 tv => hb σ H1 _ (en.next s1) fun w H2 s2 tw => by
    have e1 : v = .str z := tv
    subst e1
    obtain ⟨a, xs, rfl, sq, l⟩ := tw
    have e2 := strs_lv hs l
    subst e2
    refine ⟨a, _, rfl, .inr sq, rfl, all_flat zs, ?_⟩
    rw [Pu.in_strs, h]
    exact k _ H2 (s1.trans s2) rfl
/-! ### truth -/
theorem xt_test (h : XE K te ρ (.bool b)) : XT K (tTest te) ρ b := fun σ H Q en q => h σ H _ en fun v H1 s1 tv => ⟨b, tv, q H1 s1⟩
theorem xt_B (h : XE K te ρ (.bool b)) : XT K (tB te) ρ b := fun σ H Q en q => h σ H _ en fun v H1 s1 tv => ⟨b, tv, q H1 s1⟩
theorem xt_not (h : XT K t ρ b) : XT K (tNot t) ρ (!b) := fun σ H Q en q => h σ H _ en fun H1 s1 => q H1 s1
theorem xt_notT (h : XT K t ρ false) : XT K (tNot t) ρ true := xt_not h
theorem xt_notF (h : XT K t ρ true) : XT K (tNot t) ρ false := xt_not h
theorem xt_andT (h : XT K t ρ true) (g : XT K u ρ b) : XT K (tAnd t u) ρ b := fun σ H Q en q => h σ H _ en fun H1 s1 => by
  show u σ H1 Q
  exact g σ H1 _ (en.next s1) fun H2 s2 => q H2 (s1.trans s2)
theorem xt_andF (h : XT K t ρ false) : XT K (tAnd t u) ρ false := fun σ H Q en q => h σ H _ en fun H1 s1 => by
  show Q false H1
  exact q H1 s1
theorem xt_orT (h : XT K t ρ true) : XT K (tOr t u) ρ true := fun σ H Q en q => h σ H _ en fun H1 s1 => by
  show Q true H1
  exact q H1 s1
theorem xt_orF (h : XT K t ρ false) (g : XT K u ρ b) : XT K (tOr t u) ρ b := fun σ H Q en q => h σ H _ en fun H1 s1 => by
  show u σ H1 Q
  exact g σ H1 _ (en.next s1) fun H2 s2 => q H2 (s1.trans s2)
theorem xe_not (h : XE K ta ρ (.bool b)) : XE K (tNotV ta) ρ (.bool (!b)) := fun σ H Q en q => h σ H _ en fun v H1 s1 tv => ⟨b, tv, q _ H1 s1 rfl⟩
theorem xe_andT (h : XE K ta ρ (.bool true)) (g : XE K tb ρ d) : XE K (tAndV ta tb) ρ d := fun σ H Q en q => h σ H _ en fun v H1 s1 tv => ⟨true, tv, by
  show tb σ H1 Q
  exact g σ H1 _ (en.next s1) fun v2 H2 s2 t2 => q v2 H2 (s1.trans s2) t2⟩
theorem xe_andF (h : XE K ta ρ (.bool false)) : XE K (tAndV ta tb) ρ (.bool false) := fun σ H Q en q => h σ H _ en fun v H1 s1 tv => ⟨false, tv, by
  show Q (.bl false) H1
  exact q _ H1 s1 rfl⟩
theorem xe_orT (h : XE K ta ρ (.bool true)) : XE K (tOrV ta tb) ρ (.bool true) := fun σ H Q en q => h σ H _ en fun v H1 s1 tv => ⟨true, tv, by
  show Q (.bl true) H1
  exact q _ H1 s1 rfl⟩
theorem xe_orF (h : XE K ta ρ (.bool false)) (g : XE K tb ρ d) : XE K (tOrV ta tb) ρ d := fun σ H Q en q => h σ H _ en fun v H1 s1 tv => ⟨false, tv, by
  show tb σ H1 Q
  exact g σ H1 _ (en.next s1) fun v2 H2 s2 t2 => q v2 H2 (s1.trans s2) t2⟩
theorem xe_ifT (h : XT K t ρ true) (g : XE K ta ρ d) : XE K (tIf t ta tb) ρ d := fun σ H Q en q => h σ H _ en fun H1 s1 => by
  show ta σ H1 Q
  exact g σ H1 _ (en.next s1) fun v2 H2 s2 t2 => q v2 H2 (s1.trans s2) t2
theorem xe_ifF (h : XT K t ρ false) (g : XE K tb ρ d) : XE K (tIf t ta tb) ρ d := fun σ H Q en q => h σ H _ en fun H1 s1 => by
  show tb σ H1 Q
  exact g σ H1 _ (en.next s1) fun v2 H2 s2 t2 => q v2 H2 (s1.trans s2) t2
/-! ### calls -/
theorem xe_call {sp : Sp} {E : XK} (h : XA K tl ρ ds) (g : XV K sp ds d) : XE K (tCall sp [] E tl) ρ d := fun σ H Q en q => h σ H _ en fun vs H1 s1 tv => by
  show sp (vs ++ []) H1 Q E
  rw [List.append_nil]
  exact g vs H1 Q E tv fun v H2 s2 t2 => q v H2 (s1.trans s2) t2
/-! ### statements -/
theorem xr_ret (h : XE K te ρ d) : XR K (tRet te) ρ d := fun D σ H en q => h σ H _ en q
theorem xr_seq (h : XN K ts ρ ρ') (g : XR K tu ρ' d) : XR K (tSeq ts tu) ρ d := fun D σ H en q => h { D with nx := tu D } σ H en fun σ' H1 s1 en1 => g D σ' H1 en1 fun v H2 s2 t2 => q v H2 (s1.trans s2) t2
theorem xr_stop (h : XR K ts ρ d) : XR K (tSeq ts tu) ρ d := fun D σ H en q => h { D with nx := tu D } σ H en q
theorem xn_seq (h : XN K ts ρ ρ') (g : XN K tu ρ' ρ2) : XN K (tSeq ts tu) ρ ρ2 := fun D σ H en q => h { D with nx := tu D } σ H en fun σ' H1 s1 en1 => g D σ' H1 en1 fun σ2 H2 s2 t2 => q σ2 H2 (s1.trans s2) t2
theorem xn_next : XN K tNext ρ ρ := fun D σ H en q => q σ H (Pu.same_refl H) en
theorem xr_ifT (h : XT K t ρ true) (g : XR K ts ρ d) : XR K (tIfS t ts tu) ρ d := fun D σ H en q => h σ H _ en fun H1 s1 => by
  show ts D σ H1
  exact g D σ H1 (en.next s1) fun v H2 s2 t2 => q v H2 (s1.trans s2) t2
theorem xr_ifF (h : XT K t ρ false) (g : XR K tu ρ d) : XR K (tIfS t ts tu) ρ d := fun D σ H en q => h σ H _ en fun H1 s1 => by
  show tu D σ H1
  exact g D σ H1 (en.next s1) fun v H2 s2 t2 => q v H2 (s1.trans s2) t2
theorem xn_ifT (h : XT K t ρ true) (g : XN K ts ρ ρ') : XN K (tIfS t ts tu) ρ ρ' := fun D σ H en q => h σ H _ en fun H1 s1 => by
  show ts D σ H1
  exact g D σ H1 (en.next s1) fun v H2 s2 t2 => q v H2 (s1.trans s2) t2
theorem xn_ifF (h : XT K t ρ false) (g : XN K tu ρ ρ') : XN K (tIfS t ts tu) ρ ρ' := fun D σ H en q => h σ H _ en fun H1 s1 => by
  show tu D σ H1
  exact g D σ H1 (en.next s1) fun v H2 s2 t2 => q v H2 (s1.trans s2) t2
theorem xn_set {i : Nat} (h : XE K te ρ d) : XN K (tAsg te (gName i)) ρ (ρ.set i (some d)) := fun D σ H en q => h σ H _ en fun v H1 s1 tv => q _ H1 s1 ((en.next s1).put tv)
theorem xn_un2 {i j : Nat} (h : XE K te ρ (.tuple [x, y])) : XN K (tAsg te (gTup K 2 (gCons (gName i) (gCons (gName j) gNil)))) ρ ((ρ.set i (some x)).set j (some y)) := fun D σ H en q => h σ H _ en fun v H1 s1 tv => by
  obtain ⟨a, xs, rfl, sq, v1, r1, rfl, t1, v2, r2, rfl, t2, rfl⟩ := tv
  exact ⟨a, _, rfl, sq, rfl, v1, _, rfl, v2, _, rfl, rfl, q _ H1 s1 (((en.next s1).put t1).put t2)⟩
theorem xn_un3 {i j l : Nat} (h : XE K te ρ (.tuple [x, y, d])) : XN K (tAsg te (gTup K 3 (gCons (gName i) (gCons (gName j) (gCons (gName l) gNil))))) ρ (((ρ.set i (some x)).set j (some y)).set l (some d)) := fun D σ H en q => h σ H _ en fun v H1 s1 tv => by
  obtain ⟨a, xs, rfl, sq, v1, r1, rfl, t1, v2, r2, rfl, t2, v3, r3, rfl, t3, rfl⟩ := tv
  exact ⟨a, _, rfl, sq, rfl, v1, _, rfl, v2, _, rfl, v3, _, rfl, rfl, q _ H1 s1 ((((en.next s1).put t1).put t2).put t3)⟩
theorem xr_set {i : Nat} (h : XE K te ρ d) (g : XR K tu (ρ.set i (some d)) e) : XR K (tSeq (tAsg te (gName i)) tu) ρ e := xr_seq (xn_set h) g
theorem xr_un2 {i j : Nat} (h : XE K te ρ (.tuple [x, y])) (g : XR K tu ((ρ.set i (some x)).set j (some y)) e) : XR K (tSeq (tAsg te (gTup K 2 (gCons (gName i) (gCons (gName j) gNil)))) tu) ρ e := xr_seq (xn_un2 h) g
theorem xr_un3 {i j l : Nat} (h : XE K te ρ (.tuple [x, y, d])) (g : XR K tu (((ρ.set i (some x)).set j (some y)).set l (some d)) e) : XR K (tSeq (tAsg te (gTup K 3 (gCons (gName i) (gCons (gName j) (gCons (gName l) gNil))))) tu) ρ e := xr_seq (xn_un3 h) g
theorem xr_whenF (h : XT K t ρ false) (g : XR K tu ρ d) : XR K (tSeq (tIfS t ts tNext) tu) ρ d := xr_seq (xn_ifF h xn_next) g
theorem xr_whenT (h : XT K t ρ true) (g : XR K ts ρ d) : XR K (tSeq (tIfS t ts tz) tu) ρ d := xr_stop (xr_ifT h g)
end
/-- the promise of a def that hands back data: f of the arguments, where dom holds -/
def spX (K : PySem.W.Frag) (n : Nat) (dom : List PyData → PyData → Prop) : Sp := fun vs H Q _ => ∃ (ds : List PyData) (d : PyData), ds.length = n ∧ LvL K H ds vs ∧ dom ds d ∧ ∀ v H2, Same H H2 → Lv K H2 d v → Q v H2
theorem pv_X {K : PySem.W.Frag} {n : Nat} {dom : List PyData → PyData → Prop} {ds : List PyData} {d : PyData} (h : dom ds d) (hn : ds.length = n := by rfl) : XV K (spX K n dom) ds d := fun vs H Q E tv q => ⟨ds, d, hn, tv, h, q⟩
theorem xen_start {K : PySem.W.Frag} {H : Hp} : ∀ {ds : List PyData} {vs : List V} {N : List Str}, LvL K H ds vs → ds.length ≤ N.length → XEn K H (start N vs) (ds.map some ++ List.replicate (N.length - ds.length) none) := by
  intro ds vs N l hl
  have e := lw_len l
  refine ⟨?_, fun i d q => ?_⟩
  · show (vs.map some ++ List.replicate (N.length - vs.length) none).length = _
    simp [e]
  · show ∃ v, (vs.map some ++ List.replicate (N.length - vs.length) none)[i]? = some (some v) ∧ Lv K H d v
    rw [List.getElem?_append] at q
    rw [List.getElem?_append, List.length_map]
    rw [List.length_map] at q
    by_cases c : i < ds.length
    · rw [if_pos c, List.getElem?_map] at q
      rw [if_pos (by rw [e]; exact c), List.getElem?_map]
      cases e2 : ds[i]? with
      | none => rw [e2] at q; cases q
      | some d' =>
        rw [e2] at q
        cases q
        obtain ⟨x, h1, h2⟩ := lw_get l e2
        exact ⟨x, by rw [h1]; rfl, h2⟩
    · rw [if_neg c] at q
      rw [List.getElem?_replicate] at q
      split at q <;> cases q
section
variable {P : Program} {w : World} {K : PySem.W.Frag} {mg : Str → Option Value} {base : Heap}
/-- a def whose body is worth what dom says -/
theorem ok_X {x qual : Str} {st : Stmt} {f : Addr} {fd : FuncData} {N ps : List Str} {k : Nat} {dom : List PyData → PyData → Prop} (F : Fun K x qual st f fd) (S : FnScope N ps (defScope st))
    (hN : ps.length ≤ N.length) 
    (body : ∀ (cdv : Value) (A : Around) (outer : List Env) (s : Shared) (H : Hp) (E : XK), Room k (A.deeper (envOfC qual (defScope st) s.heap.objs.size f cdv)) →
      ∃ t, PSs (cxOf CX0 P w K mg base N qual (defScope st) f cdv A outer s H E).nox (defBody st) t ∧ ∀ ds d, ds.length = ps.length → dom ds d → XR K t (ds.map some ++ List.replicate (N.length - ds.length) none) d) :
    FnOk P w K mg base CX0 (k + 1) f fd ps (spX K ps.length dom) := by
  refine F.ok S (fun vs H Q E h => ?_) (fun cdv A outer s H vs Q E hr h => ?_)
  · obtain ⟨ds, d, hl, tl, _⟩ := h
    rw [lw_len tl, hl]
  · obtain ⟨ds, d, hl, tl, hd, q⟩ := h
    obtain ⟨t, ht, hb⟩ := body cdv A outer s H E hr
    exact ⟨t, ht, hb ds d hl hd _ _ H (xen_start tl (by rw [hl]; exact hN)) q⟩
end
end Px
namespace Px
open PySem L2 Tr Pu PyProof.Rows
section
variable {K : PySem.W.Frag} {H H' : Hp} {σ : L2.St} {ρ ρ' ρ2 : Rho} {te ta tb tc : TE} {tl tr : TA} {t u : TT} {x y d e : PyData} {ds es : List PyData} {b c : Bool} {ts tu tz : TS}
theorem xe_cmpI {p : Int → Int → Bool} {i j : Int} (ha : XE K ta ρ (.int i)) (hb : XE K tb ρ (.int j)) : XE K (tOp (rI0 fun i j => .bl (p i j)) ta tb) ρ (.bool (p i j)) := fun σ H Q en k =>
  ha σ H _ en fun v H1 s1 tv => hb σ H1 _ (en.next s1) fun w H2 s2 tw => ⟨i, j, tv, tw, k _ H2 (s1.trans s2) rfl⟩
theorem xe_opI {g : Int → Int → Int} {i j : Int} (ha : XE K ta ρ (.int i)) (hb : XE K tb ρ (.int j)) : XE K (tOp (rI0 fun i j => .int (g i j)) ta tb) ρ (.int (g i j)) := fun σ H Q en k =>
  ha σ H _ en fun v H1 s1 tv => hb σ H1 _ (en.next s1) fun w H2 s2 tw => ⟨i, j, tv, tw, k _ H2 (s1.trans s2) rfl⟩
theorem xe_chain {p q : Int → Int → Bool} {i j l : Int} (ha : XE K ta ρ (.int i)) (hb : XE K tb ρ (.int j)) (hc : XE K tc ρ (.int l)) :
    XE K (tChain (rI0 fun i j => .bl (p i j)) (rI0 fun i j => .bl (q i j)) ta tb tc) ρ (.bool (p i j && q j l)) := fun σ H Q en k =>
  ha σ H _ en fun v H1 s1 tv => hb σ H1 _ (en.next s1) fun w H2 s2 tw => ⟨i, j, tv, tw, p i j, rfl, by
    cases hp : p i j with
    | true =>
      show tc σ H2 _
      exact hc σ H2 _ (en.next (s1.trans s2)) fun z H3 s3 tz => ⟨j, l, tw, tz, k _ H3 ((s1.trans s2).trans s3) (by rw [hp]; rfl)⟩
    | false =>
      show Q (.bl false) H2
      exact k _ H2 (s1.trans s2) (by rw [hp]; rfl)⟩
theorem xe_and {x y : Bool} (h : XE K ta ρ (.bool x)) (g : x = true → XE K tb ρ (.bool y)) : XE K (tAndV ta tb) ρ (.bool (x && y)) := by
  cases x with
  | true => exact xe_andT h (g rfl)
  | false => exact xe_andF h
theorem xe_or {x y : Bool} (h : XE K ta ρ (.bool x)) (g : x = false → XE K tb ρ (.bool y)) : XE K (tOrV ta tb) ρ (.bool (x || y)) := by
  cases x with
  | true => exact xe_orT h
  | false => exact xe_orF h (g rfl)
theorem xt_and {x y : Bool} (h : XT K t ρ x) (g : x = true → XT K u ρ y) : XT K (tAnd t u) ρ (x && y) := by
  cases x with
  | true => exact xt_andT h (g rfl)
  | false => exact xt_andF h
theorem xt_or {x y : Bool} (h : XT K t ρ x) (g : x = false → XT K u ρ y) : XT K (tOr t u) ρ (x || y) := by
  cases x with
  | true => exact xt_orT h
  | false => exact xt_orF h (g rfl)
theorem xe_lenT {r : List V → Hp → VK → Prop} (hr : ∀ p ys H (Q : VK), SqT K H p ys → Q (.int ys.length) H → r [.ref p] H Q) (ha : XE K ta ρ (.tuple ds)) : XE K (tCB r (tCons ta tNil)) ρ (.int ds.length) := fun σ H Q en k =>
  ha σ H _ en fun v H1 s1 tv => by
    obtain ⟨a, xs, rfl, sq, l⟩ := tv
    refine hr a xs H1 Q sq ?_
    rw [lw_len l]
    exact k _ H1 s1 rfl
theorem xt_truT (ha : XE K ta ρ (.tuple ds)) : XT K (fun σ H Q => ta σ H fun x H' => ∃ k, TruV K x H' k ∧ Q k H') ρ (!ds.isEmpty) := fun σ H Q en q =>
  ha σ H _ en fun v H1 s1 tv => by
    obtain ⟨a, xs, rfl, sq, l⟩ := tv
    refine ⟨!xs.isEmpty, .inr (.inl ⟨xs, sq, rfl⟩), ?_⟩
    have e : xs.isEmpty = ds.isEmpty := by
      have := lw_len l
      cases xs <;> cases ds <;> first | rfl | simp at this
    rw [e]
    exact q H1 s1
theorem xr_when {x : Bool} (h : XT K t ρ x) (g1 : x = true → XR K ts ρ d) (g2 : x = false → XR K tu ρ d) : XR K (tSeq (tIfS t ts tNext) tu) ρ d := by
  cases x with
  | true => exact xr_whenT h (g1 rfl)
  | false => exact xr_whenF h (g2 rfl)
end
end Px

namespace Px
open PySem L2 Tr Pu PyProof.Rows
/-! ### data without lists is the other layer's data -/
mutual
def noL : PyData → Bool
  | .list _ => false
  | .dict _ => false
  | .tuple ds => noLs ds
  | _ => true
def noLs : List PyData → Bool
  | [] => true
  | d :: ds => noL d && noLs ds
end
section
variable {K : PySem.W.Frag} {H H' : Hp}
mutual
theorem tv_of : ∀ {d : PyData} {v : V}, noL d = true → Lv K H d v → Tv K H d v
  | .none, _, _, h => h
  | .bool b, _, _, h => h
  | .int i, _, _, h => h
  | .str s, _, _, h => h
  | .tuple ds, _, n, h => by
    obtain ⟨a, xs, e, s, l⟩ := h
    exact ⟨a, xs, e, s, tvl_of (by simp only [noL] at n; exact n) l⟩
  | .list ds, _, n, _ => by simp [noL] at n
  | .dict _, _, n, _ => by simp [noL] at n
theorem tvl_of : ∀ {ds : List PyData} {vs : List V}, noLs ds = true → LvL K H ds vs → TvL K H ds vs
  | [], _, _, h => h
  | d :: ds, _, n, h => by
    obtain ⟨x, xs, e, t, l⟩ := h
    simp only [noLs, Bool.and_eq_true] at n
    exact ⟨x, xs, e, tv_of n.1 t, tvl_of n.2 l⟩
end
mutual
theorem lv_of : ∀ {d : PyData} {v : V}, noL d = true → Tv K H d v → Lv K H d v
  | .none, _, _, h => h
  | .bool b, _, _, h => h
  | .int i, _, _, h => h
  | .str s, _, _, h => h
  | .tuple ds, _, n, h => by
    obtain ⟨a, xs, e, s, l⟩ := h
    exact ⟨a, xs, e, s, lvl_of (by simp only [noL] at n; exact n) l⟩
  | .list ds, _, n, _ => by simp [noL] at n
  | .dict _, _, n, _ => by simp [noL] at n
theorem lvl_of : ∀ {ds : List PyData} {vs : List V}, noLs ds = true → TvL K H ds vs → LvL K H ds vs
  | [], _, _, h => h
  | d :: ds, _, n, h => by
    obtain ⟨x, xs, e, t, l⟩ := h
    simp only [noLs, Bool.and_eq_true] at n
    exact ⟨x, xs, e, lv_of n.1 t, lvl_of n.2 l⟩
end
theorem noLs_of : ∀ {ds : List PyData}, (∀ d ∈ ds, noL d = true) → noLs ds = true
  | [], _ => by simp only [noLs]
  | d :: ds, h => by
    simp only [noLs, Bool.and_eq_true]
    exact ⟨h d List.mem_cons_self, noLs_of fun e m => h e (List.mem_cons_of_mem _ m)⟩
end
section
variable {K : PySem.W.Frag} {H H' : Hp} {σ : L2.St} {ρ ρ' ρ2 : Rho} {te ta tb tc : TE} {tl tr : TA} {t u : TT} {x y d e : PyData} {ds es : List PyData} {b c : Bool} {ts tu tz : TS}
/-! ### lists -/
theorem sl_of {a : Addr} {xs : List V} (h : H a = some (.lst xs)) : SqL K H a xs := SqL.of h
theorem xe_ixL {i : Int} (ha : XE K ta ρ (.list ds)) (hb : XE K tb ρ (.int i)) (h : atI ds i = some d := by rfl) : XE K (tOp (rIxL K) ta tb) ρ d := fun σ H Q en q =>
  ha σ H _ en fun v H1 s1 tv => hb σ H1 _ (en.next s1) fun w H2 s2 tw => by
    obtain ⟨a, xs, rfl, sq, l⟩ := tv.carry s2
    obtain ⟨x, hx, tx⟩ := lw_atI l h
    have e : w = .int i := tw
    subst e
    exact ⟨a, xs, i, x, rfl, rfl, SqL.of sq, hx, q x H2 (s1.trans s2) tx⟩
theorem xe_slL {t1 t2 : TO} {lo hi : Option Int} (h : XE K te ρ (.list ds)) (h1 : XO K t1 ρ lo) (h2 : XO K t2 ρ hi) (he : Pu.cutD ds lo hi = es := by rfl) : XE K (tSl (rSlL K) te t1 t2) ρ (.list es) := fun σ H Q en q =>
  h σ H _ en fun v H1 s1 tv => h1 σ H1 _ (en.next s1) fun H2 s2 => h2 σ H2 _ (en.next (s1.trans s2)) fun H3 s3 => by
    obtain ⟨a, xs, rfl, sq, l⟩ := tv.carry (s2.trans s3)
    have e := lw_len l
    refine ⟨a, xs, rfl, SqL.of sq, fun p hp => q _ _ (((s1.trans s2).trans s3).trans (Pu.same_put hp)) ⟨p, _, rfl, upd_same, LvL.carry (Pu.same_put hp) ?_⟩⟩
    rw [← he]
    unfold Pu.cutD cutV
    rw [← e]
    exact lw_take _ (lw_drop _ l)
theorem xe_lst (h : XA K tl ρ ds) (hl : ds.length ≤ 1000 := by decide) : XE K (tLst tl) ρ (.list ds) := fun σ H Q en q =>
  h σ H _ en fun vs H1 s1 tv => ⟨by rw [lw_len tv]; exact Nat.le_of_lt (small1000 hl), fun p hp => q _ _ (s1.trans (Pu.same_put hp)) ⟨p, vs, rfl, upd_same, LvL.carry (Pu.same_put hp) tv⟩⟩
theorem xe_lenL (ha : XE K ta ρ (.list ds)) : XE K (tCB (fun xs H Q => ∃ p ys, xs = [.ref p] ∧ (SqL K H p ys ∨ SqT K H p ys) ∧ Q (.int ys.length) H) (tCons ta tNil)) ρ (.int ds.length) := fun σ H Q en k =>
  ha σ H _ en fun v H1 s1 tv => by
    obtain ⟨a, xs, rfl, sq, l⟩ := tv
    refine ⟨a, xs, rfl, .inl (SqL.of sq), ?_⟩
    rw [lw_len l]
    exact k _ H1 s1 rfl
theorem xe_lenS {z : Str} (ha : XE K ta ρ (.str z)) (hz : z.length ≤ 100000) : XE K (tCB (fun xs H Q => ∃ z, xs = [.str z] ∧ z.length ≤ sizeLine ∧ Q (.int z.length) H) (tCons ta tNil)) ρ (.int z.length) := fun σ H Q en k =>
  ha σ H _ en fun v H1 s1 tv => by
    have e1 : v = .str z := tv
    subst e1
    exact ⟨z, rfl, Nat.le_trans hz (by decide), k _ H1 s1 rfl⟩
theorem xe_ixS {z : Str} {i : Int} {c : Nat} (ha : XE K ta ρ (.str z)) (hb : XE K tb ρ (.int i)) (h : atI z.cps.toList i = some c) (hz : z.length ≤ 100000) : XE K (tOp rIxS ta tb) ρ (.str ⟨#[c]⟩) := fun σ H Q en q =>
  ha σ H _ en fun v H1 s1 tv => hb σ H1 _ (en.next s1) fun w H2 s2 tw => by
    have e1 : v = .str z := tv
    have e : w = .int i := tw
    subst e1 e
    exact ⟨z, i, c, rfl, rfl, Nat.le_trans hz (by decide), h, q _ H2 (s1.trans s2) rfl⟩
theorem xt_truL (ha : XE K ta ρ (.list ds)) : XT K (fun σ H Q => ta σ H fun x H' => ∃ k, TruV K x H' k ∧ Q k H') ρ (!ds.isEmpty) := fun σ H Q en q =>
  ha σ H _ en fun v H1 s1 tv => by
    obtain ⟨a, xs, rfl, sq, l⟩ := tv
    refine ⟨!xs.isEmpty, .inl ⟨xs, SqL.of sq, rfl⟩, ?_⟩
    have e : xs.isEmpty = ds.isEmpty := by
      have := lw_len l
      cases xs <;> cases ds <;> first | rfl | simp at this
    rw [e]
    exact q H1 s1
theorem xe_tupL (ha : XE K ta ρ (.list ds)) : XE K (tCB (fun xs H Q => ∃ p ys, xs = [.ref p] ∧ ((SqL K H p ys ∧ ∀ l, H l = none → Q (.ref l) (upd H l (.tup ys))) ∨ (SqT K H p ys ∧ Q (.ref p) H))) (tCons ta tNil)) ρ (.tuple ds) := fun σ H Q en k =>
  ha σ H _ en fun v H1 s1 tv => by
    obtain ⟨a, xs, rfl, sq, l⟩ := tv
    exact ⟨a, xs, rfl, .inl ⟨SqL.of sq, fun l' hl => k _ _ (s1.trans (Pu.same_put hl)) ⟨l', xs, rfl, SqT.of upd_same, LvL.carry (Pu.same_put hl) l⟩⟩⟩
theorem xe_tupT (ha : XE K ta ρ (.tuple ds)) : XE K (tCB (fun xs H Q => ∃ p ys, xs = [.ref p] ∧ ((SqL K H p ys ∧ ∀ l, H l = none → Q (.ref l) (upd H l (.tup ys))) ∨ (SqT K H p ys ∧ Q (.ref p) H))) (tCons ta tNil)) ρ (.tuple ds) := fun σ H Q en k =>
  ha σ H _ en fun v H1 s1 tv => by
    obtain ⟨a, xs, rfl, sq, l⟩ := tv
    exact ⟨a, xs, rfl, .inr ⟨sq, k _ H1 s1 ⟨a, xs, rfl, sq, l⟩⟩⟩
theorem tyx_lv {v : V} (h : Lv K H d v) : TyX K H v (.type (tyD d)) := by
  cases d with
  | none => cases h; exact .base .non
  | bool b => cases h; exact .base (.bl b)
  | int i => cases h; exact .base (.int i)
  | str s => cases h; exact .base (.str s)
  | tuple ds => obtain ⟨a, xs, rfl, s, _⟩ := h; exact tyx_tup s
  | list ds => obtain ⟨a, xs, rfl, s, _⟩ := h; exact .base (.lst s)
  | dict ds => exact False.elim h
theorem xe_isi {n : String} (ha : XE K ta ρ d) (h : kitB (tyD d) n = some b := by decide +kernel) : XE K (tCB (rIsi K) (tCons ta (tCons (tC (.ty n)) tNil))) ρ (.bool b) := fun σ H Q en k =>
  ha σ H _ en fun v H1 s1 tv => ⟨v, .ty n, .type (tyD d), .type n, b, rfl, .ty n, tyx_lv tv, kit_ty h, k _ H1 s1 rfl⟩
mutual
theorem dp_lv : ∀ (d : PyData) (v : V), PyData.canLay0 d = true → Lv K H d v → Dp K H v d
  | .none, v, _, h => by cases h; exact .non
  | .bool b, v, _, h => by cases h; exact .bl b
  | .int i, v, _, h => by cases h; exact .int i
  | .str s, v, _, h => by cases h; exact .str s
  | .tuple ds, v, c, h => by
    obtain ⟨a, xs, rfl, s, l⟩ := h
    exact .tup s (dps_lv ds xs c l)
  | .list ds, v, c, h => by
    obtain ⟨a, xs, rfl, s, l⟩ := h
    exact .lst (SqL.of s) (dps_lv ds xs c l)
  | .dict ds, v, c, h => False.elim h
theorem dps_lv : ∀ (ds : List PyData) (vs : List V), PyData.canLayAll0 ds = true → LvL K H ds vs → DpAll K H vs ds
  | [], vs, _, h => by cases h; exact .nil
  | d :: ds, vs, c, h => by
    obtain ⟨x, xs, rfl, t, l⟩ := h
    have c' : (PyData.canLay0 d && PyData.canLayAll0 ds) = true := c
    rw [Bool.and_eq_true] at c'
    exact .cons (dp_lv d x c'.1 t) (dps_lv ds xs c'.2 l)
end
/-- deep equality -/
theorem xe_eqD (ha : XE K ta ρ d) (hb : XE K tb ρ e) (sd : SeqAt.shaped d = true) (se : SeqAt.shaped e = true) : XE K (tOp (rEqD K) ta tb) ρ (.bool (PyData.eqv d e)) := fun σ H Q en k =>
  ha σ H _ en fun v H1 s1 tv => hb σ H1 _ (en.next s1) fun w H2 s2 tw =>
    ⟨d, e, dp_lv d v (by unfold SeqAt.shaped at sd; rw [Bool.and_eq_true] at sd; exact sd.1) (tv.carry s2), dp_lv e w (by unfold SeqAt.shaped at se; rw [Bool.and_eq_true] at se; exact se.1) tw, sd, se, k _ H2 (s1.trans s2) rfl⟩
theorem xe_nin {z : Str} {zs : List Str} (ha : XE K ta ρ (.str z)) (hb : XE K tb ρ (.tuple ds)) (hs : strsOf ds = some zs) (h : (!decide (z ∈ zs)) = b) : XE K (tOp (rIn K true) ta tb) ρ (.bool b) := fun σ H Q en k =>
  ha σ H _ en fun v H1 s1 tv => hb σ H1 _ (en.next s1) fun w H2 s2 tw => by
    have e1 : v = .str z := tv
    subst e1
    obtain ⟨a, xs, rfl, sq, l⟩ := tw
    have e2 := strs_lv hs l
    subst e2
    refine ⟨a, _, rfl, .inr sq, rfl, all_flat zs, ?_⟩
    show Q (.bl (!inV (.str z) (zs.map V.str))) H2
    rw [Pu.in_strs, h]
    exact k _ H2 (s1.trans s2) rfl
theorem xn_unL2 {i j : Nat} (h : XE K te ρ (.list [x, y])) : XN K (tAsg te (gLst K 2 (gCons (gName i) (gCons (gName j) gNil)))) ρ ((ρ.set i (some x)).set j (some y)) := fun D σ H en q => h σ H _ en fun v H1 s1 tv => by
  obtain ⟨a, xs, rfl, sq, v1, r1, rfl, t1, v2, r2, rfl, t2, rfl⟩ := tv
  exact ⟨a, _, rfl, SqL.of sq, rfl, v1, _, rfl, v2, _, rfl, rfl, q _ H1 s1 (((en.next s1).put t1).put t2)⟩
theorem xr_unL2 {i j : Nat} (h : XE K te ρ (.list [x, y])) (g : XR K tu ((ρ.set i (some x)).set j (some y)) e) : XR K (tSeq (tAsg te (gLst K 2 (gCons (gName i) (gCons (gName j) gNil)))) tu) ρ e := xr_seq (xn_unL2 h) g
/-! ### comprehensions whose items are data without lists -/
theorem XEn.wipe {i : Nat} (h : XEn K H σ ρ) : XEn K H (wipe σ [i]) (ρ.set i none) := ⟨by show (σ.set i none).length = _; rw [List.length_set, List.length_set]; exact h.1, fun j d q => by
  show ∃ v, (σ.set i none)[j]? = some (some v) ∧ _
  rw [List.getElem?_set] at q ⊢
  by_cases c : i = j
  · rw [if_pos c] at q
    split at q <;> cases q
  · rw [if_neg c] at q ⊢
    exact h.2 j d q⟩
theorem wipe1 (σ : L2.St) (i : Nat) (z : V) : wipe ((wipe σ [i]).set i (some z)) [i] = wipe σ [i] := by
  show (((σ.set i none).set i (some z)).set i none) = σ.set i none
  rw [List.set_set, List.set_set]
/-- the walk's turns, over a list -/
theorem xe_lc {α : Type} {l : List α} {enc g : α → PyData} {i : Nat} {ti : TE} (hi : XE K ti ρ (.list (l.map enc))) (hl : l.length ≤ 10000000) (hn : ∀ x ∈ l, noL (g x) = true) (step : ∀ x ∈ l, XE K te ((ρ.set i none).set i (some (enc x))) (g x)) :
    XE K (tLc (iList K ti) (gName i) tYes te [i]) ρ (.list (l.map g)) := fun σ H Q en q =>
  hi σ H _ en fun v H1 s1 tv => by
    obtain ⟨a, xs, rfl, sq, tl⟩ := tv
    have big : 10000002 ≤ sizeLine := by decide
    have lx : xs.length = l.length := by rw [lw_len tl, List.length_map]
    refine ⟨a, rfl, ⟨xs, SqL.of sq⟩, fun D hD => ?_⟩
    refine lc_list (K := K) (a := a) (xs := xs) (fun j H' => Same H1 H' ∧ ∃ ys, H' D = some (.lst ys) ∧ TvL K H' ((l.take j).map g) ys) ⟨same_alloc hD, [], upd_same, rfl⟩ (fun j H' _ h => SqL.of (h.1 _ _ sq)) ?_ ?_
    · rintro j z H5 hj ⟨s5, ys, eD, ty⟩
      have jl : j < l.length := by rw [← lx]; exact (List.getElem?_eq_some_iff.mp hj).1
      obtain ⟨e, he⟩ : ∃ e, l[j]? = some e := ⟨_, List.getElem?_eq_getElem jl⟩
      have em := List.mem_of_getElem? he
      obtain ⟨z', hz', tz⟩ := lw_get (j := j) (d := enc e) (LvL.carry s5 tl) (by rw [List.getElem?_map, he]; rfl)
      rw [hj] at hz'
      cases hz'
      have tke : (l.take (j + 1)).map g = (l.take j).map g ++ [g e] := by
        rw [List.take_add_one, he, List.map_append]
        rfl
      refine ⟨wipe1 σ i z, step e em _ H5 _ (((en.next (s1.trans s5)).wipe).put tz) fun u H6 s6 tu => ?_⟩
      refine ⟨ys, s6 _ _ eD, ?_, same_put (s5.trans s6) hD, ys ++ [u], upd_same, ?_⟩
      · rw [tvl_len ty, List.length_map, List.length_take]
        omega
      · rw [tke]
        have e6 := s6 _ _ eD
        exact tvl_append (TvL.carry (carry_store e6) _ _ (TvL.carry (same_carry s6) _ _ ty)) (Tv.carry (carry_store e6) _ _ (tv_of (hn e em) tu))
    · rintro H5 ⟨s5, ys, eD, ty⟩
      rw [lx, List.take_length] at ty
      exact q _ H5 (s1.trans s5) ⟨D, ys, rfl, eD, lvl_of (noLs_of fun d m => by obtain ⟨x, hx, rfl⟩ := List.mem_map.mp m; exact hn x hx) ty⟩
/-- over a text, sign by sign -/
theorem xe_lcS {z : Str} {g : Nat → PyData} {i : Nat} {ti : TE} (hi : XE K ti ρ (.str z)) (hl : z.cps.toList.length ≤ 10000000) (hn : ∀ c ∈ z.cps.toList, noL (g c) = true) (step : ∀ c ∈ z.cps.toList, XE K te ((ρ.set i none).set i (some (.str ⟨#[c]⟩))) (g c)) :
    XE K (tLc (iStr ti) (gName i) tYes te [i]) ρ (.list (z.cps.toList.map g)) := fun σ H Q en q =>
  hi σ H _ en fun v H1 s1 tv => by
    have e1 : v = .str z := tv
    subst e1
    have big : 10000002 ≤ sizeLine := by decide
    refine ⟨z, rfl, fun D hD => ?_⟩
    refine ⟨fun j m H' => m = z.cps.size - j ∧ j ≤ z.cps.size ∧ Same H1 H' ∧ ∃ ys, H' D = some (.lst ys) ∧ TvL K H' ((z.cps.toList.take j).map g) ys, ⟨z.cps.size, by omega, Nat.zero_le _, same_alloc hD, [], upd_same, rfl⟩, ?_⟩
    rintro j m H5 ⟨rfl, jl, s5, ys, eD, ty⟩
    by_cases lt : j < z.cps.size
    · refine .inr ⟨lt, fun H' => j + 1 ≤ z.cps.size ∧ Same H1 H' ∧ ∃ ys, H' D = some (.lst ys) ∧ TvL K H' ((z.cps.toList.take (j + 1)).map g) ys, fun H' p => ⟨z.cps.size - (j + 1), by omega, rfl, p⟩, ?_⟩
      rintro x H' ⟨rfl, c, hc, rfl⟩
      have hc2 : z.cps.toList[j]? = some c := by rw [Array.getElem?_toList]; exact hc
      have em := List.mem_of_getElem? hc2
      have tke : (z.cps.toList.take (j + 1)).map g = (z.cps.toList.take j).map g ++ [g c] := by
        rw [List.take_add_one, hc2, List.map_append]
        rfl
      have tz : Lv K H' (.str ⟨#[c]⟩) (.str ⟨#[c]⟩) := rfl
      refine ⟨wipe1 σ i _, step c em _ H' _ (((en.next (s1.trans s5)).wipe).put tz) fun u H6 s6 tu => ?_⟩
      refine ⟨ys, s6 _ _ eD, ?_, lt, same_put (s5.trans s6) hD, ys ++ [u], upd_same, ?_⟩
      · rw [tvl_len ty, List.length_map, List.length_take]
        omega
      · rw [tke]
        have e6 := s6 _ _ eD
        exact tvl_append (TvL.carry (carry_store e6) _ _ (TvL.carry (same_carry s6) _ _ ty)) (Tv.carry (carry_store e6) _ _ (tv_of (hn c em) tu))
    · have ej : j = z.cps.toList.length := by
        have : z.cps.toList.length = z.cps.size := by simp
        omega
      refine .inl ⟨by show z.cps.size ≤ j; omega, ?_⟩
      rw [ej, List.take_length] at ty
      exact q _ H5 (s1.trans s5) ⟨D, ys, rfl, eD, lvl_of (noLs_of fun d m => by obtain ⟨x, hx, rfl⟩ := List.mem_map.mp m; exact hn x hx) ty⟩
theorem lw_bools {H : Hp} : ∀ {bs : List Bool} {xs : List V}, LvL K H (bs.map PyData.bool) xs → xs = bs.map V.bl
  | [], xs, l => l
  | b :: r, xs, l => by
    obtain ⟨x, ys, rfl, t, l2⟩ := l
    have : x = .bl b := t
    rw [this, lw_bools l2]
    rfl
theorem xe_all {bs : List Bool} (ha : XE K ta ρ (.list (bs.map PyData.bool))) : XE K (tCB (rAll K) (tCons ta tNil)) ρ (.bool (bs.all id)) := fun σ H Q en k =>
  ha σ H _ en fun v H1 s1 tv => by
    obtain ⟨a, xs, rfl, sq, l⟩ := tv
    have e := lw_bools l
    subst e
    exact ⟨a, bs, rfl, SqL.of sq, k _ H1 s1 rfl⟩
theorem xe_inS {p q : Str} (ha : XE K ta ρ (.str p)) (hb : XE K tb ρ (.str q)) (h : (!(Builtin.Str.occurrences q p 0 q.length 1).isEmpty) = b) : XE K (tOp (fun x y H Q => ∃ i j, x = .str i ∧ y = .str j ∧ Q (.bl (!(Builtin.Str.occurrences j i 0 j.length 1).isEmpty)) H) ta tb) ρ (.bool b) := fun σ H Q en k =>
  ha σ H _ en fun v H1 s1 tv => hb σ H1 _ (en.next s1) fun w H2 s2 tw => by
    have e1 : v = .str p := tv
    have e2 : w = .str q := tw
    subst e1 e2
    exact ⟨p, q, rfl, rfl, k _ H2 (s1.trans s2) (by rw [h]; rfl)⟩
theorem xe_ninS {p q : Str} (ha : XE K ta ρ (.str p)) (hb : XE K tb ρ (.str q)) (h : (Builtin.Str.occurrences q p 0 q.length 1).isEmpty = b) : XE K (tOp (fun x y H Q => ∃ i j, x = .str i ∧ y = .str j ∧ Q (.bl (Builtin.Str.occurrences j i 0 j.length 1).isEmpty) H) ta tb) ρ (.bool b) := fun σ H Q en k =>
  ha σ H _ en fun v H1 s1 tv => hb σ H1 _ (en.next s1) fun w H2 s2 tw => by
    have e1 : v = .str p := tv
    have e2 : w = .str q := tw
    subst e1 e2
    exact ⟨p, q, rfl, rfl, k _ H2 (s1.trans s2) (by rw [h]; rfl)⟩
theorem xe_intS {z : Str} {n : Int} (ha : XE K ta ρ (.str z)) (h : PySem.intText? z = some n) (hz : z.length ≤ 640) : XE K (tCB (fun xs H Q => ∃ a n, xs = [.str a] ∧ PySem.intText? a = some n ∧ a.length ≤ 640 ∧ Q (.int n) H) (tCons ta tNil)) ρ (.int n) := fun σ H Q en k =>
  ha σ H _ en fun v H1 s1 tv => by
    have e1 : v = .str z := tv
    subst e1
    exact ⟨z, n, rfl, h, hz, k _ H1 s1 rfl⟩
end
end Px

namespace Px
open PySem L2 Tr Pu Sd PyProof.Rows
/-! ### parts of forms as data -/
mutual
def encP : PF → PyData
  | .w s i => .tuple [.str s, .int i]
  | .f l i => .tuple [.list (encPs l), .int i]
def encPs : List PF → List PyData
  | [] => []
  | p :: r => encP p :: encPs r
end
theorem encPs_map : ∀ l : List PF, encPs l = l.map encP
  | [] => by simp only [encPs, List.map_nil]
  | p :: r => by simp only [encPs, List.map_cons]; rw [encPs_map r]
theorem strips_map : ∀ l : List PF, strips l = l.map Sd.strip
  | [] => by simp only [strips, List.map_nil]
  | p :: r => by simp only [strips, List.map_cons]; rw [strips_map r]
mutual
theorem lv_RP {K : PySem.W.Frag} {H : Hp} {X : Addr → Prop} : ∀ {p : PF} {v : V}, RP H X p v → Lv K H (encP p) v
  | .w s i, v, h => by
    simp only [RP] at h
    obtain ⟨t, rfl, _, e⟩ := h
    simp only [encP]
    exact ⟨t, _, rfl, SqT.of e, _, _, rfl, rfl, _, _, rfl, rfl, rfl⟩
  | .f l i, v, h => by
    simp only [RP] at h
    obtain ⟨t, a, vs, rfl, _, _, e1, e2, r⟩ := h
    simp only [encP]
    exact ⟨t, _, rfl, SqT.of e1, _, _, rfl, ⟨a, vs, rfl, e2, lvl_RPs r⟩, _, _, rfl, rfl, rfl⟩
theorem lvl_RPs {K : PySem.W.Frag} {H : Hp} {X : Addr → Prop} : ∀ {l : List PF} {vs : List V}, RPs H X l vs → LvL K H (encPs l) vs
  | [], vs, h => by
    simp only [RPs] at h
    simp only [encPs]
    exact h
  | p :: r, vs, h => by
    simp only [RPs] at h
    obtain ⟨v, us, rfl, h1, h2⟩ := h
    simp only [encPs]
    exact ⟨v, us, rfl, lv_RP h1, lvl_RPs h2⟩
end
/-! ### what the text's top holds -/
def tLet : Str := "abcdefghijklmnopqrstuvwxyz"
def tLad : Str := "abcdefghijklmnopqrstuvwxyz0123456789"
def tDig : Str := "0123456789"
def lRes : List Str := ["state", "param", "procedure", "beat", "set", "loop", "if", "call", "let", "at", "add", "sub", "mul", "div", "plus", "minus", "times", "rem", "less", "equal", "zero", "not"]
def lSts : List Str := ["set", "loop", "if", "call", "let"]
def lExs : List Str := ["at", "add", "sub", "mul", "div"]
def lIxs : List Str := ["plus", "minus", "times", "rem"]
def lTss : List Str := ["less", "equal", "zero", "not"]
def lDcs : List Str := ["state", "param", "procedure", "beat"]
/-- how many parts a form with this head has -/
def tParts : List (Str × Int × Option Int) := [("state", 2, some 3), ("param", 2, some 3), ("procedure", 4, none), ("beat", 1, none), ("set", 3, some 3), ("loop", 3, none), ("if", 4, some 4), ("call", 4, some 4), ("let", 3, none), ("at", 3, some 3), ("add", 3, some 3), ("sub", 3, some 3), ("mul", 3, some 3), ("div", 3, some 3), ("plus", 3, some 3), ("minus", 3, some 3), ("times", 3, some 3), ("rem", 3, some 3), ("less", 3, some 3), ("equal", 3, some 3), ("zero", 2, some 2), ("not", 2, some 2)]
def encO2 : Option Int → V
  | none => .non
  | some i => .int i
/-- a tuple of texts of the module -/
structure GT (K : PySem.W.Frag) (mg : Str → Option Value) (x : Str) (zs : List Str) where
  a : Addr
  m : mg x = some (.ref a)
  sq : ∀ H : Hp, SqT K H a (zs.map V.str)
  lk : ∃ o, K.lookup a = some o ∧ o.cls = .type "tuple" ∧ o.dict = none
theorem vals_abs : ∀ {xs : List V} {us : List Value}, us.map absV = xs.map some → Vals xs us
  | [], [], _ => .nil
  | [], u :: us, h => by simp at h
  | x :: xs, [], h => by simp at h
  | x :: xs, u :: us, h => by
    simp only [List.map_cons, List.cons.injEq] at h
    refine .cons ?_ (vals_abs h.2)
    have h1 := h.1
    cases u <;> simp only [absV] at h1 <;> first | (cases h1; exact ⟨_, rfl⟩) | (cases h1; rfl) | cases h1
theorem sqT_lk {K : PySem.W.Frag} {a : Addr} {its : Array Value} {n : Nat} {sl : Array (Option Value)} {xs : List V} (l : K.lookup a = some ⟨.type "tuple", none, .seq its n, sl⟩) (hs : its.size ≤ sizeLine) (e : its.toList.map absV = xs.map some) (H : Hp) : SqT K H a xs := .inr ⟨_, its, n, l, rfl, rfl, hs, vals_abs e⟩
def GT.mk' {K : PySem.W.Frag} {mg : Str → Option Value} {x : Str} {zs : List Str} {a : Addr} {its : Array Value} {n : Nat} {sl : Array (Option Value)} (m : mg x = some (.ref a)) (l : K.lookup a = some ⟨.type "tuple", none, .seq its n, sl⟩) (hs : its.size ≤ sizeLine) (e : its.toList.map absV = (zs.map V.str).map some) : GT K mg x zs :=
  ⟨a, m, sqT_lk l hs e, _, l, rfl, rfl⟩
structure Gx (w : World) (K : PySem.W.Frag) (mg : Str → Option Value) where
  t1 : Tok
  mSize : mg "MAX_SIZE" = some (.int 8 t1)
  t2 : Tok
  prime : mg "PRIME" = some (.int 2147483647 t2)
  t3 : Tok
  mInt : mg "MAX_INTEGER" = some (.int 1000 t3)
  t4 : Tok
  lName : mg "LONGEST_NAME" = some (.int 8 t4)
  t5 : Tok
  lNum : mg "LONGEST_NUMERAL" = some (.int 10 t5)
  t6 : Tok
  «let» : mg "LETTERS" = some (.str tLet t6)
  t7 : Tok
  lad : mg "LETTERS_AND_DIGITS" = some (.str tLad t7)
  t8 : Tok
  dig : mg "DIGITS" = some (.str tDig t8)
  res : GT K mg "RESERVED" lRes
  sts : GT K mg "STATEMENTS" lSts
  exs : GT K mg "EXPRESSIONS" lExs
  ixs : GT K mg "INDEXES" lIxs
  tss : GT K mg "TESTS" lTss
  dcs : GT K mg "DECLARATIONS" lDcs
  zall : mg "all" = none
  pd : Addr
  pes : Array DictEntry
  pn : Nat
  pm : mg "PARTS" = some (.ref pd)
  pk : KDict K w pd pes pn
  pt : ∀ r ∈ tParts, ∃ b : Addr, PySem.W.nsIn K pd r.1 = some (some (.ref b)) ∧ ∀ H : Hp, SqT K H b [.int r.2.1, encO2 r.2.2]
section
variable {P : Program} {w : World} {K : PySem.W.Frag} {mg : Str → Option Value} {base : Heap}
theorem lw_strs {H : Hp} : ∀ zs : List Str, LvL K H (zs.map PyData.str) (zs.map V.str)
  | [] => rfl
  | z :: r => ⟨_, _, rfl, rfl, lw_strs r⟩
theorem GT.lv {x : Str} {zs : List Str} (g : GT K mg x zs) (H : Hp) : Lv K H (.tuple (zs.map PyData.str)) (.ref g.a) := ⟨g.a, _, rfl, g.sq H, lw_strs zs⟩
theorem xe_glob {ρ : Rho} {v : V} {d : PyData} (h : ∀ H : Hp, Lv K H d v) : XE K (tC v) ρ d := fun σ H Q en q => q v H (Pu.same_refl H) (h H)
theorem strsOf_map : ∀ zs : List Str, strsOf (zs.map PyData.str) = some zs
  | [] => rfl
  | z :: r => by
    rw [List.map_cons, strsOf, strsOf_map r]
    rfl
section
variable {X : Cx} {d : Addr} {es : Array DictEntry} {n : Nat}
/-- d[z], d a dict of the module with text keys -/
theorem ix_kd (D : KDict X.K X.w d es n) : IxR X (fun x y H Q => ∃ (z : Str) (u0 : Value) (v0 : V), x = .ref d ∧ y = .str z ∧ PySem.W.nsIn X.K d z = some (some u0) ∧ RelV v0 u0 ∧ Q v0 H) := by
  intro value slice pins s σ H x y v u Q I rx ry h hs
  obtain ⟨z, u0, v0, rfl, rfl, e, r, q⟩ := h
  cases rx
  obtain ⟨t, rfl⟩ := ry
  refine tail_any (kd_type D I) slot_dict_getitem.lookup ?_ hs
  exact PySem.wpAny_getItem_of (PySem.strKind_is X.prog X.w z t) (PySem.W.mapOf_K (prog := X.prog) I.kIn D.at_ D.lit) (PySem.W.find_K D.at_ e) ⟨v0, H, I.tok _, r, q⟩
end
def dO2 : Option Int → PyData
  | none => .none
  | some i => .int i
theorem xe_parts (g : Gx w K mg) {ta tb : TE} {ρ : Rho} {h : Str} {lo : Int} {hi : Option Int} (m : (h, lo, hi) ∈ tParts) (ha : ta = tC (.ref g.pd)) (hb : XE K tb ρ (.str h)) :
    XE K (tOp (fun x y H Q => ∃ (z : Str) (u0 : Value) (v0 : V), x = .ref g.pd ∧ y = .str z ∧ PySem.W.nsIn K g.pd z = some (some u0) ∧ RelV v0 u0 ∧ Q v0 H) ta tb) ρ (.tuple [.int lo, dO2 hi]) := fun σ H Q en q => by
  subst ha
  exact hb σ H _ en fun v H1 s1 tv => by
    have e1 : v = .str h := tv
    subst e1
    obtain ⟨b, hb1, hb2⟩ := g.pt _ m
    refine ⟨h, _, .ref b, rfl, rfl, hb1, rfl, q _ H1 s1 ⟨b, _, rfl, hb2 H1, _, _, rfl, rfl, _, _, rfl, ?_, rfl⟩⟩
    cases hi <;> rfl
/-! ### whole numbers, names, numerals -/
abbrev sIsi : Stmt := top 15
abbrev sBtw : Stmt := top 16
abbrev sNam : Stmt := top 17
abbrev nNam : List Str := ["value", "character"]
abbrev sNul : Stmt := top 18
abbrev nNul : List Str := ["value", "character"]
def dIsi (ds : List PyData) (d : PyData) : Prop := ∃ i : Int, ds = [.int i] ∧ d = .bool true
def dBtw (ds : List PyData) (d : PyData) : Prop := ∃ i lo hi : Int, ds = [.int i, .int lo, .int hi] ∧ d = .bool (decide (lo ≤ i) && decide (i ≤ hi))
theorem scIsi : FnScope ["value"] ["value"] (defScope sIsi) := ⟨rfl, rfl, rfl, by decide +kernel, rfl, by decide +kernel, by decide +kernel⟩
theorem scBtw : FnScope ["value", "least", "most"] ["value", "least", "most"] (defScope sBtw) := ⟨rfl, rfl, rfl, by decide +kernel, rfl, by decide +kernel, by decide +kernel⟩
theorem ok_isi {f : Addr} {fd : FuncData} (F : Fun K "is_integer" "is_integer" sIsi f fd) (T : Bi mg) : FnOk P w K mg base CX0 1 f fd ["value"] (spX K 1 dIsi) := by
  refine ok_X F scIsi (by decide) (fun cdv A outer s H E hr => ⟨_, pss_one (ps_ret (pe_and (pe_callB call_isi rfl T.isinstance PyProof.Rows.boot_isinstance (pa_cons (pv 0) (pa_cons (pe_bltn (v := .ty "int") rfl T.int PyProof.Rows.boot_int rfl) pa_nil))) (pe_one (pe_not (pe_callB call_isi rfl T.isinstance PyProof.Rows.boot_isinstance (pa_cons (pv 0) (pa_cons (pe_bltn (v := .ty "bool") rfl T.bool PyProof.Rows.boot_bool rfl) pa_nil))))))), ?_⟩)
  rintro ds d - ⟨i, rfl, rfl⟩
  exact xr_ret (xe_andT (xe_isi (b := true) (d := .int i) (xe_var rfl) (show kitB "int" "int" = some true by decide +kernel)) (xe_not (b := false) (xe_isi (b := false) (d := .int i) (xe_var rfl) (show kitB "int" "bool" = some false by decide +kernel))))
theorem ok_btw {f : Addr} {fd : FuncData} (F : Fun K "is_between" "is_between" sBtw f fd) (c_isi : Cal P w K mg base CX0 1 "is_integer" ["value"] (spX K 1 dIsi)) : FnOk P w K mg base CX0 2 f fd ["value", "least", "most"] (spX K 3 dBtw) := by
  refine ok_X F scBtw (by decide) (fun cdv A outer s H E hr => ⟨_, pss_one (ps_ret (pe_and (pe_call c_isi.ok (hr.mono (by first | decide | omega)) rfl c_isi.m c_isi.kp c_isi.b .nil pass0 (pa_cons (pv 0) pa_nil)) (pe_one (pe_chain op_le op_le (pv 1) (pv 0) (pv 2))))), ?_⟩)
  rintro ds d - ⟨i, lo, hi, rfl, rfl⟩
  exact xr_ret (xe_andT (xe_call (ds := [.int i]) (d := .bool true) (xa_one (xe_var rfl)) (pv_X ⟨i, rfl, rfl⟩)) (xe_chain (i := lo) (j := i) (l := hi) (xe_var rfl) (xe_var rfl) (xe_var rfl)))
end
end Px

namespace Px
open PySem L2 Tr Pu Sd PyProof.Rows
section
variable {K : PySem.W.Frag} {ρ : Rho} {te ta tb : TE} {tl : TA} {tu : TS} {x y d : PyData}
theorem xn_par {i j : Nat} (h : XA K tl ρ [x, y]) : XN K (tPar i j tl) ρ ((ρ.set i (some x)).set j (some y)) := fun D σ H en q => h σ H _ en fun vs H1 s1 tv => by
  obtain ⟨v1, r1, rfl, t1, v2, r2, rfl, t2, rfl⟩ := tv
  exact ⟨v1, v2, rfl, q _ H1 s1 (((en.next s1).put t1).put t2)⟩
theorem xr_par {i j : Nat} {e : PyData} (h : XA K tl ρ [x, y]) (g : XR K tu ((ρ.set i (some x)).set j (some y)) e) : XR K (tSeq (tPar i j tl) tu) ρ e := xr_seq (xn_par h) g
/-- a sign in a text -/
theorem xe_inC {c : Nat} {z : Str} (ha : XE K ta ρ (.str ⟨#[c]⟩)) (hb : XE K tb ρ (.str z)) : XE K (tOp (fun x y H Q => ∃ (c : Nat) (z : Str), x = .str ⟨#[c]⟩ ∧ y = .str z ∧ Q (.bl (decide (c ∈ z.cps.toList))) H) ta tb) ρ (.bool (decide (c ∈ z.cps.toList))) := fun σ H Q en k =>
  ha σ H _ en fun v H1 s1 tv => hb σ H1 _ (en.next s1) fun w H2 s2 tw => ⟨c, z, tv, tw, k _ H2 (s1.trans s2) rfl⟩
theorem xe_ninC {c : Nat} {z : Str} (ha : XE K ta ρ (.str ⟨#[c]⟩)) (hb : XE K tb ρ (.str z)) : XE K (tOp (fun x y H Q => ∃ (c : Nat) (z : Str), x = .str ⟨#[c]⟩ ∧ y = .str z ∧ Q (.bl (!decide (c ∈ z.cps.toList))) H) ta tb) ρ (.bool (!decide (c ∈ z.cps.toList))) := fun σ H Q en k =>
  ha σ H _ en fun v H1 s1 tv => hb σ H1 _ (en.next s1) fun w H2 s2 tw => ⟨c, z, tv, tw, k _ H2 (s1.trans s2) rfl⟩
end
/-! ### what a name, a numeral is -/
def numB (l : List Nat) : Bool := decide (1 ≤ l.length) && decide (l.length ≤ 10) && !(decide (l.headD 0 = 48) && !decide (l = [48])) && l.all fun c => decide (c ∈ tDig.cps.toList)
def namB (s : Str) : Bool := decide (1 ≤ s.length) && decide (s.length ≤ 8) && decide (s.cps.toList.headD 0 ∈ tLet.cps.toList) && !decide (s ∈ lRes) && s.cps.toList.all fun c => decide (c ∈ tLad.cps.toList)
def dNul (ds : List PyData) (d : PyData) : Prop := (∃ s : Str, ds = [.str s] ∧ s.length ≤ 100000 ∧ d = .bool (numB s.cps.toList)) ∨ ∃ l, ds = [.list l] ∧ d = .bool false
def dNam (ds : List PyData) (d : PyData) : Prop := ∃ s : Str, ds = [.str s] ∧ s.length ≤ 100000 ∧ d = .bool (namB s)
theorem str_ext {a b : Str} (h : a.cps.toList = b.cps.toList) : a = b := by
  cases a
  cases b
  congr 1
  exact Array.toList_inj.mp h
theorem str_len (s : Str) : s.length = s.cps.toList.length := by
  show s.cps.size = _
  simp
section
variable {P : Program} {w : World} {K : PySem.W.Frag} {mg : Str → Option Value} {base : Heap}
theorem scNul : FnScope nNul ["value"] (defScope sNul) := ⟨rfl, rfl, rfl, by decide +kernel, rfl, by decide +kernel, by decide +kernel⟩
theorem scNam : FnScope nNam ["value"] (defScope sNam) := ⟨rfl, rfl, rfl, by decide +kernel, rfl, by decide +kernel, by decide +kernel⟩
theorem le_int {a b : Nat} : decide ((a : Int) ≤ (b : Int)) = decide (a ≤ b) := by
  by_cases h : a ≤ b
  · rw [decide_eq_true h, decide_eq_true (by omega)]
  · rw [decide_eq_false h, decide_eq_false (by omega)]
theorem ok_nul {f : Addr} {fd : FuncData} (F : Fun K "is_numeral" "is_numeral" sNul f fd) (T : Bi mg) (g : Gx w K mg) : FnOk P w K mg base CX0 1 f fd ["value"] (spX K 1 dNul) := by
  have nd := scNul.nd
  refine ok_X F scNul (by decide) (fun cdv A outer s H E hr => ⟨_, pss_cons (ps_if (PW.pt (pw_or (pt_not (pt_val (pe_callB call_isi rfl T.isinstance PyProof.Rows.boot_isinstance (pa_cons (pv 0) (pa_cons (pe_bltn (v := .ty "str") rfl T.str PyProof.Rows.boot_str rfl) pa_nil))))) (pw_or1 (pt_not (pt_chain op_le op_le pe_int (pe_callB call_len_str rfl T.len PySem.boot_len (pa_cons (pv 0) pa_nil)) (pe_glob (v := .int 10) (by rfl) g.lNum ⟨_, rfl⟩)))))) (pss_one (ps_ret pe_bl)) pss_nil)
      (pss_cons (ps_if (PW.pt (pw_and (pt_cmpR op_eq (pe_ix ix_str (pv 0) pe_int (fun _ _ => rfl)) pe_str (nomark _)) (pw_and1 (pt_cmpR op_ne (pv 0) pe_str (nomark _))))) (pss_one (ps_ret pe_bl)) pss_nil)
      (pss_one (ps_ret (pe_callB (cr_all rfl) rfl g.zall (by decide +kernel) (pa_cons (pe_lc (own := [("character", 1)]) (g := gName 1) (tt := tYes) rfl nd (pi_str (pv 0)) (blkOk_by (N := nNul) (sc := defScope sNul) (by decide +kernel)) (fun _ _ _ _ _ => pg_name (i := 1) nd rfl (.inl rfl)) (fun _ _ _ _ _ => pts_nil) (fun _ _ _ _ _ => (pe_cmpR op_in_sign (pv 1) (pe_glob (v := .str tDig) (by rfl) g.dig ⟨_, rfl⟩) (by rfl)))) pa_nil))))), ?_⟩)
  rintro ds d - (⟨z, rfl, hz, rfl⟩ | ⟨l, rfl, rfl⟩)
  rotate_left
  · exact xr_whenT (xt_orT (xt_notT (xt_B (xe_isi (b := false) (d := .list l) (xe_var rfl) (show kitB "list" "str" = some false by decide +kernel))))) (xr_ret xe_bl)
  have len : XE K (tCB (fun xs H Q => ∃ z, xs = [.str z] ∧ z.length ≤ sizeLine ∧ Q (.int z.length) H) (tCons (tVar 0) tNil)) [some (.str z), none] (.int z.length) := xe_lenS (xe_var rfl) hz
  have isi : XT K (tB (tCB (rIsi K) (tCons (tVar 0) (tCons (tC (.ty "str")) tNil)))) [some (.str z), none] true := xt_B (xe_isi (b := true) (d := .str z) (xe_var rfl) (show kitB "str" "str" = some true by decide +kernel))
  have chn := xt_test (xe_chain (p := fun i j => decide (i ≤ j)) (q := fun i j => decide (i ≤ j)) (K := K) (ρ := [some (.str z), none]) (i := 1) (j := z.length) (l := 10) xe_int len (xe_glob (d := .int 10) (v := .int 10) fun _ => rfl))
  by_cases c1 : 1 ≤ z.length ∧ z.length ≤ 10
  rotate_left
  · have e : (decide ((1 : Int) ≤ (z.length : Int)) && decide ((z.length : Int) ≤ 10)) = false := by
      rw [Bool.and_eq_false_iff, decide_eq_false_iff_not, decide_eq_false_iff_not]
      omega
    have e2 : numB z.cps.toList = false := by
      unfold numB
      rw [← str_len]
      have : (decide (1 ≤ z.length) && decide (z.length ≤ 10)) = false := by
        rw [Bool.and_eq_false_iff, decide_eq_false_iff_not, decide_eq_false_iff_not]
        omega
      rw [this]
      rfl
    rw [e2]
    rw [e] at chn
    exact xr_whenT (xt_orF (xt_notF isi) (xt_notT chn)) (xr_ret xe_bl)
  have e : (decide ((1 : Int) ≤ (z.length : Int)) && decide ((z.length : Int) ≤ 10)) = true := by
    rw [Bool.and_eq_true, decide_eq_true_iff, decide_eq_true_iff]
    omega
  rw [e] at chn
  refine xr_whenF (xt_orF (xt_notF isi) (xt_notF chn)) ?_
  obtain ⟨c, cs, hc⟩ : ∃ c cs, z.cps.toList = c :: cs := by
    cases q : z.cps.toList with
    | nil => rw [str_len, q] at c1; exact absurd c1.1 (by decide)
    | cons c cs => exact ⟨c, cs, rfl⟩
  have at0 : XE K (tOp rIxS (tVar 0) (tC (.int 0))) [some (.str z), none] (.str ⟨#[c]⟩) := xe_ixS (xe_var rfl) xe_int (by rw [hc]; exact atI_nat (xs := c :: cs) (j := 0) rfl) hz
  have e0 : decide ((⟨#[c]⟩ : Str) = ("0" : Str)) = decide (c = 48) := by
    by_cases h : c = 48
    · rw [decide_eq_true h, h]; decide +kernel
    · rw [decide_eq_false h]
      refine decide_eq_false fun hh => h ?_
      have : (⟨#[c]⟩ : Str).cps.toList = ("0" : Str).cps.toList := by rw [hh]
      have h2 : [c] = [48] := this
      cases h2
      rfl
  have e1 : decide (z = ("0" : Str)) = decide (z.cps.toList = [48]) := by
    by_cases h : z.cps.toList = [48]
    · rw [decide_eq_true h]
      exact decide_eq_true (str_ext h)
    · rw [decide_eq_false h]
      exact decide_eq_false fun hh => h (by rw [hh]; rfl)
  have t1 : XT K _ [some (.str z), none] (decide (c = 48)) := xt_test (xe_eqS at0 (xe_str (z := "0")) e0)
  have t2 : XT K _ [some (.str z), none] (!decide (z.cps.toList = [48])) := xt_test (xe_neS (xe_var (d := .str z) (i := 0) rfl) (xe_str (z := "0")) (by rw [e1]))
  have en : numB z.cps.toList = (!(decide (c = 48) && !decide (z.cps.toList = [48])) && z.cps.toList.all fun c => decide (c ∈ tDig.cps.toList)) := by
    unfold numB
    rw [← str_len, decide_eq_true c1.1, decide_eq_true c1.2, Bool.true_and]
    congr 2
    rw [hc]
    rfl
  rw [en]
  refine xr_when (xt_and t1 fun _ => t2) (fun h => ?_) (fun h => ?_)
  · rw [h]
    exact xr_ret xe_bl
  · rw [h]
    refine xr_ret ?_
    have key := xe_all (K := K) (ρ := [some (.str z), none]) (bs := z.cps.toList.map fun c => decide (c ∈ tDig.cps.toList)) (ta := _) (by
      rw [List.map_map]
      exact xe_lcS (z := z) (g := PyData.bool ∘ fun c => decide (c ∈ tDig.cps.toList)) (i := 1) (xe_var (i := 0) rfl) (by rw [← str_len]; omega) (fun _ _ => rfl) fun c m => xe_inC (xe_var (i := 1) rfl) (xe_glob (d := .str tDig) (v := .str tDig) fun _ => rfl))
    have e3 : (z.cps.toList.map fun c => decide (c ∈ tDig.cps.toList)).all id = z.cps.toList.all fun c => decide (c ∈ tDig.cps.toList) := by
      rw [List.all_map]
      rfl
    rw [e3] at key
    exact key
theorem ok_nam {f : Addr} {fd : FuncData} (F : Fun K "is_name" "is_name" sNam f fd) (T : Bi mg) (g : Gx w K mg) : FnOk P w K mg base CX0 1 f fd ["value"] (spX K 1 dNam) := by
  have nd := scNam.nd
  refine ok_X F scNam (by decide) (fun cdv A outer s H E hr => ⟨_, pss_cons (ps_if (PW.pt (pw_or (pt_not (pt_val (pe_callB call_isi rfl T.isinstance PyProof.Rows.boot_isinstance (pa_cons (pv 0) (pa_cons (pe_bltn (v := .ty "str") rfl T.str PyProof.Rows.boot_str rfl) pa_nil))))) (pw_or1 (pt_not (pt_chain op_le op_le pe_int (pe_callB call_len_str rfl T.len PySem.boot_len (pa_cons (pv 0) pa_nil)) (pe_glob (v := .int 8) (by rfl) g.lName ⟨_, rfl⟩)))))) (pss_one (ps_ret pe_bl)) pss_nil)
      (pss_cons (ps_if (PW.pt (pw_or (pt_cmpR op_notIn_sign (pe_ix ix_str (pv 0) pe_int (fun _ _ => rfl)) (pe_glob (v := .str tLet) (by rfl) g.let ⟨_, rfl⟩) (by rfl)) (pw_or1 (pt_cmpR (inK (K' := K) rfl) (pv 0) (pe_glob (v := .ref g.res.a) (by rfl) g.res.m rfl) (by rfl))))) (pss_one (ps_ret pe_bl)) pss_nil)
      (pss_one (ps_ret (pe_callB (cr_all rfl) rfl g.zall (by decide +kernel) (pa_cons (pe_lc (own := [("character", 1)]) (g := gName 1) (tt := tYes) rfl nd (pi_str (pv 0)) (blkOk_by (N := nNam) (sc := defScope sNam) (by decide +kernel)) (fun _ _ _ _ _ => pg_name (i := 1) nd rfl (.inl rfl)) (fun _ _ _ _ _ => pts_nil) (fun _ _ _ _ _ => (pe_cmpR op_in_sign (pv 1) (pe_glob (v := .str tLad) (by rfl) g.lad ⟨_, rfl⟩) (by rfl)))) pa_nil))))), ?_⟩)
  rintro ds d - ⟨z, rfl, hz, rfl⟩
  have len : XE K (tCB (fun xs H Q => ∃ z, xs = [.str z] ∧ z.length ≤ sizeLine ∧ Q (.int z.length) H) (tCons (tVar 0) tNil)) [some (.str z), none] (.int z.length) := xe_lenS (xe_var rfl) hz
  have isi : XT K (tB (tCB (rIsi K) (tCons (tVar 0) (tCons (tC (.ty "str")) tNil)))) [some (.str z), none] true := xt_B (xe_isi (b := true) (d := .str z) (xe_var rfl) (show kitB "str" "str" = some true by decide +kernel))
  have chn := xt_test (xe_chain (p := fun i j => decide (i ≤ j)) (q := fun i j => decide (i ≤ j)) (K := K) (ρ := [some (.str z), none]) (i := 1) (j := z.length) (l := 8) xe_int len (xe_glob (d := .int 8) (v := .int 8) fun _ => rfl))
  by_cases c1 : 1 ≤ z.length ∧ z.length ≤ 8
  rotate_left
  · have e : (decide ((1 : Int) ≤ (z.length : Int)) && decide ((z.length : Int) ≤ 8)) = false := by
      rw [Bool.and_eq_false_iff, decide_eq_false_iff_not, decide_eq_false_iff_not]
      omega
    have e2 : namB z = false := by
      unfold namB
      have : (decide (1 ≤ z.length) && decide (z.length ≤ 8)) = false := by
        rw [Bool.and_eq_false_iff, decide_eq_false_iff_not, decide_eq_false_iff_not]
        omega
      rw [this]
      rfl
    rw [e2]
    rw [e] at chn
    exact xr_whenT (xt_orF (xt_notF isi) (xt_notT chn)) (xr_ret xe_bl)
  have e : (decide ((1 : Int) ≤ (z.length : Int)) && decide ((z.length : Int) ≤ 8)) = true := by
    rw [Bool.and_eq_true, decide_eq_true_iff, decide_eq_true_iff]
    omega
  rw [e] at chn
  refine xr_whenF (xt_orF (xt_notF isi) (xt_notF chn)) ?_
  obtain ⟨c, cs, hc⟩ : ∃ c cs, z.cps.toList = c :: cs := by
    cases q : z.cps.toList with
    | nil => rw [str_len, q] at c1; exact absurd c1.1 (by decide)
    | cons c cs => exact ⟨c, cs, rfl⟩
  have at0 : XE K (tOp rIxS (tVar 0) (tC (.int 0))) [some (.str z), none] (.str ⟨#[c]⟩) := xe_ixS (xe_var rfl) xe_int (by rw [hc]; exact atI_nat (xs := c :: cs) (j := 0) rfl) hz
  have t1 : XT K _ [some (.str z), none] (!decide (c ∈ tLet.cps.toList)) := xt_test (xe_ninC at0 (xe_glob (d := .str tLet) (v := .str tLet) fun _ => rfl))
  have t2 : XT K _ [some (.str z), none] (decide (z ∈ lRes)) := xt_test (xe_in (K := K) (xe_var (d := .str z) (i := 0) rfl) (xe_glob (d := .tuple (lRes.map PyData.str)) (v := .ref g.res.a) (g.res.lv)) (strsOf_map _) rfl)
  have en : namB z = (!(!decide (c ∈ tLet.cps.toList) || decide (z ∈ lRes)) && z.cps.toList.all fun c => decide (c ∈ tLad.cps.toList)) := by
    unfold namB
    rw [decide_eq_true c1.1, decide_eq_true c1.2, Bool.true_and]
    have : z.cps.toList.headD 0 = c := by rw [hc]; rfl
    rw [this, Bool.not_or, Bool.not_not]
    rfl
  rw [en]
  refine xr_when (xt_or t1 fun _ => t2) (fun h => ?_) (fun h => ?_)
  · rw [h]
    exact xr_ret xe_bl
  · rw [h]
    refine xr_ret ?_
    have key := xe_all (K := K) (ρ := [some (.str z), none]) (bs := z.cps.toList.map fun c => decide (c ∈ tLad.cps.toList)) (ta := _) (by
      rw [List.map_map]
      exact xe_lcS (z := z) (g := PyData.bool ∘ fun c => decide (c ∈ tLad.cps.toList)) (i := 1) (xe_var (i := 0) rfl) (by rw [← str_len]; omega) (fun _ _ => rfl) fun c m => xe_inC (xe_var (i := 1) rfl) (xe_glob (d := .str tLad) (v := .str tLad) fun _ => rfl))
    have e3 : (z.cps.toList.map fun c => decide (c ∈ tLad.cps.toList)).all id = z.cps.toList.all fun c => decide (c ∈ tLad.cps.toList) := by
      rw [List.all_map]
      rfl
    rw [e3] at key
    exact key
end
end Px

namespace Px
open PySem L2 Tr Pu Sd PyProof.Rows
abbrev sRls : Stmt := top 26
abbrev sRnm : Stmt := top 32
abbrev sRnu : Stmt := top 33
abbrev sRhd : Stmt := top 27
abbrev nRhd : List Str := ["part", "heads", "parts", "at", "head", "head_at", "fewest", "most"]
abbrev wdP (s : Str) (i : Int) : PyData := .tuple [.str s, .int i]
abbrev lsP (l : List PyData) (i : Int) : PyData := .tuple [.list l, .int i]
def dRls (ds : List PyData) (d : PyData) : Prop := ∃ l i, ds = [lsP l i] ∧ d = .list l
def dRnm (ds : List PyData) (d : PyData) : Prop := ∃ (s : Str) (i : Int), ds = [wdP s i] ∧ s.length ≤ 100000 ∧ namB s = true ∧ d = .str s
def dRnu (ds : List PyData) (d : PyData) : Prop := ∃ (s : Str) (i lo hi n : Int), ds = [wdP s i, .int lo, .int hi] ∧ numB s.cps.toList = true ∧ PySem.intText? s = some n ∧ lo ≤ n ∧ n ≤ hi ∧ d = .int n
def leO : Nat → Option Int → Prop
  | _, none => True
  | n, some h => (n : Int) ≤ h
def dRhd (ds : List PyData) (d : PyData) : Prop := ∃ (h : Str) (i at_ lo : Int) (hi : Option Int) (rest : List PyData) (hs : List Str), ds = [lsP (wdP h i :: rest) at_, .tuple (hs.map PyData.str)] ∧ h ∈ hs ∧ (h, lo, hi) ∈ tParts ∧ lo ≤ (rest.length + 1 : Nat) ∧ leO (rest.length + 1) hi ∧ d = .tuple [.str h, .list rest]
theorem cut1 (x : PyData) (l : List PyData) : Pu.cutD (x :: l) (some 1) none = l := by
  unfold Pu.cutD
  have e1 : HT.sIx (x :: l).length 0 (some 1) = 1 := (HT.sIx_nat (x :: l).length 0 1).trans (by rw [List.length_cons]; omega)
  have e2 : HT.sIx (x :: l).length (x :: l).length none = l.length + 1 := rfl
  rw [e1, e2, List.drop_one, List.tail_cons]
  exact List.take_length
theorem xe_of {K : PySem.W.Frag} {te : TE} {ρ : Rho} {a b : Bool} (h : a = b) (g : XE K te ρ (.bool a)) : XE K te ρ (.bool b) := h ▸ g
section
variable {P : Program} {w : World} {K : PySem.W.Frag} {mg : Str → Option Value} {base : Heap}
theorem scRls : FnScope ["part", "parts", "at"] ["part"] (defScope sRls) := ⟨rfl, rfl, rfl, by decide +kernel, rfl, by decide +kernel, by decide +kernel⟩
theorem scRnm : FnScope ["part", "word", "at"] ["part"] (defScope sRnm) := ⟨rfl, rfl, rfl, by decide +kernel, rfl, by decide +kernel, by decide +kernel⟩
theorem scRnu : FnScope ["part", "least", "most", "word", "at"] ["part", "least", "most"] (defScope sRnu) := ⟨rfl, rfl, rfl, by decide +kernel, rfl, by decide +kernel, by decide +kernel⟩
theorem scRhd : FnScope nRhd ["part", "heads"] (defScope sRhd) := ⟨rfl, rfl, rfl, by decide +kernel, rfl, by decide +kernel, by decide +kernel⟩
theorem ok_rls {f : Addr} {fd : FuncData} (F : Fun K "read_list" "read_list" sRls f fd) (T : Bi mg) : FnOk P w K mg base CX0 1 f fd ["part"] (spX K 1 dRls) := by
  have nd := scRls.nd
  refine ok_X F scRls (by decide) (fun cdv A outer s H E hr => ⟨_, pss_cons (ps_asg (pv 0) (pg_tup (by rfl) (pgs_cons (pg_name (i := 1) nd rfl (.inl rfl)) (pgs_cons (pg_name (i := 2) nd rfl (.inl rfl)) pgs_nil))))
      (pss_cons (ps_if (pt_val (pe_callB call_isi rfl T.isinstance PyProof.Rows.boot_isinstance (pa_cons (pv 1) (pa_cons (pe_bltn (v := .ty "str") rfl T.str PyProof.Rows.boot_str rfl) pa_nil)))) (pss_one ps_dead) pss_nil)
      (pss_one (ps_ret (pv 1)))), ?_⟩)
  rintro ds d - ⟨l, i, rfl, rfl⟩
  refine xr_un2 (x := .list l) (y := .int i) (xe_var rfl) ?_
  exact xr_whenF (xt_B (xe_isi (b := false) (d := .list l) (xe_var rfl) (show kitB "list" "str" = some false by decide +kernel))) (xr_ret (xe_var rfl))
theorem ok_rnm {f : Addr} {fd : FuncData} (F : Fun K "read_name" "read_name" sRnm f fd) (c_nam : Cal P w K mg base CX0 1 "is_name" ["value"] (spX K 1 dNam)) : FnOk P w K mg base CX0 2 f fd ["part"] (spX K 1 dRnm) := by
  have nd := scRnm.nd
  refine ok_X F scRnm (by decide) (fun cdv A outer s H E hr => ⟨_, pss_cons (ps_asg (pv 0) (pg_tup (by rfl) (pgs_cons (pg_name (i := 1) nd rfl (.inl rfl)) (pgs_cons (pg_name (i := 2) nd rfl (.inl rfl)) pgs_nil))))
      (pss_cons (ps_if (pt_not (pt_val (pe_call c_nam.ok (hr.mono (by first | decide | omega)) rfl c_nam.m c_nam.kp c_nam.b .nil pass0 (pa_cons (pv 1) pa_nil)))) (pss_one ps_dead) pss_nil)
      (pss_one (ps_ret (pv 1)))), ?_⟩)
  rintro ds d - ⟨z, i, rfl, hz, hn, rfl⟩
  refine xr_un2 (x := .str z) (y := .int i) (xe_var rfl) ?_
  exact xr_whenF (xt_notF (xt_test (xe_call (ds := [.str z]) (d := .bool true) (xa_one (xe_var rfl)) (pv_X ⟨z, rfl, hz, by rw [hn]⟩)))) (xr_ret (xe_var rfl))
theorem ok_rnu {f : Addr} {fd : FuncData} (F : Fun K "read_numeral" "read_numeral" sRnu f fd) (T : Bi mg) (c_nul : Cal P w K mg base CX0 1 "is_numeral" ["value"] (spX K 1 dNul)) (c_btw : Cal P w K mg base CX0 2 "is_between" ["value", "least", "most"] (spX K 3 dBtw)) :
    FnOk P w K mg base CX0 3 f fd ["part", "least", "most"] (spX K 3 dRnu) := by
  have nd := scRnu.nd
  refine ok_X F scRnu (by decide) (fun cdv A outer s H E hr => ⟨_, pss_cons (ps_asg (pv 0) (pg_tup (by rfl) (pgs_cons (pg_name (i := 3) nd rfl (.inl rfl)) (pgs_cons (pg_name (i := 4) nd rfl (.inl rfl)) pgs_nil))))
      (pss_cons (ps_if (PW.pt (pw_or (pt_not (pt_val (pe_call c_nul.ok (hr.mono (by first | decide | omega)) rfl c_nul.m c_nul.kp c_nul.b .nil pass0 (pa_cons (pv 3) pa_nil)))) (pw_or1 (pt_not (pt_val (pe_call c_btw.ok (hr.mono (by first | decide | omega)) rfl c_btw.m c_btw.kp c_btw.b .nil pass0 (pa_cons (pe_callTy call_int_str rfl T.int PyProof.Rows.boot_int (pa_cons (pv 3) pa_nil)) (pa_cons (pv 1) (pa_cons (pv 2) pa_nil))))))))) (pss_one ps_dead) pss_nil)
      (pss_one (ps_ret (pe_callTy call_int_str rfl T.int PyProof.Rows.boot_int (pa_cons (pv 3) pa_nil))))), ?_⟩)
  rintro ds d - ⟨z, i, lo, hi, n, rfl, hn, hz, h1, h2, rfl⟩
  have lz : z.length ≤ 10 := by
    unfold numB at hn
    simp only [Bool.and_eq_true, decide_eq_true_iff] at hn
    rw [str_len]
    exact hn.1.1.2
  refine xr_un2 (x := .str z) (y := .int i) (xe_var rfl) ?_
  have int : ∀ ρ : Rho, ρ[3]? = some (some (.str z)) → XE K _ ρ (.int n) := fun ρ h => xe_intS (xe_var h) hz (Nat.le_trans lz (by decide))
  refine xr_whenF (xt_orF (xt_notF (xt_test (xe_call (ds := [.str z]) (d := .bool true) (xa_one (xe_var rfl)) (pv_X (.inl ⟨z, rfl, Nat.le_trans lz (by decide), by rw [hn]⟩)))))
    (xt_notF (xt_test (xe_call (ds := [.int n, .int lo, .int hi]) (d := .bool true) (xa_cons (int _ rfl) (xa_cons (xe_var rfl) (xa_one (xe_var rfl)))) (pv_X ⟨n, lo, hi, rfl, by rw [decide_eq_true h1, decide_eq_true h2]; rfl⟩))))) ?_
  exact xr_ret (int _ rfl)
theorem ok_rhd {f : Addr} {fd : FuncData} (F : Fun K "read_head" "read_head" sRhd f fd) (T : Bi mg) (g : Gx w K mg) (c_rls : Cal P w K mg base CX0 1 "read_list" ["part"] (spX K 1 dRls)) : FnOk P w K mg base CX0 2 f fd ["part", "heads"] (spX K 2 dRhd) := by
  have nd := scRhd.nd
  refine ok_X F scRhd (by decide) (fun cdv A outer s H E hr => ⟨_, pss_cons (ps_par (i := 2) (j := 3) rfl nd rfl rfl (by decide) rfl rfl (pa_cons (pe_call c_rls.ok (hr.mono (by first | decide | omega)) rfl c_rls.m c_rls.kp c_rls.b .nil pass0 (pa_cons (pv 0) pa_nil)) (pa_cons (pe_ix ix_tup (pv 0) pe_int (fun _ _ => rfl)) pa_nil)) (by rfl))
      (pss_cons (ps_if (pt_not (pt_truth (pv 2) (by intro _; rfl))) (pss_one ps_dead) pss_nil)
      (pss_cons (ps_asg (pe_ix ix_list (pv 2) pe_int (fun _ _ => rfl)) (pg_tup (by rfl) (pgs_cons (pg_name (i := 4) nd rfl (.inl rfl)) (pgs_cons (pg_name (i := 5) nd rfl (.inl rfl)) pgs_nil))))
      (pss_cons (ps_if (pt_cmpR op_notIn_seq (pv 4) (pv 1) (by rfl)) (pss_one ps_dead) pss_nil)
      (pss_cons (ps_asg (pe_ix (ix_kd g.pk) (pe_glob (v := .ref g.pd) (by rfl) g.pm rfl) (pv 4) (fun _ _ => rfl)) (pg_tup (by rfl) (pgs_cons (pg_name (i := 6) nd rfl (.inl rfl)) (pgs_cons (pg_name (i := 7) nd rfl (.inl rfl)) pgs_nil))))
      (pss_cons (ps_if (PW.pt (pw_or (pt_cmpR op_lt (pe_callB call_len_seq rfl T.len PySem.boot_len (pa_cons (pv 2) pa_nil)) (pv 6) (nomark _)) (pw_or1 (PW.pt (pw_and (pt_cmpR op_notN (pv 7) pe_non (nomark _)) (pw_and1 (pt_cmpR op_gt (pe_callB call_len_seq rfl T.len PySem.boot_len (pa_cons (pv 2) pa_nil)) (pv 7) (nomark _)))))))) (pss_one ps_dead) pss_nil)
      (pss_one (ps_ret (pe_tup (pa_cons (pv 4) (pa_cons (pe_slice sl_list (pv 2) (po_some pe_int) po_none) pa_nil)))))))))), ?_⟩)
  rintro ds d - ⟨h, i, at_, lo, hi, rest, hs, rfl, hm, hp, l1, l2, rfl⟩
  refine xr_par (x := .list (wdP h i :: rest)) (y := .int at_) (xa_cons (xe_call (ds := [lsP (wdP h i :: rest) at_]) (xa_one (xe_var rfl)) (pv_X ⟨_, _, rfl, rfl⟩)) (xa_one (xe_ix (i := 1) (ds := [.list (wdP h i :: rest), .int at_]) (xe_var rfl) xe_int rfl))) ?_
  refine xr_whenF (xt_notF (xt_truL (ds := wdP h i :: rest) (xe_var rfl))) ?_
  refine xr_un2 (x := .str h) (y := .int i) (xe_ixL (ds := wdP h i :: rest) (xe_var rfl) xe_int (atI_nat (xs := wdP h i :: rest) (j := 0) rfl)) ?_
  refine xr_whenF (xt_test (xe_nin (b := false) (xe_var (d := .str h) rfl) (xe_var (d := .tuple (hs.map PyData.str)) rfl) (strsOf_map _) (by rw [decide_eq_true hm]; rfl))) ?_
  refine xr_un2 (x := .int lo) (y := dO2 hi) (xe_parts g hp rfl (xe_var rfl)) ?_
  have len : ∀ ρ : Rho, ρ[2]? = some (some (.list (wdP h i :: rest))) → XE K _ ρ (.int ((rest.length + 1 : Nat) : Int)) := fun ρ e => xe_lenL (xe_var e)
  refine xr_whenF (xt_orF (xt_test (xe_of (b := false) (by rw [decide_eq_false (show ¬ ((rest.length + 1 : Nat) : Int) < lo by omega)]) (xe_cmpI (p := fun i j => decide (i < j)) (len _ rfl) (xe_var (d := .int lo) rfl)))) ?_) ?_
  · cases hi with
    | none => exact xt_andF (xt_test (xe_notN (b := false) (d := .none) (fun _ _ _ q => ⟨rfl, q⟩) (xe_var rfl) rfl))
    | some m =>
      have l2' : ((rest.length + 1 : Nat) : Int) ≤ m := l2
      exact xt_andT (xt_test (xe_notN (b := true) (d := .int m) (fun _ _ _ q => ⟨rfl, q⟩) (xe_var rfl) rfl)) (xt_test (xe_of (b := false) (by rw [decide_eq_false (show ¬ ((rest.length + 1 : Nat) : Int) > m by omega)]) (xe_cmpI (p := fun i j => decide (i > j)) (len _ rfl) (xe_var (d := .int m) rfl))))
  · exact xr_ret (xe_tup (ds := [.str h, .list rest]) (xa_cons (xe_var rfl) (xa_one (xe_slL (ds := wdP h i :: rest) (xe_var rfl) (xo_some xe_int) xo_none (cut1 _ _)))) (show 2 ≤ 1000 by decide))
end
end Px

namespace Px
open PySem L2 Tr Pu Sd PyProof.Rows
/-! ### parts that may be compared with a text -/
def okP (p : PF) : Prop := Sh 64 (encP p)
theorem sh_mem {n : Nat} {d : PyData} : ∀ {ds : List PyData}, ShL n ds → d ∈ ds → Sh n d
  | e :: r, h, m => by
    obtain ⟨h1, h2⟩ := h
    have h1' : (e.canLay0 && PyData.canLayAll0 r) = true := h1
    have h2' : max e.depth (PyData.depthAll r) ≤ n := h2
    rw [Bool.and_eq_true] at h1'
    rcases List.mem_cons.mp m with rfl | m
    · exact ⟨h1'.1, by omega⟩
    · exact sh_mem ⟨h1'.2, by omega⟩ m
theorem sh_part {n : Nat} {d e : PyData} (h : Sh n (.tuple [d, e])) : Sh n d := by
  obtain ⟨h1, h2⟩ := h
  have h1' : (d.canLay0 && PyData.canLayAll0 [e]) = true := h1
  have h2' : max d.depth (PyData.depthAll [e]) + 1 ≤ n := h2
  rw [Bool.and_eq_true] at h1'
  exact ⟨h1'.1, by omega⟩
theorem okP.part {s : Str} {i : Int} (h : okP (.w s i)) : SeqAt.shaped (.str s) = true := (sh_part (by unfold okP at h; simp only [encP] at h; exact h) : Sh 64 (.str s)).shaped (Nat.le_refl _)
theorem okP.list {l : List PF} {i : Int} (h : okP (.f l i)) : SeqAt.shaped (.list (encPs l)) = true := (sh_part (by unfold okP at h; simp only [encP] at h; exact h) : Sh 64 (.list (encPs l))).shaped (Nat.le_refl _)
theorem okP.mem {l : List PF} {i : Int} {q : PF} (h : okP (.f l i)) (m : q ∈ l) : okP q := by
  unfold okP at h ⊢
  simp only [encP] at h
  have h1 : Sh 64 (.list (encPs l)) := sh_part h
  obtain ⟨a, b⟩ := h1
  have b' : PyData.depthAll (encPs l) + 1 ≤ 64 := b
  exact sh_mem (ds := encPs l) ⟨a, by omega⟩ (by rw [encPs_map]; exact List.mem_map.mpr ⟨q, m, rfl⟩)
theorem eqv_ls {l : List PyData} {s : Str} : PyData.eqv (.list l) (.str s) = false := by simp only [PyData.eqv]
theorem eqv_ss {a b : Str} : PyData.eqv (.str a) (.str b) = (a == b) := by simp only [PyData.eqv]
/-! ### what a part's form says of it -/
theorem strip_w {p : PF} {s : Str} (h : Sd.strip p = .w s) : ∃ i, p = .w s i := by
  cases p with
  | w z i => simp only [Sd.strip, Fm.w.injEq] at h; subst h; exact ⟨i, rfl⟩
  | f l i => simp [Sd.strip] at h
theorem strip_f {p : PF} {F : List Fm} (h : Sd.strip p = .f F) : ∃ l i, p = .f l i ∧ strips l = F := by
  cases p with
  | w z i => simp [Sd.strip] at h
  | f l i => simp only [Sd.strip, Fm.f.injEq] at h; exact ⟨l, i, rfl, h⟩
theorem strips_c {l : List PF} {F : Fm} {G : List Fm} (h : strips l = F :: G) : ∃ q r, l = q :: r ∧ Sd.strip q = F ∧ strips r = G := by
  cases l with
  | nil => simp [strips] at h
  | cons q r => simp only [strips, List.cons.injEq] at h; exact ⟨q, r, rfl, h.1, h.2⟩
theorem strips_n {l : List PF} (h : strips l = []) : l = [] := by
  cases l with
  | nil => rfl
  | cons q r => simp [strips] at h
theorem strips_a {F G : List Fm} : ∀ {l : List PF}, strips l = F ++ G → ∃ a b, l = a ++ b ∧ strips a = F ∧ strips b = G := by
  induction F with
  | nil => exact fun {l} h => ⟨[], l, rfl, by simp only [strips], h⟩
  | cons x F ih =>
    intro l h
    obtain ⟨q, r, rfl, h1, h2⟩ := strips_c h
    obtain ⟨a, b, rfl, h3, h4⟩ := ih h2
    exact ⟨q :: a, b, rfl, by simp only [strips]; rw [h1, h3], h4⟩
/-! ### names, numerals of the trees -/
def Nm (s : Str) : Prop := namB s = true
theorem Nm.len {s : Str} (h : Nm s) : s.length ≤ 8 := by
  unfold Nm namB at h
  simp only [Bool.and_eq_true, decide_eq_true_iff] at h
  exact h.1.1.1.2
theorem Nm.res {s : Str} (h : Nm s) : s ∉ lRes := by
  unfold Nm namB at h
  simp only [Bool.and_eq_true, decide_eq_true_iff, Bool.not_eq_true', decide_eq_false_iff_not] at h
  exact h.1.2
theorem Nm.first {s : Str} (h : Nm s) : s.cps.toList.headD 0 ∈ tLet.cps.toList := by
  unfold Nm namB at h
  simp only [Bool.and_eq_true, decide_eq_true_iff] at h
  exact h.1.1.2
theorem let_dig : ∀ c ∈ tLet.cps.toList, c ∉ tDig.cps.toList ∧ c ≠ 0 := by decide +kernel
theorem Nm.notNum {s : Str} (h : Nm s) : numB s.cps.toList = false := by
  cases e : numB s.cps.toList with
  | false => rfl
  | true =>
    exfalso
    have f := h.first
    unfold numB at e
    simp only [Bool.and_eq_true, List.all_eq_true, decide_eq_true_iff] at e
    obtain ⟨⟨⟨e1, _⟩, _⟩, e2⟩ := e
    cases q : s.cps.toList with
    | nil => rw [q] at e1; exact absurd e1 (by decide)
    | cons c cs =>
      rw [q] at f e2
      exact (let_dig _ f).1 (e2 c List.mem_cons_self)
theorem dig_iff : ∀ c : Nat, 48 ≤ c → c ≤ 57 → c ∈ tDig.cps.toList := by
  intro c h1 h2
  have : c = 48 ∨ c = 49 ∨ c = 50 ∨ c = 51 ∨ c = 52 ∨ c = 53 ∨ c = 54 ∨ c = 55 ∨ c = 56 ∨ c = 57 := by omega
  rcases this with rfl | rfl | rfl | rfl | rfl | rfl | rfl | rfl | rfl | rfl <;> decide +kernel
theorem num_head : ∀ n : Nat, 0 < n → (TL.numL n).headD 0 ≠ 48 := by
  intro n
  induction n using Nat.strongRecOn with
  | ind n ih =>
    intro h
    by_cases c : n < 10
    · rw [TL.numL_lt c]
      show 48 + n ≠ 48
      omega
    · have := ih (n / 10) (by omega) (by omega)
      rw [TL.numL_step (by omega)]
      cases q : TL.numL (n / 10) with
      | nil => exact absurd q (TL.numL_ne _)
      | cons a r =>
        rw [q] at this
        exact this
theorem numB_num {n : Nat} (h : n < 10 ^ 10) : numB (TL.numL n) = true := by
  unfold numB
  simp only [Bool.and_eq_true, decide_eq_true_iff, List.all_eq_true, Bool.not_eq_true']
  refine ⟨⟨⟨?_, TL.numL_len (by decide) h⟩, ?_⟩, fun c m => ?_⟩
  · cases q : TL.numL n with
    | nil => exact absurd q (TL.numL_ne _)
    | cons a r => rw [List.length_cons]; omega
  · by_cases z : n = 0
    · subst z
      rw [TL.numL_lt (by decide)]
      rfl
    · rw [decide_eq_false (num_head n (by omega))]
      rfl
  · have r := TL.numL_digits n c m
    exact dig_iff c r.1 r.2
def Num (s : Str) (n : Int) : Prop := numB s.cps.toList = true ∧ PySem.intText? s = some n
theorem num_ok {i : Int} (h0 : 0 ≤ i) (h1 : i < 10 ^ 10) : Num (toString i : Str) i := by
  obtain ⟨n, rfl⟩ : ∃ n : Nat, i = (n : Int) := ⟨i.toNat, by omega⟩
  refine ⟨?_, TL.int_num (Nat.le_trans (TL.numL_len (k := 10) (by decide) (by omega)) (by decide))⟩
  have e : (Str.ofString (toString ((n : Nat) : Int))).cps.toList = TL.numL n := TL.tl_num n
  rw [e]
  exact numB_num (by omega)
theorem Num.len {s : Str} {n : Int} (h : Num s n) : s.length ≤ 10 := by
  have h1 := h.1
  unfold numB at h1
  simp only [Bool.and_eq_true, decide_eq_true_iff] at h1
  rw [str_len]
  exact h1.1.1.2
theorem Num.notRes {s : Str} {n : Int} (h : Num s n) {z : Str} (hz : z.cps.toList.headD 0 ∈ tLet.cps.toList) : s ≠ z := by
  rintro rfl
  have h1 := h.1
  unfold numB at h1
  simp only [Bool.and_eq_true, List.all_eq_true, decide_eq_true_iff] at h1
  obtain ⟨⟨⟨e1, _⟩, _⟩, e2⟩ := h1
  cases q : s.cps.toList with
  | nil => rw [q] at e1; exact absurd e1 (by decide)
  | cons c cs =>
    rw [q] at hz e2
    exact (let_dig _ hz).1 (e2 c List.mem_cons_self)
/-! ### what of the trees may be read back -/
def rdIx : Ix → Prop
  | .int n => 0 ≤ n ∧ n ≤ 1000
  | .beat => True
  | .var s => Nm s
  | .rem a n => rdIx a ∧ 1 ≤ n ∧ n ≤ 1000
  | .op _ a b => rdIx a ∧ rdIx b
def rdOx : Option Ix → Prop
  | none => True
  | some x => rdIx x
def rdEx : Ex → Prop
  | .num n => 0 ≤ n ∧ n ≤ 2147483646
  | .place nm ix => Nm nm ∧ rdOx ix
  | .op _ a b => rdEx a ∧ rdEx b
def rdTs : Ts → Prop
  | .zero e => rdEx e
  | .less a b => rdIx a ∧ rdIx b
  | .equal a b => rdIx a ∧ rdIx b
  | .not t => rdTs t
mutual
def rdSt : Tr.St → Prop
  | .set nm ix e => Nm nm ∧ rdOx ix ∧ rdEx e
  | .call g xs ns => Nm g ∧ (∀ x ∈ xs, rdIx x) ∧ ∀ n ∈ ns, Nm n
  | .loop nm c b => Nm nm ∧ rdIx c ∧ rdSts b
  | .ite t a b => rdTs t ∧ rdSts a ∧ rdSts b
  | .bind nm e b => Nm nm ∧ rdEx e ∧ rdSts b
def rdSts : List Tr.St → Prop
  | [] => True
  | s :: r => rdSt s ∧ rdSts r
end
theorem rdSts_mem : ∀ {b : List Tr.St} {s : Tr.St}, rdSts b → s ∈ b → rdSt s
  | x :: r, s, o, h => by
    simp only [rdSts] at o
    rcases List.mem_cons.mp h with rfl | h
    · exact o.1
    · exact rdSts_mem o.2 h
def dRix (k : Nat) (ds : List PyData) (d : PyData) : Prop := ∃ (p : PF) (x : Ix), ds = [encP p] ∧ Sd.strip p = fIx x ∧ okP p ∧ depIx x < k ∧ rdIx x ∧ d = x.enc
def dRpl (k : Nat) (ds : List PyData) (d : PyData) : Prop := ∃ (p : PF) (nm : Str) (ix : Option Ix), ds = [encP p] ∧ Sd.strip p = fPl nm ix ∧ okP p ∧ depOx ix < k ∧ Nm nm ∧ rdOx ix ∧ d = encPl nm ix
def dRex (k : Nat) (ds : List PyData) (d : PyData) : Prop := ∃ (p : PF) (x : Ex), ds = [encP p] ∧ Sd.strip p = fEx x ∧ okP p ∧ depEx x < k ∧ okDx x ∧ rdEx x ∧ d = x.enc
def dRts (k : Nat) (ds : List PyData) (d : PyData) : Prop := ∃ (p : PF) (x : Ts), ds = [encP p] ∧ Sd.strip p = fTs x ∧ okP p ∧ depTs x < k ∧ okDt x ∧ rdTs x ∧ d = x.enc
abbrev sRix : Stmt := top 38
abbrev sRpl : Stmt := top 36
abbrev sRex : Stmt := top 37
abbrev sRts : Stmt := top 39
section
variable {P : Program} {w : World} {K : PySem.W.Frag} {mg : Str → Option Value} {base : Heap}
theorem scRix : FnScope ["part", "head", "parts"] ["part"] (defScope sRix) := ⟨rfl, rfl, rfl, by decide +kernel, rfl, by decide +kernel, by decide +kernel⟩
theorem head_call {ρ : Rho} {ta tb : TE} {E : XK} {h : Str} {i at_ : Int} {q : List PF} {hs : List Str} {lo : Int} {hi : Option Int} (ha : XE K ta ρ (lsP (wdP h i :: encPs q) at_)) (hb : XE K tb ρ (.tuple (hs.map PyData.str))) (hm : h ∈ hs) (hp : (h, lo, hi) ∈ tParts) (l1 : lo ≤ (q.length + 1 : Nat)) (l2 : leO (q.length + 1) hi) :
    XE K (tCall (spX K 2 dRhd) [] E (tCons ta (tCons tb tNil))) ρ (.tuple [.str h, .list (encPs q)]) :=
  xe_call (ds := [lsP (wdP h i :: encPs q) at_, .tuple (hs.map PyData.str)]) (xa_cons ha (xa_one hb)) (pv_X ⟨h, i, at_, lo, hi, encPs q, hs, rfl, hm, hp, by rw [encPs_map, List.length_map]; exact l1, by rw [encPs_map, List.length_map]; exact l2, rfl⟩)
end
end Px

namespace Px
open PySem L2 Tr Pu Sd PyProof.Rows
theorem xe_of' {K : PySem.W.Frag} {te : TE} {ρ : Rho} {a b : PyData} (h : a = b) (g : XE K te ρ a) : XE K te ρ b := h ▸ g
theorem encP_w (s : Str) (i : Int) : encP (.w s i) = wdP s i := by simp only [encP]
theorem encP_f (l : List PF) (i : Int) : encP (.f l i) = lsP (encPs l) i := by simp only [encP]
theorem encPs_c (p : PF) (l : List PF) : encPs (p :: l) = encP p :: encPs l := by simp only [encPs]
theorem encPs_n : encPs [] = [] := by simp only [encPs]
theorem beat_let : ("beat" : Str).cps.toList.headD 0 ∈ tLet.cps.toList := by decide +kernel
theorem sh_beat : SeqAt.shaped (.str "beat") = true := by decide +kernel
theorem bne {a b : Str} (h : a ≠ b) : (a == b) = false := by
  cases e : a == b with
  | false => rfl
  | true => exact absurd (eq_of_beq e) h
theorem xe_t2 {K : PySem.W.Frag} {ρ : Rho} {ta tb : TE} {x y : PyData} (ha : XE K ta ρ x) (hb : XE K tb ρ y) : XE K (tTup (tCons ta (tCons tb tNil))) ρ (.tuple [x, y]) := xe_tup (xa_cons ha (xa_one hb)) (show 2 ≤ 1000 by decide)
theorem xe_t3 {K : PySem.W.Frag} {ρ : Rho} {ta tb tc : TE} {x y z : PyData} (ha : XE K ta ρ x) (hb : XE K tb ρ y) (hc : XE K tc ρ z) : XE K (tTup (tCons ta (tCons tb (tCons tc tNil)))) ρ (.tuple [x, y, z]) := xe_tup (xa_cons ha (xa_cons hb (xa_one hc))) (show 3 ≤ 1000 by decide)
theorem xe_t4 {K : PySem.W.Frag} {ρ : Rho} {ta tb tc td : TE} {x y z u : PyData} (ha : XE K ta ρ x) (hb : XE K tb ρ y) (hc : XE K tc ρ z) (hd : XE K td ρ u) : XE K (tTup (tCons ta (tCons tb (tCons tc (tCons td tNil))))) ρ (.tuple [x, y, z, u]) := xe_tup (xa_cons ha (xa_cons hb (xa_cons hc (xa_one hd)))) (show 4 ≤ 1000 by decide)
section
variable {P : Program} {w : World} {K : PySem.W.Frag} {mg : Str → Option Value} {base : Heap}
theorem ok_rix1 {f : Addr} {fd : FuncData} {k : Nat} (F : Fun K "read_index" "read_index" sRix f fd) (T : Bi mg) (g : Gx w K mg) (c_nul : Cal P w K mg base CX0 1 "is_numeral" ["value"] (spX K 1 dNul)) (c_rnm : Cal P w K mg base CX0 2 "read_name" ["part"] (spX K 1 dRnm)) (c_rnu : Cal P w K mg base CX0 3 "read_numeral" ["part", "least", "most"] (spX K 3 dRnu))
    (c_rhd : Cal P w K mg base CX0 2 "read_head" ["part", "heads"] (spX K 2 dRhd)) (c_rix : Cal P w K mg base CX0 (k + 3) "read_index" ["part"] (spX K 1 (dRix k))) : FnOk P w K mg base CX0 (k + 3 + 1) f fd ["part"] (spX K 1 (dRix (k + 1))) := by
  have nd := scRix.nd
  refine ok_X F scRix (by decide) (fun cdv A outer s H E hr => ⟨_, pss_cons (ps_if (pt_cmpR (op_eqD hr.units) (pe_ix ix_tup (pv 0) pe_int (fun _ _ => rfl)) pe_str (nomark _)) (pss_one (ps_ret (pe_tup (pa_cons pe_str pa_nil)))) pss_nil)
      (pss_cons (ps_if (pt_val (pe_call c_nul.ok (hr.mono (by first | decide | omega)) rfl c_nul.m c_nul.kp c_nul.b .nil pass0 (pa_cons (pe_ix ix_tup (pv 0) pe_int (fun _ _ => rfl)) pa_nil))) (pss_one (ps_ret (pe_tup (pa_cons pe_str (pa_cons (pe_call c_rnu.ok (hr.mono (by first | decide | omega)) rfl c_rnu.m c_rnu.kp c_rnu.b .nil pass0 (pa_cons (pv 0) (pa_cons pe_int (pa_cons (pe_glob (v := .int 1000) (by rfl) g.mInt ⟨_, rfl⟩) pa_nil)))) pa_nil))))) pss_nil)
      (pss_cons (ps_if (pt_val (pe_callB call_isi rfl T.isinstance PyProof.Rows.boot_isinstance (pa_cons (pe_ix ix_tup (pv 0) pe_int (fun _ _ => rfl)) (pa_cons (pe_bltn (v := .ty "str") rfl T.str PyProof.Rows.boot_str rfl) pa_nil)))) (pss_one (ps_ret (pe_tup (pa_cons pe_str (pa_cons (pe_call c_rnm.ok (hr.mono (by first | decide | omega)) rfl c_rnm.m c_rnm.kp c_rnm.b .nil pass0 (pa_cons (pv 0) pa_nil)) pa_nil))))) pss_nil)
      (pss_cons (ps_asg (pe_call c_rhd.ok (hr.mono (by first | decide | omega)) rfl c_rhd.m c_rhd.kp c_rhd.b .nil pass0 (pa_cons (pv 0) (pa_cons (pe_glob (v := .ref g.ixs.a) (by rfl) g.ixs.m rfl) pa_nil))) (pg_tup (by rfl) (pgs_cons (pg_name (i := 1) nd rfl (.inl rfl)) (pgs_cons (pg_name (i := 2) nd rfl (.inl rfl)) pgs_nil))))
      (pss_cons (ps_if (pt_cmpR op_eq (pv 1) pe_str (nomark _)) (pss_one (ps_ret (pe_tup (pa_cons (pv 1) (pa_cons (pe_call c_rix.ok (hr.mono (by first | decide | omega)) rfl c_rix.m c_rix.kp c_rix.b .nil pass0 (pa_cons (pe_ix ix_list (pv 2) pe_int (fun _ _ => rfl)) pa_nil)) (pa_cons (pe_call c_rnu.ok (hr.mono (by first | decide | omega)) rfl c_rnu.m c_rnu.kp c_rnu.b .nil pass0 (pa_cons (pe_ix ix_list (pv 2) pe_int (fun _ _ => rfl)) (pa_cons pe_int (pa_cons (pe_glob (v := .int 1000) (by rfl) g.mInt ⟨_, rfl⟩) pa_nil)))) pa_nil)))))) pss_nil)
      (pss_one (ps_ret (pe_tup (pa_cons (pv 1) (pa_cons (pe_call c_rix.ok (hr.mono (by first | decide | omega)) rfl c_rix.m c_rix.kp c_rix.b .nil pass0 (pa_cons (pe_ix ix_list (pv 2) pe_int (fun _ _ => rfl)) pa_nil)) (pa_cons (pe_call c_rix.ok (hr.mono (by first | decide | omega)) rfl c_rix.m c_rix.kp c_rix.b .nil pass0 (pa_cons (pe_ix ix_list (pv 2) pe_int (fun _ _ => rfl)) pa_nil)) pa_nil)))))))))), ?_⟩)
  rintro ds d - ⟨p, x, rfl, hp, op, hk, ok, rfl⟩
  -- a word: its three tests
  have p0 : ∀ (z : Str) (i : Int), XE K (tOp (rIxT K) (tVar 0) (tC (.int 0))) [some (wdP z i), none, none] (.str z) := fun z i => xe_ix (i := 0) (ds := [.str z, .int i]) (xe_var rfl) xe_int rfl
  have eq : ∀ (z : Str) (i : Int) (b : Bool), SeqAt.shaped (.str z) = true → (z == ("beat" : Str)) = b → XT K (tTest (tOp (rEqD K) (tOp (rIxT K) (tVar 0) (tC (.int 0))) (tC (.str "beat")))) [some (wdP z i), none, none] b := fun z i b h1 h2 =>
    xt_test (xe_of (by rw [eqv_ss, h2]) (xe_eqD (p0 z i) xe_str h1 sh_beat))
  have nul : ∀ (z : Str) (i : Int) (b : Bool), z.length ≤ 100000 → numB z.cps.toList = b → XT K (tTest (tCall (spX K 1 dNul) [] E0 (tCons (tOp (rIxT K) (tVar 0) (tC (.int 0))) tNil))) [some (wdP z i), none, none] b := fun z i b h1 h2 =>
    xt_test (xe_call (ds := [.str z]) (xa_one (p0 z i)) (pv_X (.inl ⟨z, rfl, h1, by rw [h2]⟩)))
  have numC : ∀ (ρ : Rho) (ta tb tc : TE) (q : PF) (n lo hi : Int), Sd.strip q = num n → 0 ≤ n → n < 10 ^ 10 → lo ≤ n → n ≤ hi → XE K ta ρ (encP q) → XE K tb ρ (.int lo) → XE K tc ρ (.int hi) → XE K (tCall (spX K 3 dRnu) [] E0 (tCons ta (tCons tb (tCons tc tNil)))) ρ (.int n) := by
    intro ρ ta tb tc q n lo hi hq n0 n1 l1 l2 ha hb hc
    obtain ⟨i, rfl⟩ := strip_w hq
    rw [encP_w] at ha
    have hn := num_ok n0 n1
    exact xe_call (ds := [wdP (toString n : Str) i, .int lo, .int hi]) (xa_cons ha (xa_cons hb (xa_one hc))) (pv_X ⟨_, i, lo, hi, n, rfl, hn.1, hn.2, l1, l2, rfl⟩)
  have rixC : ∀ (ρ : Rho) (ta : TE) (q : PF) (y : Ix), Sd.strip q = fIx y → okP q → depIx y < k → rdIx y → XE K ta ρ (encP q) → XE K (tCall (spX K 1 (dRix k)) [] E0 (tCons ta tNil)) ρ y.enc := fun ρ ta q y h1 h2 h3 h4 ha =>
    xe_call (ds := [encP q]) (xa_one ha) (pv_X ⟨q, y, rfl, h1, h2, h3, h4, rfl⟩)
  -- the longer ones: to the head
  have front : ∀ (l : List PF) (i : Int) (h : Str) (j : Int) (q1 q2 : PF) (tu : TS) (d : PyData), l = [.w h j, q1, q2] → okP (.f l i) → h ∈ lIxs → (h, 3, some 3) ∈ tParts → XR K tu [some (lsP (encPs l) i), some (.str h), some (.list (encPs [q1, q2]))] d →
      XR K (tSeq (tIfS (tTest (tOp (rEqD K) (tOp (rIxT K) (tVar 0) (tC (.int 0))) (tC (.str "beat")))) (tRet (tTup (tCons (tC (.str "beat")) tNil))) tNext)
        (tSeq (tIfS (tTest (tCall (spX K 1 dNul) [] E0 (tCons (tOp (rIxT K) (tVar 0) (tC (.int 0))) tNil))) (tRet (tTup (tCons (tC (.str "integer")) (tCons (tCall (spX K 3 dRnu) [] E0 (tCons (tVar 0) (tCons (tC (.int 0)) (tCons (tC (.int 1000)) tNil)))) tNil)))) tNext)
        (tSeq (tIfS (tB (tCB (rIsi K) (tCons (tOp (rIxT K) (tVar 0) (tC (.int 0))) (tCons (tC (.ty "str")) tNil)))) (tRet (tTup (tCons (tC (.str "index")) (tCons (tCall (spX K 1 dRnm) [] E0 (tCons (tVar 0) tNil)) tNil)))) tNext)
        (tSeq (tAsg (tCall (spX K 2 dRhd) [] E0 (tCons (tVar 0) (tCons (tC (.ref g.ixs.a)) tNil))) (gTup K 2 (gCons (gName 1) (gCons (gName 2) gNil)))) tu)))) [some (lsP (encPs l) i), none, none] d := by
    intro l i h j q1 q2 tu d el ol hm ht hu
    have p0 : XE K (tOp (rIxT K) (tVar 0) (tC (.int 0))) [some (lsP (encPs l) i), none, none] (.list (encPs l)) := xe_ix (i := 0) (ds := [.list (encPs l), .int i]) (xe_var rfl) xe_int rfl
    refine xr_whenF (xt_test (xe_of (b := false) eqv_ls (xe_eqD p0 xe_str ol.list sh_beat))) ?_
    refine xr_whenF (xt_test (xe_call (ds := [.list (encPs l)]) (d := .bool false) (xa_one p0) (pv_X (.inr ⟨_, rfl, rfl⟩)))) ?_
    refine xr_whenF (xt_B (xe_isi (b := false) p0 (show kitB "list" "str" = some false by decide +kernel))) ?_
    refine xr_un2 (x := .str h) (y := .list (encPs [q1, q2])) (head_call (i := j) (at_ := i) (xe_of' (by rw [el, encPs_c, encP_w]) (xe_var (d := lsP (encPs l) i) rfl)) (xe_glob (g.ixs.lv)) hm ht (show (3 : Int) ≤ ((3 : Nat) : Int) by decide) (show ((3 : Nat) : Int) ≤ 3 by decide)) ?_
    exact hu
  cases x with
  | int n =>
    obtain ⟨i, rfl⟩ := strip_w hp
    rw [encP_w]
    have hn := num_ok ok.1 (show n < 10 ^ 10 by have := ok.2; omega)
    refine xr_whenF (eq _ i false op.part (bne (hn.notRes beat_let))) ?_
    refine xr_whenT (nul _ i true (Nat.le_trans hn.len (by decide)) hn.1) (xr_ret ?_)
    exact xe_t2 xe_str (numC _ _ _ _ (.w (toString n : Str) i) n 0 1000 (by simp only [Sd.strip]; rfl) ok.1 (by have := ok.2; omega) ok.1 ok.2 (by rw [encP_w]; exact xe_var rfl) xe_int (xe_glob fun _ => rfl))
  | beat =>
    obtain ⟨i, rfl⟩ := strip_w hp
    rw [encP_w]
    exact xr_whenT (eq _ i true op.part (by decide +kernel)) (xr_ret (xe_tup (ds := [.str "beat"]) (xa_one xe_str) (show 1 ≤ 1000 by decide)))
  | var z =>
    obtain ⟨i, rfl⟩ := strip_w hp
    rw [encP_w]
    have hz : Nm z := ok
    refine xr_whenF (eq _ i false op.part (bne fun e => hz.res (by rw [e]; decide +kernel))) ?_
    refine xr_whenF (nul _ i false (Nat.le_trans hz.len (by decide)) hz.notNum) ?_
    refine xr_whenT (xt_B (xe_isi (b := true) (p0 z i) (show kitB "str" "str" = some true by decide +kernel))) (xr_ret ?_)
    exact xe_t2 xe_str (xe_call (ds := [wdP z i]) (xa_one (xe_var rfl)) (pv_X ⟨z, i, rfl, Nat.le_trans hz.len (by decide), hz, rfl⟩))
  | rem a n =>
    obtain ⟨l, i, rfl, hl⟩ := strip_f hp
    obtain ⟨q0, r0, rfl, h0, hl⟩ := strips_c hl
    obtain ⟨q1, r1, rfl, h1, hl⟩ := strips_c hl
    obtain ⟨q2, r2, rfl, h2, hl⟩ := strips_c hl
    have := strips_n hl
    subst this
    obtain ⟨j, rfl⟩ := strip_w h0
    rw [encP_f]
    refine front _ i "rem" j q1 q2 _ _ rfl op (by decide +kernel) (by decide +kernel) ?_
    refine xr_whenT (xt_test (xe_eqS (b := true) (xe_var (d := .str "rem") rfl) xe_str (by decide +kernel))) (xr_ret ?_)
    have e1 : encPs [q1, q2] = [encP q1, encP q2] := by rw [encPs_c, encPs_c, encPs_n]
    rw [e1]
    refine xe_t3 (xe_var rfl) (rixC _ _ q1 a h1 (op.mem (by simp)) (Nat.lt_of_succ_lt_succ hk) ok.1 (xe_ixL (ds := [encP q1, encP q2]) (xe_var rfl) xe_int rfl)) ?_
    exact numC _ _ _ _ q2 n 1 1000 h2 (by have := ok.2.1; omega) (by have := ok.2.2; omega) ok.2.1 ok.2.2 (xe_ixL (ds := [encP q1, encP q2]) (xe_var rfl) xe_int rfl) xe_int (xe_glob fun _ => rfl)
  | op o a b =>
    obtain ⟨l, i, rfl, hl⟩ := strip_f hp
    obtain ⟨q0, r0, rfl, h0, hl⟩ := strips_c hl
    obtain ⟨q1, r1, rfl, h1, hl⟩ := strips_c hl
    obtain ⟨q2, r2, rfl, h2, hl⟩ := strips_c hl
    have := strips_n hl
    subst this
    obtain ⟨j, rfl⟩ := strip_w h0
    rw [encP_f]
    refine front _ i o.str j q1 q2 _ _ rfl op (by cases o <;> decide +kernel) (by cases o <;> decide +kernel) ?_
    refine xr_whenF (xt_test (xe_eqS (b := false) (xe_var (d := .str o.str) rfl) xe_str (by cases o <;> decide +kernel))) (xr_ret ?_)
    have e1 : encPs [q1, q2] = [encP q1, encP q2] := by rw [encPs_c, encPs_c, encPs_n]
    rw [e1]
    have ha : depIx a < k := Nat.lt_of_le_of_lt (Nat.le_max_left _ _) (Nat.lt_of_succ_lt_succ hk)
    have hb : depIx b < k := Nat.lt_of_le_of_lt (Nat.le_max_right _ _) (Nat.lt_of_succ_lt_succ hk)
    exact xe_t3 (xe_var rfl) (rixC _ _ q1 a h1 (op.mem (by simp)) ha ok.1 (xe_ixL (ds := [encP q1, encP q2]) (xe_var rfl) xe_int rfl)) (rixC _ _ q2 b h2 (op.mem (by simp)) hb ok.2 (xe_ixL (ds := [encP q1, encP q2]) (xe_var rfl) xe_int rfl))
theorem fx_none {f : Addr} {fd : FuncData} {ps : List Str} {n k : Nat} {dom : List PyData → PyData → Prop} (no : ∀ ds d, ¬ dom ds d) : FnOk P w K mg base CX0 k f fd ps (spX K n dom) :=
  fn_none fun vs H Q E h => by
    obtain ⟨ds, d, _, _, h, _⟩ := h
    exact no _ _ h
theorem ok_rix {f : Addr} {fd : FuncData} (F : Fun K "read_index" "read_index" sRix f fd) (T : Bi mg) (g : Gx w K mg) (c_nul : Cal P w K mg base CX0 1 "is_numeral" ["value"] (spX K 1 dNul)) (c_rnm : Cal P w K mg base CX0 2 "read_name" ["part"] (spX K 1 dRnm)) (c_rnu : Cal P w K mg base CX0 3 "read_numeral" ["part", "least", "most"] (spX K 3 dRnu))
    (c_rhd : Cal P w K mg base CX0 2 "read_head" ["part", "heads"] (spX K 2 dRhd)) (b : Binds K fd ["part"] []) (m : mg "read_index" = some (.ref f)) : ∀ k : Nat, FnOk P w K mg base CX0 (k + 3) f fd ["part"] (spX K 1 (dRix k))
  | 0 => fx_none fun ds d h => by obtain ⟨_, _, _, _, _, z, _⟩ := h; exact absurd z (Nat.not_lt_zero _)
  | k + 1 => ok_rix1 F T g c_nul c_rnm c_rnu c_rhd ⟨f, fd, ok_rix F T g c_nul c_rnm c_rnu c_rhd b m k, b, F.kp, m⟩
end
end Px

namespace Px
open PySem L2 Tr Pu Sd PyProof.Rows
/-- two parts behind a head -/
theorem three {l : List PF} {h : Str} {a b : Fm} (e : strips l = [.w h, a, b]) : ∃ j q1 q2, l = [.w h j, q1, q2] ∧ Sd.strip q1 = a ∧ Sd.strip q2 = b := by
  obtain ⟨q0, r0, rfl, h0, hl⟩ := strips_c e
  obtain ⟨q1, r1, rfl, h1, hl⟩ := strips_c hl
  obtain ⟨q2, r2, rfl, h2, hl⟩ := strips_c hl
  have := strips_n hl
  subst this
  obtain ⟨j, rfl⟩ := strip_w h0
  exact ⟨j, q1, q2, rfl, h1, h2⟩
theorem two {l : List PF} {h : Str} {a : Fm} (e : strips l = [.w h, a]) : ∃ j q1, l = [.w h j, q1] ∧ Sd.strip q1 = a := by
  obtain ⟨q0, r0, rfl, h0, hl⟩ := strips_c e
  obtain ⟨q1, r1, rfl, h1, hl⟩ := strips_c hl
  have := strips_n hl
  subst this
  obtain ⟨j, rfl⟩ := strip_w h0
  exact ⟨j, q1, rfl, h1⟩
theorem enc2 (a b : PF) : encPs [a, b] = [encP a, encP b] := by rw [encPs_c, encPs_c, encPs_n]
theorem enc1 (a : PF) : encPs [a] = [encP a] := by rw [encPs_c, encPs_n]
section
variable {K : PySem.W.Frag} {ρ : Rho} {ta tb : TE} {E : XK}
theorem nm_call {q : PF} {z : Str} (hq : Sd.strip q = .w z) (hz : Nm z) (ha : XE K ta ρ (encP q)) : XE K (tCall (spX K 1 dRnm) [] E (tCons ta tNil)) ρ (.str z) := by
  obtain ⟨i, rfl⟩ := strip_w hq
  rw [encP_w] at ha
  exact xe_call (ds := [wdP z i]) (xa_one ha) (pv_X ⟨z, i, rfl, Nat.le_trans hz.len (by decide), hz, rfl⟩)
theorem nu_call {q : PF} {n lo hi : Int} {tc : TE} (hq : Sd.strip q = num n) (n0 : 0 ≤ n) (n1 : n < 10 ^ 10) (l1 : lo ≤ n) (l2 : n ≤ hi) (ha : XE K ta ρ (encP q)) (hb : XE K tb ρ (.int lo)) (hc : XE K tc ρ (.int hi)) : XE K (tCall (spX K 3 dRnu) [] E (tCons ta (tCons tb (tCons tc tNil)))) ρ (.int n) := by
  obtain ⟨i, rfl⟩ := strip_w hq
  rw [encP_w] at ha
  have hn := num_ok n0 n1
  exact xe_call (ds := [wdP (toString n : Str) i, .int lo, .int hi]) (xa_cons ha (xa_cons hb (xa_one hc))) (pv_X ⟨_, i, lo, hi, n, rfl, hn.1, hn.2, l1, l2, rfl⟩)
theorem ix_call {k : Nat} {q : PF} {y : Ix} (h1 : Sd.strip q = fIx y) (h2 : okP q) (h3 : depIx y < k) (h4 : rdIx y) (ha : XE K ta ρ (encP q)) : XE K (tCall (spX K 1 (dRix k)) [] E (tCons ta tNil)) ρ y.enc :=
  xe_call (ds := [encP q]) (xa_one ha) (pv_X ⟨q, y, rfl, h1, h2, h3, h4, rfl⟩)
theorem ex_call {k : Nat} {q : PF} {y : Ex} (h1 : Sd.strip q = fEx y) (h2 : okP q) (h3 : depEx y < k) (h4 : okDx y) (h5 : rdEx y) (ha : XE K ta ρ (encP q)) : XE K (tCall (spX K 1 (dRex k)) [] E (tCons ta tNil)) ρ y.enc :=
  xe_call (ds := [encP q]) (xa_one ha) (pv_X ⟨q, y, rfl, h1, h2, h3, h4, h5, rfl⟩)
theorem ts_call {k : Nat} {q : PF} {y : Ts} (h1 : Sd.strip q = fTs y) (h2 : okP q) (h3 : depTs y < k) (h4 : okDt y) (h5 : rdTs y) (ha : XE K ta ρ (encP q)) : XE K (tCall (spX K 1 (dRts k)) [] E (tCons ta tNil)) ρ y.enc :=
  xe_call (ds := [encP q]) (xa_one ha) (pv_X ⟨q, y, rfl, h1, h2, h3, h4, h5, rfl⟩)
theorem pl_call {k : Nat} {q : PF} {nm : Str} {ix : Option Ix} (h1 : Sd.strip q = fPl nm ix) (h2 : okP q) (h3 : depOx ix < k) (h4 : Nm nm) (h5 : rdOx ix) (ha : XE K ta ρ (encP q)) : XE K (tCall (spX K 1 (dRpl k)) [] E (tCons ta tNil)) ρ (encPl nm ix) :=
  xe_call (ds := [encP q]) (xa_one ha) (pv_X ⟨q, nm, ix, rfl, h1, h2, h3, h4, h5, rfl⟩)
end
section
variable {P : Program} {w : World} {K : PySem.W.Frag} {mg : Str → Option Value} {base : Heap}
theorem scRpl : FnScope ["part", "_", "parts"] ["part"] (defScope sRpl) := ⟨rfl, rfl, rfl, by decide +kernel, rfl, by decide +kernel, by decide +kernel⟩
theorem ok_rpl {f : Addr} {fd : FuncData} {k : Nat} (F : Fun K "read_place" "read_place" sRpl f fd) (T : Bi mg) (c_rnm : Cal P w K mg base CX0 2 "read_name" ["part"] (spX K 1 dRnm))
    (c_rhd : Cal P w K mg base CX0 2 "read_head" ["part", "heads"] (spX K 2 dRhd)) (c_rix : Cal P w K mg base CX0 (k + 3) "read_index" ["part"] (spX K 1 (dRix k))) : FnOk P w K mg base CX0 (k + 3 + 1) f fd ["part"] (spX K 1 (dRpl k)) := by
  have nd := scRpl.nd
  refine ok_X F scRpl (by decide) (fun cdv A outer s H E hr => ⟨_, pss_cons (ps_if (pt_val (pe_callB call_isi rfl T.isinstance PyProof.Rows.boot_isinstance (pa_cons (pe_ix ix_tup (pv 0) pe_int (fun _ _ => rfl)) (pa_cons (pe_bltn (v := .ty "str") rfl T.str PyProof.Rows.boot_str rfl) pa_nil)))) (pss_one (ps_ret (pe_tup (pa_cons (pe_call c_rnm.ok (hr.mono (by first | decide | omega)) rfl c_rnm.m c_rnm.kp c_rnm.b .nil pass0 (pa_cons (pv 0) pa_nil)) (pa_cons pe_non pa_nil))))) pss_nil)
      (pss_cons (ps_asg (pe_call c_rhd.ok (hr.mono (by first | decide | omega)) rfl c_rhd.m c_rhd.kp c_rhd.b .nil pass0 (pa_cons (pv 0) (pa_cons (pe_tup (pa_cons pe_str pa_nil)) pa_nil))) (pg_tup (by rfl) (pgs_cons (pg_name (i := 1) nd rfl (.inl rfl)) (pgs_cons (pg_name (i := 2) nd rfl (.inl rfl)) pgs_nil))))
      (pss_one (ps_ret (pe_tup (pa_cons (pe_call c_rnm.ok (hr.mono (by first | decide | omega)) rfl c_rnm.m c_rnm.kp c_rnm.b .nil pass0 (pa_cons (pe_ix ix_list (pv 2) pe_int (fun _ _ => rfl)) pa_nil)) (pa_cons (pe_call c_rix.ok (hr.mono (by first | decide | omega)) rfl c_rix.m c_rix.kp c_rix.b .nil pass0 (pa_cons (pe_ix ix_list (pv 2) pe_int (fun _ _ => rfl)) pa_nil)) pa_nil)))))), ?_⟩)
  rintro ds d - ⟨p, nm, ix, rfl, hp, op, hk, hn, ok, rfl⟩
  cases ix with
  | none =>
    have hp' := hp
    obtain ⟨i, rfl⟩ := strip_w hp
    rw [encP_w]
    refine xr_whenT (xt_B (xe_isi (b := true) (d := .str nm) (xe_ix (i := 0) (ds := [.str nm, .int i]) (xe_var rfl) xe_int rfl) (show kitB "str" "str" = some true by decide +kernel))) (xr_ret ?_)
    exact xe_t2 (nm_call hp' hn (by rw [encP_w]; exact xe_var rfl)) xe_non
  | some x =>
    obtain ⟨l, i, rfl, hl⟩ := strip_f hp
    obtain ⟨j, q1, q2, rfl, h1, h2⟩ := three hl
    rw [encP_f]
    refine xr_whenF (xt_B (xe_isi (b := false) (d := .list _) (xe_ix (i := 0) (ds := [.list _, .int i]) (xe_var rfl) xe_int rfl) (show kitB "list" "str" = some false by decide +kernel))) ?_
    refine xr_un2 (x := .str "at") (y := .list (encPs [q1, q2])) (head_call (i := j) (at_ := i) (lo := 3) (hi := some 3) (hs := ["at"]) (xe_of' (by rw [encPs_c, encP_w]) (xe_var (d := lsP (encPs [.w "at" j, q1, q2]) i) rfl)) (xe_tup (ds := [.str "at"]) (xa_one xe_str) (show 1 ≤ 1000 by decide)) (by decide +kernel) (by decide +kernel) (show (3 : Int) ≤ ((3 : Nat) : Int) by decide) (show ((3 : Nat) : Int) ≤ 3 by decide)) ?_
    rw [enc2]
    exact xr_ret (xe_t2 (nm_call h1 hn (xe_ixL (ds := [encP q1, encP q2]) (xe_var rfl) xe_int rfl)) (ix_call h2 (op.mem (by simp)) hk ok (xe_ixL (ds := [encP q1, encP q2]) (xe_var rfl) xe_int rfl)))
theorem scRex : FnScope ["part", "head", "parts"] ["part"] (defScope sRex) := ⟨rfl, rfl, rfl, by decide +kernel, rfl, by decide +kernel, by decide +kernel⟩
theorem ok_rex1 {f : Addr} {fd : FuncData} {k : Nat} (F : Fun K "read_expression" "read_expression" sRex f fd) (T : Bi mg) (g : Gx w K mg) (c_nul : Cal P w K mg base CX0 1 "is_numeral" ["value"] (spX K 1 dNul)) (c_rnm : Cal P w K mg base CX0 2 "read_name" ["part"] (spX K 1 dRnm)) (c_rnu : Cal P w K mg base CX0 3 "read_numeral" ["part", "least", "most"] (spX K 3 dRnu))
    (c_rhd : Cal P w K mg base CX0 2 "read_head" ["part", "heads"] (spX K 2 dRhd)) (c_rix : Cal P w K mg base CX0 11 "read_index" ["part"] (spX K 1 (dRix 8))) (c_rex : Cal P w K mg base CX0 (k + 11) "read_expression" ["part"] (spX K 1 (dRex k))) : FnOk P w K mg base CX0 (k + 11 + 1) f fd ["part"] (spX K 1 (dRex (k + 1))) := by
  have nd := scRex.nd
  refine ok_X F scRex (by decide) (fun cdv A outer s H E hr => ⟨_, pss_cons (ps_if (pt_val (pe_call c_nul.ok (hr.mono (by first | decide | omega)) rfl c_nul.m c_nul.kp c_nul.b .nil pass0 (pa_cons (pe_ix ix_tup (pv 0) pe_int (fun _ _ => rfl)) pa_nil))) (pss_one (ps_ret (pe_tup (pa_cons pe_str (pa_cons (pe_call c_rnu.ok (hr.mono (by first | decide | omega)) rfl c_rnu.m c_rnu.kp c_rnu.b .nil pass0 (pa_cons (pv 0) (pa_cons pe_int (pa_cons (pe_op op_sub (pe_glob (v := .int 2147483647) (by rfl) g.prime ⟨_, rfl⟩) pe_int) pa_nil)))) pa_nil))))) pss_nil)
      (pss_cons (ps_if (pt_val (pe_callB call_isi rfl T.isinstance PyProof.Rows.boot_isinstance (pa_cons (pe_ix ix_tup (pv 0) pe_int (fun _ _ => rfl)) (pa_cons (pe_bltn (v := .ty "str") rfl T.str PyProof.Rows.boot_str rfl) pa_nil)))) (pss_one (ps_ret (pe_tup (pa_cons pe_str (pa_cons (pe_call c_rnm.ok (hr.mono (by first | decide | omega)) rfl c_rnm.m c_rnm.kp c_rnm.b .nil pass0 (pa_cons (pv 0) pa_nil)) (pa_cons pe_non pa_nil)))))) pss_nil)
      (pss_cons (ps_asg (pe_call c_rhd.ok (hr.mono (by first | decide | omega)) rfl c_rhd.m c_rhd.kp c_rhd.b .nil pass0 (pa_cons (pv 0) (pa_cons (pe_glob (v := .ref g.exs.a) (by rfl) g.exs.m rfl) pa_nil))) (pg_tup (by rfl) (pgs_cons (pg_name (i := 1) nd rfl (.inl rfl)) (pgs_cons (pg_name (i := 2) nd rfl (.inl rfl)) pgs_nil))))
      (pss_cons (ps_if (pt_cmpR op_eq (pv 1) pe_str (nomark _)) (pss_one (ps_ret (pe_tup (pa_cons pe_str (pa_cons (pe_call c_rnm.ok (hr.mono (by first | decide | omega)) rfl c_rnm.m c_rnm.kp c_rnm.b .nil pass0 (pa_cons (pe_ix ix_list (pv 2) pe_int (fun _ _ => rfl)) pa_nil)) (pa_cons (pe_call c_rix.ok (hr.mono (by first | decide | omega)) rfl c_rix.m c_rix.kp c_rix.b .nil pass0 (pa_cons (pe_ix ix_list (pv 2) pe_int (fun _ _ => rfl)) pa_nil)) pa_nil)))))) pss_nil)
      (pss_one (ps_ret (pe_tup (pa_cons (pv 1) (pa_cons (pe_call c_rex.ok (hr.mono (by first | decide | omega)) rfl c_rex.m c_rex.kp c_rex.b .nil pass0 (pa_cons (pe_ix ix_list (pv 2) pe_int (fun _ _ => rfl)) pa_nil)) (pa_cons (pe_call c_rex.ok (hr.mono (by first | decide | omega)) rfl c_rex.m c_rex.kp c_rex.b .nil pass0 (pa_cons (pe_ix ix_list (pv 2) pe_int (fun _ _ => rfl)) pa_nil)) pa_nil))))))))), ?_⟩)
  rintro ds d - ⟨p, x, rfl, hp, op, hk, odx, ok, rfl⟩
  have p0 : ∀ (z : Str) (i : Int), XE K (tOp (rIxT K) (tVar 0) (tC (.int 0))) [some (wdP z i), none, none] (.str z) := fun z i => xe_ix (i := 0) (ds := [.str z, .int i]) (xe_var rfl) xe_int rfl
  have nul : ∀ (z : Str) (i : Int) (b : Bool), z.length ≤ 100000 → numB z.cps.toList = b → XT K (tTest (tCall (spX K 1 dNul) [] E0 (tCons (tOp (rIxT K) (tVar 0) (tC (.int 0))) tNil))) [some (wdP z i), none, none] b := fun z i b h1 h2 =>
    xt_test (xe_call (ds := [.str z]) (xa_one (p0 z i)) (pv_X (.inl ⟨z, rfl, h1, by rw [h2]⟩)))
  have front : ∀ (l : List PF) (i : Int) (h : Str) (j : Int) (q1 q2 : PF) (tu t1 t2 : TS) (d : PyData), l = [.w h j, q1, q2] → h ∈ lExs → (h, 3, some 3) ∈ tParts → XR K tu [some (lsP (encPs l) i), some (.str h), some (.list (encPs [q1, q2]))] d →
      XR K (tSeq (tIfS (tTest (tCall (spX K 1 dNul) [] E0 (tCons (tOp (rIxT K) (tVar 0) (tC (.int 0))) tNil))) t1 tNext)
        (tSeq (tIfS (tB (tCB (rIsi K) (tCons (tOp (rIxT K) (tVar 0) (tC (.int 0))) (tCons (tC (.ty "str")) tNil)))) t2 tNext)
        (tSeq (tAsg (tCall (spX K 2 dRhd) [] E0 (tCons (tVar 0) (tCons (tC (.ref g.exs.a)) tNil))) (gTup K 2 (gCons (gName 1) (gCons (gName 2) gNil)))) tu))) [some (lsP (encPs l) i), none, none] d := by
    intro l i h j q1 q2 tu t1 t2 d el hm ht hu
    have p0 : XE K (tOp (rIxT K) (tVar 0) (tC (.int 0))) [some (lsP (encPs l) i), none, none] (.list (encPs l)) := xe_ix (i := 0) (ds := [.list (encPs l), .int i]) (xe_var rfl) xe_int rfl
    refine xr_whenF (xt_test (xe_call (ds := [.list (encPs l)]) (d := .bool false) (xa_one p0) (pv_X (.inr ⟨_, rfl, rfl⟩)))) ?_
    refine xr_whenF (xt_B (xe_isi (b := false) p0 (show kitB "list" "str" = some false by decide +kernel))) ?_
    refine xr_un2 (x := .str h) (y := .list (encPs [q1, q2])) (head_call (i := j) (at_ := i) (xe_of' (by rw [el, encPs_c, encP_w]) (xe_var (d := lsP (encPs l) i) rfl)) (xe_glob (g.exs.lv)) hm ht (show (3 : Int) ≤ ((3 : Nat) : Int) by decide) (show ((3 : Nat) : Int) ≤ 3 by decide)) ?_
    exact hu
  cases x with
  | num n =>
    have hp' := hp
    obtain ⟨i, rfl⟩ := strip_w hp
    rw [encP_w]
    have hn := num_ok ok.1 (show n < 10 ^ 10 by have := ok.2; omega)
    refine xr_whenT (nul _ i true (Nat.le_trans hn.len (by decide)) hn.1) (xr_ret ?_)
    exact xe_t2 xe_str (nu_call (hi := 2147483646) hp' ok.1 (by have := ok.2; omega) ok.1 ok.2 (by rw [encP_w]; exact xe_var rfl) xe_int (xe_opI (i := 2147483647) (j := 1) (g := fun i j => i - j) (xe_glob fun _ => rfl) xe_int))
  | place nm ix =>
    cases ix with
    | none =>
      have hp' : Sd.strip p = .w nm := hp
      obtain ⟨i, rfl⟩ := strip_w hp'
      rw [encP_w]
      have hz : Nm nm := ok.1
      refine xr_whenF (nul _ i false (Nat.le_trans hz.len (by decide)) hz.notNum) ?_
      refine xr_whenT (xt_B (xe_isi (b := true) (p0 nm i) (show kitB "str" "str" = some true by decide +kernel))) (xr_ret ?_)
      exact xe_t3 xe_str (nm_call hp' hz (by rw [encP_w]; exact xe_var rfl)) xe_non
    | some x =>
      obtain ⟨l, i, rfl, hl⟩ := strip_f (show Sd.strip p = .f [.w "at", .w nm, fIx x] from hp)
      obtain ⟨j, q1, q2, rfl, h1, h2⟩ := three hl
      rw [encP_f]
      refine front _ i "at" j q1 q2 _ _ _ _ rfl (by decide +kernel) (by decide +kernel) ?_
      rw [enc2]
      refine xr_whenT (xt_test (xe_eqS (b := true) (xe_var (d := .str "at") rfl) xe_str (by decide +kernel))) (xr_ret ?_)
      exact xe_t3 xe_str (nm_call h1 ok.1 (xe_ixL (ds := [encP q1, encP q2]) (xe_var rfl) xe_int rfl)) (ix_call h2 (op.mem (by simp)) odx ok.2 (xe_ixL (ds := [encP q1, encP q2]) (xe_var rfl) xe_int rfl))
  | op o a b =>
    obtain ⟨l, i, rfl, hl⟩ := strip_f (show Sd.strip p = .f [.w o.str, fEx a, fEx b] from hp)
    obtain ⟨j, q1, q2, rfl, h1, h2⟩ := three hl
    rw [encP_f]
    refine front _ i o.str j q1 q2 _ _ _ _ rfl (by cases o <;> decide +kernel) (by cases o <;> decide +kernel) ?_
    rw [enc2]
    refine xr_whenF (xt_test (xe_eqS (b := false) (xe_var (d := .str o.str) rfl) xe_str (by cases o <;> decide +kernel))) (xr_ret ?_)
    have ha : depEx a < k := Nat.lt_of_le_of_lt (Nat.le_max_left _ _) (Nat.lt_of_succ_lt_succ hk)
    have hb : depEx b < k := Nat.lt_of_le_of_lt (Nat.le_max_right _ _) (Nat.lt_of_succ_lt_succ hk)
    exact xe_t3 (xe_var rfl) (ex_call h1 (op.mem (by simp)) ha odx.1 ok.1 (xe_ixL (ds := [encP q1, encP q2]) (xe_var rfl) xe_int rfl)) (ex_call h2 (op.mem (by simp)) hb odx.2 ok.2 (xe_ixL (ds := [encP q1, encP q2]) (xe_var rfl) xe_int rfl))
theorem ok_rex {f : Addr} {fd : FuncData} (F : Fun K "read_expression" "read_expression" sRex f fd) (T : Bi mg) (g : Gx w K mg) (c_nul : Cal P w K mg base CX0 1 "is_numeral" ["value"] (spX K 1 dNul)) (c_rnm : Cal P w K mg base CX0 2 "read_name" ["part"] (spX K 1 dRnm)) (c_rnu : Cal P w K mg base CX0 3 "read_numeral" ["part", "least", "most"] (spX K 3 dRnu))
    (c_rhd : Cal P w K mg base CX0 2 "read_head" ["part", "heads"] (spX K 2 dRhd)) (c_rix : Cal P w K mg base CX0 11 "read_index" ["part"] (spX K 1 (dRix 8))) (b : Binds K fd ["part"] []) (m : mg "read_expression" = some (.ref f)) : ∀ k : Nat, FnOk P w K mg base CX0 (k + 11) f fd ["part"] (spX K 1 (dRex k))
  | 0 => fx_none fun ds d h => by obtain ⟨_, _, _, _, _, z, _⟩ := h; exact absurd z (Nat.not_lt_zero _)
  | k + 1 => ok_rex1 F T g c_nul c_rnm c_rnu c_rhd c_rix ⟨f, fd, ok_rex F T g c_nul c_rnm c_rnu c_rhd c_rix b m k, b, F.kp, m⟩
theorem scRts : FnScope ["part", "head", "parts"] ["part"] (defScope sRts) := ⟨rfl, rfl, rfl, by decide +kernel, rfl, by decide +kernel, by decide +kernel⟩
theorem ok_rts1 {f : Addr} {fd : FuncData} {k : Nat} (F : Fun K "read_test" "read_test" sRts f fd) (T : Bi mg) (g : Gx w K mg) (c_rhd : Cal P w K mg base CX0 2 "read_head" ["part", "heads"] (spX K 2 dRhd)) (c_rix : Cal P w K mg base CX0 11 "read_index" ["part"] (spX K 1 (dRix 8))) (c_rex : Cal P w K mg base CX0 19 "read_expression" ["part"] (spX K 1 (dRex 8)))
    (c_rts : Cal P w K mg base CX0 (k + 19) "read_test" ["part"] (spX K 1 (dRts k))) : FnOk P w K mg base CX0 (k + 19 + 1) f fd ["part"] (spX K 1 (dRts (k + 1))) := by
  have nd := scRts.nd
  refine ok_X F scRts (by decide) (fun cdv A outer s H E hr => ⟨_, pss_cons (ps_asg (pe_call c_rhd.ok (hr.mono (by first | decide | omega)) rfl c_rhd.m c_rhd.kp c_rhd.b .nil pass0 (pa_cons (pv 0) (pa_cons (pe_glob (v := .ref g.tss.a) (by rfl) g.tss.m rfl) pa_nil))) (pg_tup (by rfl) (pgs_cons (pg_name (i := 1) nd rfl (.inl rfl)) (pgs_cons (pg_name (i := 2) nd rfl (.inl rfl)) pgs_nil))))
      (pss_cons (ps_if (pt_cmpR op_eq (pv 1) pe_str (nomark _)) (pss_one (ps_ret (pe_tup (pa_cons (pv 1) (pa_cons (pe_call c_rex.ok (hr.mono (by first | decide | omega)) rfl c_rex.m c_rex.kp c_rex.b .nil pass0 (pa_cons (pe_ix ix_list (pv 2) pe_int (fun _ _ => rfl)) pa_nil)) pa_nil))))) pss_nil)
      (pss_cons (ps_if (pt_cmpR op_eq (pv 1) pe_str (nomark _)) (pss_one (ps_ret (pe_tup (pa_cons (pv 1) (pa_cons (pe_call c_rts.ok (hr.mono (by first | decide | omega)) rfl c_rts.m c_rts.kp c_rts.b .nil pass0 (pa_cons (pe_ix ix_list (pv 2) pe_int (fun _ _ => rfl)) pa_nil)) pa_nil))))) pss_nil)
      (pss_one (ps_ret (pe_tup (pa_cons (pv 1) (pa_cons (pe_call c_rix.ok (hr.mono (by first | decide | omega)) rfl c_rix.m c_rix.kp c_rix.b .nil pass0 (pa_cons (pe_ix ix_list (pv 2) pe_int (fun _ _ => rfl)) pa_nil)) (pa_cons (pe_call c_rix.ok (hr.mono (by first | decide | omega)) rfl c_rix.m c_rix.kp c_rix.b .nil pass0 (pa_cons (pe_ix ix_list (pv 2) pe_int (fun _ _ => rfl)) pa_nil)) pa_nil)))))))), ?_⟩)
  rintro ds d - ⟨p, x, rfl, hp, op, hk, odx, ok, rfl⟩
  cases x with
  | zero e =>
    obtain ⟨l, i, rfl, hl⟩ := strip_f (show Sd.strip p = .f [.w "zero", fEx e] from hp)
    obtain ⟨j, q1, rfl, h1⟩ := two hl
    rw [encP_f]
    refine xr_un2 (x := .str "zero") (y := .list (encPs [q1])) (head_call (i := j) (at_ := i) (lo := 2) (hi := some 2) (xe_of' (by rw [encPs_c, encP_w]) (xe_var (d := lsP (encPs [.w "zero" j, q1]) i) rfl)) (xe_glob (g.tss.lv)) (by decide +kernel) (by decide +kernel) (show (2 : Int) ≤ ((2 : Nat) : Int) by decide) (show ((2 : Nat) : Int) ≤ 2 by decide)) ?_
    rw [enc1]
    refine xr_whenT (xt_test (xe_eqS (b := true) (xe_var (d := .str "zero") rfl) xe_str (by decide +kernel))) (xr_ret ?_)
    exact xe_t2 (xe_var rfl) (ex_call h1 (op.mem (by simp)) odx.1 odx.2 ok (xe_ixL (ds := [encP q1]) (xe_var rfl) xe_int rfl))
  | not t =>
    obtain ⟨l, i, rfl, hl⟩ := strip_f (show Sd.strip p = .f [.w "not", fTs t] from hp)
    obtain ⟨j, q1, rfl, h1⟩ := two hl
    rw [encP_f]
    refine xr_un2 (x := .str "not") (y := .list (encPs [q1])) (head_call (i := j) (at_ := i) (lo := 2) (hi := some 2) (xe_of' (by rw [encPs_c, encP_w]) (xe_var (d := lsP (encPs [.w "not" j, q1]) i) rfl)) (xe_glob (g.tss.lv)) (by decide +kernel) (by decide +kernel) (show (2 : Int) ≤ ((2 : Nat) : Int) by decide) (show ((2 : Nat) : Int) ≤ 2 by decide)) ?_
    rw [enc1]
    refine xr_whenF (xt_test (xe_eqS (b := false) (xe_var (d := .str "not") rfl) xe_str (by decide +kernel))) ?_
    refine xr_whenT (xt_test (xe_eqS (b := true) (xe_var (d := .str "not") rfl) xe_str (by decide +kernel))) (xr_ret ?_)
    exact xe_t2 (xe_var rfl) (ts_call h1 (op.mem (by simp)) (Nat.lt_of_succ_lt_succ hk) odx ok (xe_ixL (ds := [encP q1]) (xe_var rfl) xe_int rfl))
  | less a b =>
    obtain ⟨l, i, rfl, hl⟩ := strip_f (show Sd.strip p = .f [.w "less", fIx a, fIx b] from hp)
    obtain ⟨j, q1, q2, rfl, h1, h2⟩ := three hl
    rw [encP_f]
    refine xr_un2 (x := .str "less") (y := .list (encPs [q1, q2])) (head_call (i := j) (at_ := i) (lo := 3) (hi := some 3) (xe_of' (by rw [encPs_c, encP_w]) (xe_var (d := lsP (encPs [.w "less" j, q1, q2]) i) rfl)) (xe_glob (g.tss.lv)) (by decide +kernel) (by decide +kernel) (show (3 : Int) ≤ ((3 : Nat) : Int) by decide) (show ((3 : Nat) : Int) ≤ 3 by decide)) ?_
    rw [enc2]
    refine xr_whenF (xt_test (xe_eqS (b := false) (xe_var (d := .str "less") rfl) xe_str (by decide +kernel))) ?_
    refine xr_whenF (xt_test (xe_eqS (b := false) (xe_var (d := .str "less") rfl) xe_str (by decide +kernel))) (xr_ret ?_)
    exact xe_t3 (xe_var rfl) (ix_call h1 (op.mem (by simp)) odx.1 ok.1 (xe_ixL (ds := [encP q1, encP q2]) (xe_var rfl) xe_int rfl)) (ix_call h2 (op.mem (by simp)) odx.2 ok.2 (xe_ixL (ds := [encP q1, encP q2]) (xe_var rfl) xe_int rfl))
  | equal a b =>
    obtain ⟨l, i, rfl, hl⟩ := strip_f (show Sd.strip p = .f [.w "equal", fIx a, fIx b] from hp)
    obtain ⟨j, q1, q2, rfl, h1, h2⟩ := three hl
    rw [encP_f]
    refine xr_un2 (x := .str "equal") (y := .list (encPs [q1, q2])) (head_call (i := j) (at_ := i) (lo := 3) (hi := some 3) (xe_of' (by rw [encPs_c, encP_w]) (xe_var (d := lsP (encPs [.w "equal" j, q1, q2]) i) rfl)) (xe_glob (g.tss.lv)) (by decide +kernel) (by decide +kernel) (show (3 : Int) ≤ ((3 : Nat) : Int) by decide) (show ((3 : Nat) : Int) ≤ 3 by decide)) ?_
    rw [enc2]
    refine xr_whenF (xt_test (xe_eqS (b := false) (xe_var (d := .str "equal") rfl) xe_str (by decide +kernel))) ?_
    refine xr_whenF (xt_test (xe_eqS (b := false) (xe_var (d := .str "equal") rfl) xe_str (by decide +kernel))) (xr_ret ?_)
    exact xe_t3 (xe_var rfl) (ix_call h1 (op.mem (by simp)) odx.1 ok.1 (xe_ixL (ds := [encP q1, encP q2]) (xe_var rfl) xe_int rfl)) (ix_call h2 (op.mem (by simp)) odx.2 ok.2 (xe_ixL (ds := [encP q1, encP q2]) (xe_var rfl) xe_int rfl))
theorem ok_rts {f : Addr} {fd : FuncData} (F : Fun K "read_test" "read_test" sRts f fd) (T : Bi mg) (g : Gx w K mg) (c_rhd : Cal P w K mg base CX0 2 "read_head" ["part", "heads"] (spX K 2 dRhd)) (c_rix : Cal P w K mg base CX0 11 "read_index" ["part"] (spX K 1 (dRix 8))) (c_rex : Cal P w K mg base CX0 19 "read_expression" ["part"] (spX K 1 (dRex 8)))
    (b : Binds K fd ["part"] []) (m : mg "read_test" = some (.ref f)) : ∀ k : Nat, FnOk P w K mg base CX0 (k + 19) f fd ["part"] (spX K 1 (dRts k))
  | 0 => fx_none fun ds d h => by obtain ⟨_, _, _, _, _, z, _⟩ := h; exact absurd z (Nat.not_lt_zero _)
  | k + 1 => ok_rts1 F T g c_rhd c_rix c_rex ⟨f, fd, ok_rts F T g c_rhd c_rix c_rex b m k, b, F.kp, m⟩
end
end Px

namespace Px
open PySem L2 Tr Pu Sd PyProof.Rows
/-! ### the trees' data hold no lists -/
theorem nl_ix : ∀ x : Ix, noL x.enc = true
  | .int n => rfl
  | .beat => rfl
  | .var s => rfl
  | .rem a n => by
    show (noL (.str "rem") && (noL a.enc && (noL (.int n) && true))) = true
    rw [nl_ix a]
    rfl
  | .op o a b => by
    show (noL (.str o.str) && (noL a.enc && (noL b.enc && true))) = true
    rw [nl_ix a, nl_ix b]
    rfl
theorem nl_ox : ∀ x : Option Ix, noL (encO x) = true
  | none => rfl
  | some x => nl_ix x
theorem nl_ex : ∀ x : Ex, noL x.enc = true
  | .num n => rfl
  | .place nm ix => by
    show (noL (.str "place") && (noL (.str nm) && (noL (encO ix) && true))) = true
    rw [nl_ox ix]
    rfl
  | .op o a b => by
    show (noL (.str o.str) && (noL a.enc && (noL b.enc && true))) = true
    rw [nl_ex a, nl_ex b]
    rfl
theorem nl_ts : ∀ x : Ts, noL x.enc = true
  | .zero e => by
    show (noL (.str "zero") && (noL e.enc && true)) = true
    rw [nl_ex e]
    rfl
  | .less a b => by
    show (noL (.str "less") && (noL a.enc && (noL b.enc && true))) = true
    rw [nl_ix a, nl_ix b]
    rfl
  | .equal a b => by
    show (noL (.str "equal") && (noL a.enc && (noL b.enc && true))) = true
    rw [nl_ix a, nl_ix b]
    rfl
  | .not t => by
    show (noL (.str "not") && (noL t.enc && true)) = true
    rw [nl_ts t]
    rfl
mutual
theorem nl_st : ∀ x : Tr.St, noL x.enc = true
  | .set nm ix e => by
    show (noL (.str "set") && ((noL (.str nm) && (noL (encO ix) && true)) && (noL e.enc && true))) = true
    rw [nl_ox ix, nl_ex e]
    rfl
  | .call f xs ns => by
    show (noL (.str "call") && (noL (.str f) && (noLs (xs.map Ix.enc) && (noLs (ns.map PyData.str) && true)))) = true
    rw [noLs_of (ds := xs.map Ix.enc) fun d m => by obtain ⟨x, _, rfl⟩ := List.mem_map.mp m; exact nl_ix x, noLs_of (ds := ns.map PyData.str) fun d m => by obtain ⟨x, _, rfl⟩ := List.mem_map.mp m; rfl]
    rfl
  | .loop nm c b => by
    show (noL (.str "loop") && (noL (.str nm) && (noL c.enc && (noLs (St.encs b) && true)))) = true
    rw [nl_ix c, nl_sts b]
    rfl
  | .ite t a b => by
    show (noL (.str "if") && (noL t.enc && (noLs (St.encs a) && (noLs (St.encs b) && true)))) = true
    rw [nl_ts t, nl_sts a, nl_sts b]
    rfl
  | .bind nm e b => by
    show (noL (.str "let") && (noL (.str nm) && (noL e.enc && (noLs (St.encs b) && true)))) = true
    rw [nl_ex e, nl_sts b]
    rfl
theorem nl_sts : ∀ b : List Tr.St, noLs (St.encs b) = true
  | [] => rfl
  | s :: r => by
    show (noL s.enc && noLs (St.encs r)) = true
    rw [nl_st s, nl_sts r]
    rfl
end
/-! ### lists of parts, lists of what they are read as -/
theorem pairs {α : Type} {F : α → Fm} : ∀ {l : List PF} {b : List α}, strips l = b.map F → ∃ z : List (PF × α), z.map (·.1) = l ∧ z.map (·.2) = b ∧ ∀ q ∈ z, Sd.strip q.1 = F q.2
  | [], [], _ => ⟨[], rfl, rfl, fun q m => by cases m⟩
  | [], y :: b, h => by simp [strips] at h
  | q :: l, [], h => by simp [strips] at h
  | q :: l, y :: b, h => by
    simp only [strips, List.map_cons, List.cons.injEq] at h
    obtain ⟨z, h1, h2, h3⟩ := pairs h.2
    refine ⟨(q, y) :: z, by rw [List.map_cons, h1], by rw [List.map_cons, h2], fun p m => ?_⟩
    rcases List.mem_cons.mp m with rfl | m
    · exact h.1
    · exact h3 p m
theorem xe_rows {K : PySem.W.Frag} {ρ : Rho} {α : Type} {F : α → Fm} {l : List PF} {b : List α} {g : α → PyData} {i : Nat} {ti te : TE} (hs : strips l = b.map F) (hi : XE K ti ρ (.list (encPs l))) (hl : b.length ≤ 1000000) (hn : ∀ x ∈ b, noL (g x) = true)
    (step : ∀ q x, q ∈ l → x ∈ b → Sd.strip q = F x → XE K te ((ρ.set i none).set i (some (encP q))) (g x)) :
    XE K (tCB (fun xs H Q => ∃ p ys, xs = [.ref p] ∧ ((SqL K H p ys ∧ ∀ l, H l = none → Q (.ref l) (upd H l (.tup ys))) ∨ (SqT K H p ys ∧ Q (.ref p) H))) (tCons (tLc (iList K ti) (gName i) tYes te [i]) tNil)) ρ (.tuple (b.map g)) := by
  obtain ⟨z, h1, h2, h3⟩ := pairs hs
  have e1 : encPs l = z.map fun q => encP q.1 := by rw [encPs_map, ← h1, List.map_map]; rfl
  have e2 : b.map g = z.map fun q => g q.2 := by rw [← h2, List.map_map]; rfl
  rw [e1] at hi
  rw [e2]
  have lz : z.length = b.length := by rw [← h2, List.length_map]
  refine xe_tupL (xe_lc (enc := fun q : PF × α => encP q.1) (g := fun q : PF × α => g q.2) hi (by omega) (fun q m => hn _ (by rw [← h2]; exact List.mem_map.mpr ⟨q, m, rfl⟩)) fun q m => ?_)
  exact step q.1 q.2 (by rw [← h1]; exact List.mem_map.mpr ⟨q, m, rfl⟩) (by rw [← h2]; exact List.mem_map.mpr ⟨q, m, rfl⟩) (h3 q m)
theorem cut2 (x y : PyData) (l : List PyData) : Pu.cutD (x :: y :: l) (some 2) none = l := by
  unfold Pu.cutD
  have e1 : HT.sIx (x :: y :: l).length 0 (some 2) = 2 := (HT.sIx_nat (x :: y :: l).length 0 2).trans (by rw [List.length_cons, List.length_cons]; omega)
  have e2 : HT.sIx (x :: y :: l).length (x :: y :: l).length none = l.length + 1 + 1 := rfl
  rw [e1, e2]
  exact List.take_length
theorem cut3 (x y z : PyData) (l : List PyData) : Pu.cutD (x :: y :: z :: l) (some 3) none = l := by
  unfold Pu.cutD
  have e1 : HT.sIx (x :: y :: z :: l).length 0 (some 3) = 3 := (HT.sIx_nat (x :: y :: z :: l).length 0 3).trans (by rw [List.length_cons, List.length_cons, List.length_cons]; omega)
  have e2 : HT.sIx (x :: y :: z :: l).length (x :: y :: z :: l).length none = l.length + 1 + 1 + 1 := rfl
  rw [e1, e2]
  exact List.take_length
/-! ### statements -/
abbrev sRst : Stmt := top 35
abbrev nRst : List Str := ["part", "head", "parts", "first", "second", "name", "indexes", "index", "handed"]
abbrev sRbd : Stmt := top 34
abbrev nRbd : List Str := ["parts", "part"]
def dRst (k : Nat) (ds : List PyData) (d : PyData) : Prop := ∃ (p : PF) (x : Tr.St), ds = [encP p] ∧ Sd.strip p = fSt x ∧ okP p ∧ depSt x < k ∧ okSt x ∧ rdSt x ∧ (wd (fSt x)).length ≤ 1000000 ∧ d = x.enc
def dRbd (k : Nat) (ds : List PyData) (d : PyData) : Prop := ∃ (l : List PF) (b : List Tr.St), ds = [.list (encPs l)] ∧ strips l = fSts b ∧ (∀ q ∈ l, okP q) ∧ (∀ s ∈ b, depSt s < k) ∧ okSts b ∧ rdSts b ∧ (wds (fSts b)).length ≤ 1000000 ∧ d = .tuple (St.encs b)
theorem bd_call {K : PySem.W.Frag} {ρ : Rho} {ta : TE} {E : XK} {k : Nat} {l : List PF} {b : List Tr.St} (h1 : strips l = fSts b) (h2 : ∀ q ∈ l, okP q) (h3 : depSts b < k) (h4 : okSts b) (h5 : rdSts b) (h6 : (wds (fSts b)).length ≤ 1000000) (ha : XE K ta ρ (.list (encPs l))) : XE K (tCall (spX K 1 (dRbd k)) [] E (tCons ta tNil)) ρ (.tuple (St.encs b)) :=
  xe_call (ds := [.list (encPs l)]) (xa_one ha) (pv_X ⟨l, b, rfl, h1, h2, fun s m => Nat.lt_of_le_of_lt (depSts_mem m) h3, h4, h5, h6, rfl⟩)
theorem ls_call {K : PySem.W.Frag} {ρ : Rho} {ta : TE} {E : XK} {l : List PF} {i : Int} (ha : XE K ta ρ (encP (.f l i))) : XE K (tCall (spX K 1 dRls) [] E (tCons ta tNil)) ρ (.list (encPs l)) := by
  rw [encP_f] at ha
  exact xe_call (ds := [lsP (encPs l) i]) (xa_one ha) (pv_X ⟨_, _, rfl, rfl⟩)
section
variable {P : Program} {w : World} {K : PySem.W.Frag} {mg : Str → Option Value} {base : Heap}
theorem scRst : FnScope nRst ["part"] (defScope sRst) := ⟨rfl, rfl, rfl, by decide +kernel, rfl, by decide +kernel, by decide +kernel⟩
theorem scRbd : FnScope nRbd ["parts"] (defScope sRbd) := ⟨rfl, rfl, rfl, by decide +kernel, rfl, by decide +kernel, by decide +kernel⟩
theorem ok_rbd {f : Addr} {fd : FuncData} {k c : Nat} (F : Fun K "read_body" "read_body" sRbd f fd) (T : Bi mg) (c_rst : Cal P w K mg base CX0 c "read_statement" ["part"] (spX K 1 (dRst k))) : FnOk P w K mg base CX0 (c + 1) f fd ["parts"] (spX K 1 (dRbd k)) := by
  have nd := scRbd.nd
  refine ok_X F scRbd (by decide) (fun cdv A outer s H E hr => ⟨_, pss_one (ps_ret (pe_callTy call_tuple_of rfl T.tuple PyProof.Rows.boot_tuple (pa_cons (pe_lc (own := [("part", 1)]) (g := gName 1) (tt := tYes) rfl nd (pi_list (pv 0)) (blkOk_by (N := nRbd) (sc := defScope sRbd) (by decide +kernel)) (fun _ _ _ _ _ => pg_name (i := 1) nd rfl (.inl rfl)) (fun _ _ _ _ _ => pts_nil) (fun _ _ _ _ _ => (pe_call c_rst.ok (hr.mono (by first | decide | omega)) rfl c_rst.m c_rst.kp c_rst.b .nil pass0 (pa_cons (pv 1) pa_nil)))) pa_nil))), ?_⟩)
  rintro ds d - ⟨l, b, rfl, hs, op, hd, ok, rd, hw, rfl⟩
  rw [fSts_map] at hs
  have lb : b.length ≤ 1000000 := by
    have := rows_le (fSts b)
    rw [fSts_map, List.length_map] at this
    rw [← fSts_map] at this
    omega
  rw [encs_map]
  refine xr_ret (xe_rows (F := fSt) (g := St.enc) hs (xe_var rfl) lb (fun x _ => nl_st x) fun q x hq hx e => ?_)
  have lx : (wd (fSt x)).length ≤ 1000000 := Nat.le_trans (wds_mem (by rw [fSts_map]; exact List.mem_map.mpr ⟨x, hx, rfl⟩)) hw
  exact xe_call (ds := [encP q]) (xa_one (xe_var (i := 1) rfl)) (pv_X ⟨q, x, rfl, e, op q hq, hd x hx, okSts_mem ok hx, rdSts_mem rd hx, lx, rfl⟩)
theorem ok_rst1 {f : Addr} {fd : FuncData} {k c : Nat} (F : Fun K "read_statement" "read_statement" sRst f fd) (T : Bi mg) (g : Gx w K mg) (hc : 27 ≤ c) (c_rls : Cal P w K mg base CX0 1 "read_list" ["part"] (spX K 1 dRls)) (c_rnm : Cal P w K mg base CX0 2 "read_name" ["part"] (spX K 1 dRnm))
    (c_rhd : Cal P w K mg base CX0 2 "read_head" ["part", "heads"] (spX K 2 dRhd)) (c_rix : Cal P w K mg base CX0 11 "read_index" ["part"] (spX K 1 (dRix 8))) (c_rpl : Cal P w K mg base CX0 12 "read_place" ["part"] (spX K 1 (dRpl 8))) (c_rex : Cal P w K mg base CX0 19 "read_expression" ["part"] (spX K 1 (dRex 8)))
    (c_rts : Cal P w K mg base CX0 27 "read_test" ["part"] (spX K 1 (dRts 8))) (c_rbd : Cal P w K mg base CX0 c "read_body" ["parts"] (spX K 1 (dRbd k))) : FnOk P w K mg base CX0 (c + 1) f fd ["part"] (spX K 1 (dRst (k + 1))) := by
  have nd := scRst.nd
  refine ok_X F scRst (by decide) (fun cdv A outer s H E hr => ⟨_, pss_cons (ps_asg (pe_call c_rhd.ok (hr.mono (by first | decide | omega)) rfl c_rhd.m c_rhd.kp c_rhd.b .nil pass0 (pa_cons (pv 0) (pa_cons (pe_glob (v := .ref g.sts.a) (by rfl) g.sts.m rfl) pa_nil))) (pg_tup (by rfl) (pgs_cons (pg_name (i := 1) nd rfl (.inl rfl)) (pgs_cons (pg_name (i := 2) nd rfl (.inl rfl)) pgs_nil))))
      (pss_cons (ps_if (pt_cmpR op_eq (pv 1) pe_str (nomark _)) (pss_one (ps_ret (pe_tup (pa_cons (pv 1) (pa_cons (pe_call c_rpl.ok (hr.mono (by first | decide | omega)) rfl c_rpl.m c_rpl.kp c_rpl.b .nil pass0 (pa_cons (pe_ix ix_list (pv 2) pe_int (fun _ _ => rfl)) pa_nil)) (pa_cons (pe_call c_rex.ok (hr.mono (by first | decide | omega)) rfl c_rex.m c_rex.kp c_rex.b .nil pass0 (pa_cons (pe_ix ix_list (pv 2) pe_int (fun _ _ => rfl)) pa_nil)) pa_nil)))))) pss_nil)
      (pss_cons (ps_if (pt_cmpR op_eq (pv 1) pe_str (nomark _)) (pss_cons (ps_asg (pe_slice sl_list (pv 2) (po_some pe_int) po_none) (pg_lst (by rfl) (pgs_cons (pg_name (i := 3) nd rfl (.inl rfl)) (pgs_cons (pg_name (i := 4) nd rfl (.inl rfl)) pgs_nil))))
      (pss_one (ps_ret (pe_tup (pa_cons (pv 1) (pa_cons (pe_call c_rts.ok (hr.mono (by first | decide | omega)) rfl c_rts.m c_rts.kp c_rts.b .nil pass0 (pa_cons (pe_ix ix_list (pv 2) pe_int (fun _ _ => rfl)) pa_nil)) (pa_cons (pe_call c_rbd.ok (hr.mono (by first | decide | omega)) rfl c_rbd.m c_rbd.kp c_rbd.b .nil pass0 (pa_cons (pe_call c_rls.ok (hr.mono (by first | decide | omega)) rfl c_rls.m c_rls.kp c_rls.b .nil pass0 (pa_cons (pv 3) pa_nil)) pa_nil)) (pa_cons (pe_call c_rbd.ok (hr.mono (by first | decide | omega)) rfl c_rbd.m c_rbd.kp c_rbd.b .nil pass0 (pa_cons (pe_call c_rls.ok (hr.mono (by first | decide | omega)) rfl c_rls.m c_rls.kp c_rls.b .nil pass0 (pa_cons (pv 4) pa_nil)) pa_nil)) pa_nil)))))))) pss_nil)
      (pss_cons (ps_set (i := 5) nd rfl (.inl rfl) (pe_call c_rnm.ok (hr.mono (by first | decide | omega)) rfl c_rnm.m c_rnm.kp c_rnm.b .nil pass0 (pa_cons (pe_ix ix_list (pv 2) pe_int (fun _ _ => rfl)) pa_nil)))
      (pss_cons (ps_if (pt_cmpR op_eq (pv 1) pe_str (nomark _)) (pss_one (ps_ret (pe_tup (pa_cons (pv 1) (pa_cons (pv 5) (pa_cons (pe_call c_rix.ok (hr.mono (by first | decide | omega)) rfl c_rix.m c_rix.kp c_rix.b .nil pass0 (pa_cons (pe_ix ix_list (pv 2) pe_int (fun _ _ => rfl)) pa_nil)) (pa_cons (pe_call c_rbd.ok (hr.mono (by first | decide | omega)) rfl c_rbd.m c_rbd.kp c_rbd.b .nil pass0 (pa_cons (pe_slice sl_list (pv 2) (po_some pe_int) po_none) pa_nil)) pa_nil))))))) pss_nil)
      (pss_cons (ps_if (pt_cmpR op_eq (pv 1) pe_str (nomark _)) (pss_one (ps_ret (pe_tup (pa_cons (pv 1) (pa_cons (pv 5) (pa_cons (pe_call c_rex.ok (hr.mono (by first | decide | omega)) rfl c_rex.m c_rex.kp c_rex.b .nil pass0 (pa_cons (pe_ix ix_list (pv 2) pe_int (fun _ _ => rfl)) pa_nil)) (pa_cons (pe_call c_rbd.ok (hr.mono (by first | decide | omega)) rfl c_rbd.m c_rbd.kp c_rbd.b .nil pass0 (pa_cons (pe_slice sl_list (pv 2) (po_some pe_int) po_none) pa_nil)) pa_nil))))))) pss_nil)
      (pss_cons (ps_set (i := 6) nd rfl (.inl rfl) (pe_callTy call_tuple_of rfl T.tuple PyProof.Rows.boot_tuple (pa_cons (pe_lc (own := [("index", 7)]) (g := gName 7) (tt := tYes) rfl nd (pi_list (pe_call c_rls.ok (hr.mono (by first | decide | omega)) rfl c_rls.m c_rls.kp c_rls.b .nil pass0 (pa_cons (pe_ix ix_list (pv 2) pe_int (fun _ _ => rfl)) pa_nil))) (blkOk_by (N := nRst) (sc := defScope sRst) (by decide +kernel)) (fun _ _ _ _ _ => pg_name (i := 7) nd rfl (.inl rfl)) (fun _ _ _ _ _ => pts_nil) (fun _ _ _ _ _ => (pe_call c_rix.ok (hr.mono (by first | decide | omega)) rfl c_rix.m c_rix.kp c_rix.b .nil pass0 (pa_cons (pv 7) pa_nil)))) pa_nil)))
      (pss_one (ps_ret (pe_tup (pa_cons (pv 1) (pa_cons (pv 5) (pa_cons (pv 6) (pa_cons (pe_callTy call_tuple_of rfl T.tuple PyProof.Rows.boot_tuple (pa_cons (pe_lc (own := [("handed", 8)]) (g := gName 8) (tt := tYes) rfl nd (pi_list (pe_call c_rls.ok (hr.mono (by first | decide | omega)) rfl c_rls.m c_rls.kp c_rls.b .nil pass0 (pa_cons (pe_ix ix_list (pv 2) pe_int (fun _ _ => rfl)) pa_nil))) (blkOk_by (N := nRst) (sc := defScope sRst) (by decide +kernel)) (fun _ _ _ _ _ => pg_name (i := 8) nd rfl (.inl rfl)) (fun _ _ _ _ _ => pts_nil) (fun _ _ _ _ _ => (pe_call c_rnm.ok (hr.mono (by first | decide | omega)) rfl c_rnm.m c_rnm.kp c_rnm.b .nil pass0 (pa_cons (pv 8) pa_nil)))) pa_nil)) pa_nil))))))))))))), ?_⟩)
  rintro ds d - ⟨p, x, rfl, hp, op, hk, ok, rd, hw, rfl⟩
  cases x with
  | set nm ix e =>
    obtain ⟨l, i, rfl, hl⟩ := strip_f (show Sd.strip p = .f [.w "set", fPl nm ix, fEx e] from hp)
    obtain ⟨j, q1, q2, rfl, h1, h2⟩ := three hl
    obtain ⟨o1, o2, o3, o4, o5⟩ : okOx ix ∧ depOx ix < 8 ∧ okEx e ∧ okDx e ∧ depEx e < 8 := ok
    obtain ⟨r1, r2, r3⟩ : Nm nm ∧ rdOx ix ∧ rdEx e := by simp only [rdSt] at rd; exact rd
    rw [encP_f]
    refine xr_un2 (x := .str "set") (y := .list (encPs [q1, q2])) (head_call (i := j) (at_ := i) (lo := 3) (hi := some 3) (xe_of' (by rw [encPs_c, encP_w]) (xe_var (d := lsP (encPs [.w "set" j, q1, q2]) i) rfl)) (xe_glob (g.sts.lv)) (by decide +kernel) (by decide +kernel) (show (3 : Int) ≤ ((3 : Nat) : Int) by decide) (show ((3 : Nat) : Int) ≤ 3 by decide)) ?_
    rw [enc2]
    refine xr_whenT (xt_test (xe_eqS (b := true) (xe_var (d := .str "set") rfl) xe_str (by decide +kernel))) (xr_ret ?_)
    exact xe_t3 (xe_var rfl) (pl_call h1 (op.mem (by simp)) o2 r1 r2 (xe_ixL (ds := [encP q1, encP q2]) (xe_var rfl) xe_int rfl)) (ex_call h2 (op.mem (by simp)) o5 o4 r3 (xe_ixL (ds := [encP q1, encP q2]) (xe_var rfl) xe_int rfl))
  | ite t a b =>
    obtain ⟨l, i, rfl, hl⟩ := strip_f (show Sd.strip p = .f [.w "if", fTs t, .f (fSts a), .f (fSts b)] from hp)
    obtain ⟨q0, r0, rfl, h0, hl2⟩ := strips_c hl
    obtain ⟨j, rfl⟩ := strip_w h0
    obtain ⟨q1, q2, rfl, h1, r1⟩ := strips_c hl2
    obtain ⟨q2, q3, rfl, h2, r2⟩ := strips_c r1
    obtain ⟨q3, q4, rfl, h3, r3⟩ := strips_c r2
    have := strips_n r3
    subst this
    obtain ⟨l2, i2, rfl, s2⟩ := strip_f h2
    obtain ⟨l3, i3, rfl, s3⟩ := strip_f h3
    obtain ⟨o1, o2, o3, o4, o5⟩ : okTs t ∧ okDt t ∧ depTs t < 8 ∧ okSts a ∧ okSts b := ok
    obtain ⟨r1, r2, r3⟩ : rdTs t ∧ rdSts a ∧ rdSts b := by simp only [rdSt] at rd; exact rd
    have dep : max (depSts a) (depSts b) + 1 < k + 1 := hk
    have wa : (wds (fSts a)).length ≤ 1000000 := by
      have := wd_mem (l := [.w "if", fTs t, .f (fSts a), .f (fSts b)]) (x := .f (fSts a)) hw (by simp)
      rw [wd_fl] at this
      omega
    have wb : (wds (fSts b)).length ≤ 1000000 := by
      have := wd_mem (l := [.w "if", fTs t, .f (fSts a), .f (fSts b)]) (x := .f (fSts b)) hw (by simp)
      rw [wd_fl] at this
      omega
    rw [encP_f]
    refine xr_un2 (x := .str "if") (y := .list (encPs [q1, .f l2 i2, .f l3 i3])) (head_call (i := j) (at_ := i) (lo := 4) (hi := some 4) (xe_of' (by rw [encPs_c, encP_w]) (xe_var (d := lsP (encPs [.w "if" j, q1, .f l2 i2, .f l3 i3]) i) rfl)) (xe_glob (g.sts.lv)) (by decide +kernel) (by decide +kernel) (show (4 : Int) ≤ ((4 : Nat) : Int) by decide) (show ((4 : Nat) : Int) ≤ 4 by decide)) ?_
    have e3 : encPs [q1, .f l2 i2, .f l3 i3] = [encP q1, encP (.f l2 i2), encP (.f l3 i3)] := by rw [encPs_c, enc2]
    rw [e3]
    refine xr_whenF (xt_test (xe_eqS (b := false) (xe_var (d := .str "if") rfl) xe_str (by decide +kernel))) ?_
    refine xr_whenT (xt_test (xe_eqS (b := true) (xe_var (d := .str "if") rfl) xe_str (by decide +kernel))) ?_
    refine xr_unL2 (xe_slL (ds := [encP q1, encP (.f l2 i2), encP (.f l3 i3)]) (xe_var rfl) (xo_some xe_int) xo_none (cut1 _ _)) (xr_ret ?_)
    exact xe_t4 (xe_var rfl) (ts_call h1 (op.mem (by simp)) o3 o2 r1 (xe_ixL (ds := [encP q1, encP (.f l2 i2), encP (.f l3 i3)]) (xe_var rfl) xe_int rfl))
      (bd_call s2 (fun q m => (op.mem (by simp) : okP (.f l2 i2)).mem m) (by omega) o4 r2 wa (ls_call (xe_var rfl))) (bd_call s3 (fun q m => (op.mem (by simp) : okP (.f l3 i3)).mem m) (by omega) o5 r3 wb (ls_call (xe_var rfl)))
  | call z xs ns =>
    obtain ⟨l, i, rfl, hl⟩ := strip_f (show Sd.strip p = .f [.w "call", .w z, .f (xs.map fIx), .f (ns.map Fm.w)] from hp)
    obtain ⟨q0, r0, rfl, h0, hl2⟩ := strips_c hl
    obtain ⟨j, rfl⟩ := strip_w h0
    obtain ⟨q1, q2, rfl, h1, r1⟩ := strips_c hl2
    obtain ⟨q2, q3, rfl, h2, r2⟩ := strips_c r1
    obtain ⟨q3, q4, rfl, h3, r3⟩ := strips_c r2
    have := strips_n r3
    subst this
    obtain ⟨l2, i2, rfl, s2⟩ := strip_f h2
    obtain ⟨l3, i3, rfl, s3⟩ := strip_f h3
    have o1 : ∀ x ∈ xs, okIx x ∧ depIx x < 8 := ok
    obtain ⟨r1, r2, r3⟩ : Nm z ∧ (∀ x ∈ xs, rdIx x) ∧ ∀ n ∈ ns, Nm n := by simp only [rdSt] at rd; exact rd
    have wa : xs.length ≤ 1000000 := by
      have := wd_mem (l := [.w "call", .w z, .f (xs.map fIx), .f (ns.map Fm.w)]) (x := .f (xs.map fIx)) hw (by simp)
      have h := rows_le (xs.map fIx)
      rw [wd_fl] at this
      rw [List.length_map] at h
      omega
    have wb : ns.length ≤ 1000000 := by
      have := wd_mem (l := [.w "call", .w z, .f (xs.map fIx), .f (ns.map Fm.w)]) (x := .f (ns.map Fm.w)) hw (by simp)
      have h := rows_le (ns.map Fm.w)
      rw [wd_fl] at this
      rw [List.length_map] at h
      omega
    rw [encP_f]
    refine xr_un2 (x := .str "call") (y := .list (encPs [q1, .f l2 i2, .f l3 i3])) (head_call (i := j) (at_ := i) (lo := 4) (hi := some 4) (xe_of' (by rw [encPs_c, encP_w]) (xe_var (d := lsP (encPs [.w "call" j, q1, .f l2 i2, .f l3 i3]) i) rfl)) (xe_glob (g.sts.lv)) (by decide +kernel) (by decide +kernel) (show (4 : Int) ≤ ((4 : Nat) : Int) by decide) (show ((4 : Nat) : Int) ≤ 4 by decide)) ?_
    have e3 : encPs [q1, .f l2 i2, .f l3 i3] = [encP q1, encP (.f l2 i2), encP (.f l3 i3)] := by rw [encPs_c, enc2]
    rw [e3]
    refine xr_whenF (xt_test (xe_eqS (b := false) (xe_var (d := .str "call") rfl) xe_str (by decide +kernel))) ?_
    refine xr_whenF (xt_test (xe_eqS (b := false) (xe_var (d := .str "call") rfl) xe_str (by decide +kernel))) ?_
    refine xr_set (nm_call h1 r1 (xe_ixL (ds := [encP q1, encP (.f l2 i2), encP (.f l3 i3)]) (xe_var rfl) xe_int rfl)) ?_
    refine xr_whenF (xt_test (xe_eqS (b := false) (xe_var (d := .str "call") rfl) xe_str (by decide +kernel))) ?_
    refine xr_whenF (xt_test (xe_eqS (b := false) (xe_var (d := .str "call") rfl) xe_str (by decide +kernel))) ?_
    refine xr_set (xe_rows (F := fIx) (g := Ix.enc) s2 (ls_call (xe_ixL (ds := [encP q1, encP (.f l2 i2), encP (.f l3 i3)]) (xe_var rfl) xe_int rfl)) wa (fun x _ => nl_ix x) fun q x hq hx e => ?_) (xr_ret ?_)
    · exact ix_call e ((op.mem (by simp) : okP (.f l2 i2)).mem hq) (o1 x hx).2 (r2 x hx) (xe_var (i := 7) rfl)
    · refine xe_t4 (xe_var rfl) (xe_var rfl) (xe_var rfl) (xe_rows (F := Fm.w) (g := PyData.str) s3 (ls_call (xe_ixL (ds := [encP q1, encP (.f l2 i2), encP (.f l3 i3)]) (xe_var rfl) xe_int rfl)) wb (fun x _ => rfl) fun q x hq hx e => ?_)
      exact nm_call e (r3 x hx) (xe_var (i := 8) rfl)
  | loop nm cc b =>
    obtain ⟨l, i, rfl, hl⟩ := strip_f (show Sd.strip p = .f ([.w "loop", .w nm, fIx cc] ++ fSts b) by simp only [fSt] at hp; exact hp)
    obtain ⟨q0, r0, rfl, h0, hl2⟩ := strips_c hl
    obtain ⟨j, rfl⟩ := strip_w h0
    obtain ⟨q1, q2, rfl, h1, r1⟩ := strips_c hl2
    obtain ⟨q2, l2, rfl, h2, s2⟩ := strips_c r1
    obtain ⟨o1, o2, o3⟩ : okIx cc ∧ depIx cc < 8 ∧ okSts b := ok
    obtain ⟨r1, r2, r3⟩ : Nm nm ∧ rdIx cc ∧ rdSts b := by simp only [rdSt] at rd; exact rd
    have dep : depSts b + 1 < k + 1 := hk
    have wa : (wds (fSts b)).length ≤ 1000000 := by
      have e : fSt (.loop nm cc b) = .f ([.w "loop", .w nm, fIx cc] ++ fSts b) := by simp only [fSt]
      rw [e, wd_fl, wds_app, List.length_append] at hw
      omega
    rw [encP_f]
    refine xr_un2 (x := .str "loop") (y := .list (encPs (q1 :: q2 :: l2))) (head_call (i := j) (at_ := i) (lo := 3) (hi := none) (xe_of' (by rw [encPs_c, encP_w]) (xe_var (d := lsP (encPs (.w "loop" j :: q1 :: q2 :: l2)) i) rfl)) (xe_glob (g.sts.lv)) (by decide +kernel) (by decide +kernel) (by rw [List.length_cons, List.length_cons]; omega) trivial) ?_
    have e3 : encPs (q1 :: q2 :: l2) = encP q1 :: encP q2 :: encPs l2 := by rw [encPs_c, encPs_c]
    rw [e3]
    refine xr_whenF (xt_test (xe_eqS (b := false) (xe_var (d := .str "loop") rfl) xe_str (by decide +kernel))) ?_
    refine xr_whenF (xt_test (xe_eqS (b := false) (xe_var (d := .str "loop") rfl) xe_str (by decide +kernel))) ?_
    refine xr_set (nm_call h1 r1 (xe_ixL (ds := encP q1 :: encP q2 :: encPs l2) (xe_var rfl) xe_int (atI_nat (j := 0) rfl))) ?_
    refine xr_whenT (xt_test (xe_eqS (b := true) (xe_var (d := .str "loop") rfl) xe_str (by decide +kernel))) (xr_ret ?_)
    exact xe_t4 (xe_var rfl) (xe_var rfl) (ix_call h2 (op.mem (by simp)) o2 r2 (xe_ixL (ds := encP q1 :: encP q2 :: encPs l2) (xe_var rfl) xe_int (atI_nat (j := 1) rfl)))
      (bd_call s2 (fun q m => op.mem (by simp [m])) (by omega) o3 r3 wa (xe_slL (ds := encP q1 :: encP q2 :: encPs l2) (xe_var rfl) (xo_some xe_int) xo_none (cut2 _ _ _)))
  | bind nm e b =>
    obtain ⟨l, i, rfl, hl⟩ := strip_f (show Sd.strip p = .f ([.w "let", .w nm, fEx e] ++ fSts b) by simp only [fSt] at hp; exact hp)
    obtain ⟨q0, r0, rfl, h0, hl2⟩ := strips_c hl
    obtain ⟨j, rfl⟩ := strip_w h0
    obtain ⟨q1, q2, rfl, h1, r1⟩ := strips_c hl2
    obtain ⟨q2, l2, rfl, h2, s2⟩ := strips_c r1
    obtain ⟨o1, o2, o3, o4⟩ : okEx e ∧ okDx e ∧ depEx e < 8 ∧ okSts b := ok
    obtain ⟨r1, r2, r3⟩ : Nm nm ∧ rdEx e ∧ rdSts b := by simp only [rdSt] at rd; exact rd
    have dep : depSts b + 1 < k + 1 := hk
    have wa : (wds (fSts b)).length ≤ 1000000 := by
      have e : fSt (.bind nm e b) = .f ([.w "let", .w nm, fEx e] ++ fSts b) := by simp only [fSt]
      rw [e, wd_fl, wds_app, List.length_append] at hw
      omega
    rw [encP_f]
    refine xr_un2 (x := .str "let") (y := .list (encPs (q1 :: q2 :: l2))) (head_call (i := j) (at_ := i) (lo := 3) (hi := none) (xe_of' (by rw [encPs_c, encP_w]) (xe_var (d := lsP (encPs (.w "let" j :: q1 :: q2 :: l2)) i) rfl)) (xe_glob (g.sts.lv)) (by decide +kernel) (by decide +kernel) (by rw [List.length_cons, List.length_cons]; omega) trivial) ?_
    have e3 : encPs (q1 :: q2 :: l2) = encP q1 :: encP q2 :: encPs l2 := by rw [encPs_c, encPs_c]
    rw [e3]
    refine xr_whenF (xt_test (xe_eqS (b := false) (xe_var (d := .str "let") rfl) xe_str (by decide +kernel))) ?_
    refine xr_whenF (xt_test (xe_eqS (b := false) (xe_var (d := .str "let") rfl) xe_str (by decide +kernel))) ?_
    refine xr_set (nm_call h1 r1 (xe_ixL (ds := encP q1 :: encP q2 :: encPs l2) (xe_var rfl) xe_int (atI_nat (j := 0) rfl))) ?_
    refine xr_whenF (xt_test (xe_eqS (b := false) (xe_var (d := .str "let") rfl) xe_str (by decide +kernel))) ?_
    refine xr_whenT (xt_test (xe_eqS (b := true) (xe_var (d := .str "let") rfl) xe_str (by decide +kernel))) (xr_ret ?_)
    exact xe_t4 (xe_var rfl) (xe_var rfl) (ex_call h2 (op.mem (by simp)) o3 o2 r2 (xe_ixL (ds := encP q1 :: encP q2 :: encPs l2) (xe_var rfl) xe_int (atI_nat (j := 1) rfl)))
      (bd_call s2 (fun q m => op.mem (by simp [m])) (by omega) o4 r3 wa (xe_slL (ds := encP q1 :: encP q2 :: encPs l2) (xe_var rfl) (xo_some xe_int) xo_none (cut2 _ _ _)))
theorem ok_rst {f fB : Addr} {fd fdB : FuncData} (F : Fun K "read_statement" "read_statement" sRst f fd) (T : Bi mg) (g : Gx w K mg) (c_rls : Cal P w K mg base CX0 1 "read_list" ["part"] (spX K 1 dRls)) (c_rnm : Cal P w K mg base CX0 2 "read_name" ["part"] (spX K 1 dRnm))
    (c_rhd : Cal P w K mg base CX0 2 "read_head" ["part", "heads"] (spX K 2 dRhd)) (c_rix : Cal P w K mg base CX0 11 "read_index" ["part"] (spX K 1 (dRix 8))) (c_rpl : Cal P w K mg base CX0 12 "read_place" ["part"] (spX K 1 (dRpl 8))) (c_rex : Cal P w K mg base CX0 19 "read_expression" ["part"] (spX K 1 (dRex 8)))
    (c_rts : Cal P w K mg base CX0 27 "read_test" ["part"] (spX K 1 (dRts 8))) (b : Binds K fd ["part"] []) (m : mg "read_statement" = some (.ref f)) (FB : Fun K "read_body" "read_body" sRbd fB fdB) (bB : Binds K fdB ["parts"] []) (mB : mg "read_body" = some (.ref fB)) : ∀ k : Nat, FnOk P w K mg base CX0 (2 * k + 30) f fd ["part"] (spX K 1 (dRst k))
  | 0 => fx_none fun ds d h => by obtain ⟨_, _, _, _, _, z, _⟩ := h; exact absurd z (Nat.not_lt_zero _)
  | k + 1 => ok_rst1 (c := 2 * k + 31) F T g (by omega) c_rls c_rnm c_rhd c_rix c_rpl c_rex c_rts ⟨fB, fdB, ok_rbd FB T ⟨f, fd, ok_rst F T g c_rls c_rnm c_rhd c_rix c_rpl c_rex c_rts b m FB bB mB k, b, F.kp, m⟩, bB, FB.kp, mB⟩
end
end Px

namespace Px
open PySem L2 Tr Pu Sd PyProof.Rows
abbrev sRva : Stmt := top 31
abbrev sRre : Stmt := top 30
abbrev sRpr : Stmt := top 29
abbrev nRpr : List Str := ["parts", "name", "indexes", "references", "part"]
abbrev sRde : Stmt := top 28
abbrev sDbe : Stmt := top 59
def rdDecl (d : Decl) : Prop := Nm d.1 ∧ 0 ≤ d.2 ∧ d.2 ≤ 8
def rdProc (p : Proc) : Prop := Nm p.name ∧ (∀ n ∈ p.idxs, Nm n) ∧ (∀ d ∈ p.refs, rdDecl d) ∧ okSts p.body ∧ depSts p.body < 16 ∧ rdSts p.body
def dRva (ds : List PyData) (d : PyData) : Prop := ∃ (l : List PF) (c : Decl), ds = [.list (encPs l)] ∧ strips l = fDecl c ∧ rdDecl c ∧ d = c.enc
def dRre (ds : List PyData) (d : PyData) : Prop := ∃ (p : PF) (c : Decl), ds = [encP p] ∧ Sd.strip p = .f (fDecl c) ∧ rdDecl c ∧ d = c.enc
def fPr (p : Proc) : List Fm := [.w p.name, .f (p.idxs.map Fm.w), .f (p.refs.map fun d => .f (fDecl d))] ++ fSts p.body
def dRpr (ds : List PyData) (d : PyData) : Prop := ∃ (l : List PF) (p : Proc), ds = [.list (encPs l)] ∧ strips l = fPr p ∧ (∀ q ∈ l, okP q) ∧ rdProc p ∧ (wds (fPr p)).length ≤ 1000000 ∧ d = p.enc
/-- a declaration: its head, the parts behind it, what they are read as -/
inductive Item where
  | state (c : Decl)
  | param (c : Decl)
  | proc (p : Proc)
  | beat (b : List Tr.St)
def Item.head : Item → Str
  | .state _ => "state" | .param _ => "param" | .proc _ => "procedure" | .beat _ => "beat"
def Item.parts : Item → List Fm
  | .state c => fDecl c | .param c => fDecl c | .proc p => fPr p | .beat b => fSts b
def Item.enc : Item → PyData
  | .state c => c.enc | .param c => c.enc | .proc p => p.enc | .beat b => .tuple (St.encs b)
def Item.ok : Item → Prop
  | .state c => rdDecl c | .param c => rdDecl c | .proc p => rdProc p | .beat b => okSts b ∧ depSts b < 16 ∧ rdSts b
def dRde (ds : List PyData) (d : PyData) : Prop := ∃ (l : List PF) (x : Item), ds = [.str x.head, .list (encPs l)] ∧ strips l = x.parts ∧ (∀ q ∈ l, okP q) ∧ x.ok ∧ (wds x.parts).length ≤ 1000000 ∧ d = x.enc
def behind : Item → List Str
  | .state _ => lDcs | .param _ => ["param", "procedure", "beat"] | .proc _ => ["procedure", "beat"] | .beat _ => []
def dDbe (ds : List PyData) (d : PyData) : Prop := ∃ x : Item, ds = [.str x.head] ∧ d = .tuple ((behind x).map PyData.str)
theorem nl_decl (c : Decl) : noL c.enc = true := rfl
theorem nl_proc (p : Proc) : noL p.enc = true := by
  show (noL (.str p.name) && (noLs (p.idxs.map PyData.str) && (noLs (p.refs.map Decl.enc) && (noLs (St.encs p.body) && true)))) = true
  rw [noLs_of (ds := p.idxs.map PyData.str) fun d m => by obtain ⟨x, _, rfl⟩ := List.mem_map.mp m; rfl, noLs_of (ds := p.refs.map Decl.enc) fun d m => by obtain ⟨x, _, rfl⟩ := List.mem_map.mp m; rfl, nl_sts p.body]
  rfl
theorem nl_item : ∀ x : Item, noL x.enc = true
  | .state c => rfl
  | .param c => rfl
  | .proc p => nl_proc p
  | .beat b => by
    show noLs (St.encs b) = true
    exact nl_sts b
section
variable {P : Program} {w : World} {K : PySem.W.Frag} {mg : Str → Option Value} {base : Heap}
theorem scRva : FnScope ["parts", "name"] ["parts"] (defScope sRva) := ⟨rfl, rfl, rfl, by decide +kernel, rfl, by decide +kernel, by decide +kernel⟩
theorem scRre : FnScope ["part", "parts"] ["part"] (defScope sRre) := ⟨rfl, rfl, rfl, by decide +kernel, rfl, by decide +kernel, by decide +kernel⟩
theorem scRpr : FnScope nRpr ["parts"] (defScope sRpr) := ⟨rfl, rfl, rfl, by decide +kernel, rfl, by decide +kernel, by decide +kernel⟩
theorem scRde : FnScope ["head", "parts"] ["head", "parts"] (defScope sRde) := ⟨rfl, rfl, rfl, by decide +kernel, rfl, by decide +kernel, by decide +kernel⟩
theorem scDbe : FnScope ["head"] ["head"] (defScope sDbe) := ⟨rfl, rfl, rfl, by decide +kernel, rfl, by decide +kernel, by decide +kernel⟩
theorem ok_rva {f : Addr} {fd : FuncData} (F : Fun K "read_variable" "read_variable" sRva f fd) (T : Bi mg) (g : Gx w K mg) (c_rnm : Cal P w K mg base CX0 2 "read_name" ["part"] (spX K 1 dRnm)) (c_rnu : Cal P w K mg base CX0 3 "read_numeral" ["part", "least", "most"] (spX K 3 dRnu)) :
    FnOk P w K mg base CX0 4 f fd ["parts"] (spX K 1 dRva) := by
  have nd := scRva.nd
  refine ok_X F scRva (by decide) (fun cdv A outer s H E hr => ⟨_, pss_cons (ps_set (i := 1) nd rfl (.inl rfl) (pe_call c_rnm.ok (hr.mono (by first | decide | omega)) rfl c_rnm.m c_rnm.kp c_rnm.b .nil pass0 (pa_cons (pe_ix ix_list (pv 0) pe_int (fun _ _ => rfl)) pa_nil)))
      (pss_cons (ps_if (pt_cmpR op_eq (pe_callB call_len_seq rfl T.len PySem.boot_len (pa_cons (pv 0) pa_nil)) pe_int (nomark _)) (pss_one (ps_ret (pe_tup (pa_cons (pv 1) (pa_cons pe_int pa_nil))))) pss_nil)
      (pss_one (ps_ret (pe_tup (pa_cons (pv 1) (pa_cons (pe_call c_rnu.ok (hr.mono (by first | decide | omega)) rfl c_rnu.m c_rnu.kp c_rnu.b .nil pass0 (pa_cons (pe_ix ix_list (pv 0) pe_int (fun _ _ => rfl)) (pa_cons pe_int (pa_cons (pe_glob (v := .int 8) (by rfl) g.mSize ⟨_, rfl⟩) pa_nil)))) pa_nil)))))), ?_⟩)
  rintro ds d - ⟨l, ⟨nm, z⟩, rfl, hs, ⟨hn, h0, h8⟩, rfl⟩
  have hz : Nm nm := hn
  by_cases c : z = 0
  · have e : fDecl (nm, z) = [.w nm] := if_pos c
    rw [e] at hs
    obtain ⟨q1, r1, rfl, h1, hl⟩ := strips_c hs
    have := strips_n hl
    subst this
    rw [enc1]
    refine xr_set (nm_call h1 hz (xe_ixL (ds := [encP q1]) (xe_var rfl) xe_int rfl)) ?_
    refine xr_whenT (xt_test (xe_of (b := true) (by rfl) (xe_eqI (i := 1) (j := 1) (xe_lenL (ds := [encP q1]) (xe_var rfl)) xe_int))) (xr_ret ?_)
    have e2 : Decl.enc (nm, z) = .tuple [.str nm, .int 0] := by rw [c]; rfl
    rw [e2]
    exact xe_t2 (xe_var rfl) xe_int
  · have e : fDecl (nm, z) = [.w nm, num z] := if_neg c
    rw [e] at hs
    obtain ⟨q1, r1, rfl, h1, hl⟩ := strips_c hs
    obtain ⟨q2, r2, rfl, h2, hl⟩ := strips_c hl
    have := strips_n hl
    subst this
    have h0' : 0 ≤ z := h0
    have h8' : z ≤ 8 := h8
    rw [enc2]
    refine xr_set (nm_call h1 hz (xe_ixL (ds := [encP q1, encP q2]) (xe_var rfl) xe_int rfl)) ?_
    refine xr_whenF (xt_test (xe_of (b := false) (by rfl) (xe_eqI (i := 2) (j := 1) (xe_lenL (ds := [encP q1, encP q2]) (xe_var rfl)) xe_int))) (xr_ret ?_)
    exact xe_t2 (xe_var rfl) (nu_call (lo := 1) (hi := 8) h2 h0' (by omega) (by omega) h8' (xe_ixL (ds := [encP q1, encP q2]) (xe_var rfl) xe_int rfl) xe_int (xe_glob fun _ => rfl))
theorem ok_rre {f : Addr} {fd : FuncData} (F : Fun K "read_reference" "read_reference" sRre f fd) (T : Bi mg) (c_rls : Cal P w K mg base CX0 1 "read_list" ["part"] (spX K 1 dRls)) (c_rva : Cal P w K mg base CX0 4 "read_variable" ["parts"] (spX K 1 dRva)) :
    FnOk P w K mg base CX0 5 f fd ["part"] (spX K 1 dRre) := by
  have nd := scRre.nd
  refine ok_X F scRre (by decide) (fun cdv A outer s H E hr => ⟨_, pss_cons (ps_set (i := 1) nd rfl (.inl rfl) (pe_call c_rls.ok (hr.mono (by first | decide | omega)) rfl c_rls.m c_rls.kp c_rls.b .nil pass0 (pa_cons (pv 0) pa_nil)))
      (pss_cons (ps_if (pt_not (pt_chain op_le op_le pe_int (pe_callB call_len_seq rfl T.len PySem.boot_len (pa_cons (pv 1) pa_nil)) pe_int)) (pss_one ps_dead) pss_nil)
      (pss_one (ps_ret (pe_call c_rva.ok (hr.mono (by first | decide | omega)) rfl c_rva.m c_rva.kp c_rva.b .nil pass0 (pa_cons (pv 1) pa_nil))))), ?_⟩)
  rintro ds d - ⟨p, c, rfl, hp, ok, rfl⟩
  obtain ⟨l, i, rfl, hl⟩ := strip_f hp
  have len : (encPs l).length = 1 ∨ (encPs l).length = 2 := by
    have : l.length = (fDecl c).length := by rw [← hl, strips_map, List.length_map]
    rw [encPs_map, List.length_map, this]
    unfold fDecl
    split
    · exact .inl rfl
    · exact .inr rfl
  refine xr_set (ls_call (xe_var rfl)) ?_
  refine xr_whenF (xt_notF (xt_test (xe_of (b := true) ?_ (xe_chain (p := fun i j => decide (i ≤ j)) (q := fun i j => decide (i ≤ j)) (i := 1) (j := ((encPs l).length : Int)) (l := 2) xe_int (xe_lenL (xe_var (d := .list (encPs l)) rfl)) xe_int)))) ?_
  · rcases len with e | e <;> rw [e] <;> rfl
  · exact xr_ret (xe_call (ds := [.list (encPs l)]) (xa_one (xe_var rfl)) (pv_X ⟨l, c, rfl, hl, ok, rfl⟩))
theorem ok_rpr {f : Addr} {fd : FuncData} (F : Fun K "read_procedure" "read_procedure" sRpr f fd) (T : Bi mg) (c_rls : Cal P w K mg base CX0 1 "read_list" ["part"] (spX K 1 dRls)) (c_rnm : Cal P w K mg base CX0 2 "read_name" ["part"] (spX K 1 dRnm)) (c_rre : Cal P w K mg base CX0 5 "read_reference" ["part"] (spX K 1 dRre))
    (c_rbd : Cal P w K mg base CX0 63 "read_body" ["parts"] (spX K 1 (dRbd 16))) : FnOk P w K mg base CX0 64 f fd ["parts"] (spX K 1 dRpr) := by
  have nd := scRpr.nd
  refine ok_X F scRpr (by decide) (fun cdv A outer s H E hr => ⟨_, pss_cons (ps_set (i := 1) nd rfl (.inl rfl) (pe_call c_rnm.ok (hr.mono (by first | decide | omega)) rfl c_rnm.m c_rnm.kp c_rnm.b .nil pass0 (pa_cons (pe_ix ix_list (pv 0) pe_int (fun _ _ => rfl)) pa_nil)))
      (pss_cons (ps_set (i := 2) nd rfl (.inl rfl) (pe_callTy call_tuple_of rfl T.tuple PyProof.Rows.boot_tuple (pa_cons (pe_lc (own := [("part", 4)]) (g := gName 4) (tt := tYes) rfl nd (pi_list (pe_call c_rls.ok (hr.mono (by first | decide | omega)) rfl c_rls.m c_rls.kp c_rls.b .nil pass0 (pa_cons (pe_ix ix_list (pv 0) pe_int (fun _ _ => rfl)) pa_nil))) (blkOk_by (N := nRpr) (sc := defScope sRpr) (by decide +kernel)) (fun _ _ _ _ _ => pg_name (i := 4) nd rfl (.inl rfl)) (fun _ _ _ _ _ => pts_nil) (fun _ _ _ _ _ => (pe_call c_rnm.ok (hr.mono (by first | decide | omega)) rfl c_rnm.m c_rnm.kp c_rnm.b .nil pass0 (pa_cons (pv 4) pa_nil)))) pa_nil)))
      (pss_cons (ps_set (i := 3) nd rfl (.inl rfl) (pe_callTy call_tuple_of rfl T.tuple PyProof.Rows.boot_tuple (pa_cons (pe_lc (own := [("part", 4)]) (g := gName 4) (tt := tYes) rfl nd (pi_list (pe_call c_rls.ok (hr.mono (by first | decide | omega)) rfl c_rls.m c_rls.kp c_rls.b .nil pass0 (pa_cons (pe_ix ix_list (pv 0) pe_int (fun _ _ => rfl)) pa_nil))) (blkOk_by (N := nRpr) (sc := defScope sRpr) (by decide +kernel)) (fun _ _ _ _ _ => pg_name (i := 4) nd rfl (.inl rfl)) (fun _ _ _ _ _ => pts_nil) (fun _ _ _ _ _ => (pe_call c_rre.ok (hr.mono (by first | decide | omega)) rfl c_rre.m c_rre.kp c_rre.b .nil pass0 (pa_cons (pv 4) pa_nil)))) pa_nil)))
      (pss_one (ps_ret (pe_tup (pa_cons (pv 1) (pa_cons (pv 2) (pa_cons (pv 3) (pa_cons (pe_call c_rbd.ok (hr.mono (by first | decide | omega)) rfl c_rbd.m c_rbd.kp c_rbd.b .nil pass0 (pa_cons (pe_slice sl_list (pv 0) (po_some pe_int) po_none) pa_nil)) pa_nil))))))))), ?_⟩)
  rintro ds d - ⟨l, p, rfl, hs, op, ⟨k1, k2, k3, k4, k5, k6⟩, hw, rfl⟩
  obtain ⟨q1, r1, rfl, h1, hs1⟩ := strips_c hs
  obtain ⟨q2, r2, rfl, h2, hs2⟩ := strips_c hs1
  obtain ⟨q3, r3, rfl, h3, hs3⟩ := strips_c hs2
  obtain ⟨l2, i2, rfl, s2⟩ := strip_f h2
  obtain ⟨l3, i3, rfl, s3⟩ := strip_f h3
  have e0 : fPr p = [.w p.name, .f (p.idxs.map Fm.w), .f (p.refs.map fun d => .f (fDecl d))] ++ fSts p.body := rfl
  have hw' := hw
  rw [e0, wds_app, List.length_append, wds_cl, wds_cl, wds_cl, wds_nl, wd_fl, wd_fl] at hw'
  have li : p.idxs.length ≤ 1000000 := by
    have h := rows_le (p.idxs.map Fm.w)
    rw [List.length_map] at h
    omega
  have lr : p.refs.length ≤ 1000000 := by
    have h := rows_le (p.refs.map fun d => Fm.f (fDecl d))
    rw [List.length_map] at h
    omega
  have e3 : encPs (q1 :: .f l2 i2 :: .f l3 i3 :: r3) = encP q1 :: encP (.f l2 i2) :: encP (.f l3 i3) :: encPs r3 := by rw [encPs_c, encPs_c, encPs_c]
  rw [e3]
  refine xr_set (nm_call h1 k1 (xe_ixL (ds := encP q1 :: encP (.f l2 i2) :: encP (.f l3 i3) :: encPs r3) (xe_var rfl) xe_int (atI_nat (j := 0) rfl))) ?_
  refine xr_set (xe_rows (F := Fm.w) (g := PyData.str) s2 (ls_call (xe_ixL (ds := encP q1 :: encP (.f l2 i2) :: encP (.f l3 i3) :: encPs r3) (xe_var rfl) xe_int (atI_nat (j := 1) rfl))) li (fun x _ => rfl) fun q x hq hx e => ?_) ?_
  · exact nm_call e (k2 x hx) (xe_var (i := 4) rfl)
  refine xr_set (xe_rows (F := fun d => .f (fDecl d)) (g := Decl.enc) s3 (ls_call (xe_ixL (ds := encP q1 :: encP (.f l2 i2) :: encP (.f l3 i3) :: encPs r3) (xe_var rfl) xe_int (atI_nat (j := 2) rfl))) lr (fun x _ => rfl) fun q x hq hx e => ?_) (xr_ret ?_)
  · exact xe_call (ds := [encP q]) (xa_one (xe_var (i := 4) rfl)) (pv_X ⟨q, x, rfl, e, k3 x hx, rfl⟩)
  exact xe_t4 (xe_var rfl) (xe_var rfl) (xe_var rfl) (bd_call hs3 (fun q m => op q (by simp [m])) k5 k4 k6 (by omega) (xe_slL (ds := encP q1 :: encP (.f l2 i2) :: encP (.f l3 i3) :: encPs r3) (xe_var rfl) (xo_some xe_int) xo_none (cut3 _ _ _ _)))
theorem ok_rde {f : Addr} {fd : FuncData} (F : Fun K "read_declaration" "read_declaration" sRde f fd) (c_rva : Cal P w K mg base CX0 4 "read_variable" ["parts"] (spX K 1 dRva)) (c_rpr : Cal P w K mg base CX0 64 "read_procedure" ["parts"] (spX K 1 dRpr))
    (c_rbd : Cal P w K mg base CX0 63 "read_body" ["parts"] (spX K 1 (dRbd 16))) : FnOk P w K mg base CX0 65 f fd ["head", "parts"] (spX K 2 dRde) := by
  have nd := scRde.nd
  refine ok_X F scRde (by decide) (fun cdv A outer s H E hr => ⟨_, pss_cons (ps_if (pt_cmpR op_eq (pv 0) pe_str (nomark _)) (pss_one (ps_ret (pe_call c_rbd.ok (hr.mono (by first | decide | omega)) rfl c_rbd.m c_rbd.kp c_rbd.b .nil pass0 (pa_cons (pv 1) pa_nil)))) pss_nil)
      (pss_cons (ps_if (pt_cmpR op_eq (pv 0) pe_str (nomark _)) (pss_one (ps_ret (pe_call c_rpr.ok (hr.mono (by first | decide | omega)) rfl c_rpr.m c_rpr.kp c_rpr.b .nil pass0 (pa_cons (pv 1) pa_nil)))) pss_nil)
      (pss_one (ps_ret (pe_call c_rva.ok (hr.mono (by first | decide | omega)) rfl c_rva.m c_rva.kp c_rva.b .nil pass0 (pa_cons (pv 1) pa_nil))))), ?_⟩)
  rintro ds d - ⟨l, x, rfl, hs, op, ok, hw, rfl⟩
  cases x with
  | state c =>
    refine xr_whenF (xt_test (xe_eqS (b := false) (xe_var (d := .str "state") rfl) xe_str (by decide +kernel))) ?_
    refine xr_whenF (xt_test (xe_eqS (b := false) (xe_var (d := .str "state") rfl) xe_str (by decide +kernel))) (xr_ret ?_)
    exact xe_call (ds := [.list (encPs l)]) (xa_one (xe_var rfl)) (pv_X ⟨l, c, rfl, hs, ok, rfl⟩)
  | param c =>
    refine xr_whenF (xt_test (xe_eqS (b := false) (xe_var (d := .str "param") rfl) xe_str (by decide +kernel))) ?_
    refine xr_whenF (xt_test (xe_eqS (b := false) (xe_var (d := .str "param") rfl) xe_str (by decide +kernel))) (xr_ret ?_)
    exact xe_call (ds := [.list (encPs l)]) (xa_one (xe_var rfl)) (pv_X ⟨l, c, rfl, hs, ok, rfl⟩)
  | proc p =>
    refine xr_whenF (xt_test (xe_eqS (b := false) (xe_var (d := .str "procedure") rfl) xe_str (by decide +kernel))) ?_
    refine xr_whenT (xt_test (xe_eqS (b := true) (xe_var (d := .str "procedure") rfl) xe_str (by decide +kernel))) (xr_ret ?_)
    exact xe_call (ds := [.list (encPs l)]) (xa_one (xe_var rfl)) (pv_X ⟨l, p, rfl, hs, op, ok, hw, rfl⟩)
  | beat b =>
    refine xr_whenT (xt_test (xe_eqS (b := true) (xe_var (d := .str "beat") rfl) xe_str (by decide +kernel))) (xr_ret ?_)
    exact bd_call hs op ok.2.1 ok.1 ok.2.2 hw (xe_var rfl)
theorem xe_index (g : Gx w K mg) {ρ : Rho} {tb : TE} {h : Str} {j : Nat} (hb : XE K tb ρ (.str h)) (e : lDcs[j]? = some h) (n : ∀ m, m < j → lDcs[m]? ≠ some h) : XE K (tBM K "tuple" (fun x xs H Q => ∃ p, ∃ ys : List Str, ∃ z j, x = .ref p ∧ xs = [.str z] ∧ SqT K H p (ys.map V.str) ∧ ys[j]? = some z ∧ (∀ m, m < j → ys[m]? ≠ some z) ∧ Q (.int (j : Nat)) H) (tC (.ref g.dcs.a)) (tCons tb tNil)) ρ (.int (j : Nat)) := fun σ H Q en q =>
  ⟨.inr (.inl ⟨rfl, g.dcs.lk⟩), hb σ H _ en fun v H1 s1 tv => by
    have e1 : v = .str h := tv
    subst e1
    exact ⟨g.dcs.a, lDcs, h, j, rfl, rfl, g.dcs.sq H1, e, n, q _ H1 s1 rfl⟩⟩
theorem ok_dbe {f : Addr} {fd : FuncData} (F : Fun K "declarations_behind" "declarations_behind" sDbe f fd) (g : Gx w K mg) : FnOk P w K mg base CX0 1 f fd ["head"] (spX K 1 dDbe) := by
  have nd := scDbe.nd
  refine ok_X F scDbe (by decide) (fun cdv A outer s H E hr => ⟨_, pss_cons (ps_if (pt_cmpR op_eq (pv 0) pe_str (nomark _)) (pss_one (ps_ret (pe_tup pa_nil))) pss_nil)
      (pss_one (ps_ret (pe_slice sl_tupA (pe_glob (v := .ref g.dcs.a) (by rfl) g.dcs.m rfl) (po_some (pe_bm PySem.F.plainAttrs_tuple PySem.F.slot_tuple_index PySem.F.type_tuple_index mt_tup_index (pe_glob (v := .ref g.dcs.a) (by rfl) g.dcs.m rfl) (pa_cons (pv 0) pa_nil))) po_none))), ?_⟩)
  rintro ds d - ⟨x, rfl, rfl⟩
  have lv := xe_glob (K := K) (ρ := [some (.str x.head)]) (d := .tuple (lDcs.map PyData.str)) g.dcs.lv
  cases x with
  | state c =>
    refine xr_whenF (xt_test (xe_eqS (b := false) (xe_var (d := .str "state") rfl) xe_str (by decide +kernel))) (xr_ret ?_)
    exact xe_sl (lo := some 0) lv (xo_some (xe_index (j := 0) g (xe_var (d := .str "state") rfl) (by decide +kernel) (by decide +kernel))) xo_none (by rfl)
  | param c =>
    refine xr_whenF (xt_test (xe_eqS (b := false) (xe_var (d := .str "param") rfl) xe_str (by decide +kernel))) (xr_ret ?_)
    exact xe_sl (lo := some 1) lv (xo_some (xe_index (j := 1) g (xe_var (d := .str "param") rfl) (by decide +kernel) (by decide +kernel))) xo_none (by rfl)
  | proc p =>
    refine xr_whenF (xt_test (xe_eqS (b := false) (xe_var (d := .str "procedure") rfl) xe_str (by decide +kernel))) (xr_ret ?_)
    exact xe_sl (lo := some 2) lv (xo_some (xe_index (j := 2) g (xe_var (d := .str "procedure") rfl) (by decide +kernel) (by decide +kernel))) xo_none (by rfl)
  | beat b =>
    exact xr_whenT (xt_test (xe_eqS (b := true) (xe_var (d := .str "beat") rfl) xe_str (by decide +kernel))) (xr_ret (xe_tup (ds := []) xa_nil (show 0 ≤ 1000 by decide)))
end
end Px

namespace Px
open PySem PySem.Spec L2 Tr Pu Sd PyProof.Rows
/-! ### a whole text -/
def items (t : Tr.Tree) : List Item := t.state.map Item.state ++ t.params.map Item.param ++ t.procs.map Item.proc ++ [.beat t.beat]
def Item.form (x : Item) : Fm := .f (.w x.head :: x.parts)
theorem items_forms (t : Tr.Tree) : fTree t = (items t).map Item.form := by
  unfold items fTree
  simp only [List.map_append, List.map_map, List.map_cons, List.map_nil]
  rfl
/-- what of a tree may be read back -/
def rdTree (t : Tr.Tree) : Prop := ∀ x ∈ items t, x.ok ∧ (wds x.parts).length ≤ 1000000
def colE (h : Str) (l : List Item) : List PyData := (l.filter fun x => decide (x.head = h)).map Item.enc
theorem colE_snoc {h : Str} {l : List Item} {x : Item} : colE h (l ++ [x]) = if x.head = h then colE h l ++ [x.enc] else colE h l := by
  unfold colE
  rw [List.filter_append, List.map_append]
  by_cases c : x.head = h
  · rw [if_pos c, List.filter_cons_of_pos (by rw [decide_eq_true c])]
    rfl
  · rw [if_neg c, List.filter_cons_of_neg (by rw [decide_eq_false c]; exact Bool.false_ne_true)]
    simp
theorem filt_none {h : Str} {l : List Item} (n : ∀ x ∈ l, x.head ≠ h) : (l.filter fun x => decide (x.head = h)) = [] := List.filter_eq_nil_iff.mpr fun x m => by rw [decide_eq_false (n x m)]; exact Bool.false_ne_true
theorem filt_all {h : Str} {l : List Item} (n : ∀ x ∈ l, x.head = h) : (l.filter fun x => decide (x.head = h)) = l := List.filter_eq_self.mpr fun x m => decide_eq_true (n x m)
theorem mem_hd {α : Type} {f : α → Item} {h : Str} (e : ∀ a, (f a).head = h) {l : List α} : ∀ x ∈ l.map f, x.head = h := fun x m => by
  obtain ⟨a, _, rfl⟩ := List.mem_map.mp m
  exact e a
theorem col_state (t : Tr.Tree) : colE "state" (items t) = t.state.map Decl.enc := by
  unfold colE items
  rw [List.filter_append, List.filter_append, List.filter_append, filt_all (h := "state") (l := t.state.map Item.state) (mem_hd (f := Item.state) fun _ => rfl), filt_none (l := t.params.map Item.param) (fun x m => by rw [mem_hd (h := "param") (fun _ => rfl) x m]; decide +kernel), filt_none (l := t.procs.map Item.proc) (fun x m => by rw [mem_hd (h := "procedure") (fun _ => rfl) x m]; decide +kernel), filt_none (l := [Item.beat t.beat]) (fun x m => by rw [List.mem_singleton.mp m]; show ("beat" : Str) ≠ "state"; decide +kernel)]
  simp only [List.append_nil, List.map_map]
  rfl
theorem col_param (t : Tr.Tree) : colE "param" (items t) = t.params.map Decl.enc := by
  unfold colE items
  rw [List.filter_append, List.filter_append, List.filter_append, filt_none (l := t.state.map Item.state) (fun x m => by rw [mem_hd (h := "state") (fun _ => rfl) x m]; decide +kernel), filt_all (h := "param") (l := t.params.map Item.param) (mem_hd (f := Item.param) fun _ => rfl), filt_none (l := t.procs.map Item.proc) (fun x m => by rw [mem_hd (h := "procedure") (fun _ => rfl) x m]; decide +kernel), filt_none (l := [Item.beat t.beat]) (fun x m => by rw [List.mem_singleton.mp m]; show ("beat" : Str) ≠ "param"; decide +kernel)]
  simp only [List.append_nil, List.nil_append, List.map_map]
  rfl
theorem col_proc (t : Tr.Tree) : colE "procedure" (items t) = t.procs.map Proc.enc := by
  unfold colE items
  rw [List.filter_append, List.filter_append, List.filter_append, filt_none (l := t.state.map Item.state) (fun x m => by rw [mem_hd (h := "state") (fun _ => rfl) x m]; decide +kernel), filt_none (l := t.params.map Item.param) (fun x m => by rw [mem_hd (h := "param") (fun _ => rfl) x m]; decide +kernel), filt_all (h := "procedure") (l := t.procs.map Item.proc) (mem_hd (f := Item.proc) fun _ => rfl), filt_none (l := [Item.beat t.beat]) (fun x m => by rw [List.mem_singleton.mp m]; show ("beat" : Str) ≠ "procedure"; decide +kernel)]
  simp only [List.append_nil, List.nil_append, List.map_map]
  rfl
theorem col_beat (t : Tr.Tree) : colE "beat" (items t) = [.tuple (St.encs t.beat)] := by
  unfold colE items
  rw [List.filter_append, List.filter_append, List.filter_append, filt_none (l := t.state.map Item.state) (fun x m => by rw [mem_hd (h := "state") (fun _ => rfl) x m]; decide +kernel), filt_none (l := t.params.map Item.param) (fun x m => by rw [mem_hd (h := "param") (fun _ => rfl) x m]; decide +kernel), filt_none (l := t.procs.map Item.proc) (fun x m => by rw [mem_hd (h := "procedure") (fun _ => rfl) x m]; decide +kernel), filt_all (l := [Item.beat t.beat]) (fun x m => by rw [List.mem_singleton.mp m]; rfl)]
  rfl
/-- which heads may come behind the first n declarations -/
def allowB (l : List Item) : List Str := match l.getLast? with
  | none => lDcs
  | some x => behind x
def Item.rank : Item → Nat
  | .state _ => 0 | .param _ => 1 | .proc _ => 2 | .beat _ => 3
theorem head_mem (x : Item) : x.head ∈ lDcs := by
  cases x with
  | state c => exact (by decide +kernel : ("state" : Str) ∈ lDcs)
  | param c => exact (by decide +kernel : ("param" : Str) ∈ lDcs)
  | proc p => exact (by decide +kernel : ("procedure" : Str) ∈ lDcs)
  | beat b => exact (by decide +kernel : ("beat" : Str) ∈ lDcs)
theorem allow_next {x y : Item} (h : x.rank ≤ y.rank) (n : x.rank < 3) : y.head ∈ behind x := by
  cases x with
  | state c => exact head_mem y
  | param c =>
    cases y with
    | state c => exact absurd h (show ¬ 1 ≤ 0 by decide)
    | param c => exact (by decide +kernel : ("param" : Str) ∈ (["param", "procedure", "beat"] : List Str))
    | proc p => exact (by decide +kernel : ("procedure" : Str) ∈ (["param", "procedure", "beat"] : List Str))
    | beat b => exact (by decide +kernel : ("beat" : Str) ∈ (["param", "procedure", "beat"] : List Str))
  | proc c =>
    cases y with
    | state c => exact absurd h (show ¬ 2 ≤ 0 by decide)
    | param c => exact absurd h (show ¬ 2 ≤ 1 by decide)
    | proc p => exact (by decide +kernel : ("procedure" : Str) ∈ (["procedure", "beat"] : List Str))
    | beat b => exact (by decide +kernel : ("beat" : Str) ∈ (["procedure", "beat"] : List Str))
  | beat b => exact absurd n (show ¬ 3 < 3 by decide)
theorem pw_all {α : Type} {R : α → α → Prop} {l : List α} (h : ∀ a b, R a b) : l.Pairwise R := by
  induction l with
  | nil => exact .nil
  | cons a r ih => exact .cons (fun b _ => h a b) ih
/-- no declaration stands before one of a lesser sort, and only the last is the beat -/
theorem items_allow (t : Tr.Tree) : ∀ (i : Nat) (x : Item), (items t)[i]? = some x → x.head ∈ allowB ((items t).take i) := by
  have sorted : ∀ (i : Nat) (x y : Item), (items t)[i]? = some x → (items t)[i + 1]? = some y → x.rank ≤ y.rank ∧ x.rank < 3 := by
    have hs : (items t).Pairwise (fun x y => x.rank ≤ y.rank ∧ x.rank < 3) := by
      unfold items
      refine List.pairwise_append.mpr ⟨List.pairwise_append.mpr ⟨List.pairwise_append.mpr ⟨?_, ?_, ?_⟩, ?_, ?_⟩, ?_, ?_⟩
      · exact List.pairwise_map.mpr (pw_all fun _ _ => ⟨Nat.le_refl _, by show 0 < 3; decide⟩)
      · exact List.pairwise_map.mpr (pw_all fun _ _ => ⟨Nat.le_refl _, by show 1 < 3; decide⟩)
      · intro a ha b hb
        obtain ⟨_, _, rfl⟩ := List.mem_map.mp ha
        obtain ⟨_, _, rfl⟩ := List.mem_map.mp hb
        exact ⟨by show 0 ≤ 1; decide, by show 0 < 3; decide⟩
      · exact List.pairwise_map.mpr (pw_all fun _ _ => ⟨Nat.le_refl _, by show 2 < 3; decide⟩)
      · intro a ha b hb
        obtain ⟨_, _, rfl⟩ := List.mem_map.mp hb
        rcases List.mem_append.mp ha with ha | ha
        · obtain ⟨_, _, rfl⟩ := List.mem_map.mp ha
          exact ⟨by show 0 ≤ 2; decide, by show 0 < 3; decide⟩
        · obtain ⟨_, _, rfl⟩ := List.mem_map.mp ha
          exact ⟨by show 1 ≤ 2; decide, by show 1 < 3; decide⟩
      · exact List.pairwise_singleton _ _
      · intro a ha b hb
        rw [List.mem_singleton.mp hb]
        rcases List.mem_append.mp ha with ha | ha
        · rcases List.mem_append.mp ha with ha | ha
          · obtain ⟨_, _, rfl⟩ := List.mem_map.mp ha
            exact ⟨by show 0 ≤ 3; decide, by show 0 < 3; decide⟩
          · obtain ⟨_, _, rfl⟩ := List.mem_map.mp ha
            exact ⟨by show 1 ≤ 3; decide, by show 1 < 3; decide⟩
        · obtain ⟨_, _, rfl⟩ := List.mem_map.mp ha
          exact ⟨by show 2 ≤ 3; decide, by show 2 < 3; decide⟩
    intro i x y hx hy
    obtain ⟨lx, ex⟩ := List.getElem?_eq_some_iff.mp hx
    obtain ⟨ly, ey⟩ := List.getElem?_eq_some_iff.mp hy
    have := List.pairwise_iff_getElem.mp hs i (i + 1) lx ly (Nat.lt_succ_self i)
    rw [ex, ey] at this
    exact this
  intro i x hx
  cases i with
  | zero =>
    rw [List.take_zero]
    exact head_mem x
  | succ i =>
    obtain ⟨lx, ex⟩ := List.getElem?_eq_some_iff.mp hx
    have hp : (items t)[i]? = some (items t)[i] := List.getElem?_eq_getElem (by omega)
    obtain ⟨h1, h2⟩ := sorted i _ x hp hx
    have e : (items t).take (i + 1) = (items t).take i ++ [(items t)[i]] := by
      rw [List.take_add_one, hp]
      rfl
    unfold allowB
    rw [e, List.getLast?_append]
    exact allow_next h1 h2
theorem allowB_snoc (l : List Item) (x : Item) : allowB (l ++ [x]) = behind x := by
  unfold allowB
  rw [List.getLast?_append]
  rfl
/-! ### parts with good words may be compared -/
theorem good_str {s : Str} (h : Good s) : PyData.strOk s = true := by
  unfold PyData.strOk
  rw [Array.all_eq_true']
  intro c hc
  have m : c ∈ TL.tl s := Array.mem_toList_iff.mpr hc
  have := (h.2.2.2.2.2.2 c m).2.1
  exact decide_eq_true (by omega)
mutual
theorem okP_of : ∀ (p : PF) (n : Nat), okA Good (Sd.strip p) → nest (Sd.strip p) ≤ n → (encP p).canLay0 = true ∧ (encP p).depth ≤ 2 * n + 1
  | .w s i, n, h, _ => by
    simp only [Sd.strip, okA] at h
    simp only [encP]
    refine ⟨?_, ?_⟩
    · show (PyData.strOk s && (true && true)) = true
      rw [good_str h]
      rfl
    · exact Nat.succ_le_succ (Nat.zero_le _)
  | .f l i, n, h, hn => by
    simp only [Sd.strip, okA] at h
    simp only [Sd.strip, Sd.nest] at hn
    obtain ⟨a, b⟩ := okPs_of l (n - 1) h (by omega)
    simp only [encP]
    refine ⟨?_, ?_⟩
    · show (PyData.canLayAll0 (encPs l) && (true && true)) = true
      rw [a]
      rfl
    · exact Nat.succ_le_succ (Nat.max_le.mpr ⟨show PyData.depthAll (encPs l) + 1 ≤ 2 * n by omega, Nat.zero_le _⟩)
theorem okPs_of : ∀ (l : List PF) (n : Nat), okAs Good (strips l) → nests (strips l) ≤ n → PyData.canLayAll0 (encPs l) = true ∧ PyData.depthAll (encPs l) ≤ 2 * n + 1
  | [], n, _, _ => by
    simp only [encPs]
    exact ⟨rfl, Nat.zero_le _⟩
  | p :: r, n, h, hn => by
    simp only [strips, okAs] at h
    simp only [strips, nests] at hn
    obtain ⟨a, b⟩ := okP_of p n h.1 (by omega)
    obtain ⟨a2, b2⟩ := okPs_of r n h.2 (by omega)
    simp only [encPs]
    refine ⟨?_, ?_⟩
    · show ((encP p).canLay0 && PyData.canLayAll0 (encPs r)) = true
      rw [a, a2]
      rfl
    · exact Nat.max_le.mpr ⟨b, b2⟩
end
theorem okP_good {p : PF} (h : okA Good (Sd.strip p)) (n : nest (Sd.strip p) ≤ 15) : okP p := by
  obtain ⟨a, b⟩ := okP_of p 15 h n
  exact ⟨a, by omega⟩
end Px

namespace Px
open PySem PySem.Spec L2 Tr Pu Sd PyProof.Rows
abbrev sRp : Stmt := top 57
abbrev nRp : List Str := ["text", "found", "allowed", "form", "head", "parts"]
def spRp (K : PySem.W.Frag) : Sp := fun vs H Q _ => ∃ (l : List Nat) (t : Tr.Tree), vs = [.str (Ls l)] ∧ l.length ≤ 6000 ∧ (∀ j < l.length, okc (l.getD j 0)) ∧ (wordsOf l).map (fun z => (zOf z).1) = wds (fTree t) ∧ GTree t ∧ rdTree t ∧
  ∀ v H', Same H H' → Lv K H' t.enc v → Q v H'
/-- the dict of what was found: its lists by their heads -/
def fkv (a1 a2 a3 a4 : Addr) : List (Key × V) := [(.inr "state", .ref a1), (.inr "param", .ref a2), (.inr "procedure", .ref a3), (.inr "beat", .ref a4)]
def adr (a1 a2 a3 a4 : Addr) (h : Str) : Addr := if h = "state" then a1 else if h = "param" then a2 else if h = "procedure" then a3 else a4
theorem merge_f (a1 a2 a3 a4 : Addr) : mergeK [] (fkv a1 a2 a3 a4) = fkv a1 a2 a3 a4 := by rfl
theorem mem_dcs {h : Str} (m : h ∈ lDcs) : h = "state" ∨ h = "param" ∨ h = "procedure" ∨ h = "beat" := by
  unfold lDcs at m
  simpa using m
theorem val_f (a1 a2 a3 a4 : Addr) {h : Str} (m : h ∈ lDcs) : valV (fkv a1 a2 a3 a4) (.inr h) = some (.ref (adr a1 a2 a3 a4 h)) := by
  rcases mem_dcs m with rfl | rfl | rfl | rfl <;> rfl
theorem adr_inj {a1 a2 a3 a4 : Addr} (n : [a1, a2, a3, a4].Nodup) {h g : Str} (mh : h ∈ lDcs) (mg : g ∈ lDcs) (e : adr a1 a2 a3 a4 h = adr a1 a2 a3 a4 g) : h = g := by
  simp only [List.nodup_cons, List.mem_cons, List.not_mem_nil, or_false, not_or, List.nodup_nil, and_true, not_false_eq_true] at n
  obtain ⟨⟨n1, n2, n3⟩, ⟨n4, n5⟩, n6⟩ := n
  have x1 : adr a1 a2 a3 a4 "state" = a1 := rfl
  have x2 : adr a1 a2 a3 a4 "param" = a2 := rfl
  have x3 : adr a1 a2 a3 a4 "procedure" = a3 := rfl
  have x4 : adr a1 a2 a3 a4 "beat" = a4 := rfl
  rcases mem_dcs mh with rfl | rfl | rfl | rfl <;> rcases mem_dcs mg with rfl | rfl | rfl | rfl <;> first
    | rfl
    | (exfalso; simp only [x1, x2, x3, x4] at e; first | exact n1 e | exact n2 e | exact n3 e | exact n4 e | exact n5 e | exact n6 e | exact n1 e.symm | exact n2 e.symm | exact n3 e.symm | exact n4 e.symm | exact n5 e.symm | exact n6 e.symm)
/-- read_program under way: what was found in the declarations of `done` -/
structure FI (K : PySem.W.Frag) (X : Addr → Prop) (H : Hp) (D O : Addr) (ad : Str → Addr) (kvs : List (Key × V)) (us : List V) (ps : List PF) (done : List Item) : Prop where
  d : H D = some (.dK kvs)
  l : ∀ h ∈ lDcs, ∃ xs, H (ad h) = some (.lst xs) ∧ TvL K H (colE h done) xs
  o : H O = some (.lst us)
  r : RPs H X ps us
theorem FI.same {K : PySem.W.Frag} {X : Addr → Prop} {H H' : Hp} {D O : Addr} {ad : Str → Addr} {kvs : List (Key × V)} {us : List V} {ps : List PF} {done : List Item} (f : FI K X H D O ad kvs us ps done) (s : Same H H') : FI K X H' D O ad kvs us ps done :=
  ⟨s _ _ f.d, fun h m => by
    obtain ⟨xs, e, t⟩ := f.l h m
    exact ⟨xs, s _ _ e, TvL.carry (same_carry s) _ _ t⟩, s _ _ f.o, f.r.next fun b u n e => ⟨s _ _ e, n⟩⟩
theorem FI.push {K : PySem.W.Frag} {X : Addr → Prop} {H : Hp} {D O : Addr} {ad : Str → Addr} {kvs : List (Key × V)} {us : List V} {ps : List PF} {done : List Item} {x : Item} {xs : List V} {y : V} (f : FI K X H D O ad kvs us ps done) (inj : ∀ h ∈ lDcs, ∀ g ∈ lDcs, ad h = ad g → h = g) (nx : X (ad x.head)) (nO : O ≠ ad x.head) (e : H (ad x.head) = some (.lst xs)) (ty : Tv K H x.enc y) :
    FI K X (upd H (ad x.head) (.lst (xs ++ [y]))) D O ad kvs us ps (done ++ [x]) := by
  have nD : D ≠ ad x.head := fun z => by have h := f.d; rw [z, e] at h; cases h
  refine ⟨by rw [upd_ne nD]; exact f.d, fun h m => ?_, by rw [upd_ne nO]; exact f.o, f.r.put nx⟩
  obtain ⟨zs, ez, tz⟩ := f.l h m
  by_cases c : x.head = h
  · subst c
    rw [e] at ez
    cases ez
    refine ⟨_, upd_same, ?_⟩
    rw [colE_snoc, if_pos rfl]
    exact tvl_append (TvL.carry (carry_store e) _ _ tz) (Tv.carry (carry_store e) _ _ ty)
  · have na : ad h ≠ ad x.head := fun z => c (inj _ (head_mem x) _ m z.symm)
    refine ⟨zs, by rw [upd_ne na]; exact ez, ?_⟩
    rw [colE_snoc, if_neg c]
    exact TvL.carry (carry_store e) _ _ tz
theorem same_fresh {H1 H2 : Hp} {a : Addr} (s : Same H1 H2) (e : H2 a = none) : H1 a = none := by
  cases q : H1 a with
  | none => rfl
  | some o => rw [s _ _ q] at e; cases e
theorem xen_0 {K : PySem.W.Frag} {H : Hp} : XEn K H [] [] := ⟨rfl, fun i d h => by simp at h⟩
theorem xen_s {K : PySem.W.Frag} {H : Hp} {σ : L2.St} {ρ : Rho} {d : PyData} {v : V} (t : Lv K H d v) (h : XEn K H σ ρ) : XEn K H (some v :: σ) (some d :: ρ) := ⟨congrArg (· + 1) h.1, fun i e q => by
  cases i with
  | zero => cases q; exact ⟨v, rfl, t⟩
  | succ i => exact h.2 i e q⟩
theorem xen_n {K : PySem.W.Frag} {H : Hp} {σ : L2.St} {ρ : Rho} {x : Option V} (h : XEn K H σ ρ) : XEn K H (x :: σ) (none :: ρ) := ⟨congrArg (· + 1) h.1, fun i e q => by
  cases i with
  | zero => cases q
  | succ i => exact h.2 i e q⟩
theorem item_parts (x : Item) : ∃ lo hi, (x.head, lo, hi) ∈ tParts ∧ lo ≤ (x.parts.length + 1 : Nat) ∧ leO (x.parts.length + 1) hi := by
  have dl : ∀ c : Decl, (fDecl c).length = 1 ∨ (fDecl c).length = 2 := fun c => by
    unfold fDecl
    split
    · exact .inl rfl
    · exact .inr rfl
  cases x with
  | state c =>
    refine ⟨2, some 3, (by decide +kernel : (("state" : Str), (2 : Int), some (3 : Int)) ∈ tParts), ?_, ?_⟩
    · show (2 : Int) ≤ (((fDecl c).length + 1 : Nat) : Int)
      have := dl c
      omega
    · show ((((fDecl c).length + 1 : Nat)) : Int) ≤ 3
      have := dl c
      omega
  | param c =>
    refine ⟨2, some 3, (by decide +kernel : (("param" : Str), (2 : Int), some (3 : Int)) ∈ tParts), ?_, ?_⟩
    · show (2 : Int) ≤ (((fDecl c).length + 1 : Nat) : Int)
      have := dl c
      omega
    · show ((((fDecl c).length + 1 : Nat)) : Int) ≤ 3
      have := dl c
      omega
  | proc p =>
    refine ⟨4, none, (by decide +kernel : (("procedure" : Str), (4 : Int), none) ∈ tParts), ?_, trivial⟩
    show (4 : Int) ≤ (((fPr p).length + 1 : Nat) : Int)
    unfold fPr
    rw [List.length_append]
    show (4 : Int) ≤ (((3 + (fSts p.body).length) + 1 : Nat) : Int)
    omega
  | beat b =>
    refine ⟨1, none, (by decide +kernel : (("beat" : Str), (1 : Int), none) ∈ tParts), ?_, trivial⟩
    show (1 : Int) ≤ (((fSts b).length + 1 : Nat) : Int)
    omega
theorem lv_tree {K : PySem.W.Frag} {H : Hp} {t : Tr.Tree} {a b1 b2 b3 : Addr} {y : V} {x1 x2 x3 : List V} (e : H a = some (.tup [.ref b1, .ref b2, .ref b3, y])) (e1 : H b1 = some (.tup x1)) (t1 : TvL K H (t.state.map Decl.enc) x1) (e2 : H b2 = some (.tup x2)) (t2 : TvL K H (t.params.map Decl.enc) x2) (e3 : H b3 = some (.tup x3)) (t3 : TvL K H (t.procs.map Proc.enc) x3) (ty : Tv K H (.tuple (St.encs t.beat)) y) : Lv K H t.enc (.ref a) := by
  have nd : noL t.enc = true := by
    show (noLs (t.state.map Decl.enc) && (noLs (t.params.map Decl.enc) && (noLs (t.procs.map Proc.enc) && (noLs (St.encs t.beat) && true)))) = true
    rw [noLs_of (ds := t.state.map Decl.enc) fun d m => by obtain ⟨x, _, rfl⟩ := List.mem_map.mp m; exact nl_decl x, noLs_of (ds := t.params.map Decl.enc) fun d m => by obtain ⟨x, _, rfl⟩ := List.mem_map.mp m; exact nl_decl x, noLs_of (ds := t.procs.map Proc.enc) fun d m => by obtain ⟨x, _, rfl⟩ := List.mem_map.mp m; exact nl_proc x, nl_sts t.beat]
    rfl
  refine lv_of nd ⟨a, _, rfl, SqT.of e, _, _, rfl, ⟨b1, x1, rfl, SqT.of e1, t1⟩, _, _, rfl, ⟨b2, x2, rfl, SqT.of e2, t2⟩, _, _, rfl, ⟨b3, x3, rfl, SqT.of e3, t3⟩, _, _, rfl, ty, rfl⟩
section
variable {P : Program} {w : World} {K : PySem.W.Frag} {mg : Str → Option Value} {base : Heap} {C : Addr}
theorem scRp : FnScope nRp ["text"] (defScope sRp) := ⟨rfl, rfl, rfl, by decide +kernel, rfl, by decide +kernel, by decide +kernel⟩
theorem ok_rp {f : Addr} {fd : FuncData} (F : Fun K "read_program" "read_program" sRp f fd) (T : Bi mg) (g : Gx w K mg) (c_spl : Cal P w K mg base (L2.CX P w) 4 "split_words" ["text"] (spSplit K C)) (c_rfo : Cal P w K mg base (L2.CX P w) 3 "read_forms" ["words", "length"] (spRf K))
    (c_rhd : Cal P w K mg base CX0 2 "read_head" ["part", "heads"] (spX K 2 dRhd)) (c_rde : Cal P w K mg base CX0 65 "read_declaration" ["head", "parts"] (spX K 2 dRde)) (c_dbe : Cal P w K mg base CX0 1 "declarations_behind" ["head"] (spX K 1 dDbe)) : FnOk P w K mg base CX0 66 f fd ["text"] (spRp K) := by
  refine F.ok scRp (fun vs H Q E h => ?_) (fun cdv A outer s H vs Q E hr h => ?_)
  · obtain ⟨l, t, rfl, _⟩ := h
    rfl
  · obtain ⟨l, t, rfl, hl, hok, hw, gt, rd, q⟩ := h
    have nd := scRp.nd
    have big : 10000002 ≤ sizeLine := by decide
    have fit : (Ls l).length ≤ sizeLine := by rw [ls_len]; omega
    refine ⟨_, pss_cons (ps_set (i := 1) nd rfl (.inl rfl) (pe_disp (pps_cons pe_str (pe_lst pa_nil) (pps_cons pe_str (pe_lst pa_nil) (pps_cons pe_str (pe_lst pa_nil) (pps_cons pe_str (pe_lst pa_nil) pps_nil)))) rfl rfl (by simp) (by decide)))
      (pss_cons (ps_set (i := 2) nd rfl (.inl rfl) (pe_glob (v := .ref g.dcs.a) (by rfl) g.dcs.m rfl))
      (pss_cons (ps_for PassesOwn.never rfl (pi_list (pe_call c_rfo.ok (hr.mono (by first | decide | omega)) rfl c_rfo.m c_rfo.kp c_rfo.b .nil (passE0 rfl rfl) (pa_cons (pe_call c_spl.ok (hr.mono (by first | decide | omega)) rfl c_spl.m c_spl.kp c_spl.b .nil (passE0 rfl rfl) (pa_cons (pv 0) pa_nil)) (pa_cons (pe_callB call_len_str rfl T.len PySem.boot_len (pa_cons (pv 0) pa_nil)) pa_nil)))) (pg_name (i := 3) nd rfl (.inl rfl)) (pss_cons (ps_asg (pe_call c_rhd.ok (hr.mono (by first | decide | omega)) rfl c_rhd.m c_rhd.kp c_rhd.b .nil pass0 (pa_cons (pv 3) (pa_cons (pv 2) pa_nil))) (pg_tup (by rfl) (pgs_cons (pg_name (i := 4) nd rfl (.inl rfl)) (pgs_cons (pg_name (i := 5) nd rfl (.inl rfl)) pgs_nil))))
      (pss_cons (ps_expr (pe_bm PySem.F.plainAttrs_list PySem.F.slot_list_append PySem.F.type_list_append mt_append (pe_dget (hu_of hr) (pv 1) (pv 4) (fun _ _ => rfl)) (pa_cons (pe_call c_rde.ok (hr.mono (by first | decide | omega)) rfl c_rde.m c_rde.kp c_rde.b .nil pass0 (pa_cons (pv 4) (pa_cons (pv 5) pa_nil))) pa_nil)))
      (pss_one (ps_set (i := 2) nd rfl (.inl rfl) (pe_call c_dbe.ok (hr.mono (by first | decide | omega)) rfl c_dbe.m c_dbe.kp c_dbe.b .nil pass0 (pa_cons (pv 4) pa_nil)))))))
      (pss_cons (ps_if (pt_not (pt_truth (pe_dget (hu_of hr) (pv 1) pe_str (fun _ _ => rfl)) (by intro _; rfl))) (pss_one ps_dead) pss_nil)
      (pss_one (ps_ret (pe_tup (pa_cons (pe_callTy call_tuple_of rfl T.tuple PyProof.Rows.boot_tuple (pa_cons (pe_dget (hu_of hr) (pv 1) pe_str (fun _ _ => rfl)) pa_nil)) (pa_cons (pe_callTy call_tuple_of rfl T.tuple PyProof.Rows.boot_tuple (pa_cons (pe_dget (hu_of hr) (pv 1) pe_str (fun _ _ => rfl)) pa_nil)) (pa_cons (pe_callTy call_tuple_of rfl T.tuple PyProof.Rows.boot_tuple (pa_cons (pe_dget (hu_of hr) (pv 1) pe_str (fun _ _ => rfl)) pa_nil)) (pa_cons (pe_ix ix_list (pe_dget (hu_of hr) (pv 1) pe_str (fun _ _ => rfl)) pe_int (fun _ _ => rfl)) pa_nil)))))))))), ?_⟩
    have lw : (wds (fTree t)).length ≤ 130000 := (b_tree gt).2.2.2.1
    have li : (items t).length ≤ 130000 := by
      have h := rows_le (fTree t)
      rw [items_forms, List.length_map, ← items_forms] at h
      omega
    refine fun D nD => ⟨Nat.zero_le _, fun a1 n1 => ⟨Nat.zero_le _, fun a2 n2 => ⟨Nat.zero_le _, fun a3 n3 => ⟨Nat.zero_le _, fun a4 n4 => ⟨?_, fkv a1 a2 a3 a4, rfl, (show 4 ≤ 15 by decide), ?_⟩⟩⟩⟩⟩
    · have d1 : D ≠ a1 := fun z => by rw [z, upd_same] at n1; cases n1
      have s1 := same_alloc (o := .lst []) n1
      have s2 := same_alloc (o := .lst []) n2
      have s3 := same_alloc (o := .lst []) n3
      have s4 := same_alloc (o := .lst []) n4
      exact s4 _ _ (s3 _ _ (s2 _ _ (s1 _ _ upd_same)))
    rw [merge_f]
    have z0 : Same H (upd H D (.dK [])) := same_alloc nD
    have z1 := z0.trans (same_alloc (o := .lst []) n1)
    have z2 := z1.trans (same_alloc (o := .lst []) n2)
    have z3 := z2.trans (same_alloc (o := .lst []) n3)
    have z4 := z3.trans (same_alloc (o := .lst []) n4)
    have f1 := same_fresh z0 n1
    have f2 := same_fresh z1 n2
    have f3 := same_fresh z2 n3
    have f4 := same_fresh z3 n4
    have y2 := same_alloc (o := .lst []) n2
    have y3 := same_alloc (o := .lst []) n3
    have y4 := same_alloc (o := .lst []) n4
    have n12 : a1 ≠ a2 := ne_of_none upd_same n2
    have n13 : a1 ≠ a3 := ne_of_none (y2 _ _ upd_same) n3
    have n23 : a2 ≠ a3 := ne_of_none upd_same n3
    have n14 : a1 ≠ a4 := ne_of_none (y3 _ _ (y2 _ _ upd_same)) n4
    have n24 : a2 ≠ a4 := ne_of_none (y3 _ _ upd_same) n4
    have n34 : a3 ≠ a4 := ne_of_none upd_same n4
    have d1 : D ≠ a1 := ne_of_none upd_same n1
    have d2 : D ≠ a2 := ne_of_none (same_alloc (o := .lst []) n1 _ _ upd_same) n2
    have d3 : D ≠ a3 := ne_of_none (y2 _ _ (same_alloc (o := .lst []) n1 _ _ upd_same)) n3
    have d4 : D ≠ a4 := ne_of_none (y3 _ _ (y2 _ _ (same_alloc (o := .lst []) n1 _ _ upd_same))) n4
    have e4 := upd_ne (H := upd (upd (upd (upd (upd H D (.dK [])) a1 (.lst [])) a2 (.lst [])) a3 (.lst [])) a4 (.lst [])) (a := D) (b := a4) (o := .dK (fkv a1 a2 a3 a4)) (Ne.symm d4)
    have l4 : (upd (upd (upd (upd (upd (upd H D (.dK [])) a1 (.lst [])) a2 (.lst [])) a3 (.lst [])) a4 (.lst [])) D (.dK (fkv a1 a2 a3 a4))) a4 = some (.lst []) := by rw [upd_ne (Ne.symm d4)]; exact upd_same
    have l3 : (upd (upd (upd (upd (upd (upd H D (.dK [])) a1 (.lst [])) a2 (.lst [])) a3 (.lst [])) a4 (.lst [])) D (.dK (fkv a1 a2 a3 a4))) a3 = some (.lst []) := by rw [upd_ne (Ne.symm d3)]; exact y4 _ _ upd_same
    have l2 : (upd (upd (upd (upd (upd (upd H D (.dK [])) a1 (.lst [])) a2 (.lst [])) a3 (.lst [])) a4 (.lst [])) D (.dK (fkv a1 a2 a3 a4))) a2 = some (.lst []) := by rw [upd_ne (Ne.symm d2)]; exact y4 _ _ (y3 _ _ upd_same)
    have l1 : (upd (upd (upd (upd (upd (upd H D (.dK [])) a1 (.lst [])) a2 (.lst [])) a3 (.lst [])) a4 (.lst [])) D (.dK (fkv a1 a2 a3 a4))) a1 = some (.lst []) := by rw [upd_ne (Ne.symm d1)]; exact y4 _ _ (y3 _ _ (y2 _ _ upd_same))
    have l0 : (upd (upd (upd (upd (upd (upd H D (.dK [])) a1 (.lst [])) a2 (.lst [])) a3 (.lst [])) a4 (.lst [])) D (.dK (fkv a1 a2 a3 a4))) D = some (.dK (fkv a1 a2 a3 a4)) := upd_same
    have z5 : Same H (upd (upd (upd (upd (upd (upd H D (.dK [])) a1 (.lst [])) a2 (.lst [])) a3 (.lst [])) a4 (.lst [])) D (.dK (fkv a1 a2 a3 a4))) := same_put z4 nD
    clear e4
    generalize (upd (upd (upd (upd (upd (upd H D (.dK [])) a1 (.lst [])) a2 (.lst [])) a3 (.lst [])) a4 (.lst [])) D (.dK (fkv a1 a2 a3 a4))) = H6 at l0 l1 l2 l3 l4 z5 ⊢
    have inj : ∀ h ∈ lDcs, ∀ g ∈ lDcs, adr a1 a2 a3 a4 h = adr a1 a2 a3 a4 g → h = g := fun h mh g mg e => adr_inj (by
      simp only [List.nodup_cons, List.mem_cons, List.not_mem_nil, or_false, not_or, List.nodup_nil, and_true, not_false_eq_true]
      exact ⟨⟨n12, n13, n14⟩, ⟨n23, n24⟩, n34⟩) mh mg e
    have ads : ∀ h ∈ lDcs, H6 (adr a1 a2 a3 a4 h) = some (.lst []) ∧ H (adr a1 a2 a3 a4 h) = none := fun h m => by
      rcases mem_dcs m with rfl | rfl | rfl | rfl
      · exact ⟨l1, f1⟩
      · exact ⟨l2, f2⟩
      · exact ⟨l3, f3⟩
      · exact ⟨l4, f4⟩
    clear l1 l2 l3 l4 f1 f2 f3 f4 y2 y3 y4 n12 n13 n14 n23 n24 n34 d1 d2 d3 d4 z0 z1 z2 z3 z4 n1 n2 n3 n4
    -- the words, the forms
    refine ⟨_, rfl, l, rfl, by omega, fun n d H' bad _ _ => ?_, fun h6 hk W ws H7 s7 nW eW tW => ?_⟩
    · rcases bad with ⟨b, _⟩ | ⟨_, k, _, hk, nk, _⟩
      · omega
      · exact nk (hok k hk)
    obtain ⟨ps, hps, run⟩ := tree_run gt (zs := (wordsOf l).map zOf) (by rw [List.map_map]; exact hw)
    have lz : (wordsOf l).length ≤ 1000000 := by
      have := congrArg List.length hw
      rw [List.length_map] at this
      omega
    refine ⟨_, rfl, Ls l, rfl, fit, W, _, ws, wordsOf l, ps, rfl, eW, tW, lz, run, fun O us H8 s8 nO eO rO => ?_⟩
    have hit : ps.map Sd.strip = (items t).map Item.form := by rw [← strips_map, hps, items_forms]
    have lp : ps.length = (items t).length := by
      have := congrArg List.length hit
      rw [List.length_map, List.length_map] at this
      exact this
    have lu : us.length = ps.length := rO.len
    have okp : ∀ p ∈ ps, okP p := fun p m => by
      have mf : Sd.strip p ∈ fTree t := by rw [← hps, strips_map]; exact List.mem_map.mpr ⟨p, m, rfl⟩
      exact okP_good ((b_tree gt).1 _ mf) (Nat.le_trans (nests_mem mf) (n_tree gt))
    have nx : ∀ h ∈ lDcs, (fun b => H7 b ≠ none) (adr a1 a2 a3 a4 h) := fun h m z => by
      have := s7 _ _ (ads h m).1
      rw [this] at z
      cases z
    have nOa : ∀ h ∈ lDcs, O ≠ adr a1 a2 a3 a4 h := fun h m z => by
      have := s7 _ _ (ads h m).1
      rw [← z, nO] at this
      cases this
    have F0 : FI K (fun b => H7 b ≠ none) H8 D O (adr a1 a2 a3 a4) (fkv a1 a2 a3 a4) us ps ((items t).take 0) := ⟨s8 _ _ (s7 _ _ l0), fun h m => ⟨[], s8 _ _ (s7 _ _ (ads h m).1), rfl⟩, eO, rO⟩
    refine ⟨O, rfl, ⟨_, SqL.of eO⟩, for_list (K := K) (a := O) (xs := us) (fun i σ' H' => Same H H' ∧ FI K (fun b => H7 b ≠ none) H' D O (adr a1 a2 a3 a4) (fkv a1 a2 a3 a4) us ps ((items t).take i) ∧
      ∃ (u : V) (w3 w4 w5 : Option V), Lv K H' (.tuple ((allowB ((items t).take i)).map PyData.str)) u ∧ σ' = [some (.str (Ls l)), some (.ref D), some u, w3, w4, w5])
      ⟨z5.trans (s7.trans s8), F0, _, none, none, none, g.dcs.lv _, rfl⟩ (fun i σ' H' _ h => SqL.of h.2.1.o) ?_ ?_⟩
    · rintro i x0 σ' H1 hi ⟨s1, f, u, w3, w4, w5, tu, rfl⟩
      have il : i < us.length := (List.getElem?_eq_some_iff.mp hi).1
      obtain ⟨x, hx⟩ : ∃ x, (items t)[i]? = some x := ⟨_, List.getElem?_eq_getElem (by omega)⟩
      obtain ⟨p, hp⟩ : ∃ p, ps[i]? = some p := ⟨_, List.getElem?_eq_getElem (by omega)⟩
      have hs : Sd.strip p = x.form := by
        have := congrArg (·[i]?) hit
        simp only [List.getElem?_map, hx, hp, Option.map_some, Option.some.injEq] at this
        exact this
      have mp := List.mem_of_getElem? hp
      have mx := List.mem_of_getElem? hx
      obtain ⟨v', hv', tv⟩ := lw_get (j := i) (d := encP p) (lvl_RPs (K := K) f.r) (by rw [encPs_map, List.getElem?_map, hp]; rfl)
      rw [hi] at hv'
      cases hv'
      obtain ⟨pl, pi, rfl, hpl⟩ := strip_f hs
      obtain ⟨q0, qs, rfl, h0, hq⟩ := strips_c hpl
      obtain ⟨j, rfl⟩ := strip_w h0
      have ok := okp _ mp
      rw [encP_f] at tv
      have lq : qs.length = x.parts.length := by rw [← hq, strips_map, List.length_map]
      obtain ⟨lo, hi', m1, m2, m3⟩ := item_parts x
      rw [← lq] at m2 m3
      have al := items_allow t i x hx
      have en : XEn K H1 [some (.str (Ls l)), some (.ref D), some u, some x0, w4, w5] [none, none, some (.tuple ((allowB ((items t).take i)).map PyData.str)), some (lsP (encPs (.w x.head j :: qs)) pi), none, none] := xen_n (xen_n (xen_s tu (xen_s tv (xen_n (xen_n xen_0)))))
      refine head_call (i := j) (at_ := pi) (xe_of' (by rw [encPs_c, encP_w]) (xe_var (i := 3) (d := lsP (encPs (.w x.head j :: qs)) pi) rfl)) (xe_var (i := 2) rfl) al m1 m2 m3 _ H1 _ en fun v H2 s2 tw => ?_
      obtain ⟨a, xs, rfl, sq, v1, r1, rfl, t1, v2, r2, rfl, t2, rfl⟩ := tw
      have e1 : v1 = .str x.head := t1
      subst e1
      refine ⟨a, _, rfl, sq, rfl, _, _, rfl, v2, _, rfl, rfl, ?_⟩
      have f2 := f.same s2
      have dg : DGet H2 D (.str x.head) (some (.ref (adr a1 a2 a3 a4 x.head))) := by
        have := DGet.k (k := .inr x.head) f2.d
        rw [val_f _ _ _ _ (head_mem x)] at this
        exact this
      obtain ⟨ys, ey, ty⟩ := f2.l x.head (head_mem x)
      have en2 : XEn K H2 [some (.str (Ls l)), some (.ref D), some u, some x0, some (.str x.head), some v2] [none, none, none, none, some (.str x.head), some (.list (encPs qs))] := xen_n (xen_n (xen_n (xen_n (xen_s rfl (xen_s t2 xen_0)))))
      refine ⟨_, rfl, _, rfl, D, _, rfl, dg, .inl ⟨rfl, ys, SqL.of ey⟩, ?_⟩
      refine xe_call (ds := [.str x.head, .list (encPs qs)]) (d := x.enc) (xa_cons (xe_var (i := 4) rfl) (xa_one (xe_var (i := 5) rfl))) (pv_X ⟨qs, x, rfl, hq, fun q m => ok.mem (List.mem_cons_of_mem _ m), (rd x mx).1, (rd x mx).2, rfl⟩) _ H2 _ en2 fun y H3 s3 ty3 => ?_
      have f3 := f2.same s3
      have ey3 := s3 _ _ ey
      have len : ys.length < sizeLine := by
        have h1 := tvl_len ty
        have h2 : (colE x.head ((items t).take i)).length ≤ (items t).length := by
          unfold colE
          rw [List.length_map]
          exact Nat.le_trans (List.length_filter_le _ _) (by rw [List.length_take]; omega)
        omega
      refine ⟨_, ys, y, rfl, rfl, ey3, len, ?_⟩
      have f4 := f3.push inj (nx _ (head_mem x)) (nOa _ (head_mem x)) ey3 (tv_of (nl_item x) ty3)
      have tk : (items t).take (i + 1) = (items t).take i ++ [x] := by
        rw [List.take_add_one, hx]
        rfl
      rw [← tk] at f4
      have en3 : XEn K (upd H3 (adr a1 a2 a3 a4 x.head) (.lst (ys ++ [y]))) [some (.str (Ls l)), some (.ref D), some u, some x0, some (.str x.head), some v2] [none, none, none, none, some (.str x.head), none] := xen_n (xen_n (xen_n (xen_n (xen_s rfl (xen_n xen_0)))))
      refine xe_call (ds := [.str x.head]) (xa_one (xe_var (i := 4) rfl)) (pv_X ⟨x, rfl, rfl⟩) _ _ _ en3 fun u2 H4 s4 tu2 => ?_
      refine ⟨(same_put (s1.trans (s2.trans s3)) (ads _ (head_mem x)).2).trans s4, f4.same s4, u2, _, _, _, ?_, rfl⟩
      rw [tk, allowB_snoc]
      exact tu2
    · rintro σ' H1 ⟨s1, f, u, w3, w4, w5, tu, rfl⟩
      have el : (items t).take us.length = items t := List.take_of_length_le (by omega)
      rw [el] at f
      have dgs : ∀ {H2 : Hp} (h : Str), h ∈ lDcs → H2 D = some (.dK (fkv a1 a2 a3 a4)) → DGet H2 D (.str h) (some (.ref (adr a1 a2 a3 a4 h))) := fun h m e => by
        have := DGet.k (k := .inr h) e
        rw [val_f _ _ _ _ m] at this
        exact this
      have ms : ("state" : Str) ∈ lDcs := by decide +kernel
      have mpm : ("param" : Str) ∈ lDcs := by decide +kernel
      have mpr : ("procedure" : Str) ∈ lDcs := by decide +kernel
      have mb : ("beat" : Str) ∈ lDcs := by decide +kernel
      obtain ⟨yb, eb, tb⟩ := f.l "beat" mb
      rw [col_beat] at tb
      obtain ⟨y, _, rfl, ty, rfl⟩ := tb
      refine ⟨_, rfl, D, _, rfl, dgs "beat" mb f.d, true, .inl ⟨_, SqL.of eb, rfl⟩, ?_⟩
      refine iteF' rfl ?_
      obtain ⟨x1, e1, t1⟩ := f.l "state" ms
      rw [col_state] at t1
      refine ⟨_, rfl, D, _, rfl, dgs "state" ms f.d, _, x1, rfl, .inl ⟨SqL.of e1, fun b1 m1 => ?_⟩⟩
      have k1 := same_alloc (o := .tup x1) m1
      have f1 := f.same k1
      obtain ⟨x2, e2, t2⟩ := f1.l "param" mpm
      rw [col_param] at t2
      refine ⟨_, rfl, D, _, rfl, dgs "param" mpm f1.d, _, x2, rfl, .inl ⟨SqL.of e2, fun b2 m2 => ?_⟩⟩
      have k2 := same_alloc (o := .tup x2) m2
      have f2 := f1.same k2
      obtain ⟨x3, e3, t3⟩ := f2.l "procedure" mpr
      rw [col_proc] at t3
      refine ⟨_, rfl, D, _, rfl, dgs "procedure" mpr f2.d, _, x3, rfl, .inl ⟨SqL.of e3, fun b3 m3 => ?_⟩⟩
      have k3 := same_alloc (o := .tup x3) m3
      have f3 := f2.same k3
      refine ⟨_, rfl, D, _, rfl, dgs "beat" mb f3.d, _, _, 0, y, rfl, rfl, SqL.of (k3 _ _ (k2 _ _ (k1 _ _ eb))), rfl, (show 4 ≤ sizeLine by decide), fun b4 m4 => ?_⟩
      have k4 := same_alloc (o := .tup [.ref b1, .ref b2, .ref b3, y]) m4
      have k34 := k3.trans k4
      have k24 := k2.trans k34
      refine q _ _ (s1.trans (k1.trans k24)) (lv_tree upd_same (k24 _ _ upd_same) (TvL.carry (same_carry (k1.trans k24)) _ _ t1) (k34 _ _ upd_same) (TvL.carry (same_carry k24) _ _ t2) (k4 _ _ upd_same) (TvL.carry (same_carry k34) _ _ t3) (Tv.carry (same_carry (k1.trans k24)) _ _ ty))
end
end Px

namespace Px
open PySem PySem.Spec L2 Tr Pu Sd PyProof.Rows
/-! ### what drawn trees hold may be read back -/
theorem res_free : ∀ z ∈ lRes, ∀ c ∈ z.cps.toList, c ∉ tDig.cps.toList := by decide +kernel
theorem dig_lad : ∀ c ∈ tDig.cps.toList, c ∈ tLad.cps.toList := by decide +kernel
theorem nm_lvl {c : Str} {n : Nat} (hc : Nm c) (l : c.length ≤ 4) (h : n < 1000) : Nm (lvl c n) := by
  have e : (lvl c n).cps.toList = c.cps.toList ++ TL.numL n := by
    have := TL.tl_append c (Str.ofString (toString ((n : Nat) : Int)))
    rw [TL.tl_num] at this
    exact this
  have ln : (TL.numL n).length ≤ 3 := TL.numL_len (by decide) (by omega)
  have le : (lvl c n).length = c.length + (TL.numL n).length := by rw [str_len, str_len, e, List.length_append]
  have hc' := hc
  unfold Nm namB at hc'
  simp only [Bool.and_eq_true, decide_eq_true_iff, Bool.not_eq_true', decide_eq_false_iff_not, List.all_eq_true] at hc'
  obtain ⟨⟨⟨⟨c1, c2⟩, c3⟩, c4⟩, c5⟩ := hc'
  unfold Nm namB
  simp only [Bool.and_eq_true, decide_eq_true_iff, Bool.not_eq_true', decide_eq_false_iff_not, List.all_eq_true]
  refine ⟨⟨⟨⟨by omega, by omega⟩, ?_⟩, fun m => ?_⟩, fun x m => ?_⟩
  · rw [e]
    cases q : c.cps.toList with
    | nil => rw [str_len, q] at c1; exact absurd c1 (by decide)
    | cons a r => rw [q] at c3; exact c3
  · cases q : TL.numL n with
    | nil => exact TL.numL_ne _ q
    | cons a r =>
      have ma : a ∈ TL.numL n := by rw [q]; exact List.mem_cons_self
      have r := TL.numL_digits n a ma
      exact res_free _ m a (by rw [e]; exact List.mem_append_right _ ma) (dig_iff a r.1 r.2)
  · rw [e] at m
    rcases List.mem_append.mp m with m | m
    · exact c5 x m
    · have r := TL.numL_digits n x m
      exact dig_lad x (dig_iff x r.1 r.2)
structure NC (vars : List VRow) (is : List Str) : Prop where
  v : ∀ r ∈ vars, Nm r.1 ∧ 0 ≤ r.2.1 ∧ r.2.1 ≤ 3
  i : ∀ s ∈ is, Nm s
theorem r_ix {is : List Str} (hi : ∀ s ∈ is, Nm s) {d : Nat} {x : Ix} (g : GIx is d x) : rdIx x := by
  induction g with
  | int h0 h1 => exact ⟨h0, by omega⟩
  | beat => trivial
  | var h => exact hi _ h
  | rem ha h0 h1 ih => exact ⟨ih, h0, by omega⟩
  | op ha hb iha ihb => exact ⟨iha, ihb⟩
theorem r_pl {vars : List VRow} {is : List Str} (c : NC vars is) {nm : Str} {ix : Option Ix} (g : GPl vars is nm ix) : Nm nm ∧ rdOx ix := by
  cases g with
  | plain h => exact ⟨(c.v _ h).1, trivial⟩
  | raw h hs g => exact ⟨(c.v _ h).1, r_ix c.i g⟩
  | @wrapped s b x h hs g =>
    obtain ⟨v1, v2, v3⟩ := c.v _ h
    have v2 : 0 ≤ s := v2
    have v3 : s ≤ 3 := v3
    exact ⟨v1, r_ix c.i g, by omega, by omega⟩
theorem r_ex {vars : List VRow} {is : List Str} (c : NC vars is) {d : Nat} {x : Ex} (g : GEx vars is d x) : rdEx x := by
  induction g with
  | num h => exact ⟨h.1, by have := h.2; omega⟩
  | place h => exact r_pl c h
  | op ha hb iha ihb => exact ⟨iha, ihb⟩
theorem r_ts {vars : List VRow} {is : List Str} (c : NC vars is) {x : Ts} (g : GTs vars is x) : rdTs x := by
  cases g with
  | zero h => exact r_ex c h
  | notz h => exact r_ex c h
  | less ha hb => exact ⟨r_ix c.i ha, r_ix c.i hb⟩
  | equal ha hb => exact ⟨r_ix c.i ha, r_ix c.i hb⟩
def KN (ks : List KRow) : Prop := ∀ r ∈ ks, Nm r.1
theorem r_picks {vars : List VRow} (c : ∀ r ∈ vars, Nm r.1 ∧ 0 ≤ r.2.1 ∧ r.2.1 ≤ 3) {zs : List Int} {ns : List Str} (h : Picks vars zs ns) : ∀ n ∈ ns, Nm n := by
  induction h with
  | nil => intro n m; cases m
  | snoc h m d ih =>
    intro n mn
    rcases List.mem_append.mp mn with mn | mn
    · exact ih n mn
    · rw [List.mem_singleton.mp mn]; exact (c _ m).1
theorem rdSts_of : ∀ {b : List Tr.St}, (∀ s ∈ b, rdSt s) → rdSts b
  | [], _ => by simp only [rdSts]
  | s :: r, h => by
    simp only [rdSts]
    exact ⟨h s List.mem_cons_self, rdSts_of fun x m => h x (List.mem_cons_of_mem _ m)⟩
theorem NC.free {vars : List VRow} {is : List Str} (c : NC vars is) : NC (freeOf vars) is := ⟨fun r m => c.v r (List.mem_filter.mp m).1, c.i⟩
theorem NC.addI {vars : List VRow} {is : List Str} (c : NC vars is) {s : Str} (h : Nm s) : NC vars (is ++ [s]) := ⟨c.v, fun x m => by
  rcases List.mem_append.mp m with m | m
  · exact c.i x m
  · rw [List.mem_singleton.mp m]; exact h⟩
theorem NC.addV {vars : List VRow} {is : List Str} (c : NC vars is) {s : Str} {b : Bool} (h : Nm s) : NC (vars ++ [(s, 0, b)]) is := ⟨fun x m => by
  rcases List.mem_append.mp m with m | m
  · exact c.v x m
  · rw [List.mem_singleton.mp m]; exact ⟨h, Int.le_refl _, by show (0 : Int) ≤ 3; decide⟩, c.i⟩
theorem nm_i : Nm ("i" : Str) := by unfold Nm; decide +kernel
theorem nm_l : Nm ("l" : Str) := by unfold Nm; decide +kernel
theorem nm_f : Nm ("f" : Str) := by unfold Nm; decide +kernel
theorem nm_n : Nm ("n" : Str) := by unfold Nm; decide +kernel
theorem r_st {ks : List KRow} (kk : KN ks) {vars : List VRow} {is : List Str} {d : Nat} {x : Tr.St} (g : GSt ks vars is d x) : NC vars is → vars.length + is.length + d ≤ 100 → rdSt x := by
  induction g with
  | set hp he =>
    intro c _
    obtain ⟨p1, p2⟩ := r_pl c.free hp
    simp only [rdSt]
    exact ⟨p1, p2, r_ex c he⟩
  | call h =>
    intro c _
    obtain ⟨zs, hm, hp⟩ := h.row
    simp only [rdSt]
    exact ⟨kk _ hm, fun x m => r_ix c.i (h.idx x m), r_picks c.v hp⟩
  | @loop vars is d cc b hc h1 h3 hb ih =>
    intro c hl
    have gl : Nm (lvl "i" (vars.length + is.length)) := nm_lvl nm_i (by decide +kernel) (by omega)
    simp only [rdSt]
    exact ⟨gl, r_ix c.i hc, rdSts_of fun s m => ih s m (c.addI gl) (by rw [List.length_append]; show _ + (_ + 1) + _ ≤ _; omega)⟩
  | @ite vars is d t a b ht a1 a3 ha b1 b3 hb iha ihb =>
    intro c hl
    simp only [rdSt]
    exact ⟨r_ts c ht, rdSts_of fun s m => iha s m c (by omega), rdSts_of fun s m => ihb s m c (by omega)⟩
  | @bind vars is d e b he h1 h3 hb ih =>
    intro c hl
    have gl : Nm (lvl "l" (vars.length + is.length)) := nm_lvl nm_l (by decide +kernel) (by omega)
    simp only [rdSt]
    exact ⟨gl, r_ex c he, rdSts_of fun s m => ih s m (c.addV gl) (by rw [List.length_append]; show (_ + 1) + _ + _ ≤ _; omega)⟩
def DN (d : Decl) : Prop := Nm d.1 ∧ 0 ≤ d.2 ∧ d.2 ≤ 3
theorem DN.rd {d : Decl} (h : DN d) : rdDecl d := ⟨h.1, h.2.1, by have := h.2.2; omega⟩
theorem nc_rows {b : Bool} {ds : List Decl} (h : ∀ d ∈ ds, DN d) : ∀ r ∈ rowsOf b ds, Nm r.1 ∧ 0 ≤ r.2.1 ∧ r.2.1 ≤ 3 := fun r m => by
  obtain ⟨d, hd, rfl⟩ := List.mem_map.mp m
  exact h d hd
theorem nc_app {a b : List VRow} {is : List Str} (ha : ∀ r ∈ a, Nm r.1 ∧ 0 ≤ r.2.1 ∧ r.2.1 ≤ 3) (hb : ∀ r ∈ b, Nm r.1 ∧ 0 ≤ r.2.1 ∧ r.2.1 ≤ 3) (hi : ∀ s ∈ is, Nm s) : NC (a ++ b) is := ⟨fun r m => by
  rcases List.mem_append.mp m with m | m
  · exact ha r m
  · exact hb r m, hi⟩
theorem r_again {p : Proc} (hn : Nm p.name) (gi : ∀ s ∈ p.idxs, Nm s) (gr : ∀ d ∈ p.refs, DN d) : rdSt (again p) := by
  have n0 : Nm ("n0" : Str) := by unfold Nm; decide +kernel
  unfold Tr.again
  simp only [rdSt, rdSts, rdTs, rdIx]
  refine ⟨⟨⟨by decide, by decide⟩, n0⟩, ⟨⟨hn, fun x m => ?_, fun n m => ?_⟩, trivial⟩, trivial⟩
  · rcases List.mem_cons.mp m with rfl | m
    · exact ⟨n0, by decide, by decide⟩
    · obtain ⟨s, hs, rfl⟩ := List.mem_map.mp m
      exact gi s (List.mem_of_mem_tail hs)
  · obtain ⟨d, hd, rfl⟩ := List.mem_map.mp m
    exact (gr d hd).1
theorem r_proc {fixed : List VRow} {ks : List KRow} {k : Nat} {p : Proc} (g : GProc fixed ks k p) (hk : k < 1000) (kk : KN ks) (cf : ∀ r ∈ fixed, Nm r.1 ∧ 0 ≤ r.2.1 ∧ r.2.1 ≤ 3) (lf : fixed.length ≤ 2) : Nm p.row.1 ∧ Nm p.name ∧ (∀ n ∈ p.idxs, Nm n) ∧ (∀ d ∈ p.refs, rdDecl d) ∧ rdSts p.body := by
  have hn : Nm p.name := by rw [g.nm]; exact nm_lvl nm_f (by decide +kernel) hk
  obtain ⟨c, hc, ei⟩ := g.idxs
  have hi : p.idxs.length ≤ 2 := by rw [ei, List.length_map, List.length_range]; exact hc
  have gi : ∀ s ∈ p.idxs, Nm s := fun s m => by
    rw [ei] at m
    obtain ⟨j, hj, rfl⟩ := List.mem_map.mp m
    have := List.mem_range.mp hj
    exact nm_lvl nm_n (by decide +kernel) (by omega)
  obtain ⟨s, b, hs, b1, b2, er⟩ := g.refs
  have gr : ∀ d ∈ p.refs, DN d := by
    rw [er]
    refine take_of (fun d m => ?_) _
    rcases List.mem_cons.mp m with rfl | m
    · exact ⟨by unfold Nm; decide +kernel, Int.le_refl _, by show (0 : Int) ≤ 3; decide⟩
    · rw [List.mem_singleton.mp m]
      exact ⟨(by unfold Nm; decide +kernel : Nm ("v" : Str)), by show 0 ≤ s; omega, by show s ≤ 3; omega⟩
  have lr : p.refs.length ≤ 2 := by rw [er, List.length_take]; omega
  obtain ⟨b0, ks', hks, gb, hb⟩ := g.bodies
  have kk' : KN ks' := by
    rcases hks with rfl | rfl
    · exact kk
    · intro r m
      rcases List.mem_append.mp m with m | m
      · exact kk r m
      · rw [List.mem_singleton.mp m]; exact hn
  have cx : NC (rowsOf false p.refs ++ fixed) p.idxs := nc_app (nc_rows gr) cf gi
  have lx : (rowsOf false p.refs ++ fixed).length + p.idxs.length + 2 ≤ 100 := by
    rw [List.length_append]
    show (p.refs.map _).length + _ + _ + 2 ≤ 100
    rw [List.length_map]
    omega
  have s0 : ∀ s ∈ b0, rdSt s := fun s m => r_st kk' (gb.each s m) cx lx
  refine ⟨hn, hn, gi, fun d m => (gr d m).rd, ?_⟩
  rcases hb with e | ⟨_, e⟩
  · rw [e]; exact rdSts_of s0
  · rw [e]
    refine rdSts_of fun s m => ?_
    rcases List.mem_append.mp m with m | m
    · exact s0 s m
    · rw [List.mem_singleton.mp m]; exact r_again hn gi gr
theorem r_procs {fixed : List VRow} {ks : List KRow} {ps : List Proc} (g : GProcs fixed ks ps) (cf : ∀ r ∈ fixed, Nm r.1 ∧ 0 ≤ r.2.1 ∧ r.2.1 ≤ 3) (lf : fixed.length ≤ 2) : ps.length ≤ 900 → KN ks ∧ ∀ p ∈ ps, Nm p.name ∧ (∀ n ∈ p.idxs, Nm n) ∧ (∀ d ∈ p.refs, rdDecl d) ∧ rdSts p.body := by
  induction g with
  | nil => exact fun _ => ⟨fun r m => (by cases m), fun p m => (by cases m)⟩
  | @snoc ks ps p h g ih =>
    intro hl
    rw [List.length_append] at hl
    have one : [p].length = 1 := rfl
    obtain ⟨i1, i2⟩ := ih (by omega)
    obtain ⟨r, rest⟩ := r_proc g (by omega) i1 cf lf
    refine ⟨fun x m => ?_, fun x m => ?_⟩
    · rcases List.mem_append.mp m with m | m
      · exact i1 x m
      · rw [List.mem_singleton.mp m]; exact r
    · rcases List.mem_append.mp m with m | m
      · exact i2 x m
      · rw [List.mem_singleton.mp m]; exact rest
theorem r_tree {t : Tr.Tree} (g : GTree t) : rdTree t := by
  obtain ⟨a, b, r, ha, hb1, hb4, r1, r3, es⟩ := g.state
  obtain ⟨c, hc, ep⟩ := g.params
  have gs : ∀ d ∈ t.state, DN d := by
    rw [es]
    refine take_of (fun d m => ?_) _
    have m := List.mem_of_mem_drop m
    rcases List.mem_cons.mp m with rfl | m
    · exact ⟨by unfold Nm; decide +kernel, Int.le_refl _, by show (0 : Int) ≤ 3; decide⟩
    rcases List.mem_cons.mp m with rfl | m
    · exact ⟨by unfold Nm; decide +kernel, Int.le_refl _, by show (0 : Int) ≤ 3; decide⟩
    rcases List.mem_cons.mp m with rfl | m
    · exact ⟨(by unfold Nm; decide +kernel : Nm ("r" : Str)), by show 0 ≤ r; omega, by show r ≤ 3; omega⟩
    rw [List.mem_singleton.mp m]
    exact ⟨by unfold Nm; decide +kernel, Int.le_refl _, by show (0 : Int) ≤ 3; decide⟩
  have gp : ∀ d ∈ t.params, DN d := by
    rw [ep]
    refine take_of (fun d m => ?_) _
    rcases List.mem_cons.mp m with rfl | m
    · exact ⟨by unfold Nm; decide +kernel, Int.le_refl _, by show (0 : Int) ≤ 3; decide⟩
    rw [List.mem_singleton.mp m]
    exact ⟨by unfold Nm; decide +kernel, by show (0 : Int) ≤ 2; decide, by show (2 : Int) ≤ 3; decide⟩
  have ls : t.state.length ≤ 4 := by rw [es, List.length_take]; omega
  have lp : t.params.length ≤ 2 := by rw [ep, List.length_take]; omega
  obtain ⟨ks, gps, l2, gb⟩ := g.rest
  obtain ⟨kk, pr⟩ := r_procs gps (nc_rows gp) (by show (t.params.map _).length ≤ 2; rw [List.length_map]; exact lp) (by omega)
  have sb : rdSts t.beat := rdSts_of fun s m => r_st kk (gb.each s m) (nc_app (nc_rows gs) (nc_rows gp) (fun s m => by cases m)) (by
    rw [List.length_append]
    show (t.state.map _).length + (t.params.map _).length + 0 + 3 ≤ 100
    rw [List.length_map, List.length_map]
    omega)
  obtain ⟨b1, ⟨b2a, b2b, b2c, b2d, b2e⟩, b3, b4, b5⟩ := b_tree g
  intro x m
  have wl : (wds x.parts).length ≤ 1000000 := by
    have h := wds_mem (x := x.form) (l := fTree t) (by rw [items_forms]; exact List.mem_map.mpr ⟨x, m, rfl⟩)
    have e : (wd x.form).length = (wds (.w x.head :: x.parts)).length + 2 := wd_fl _
    rw [wds_cl] at e
    omega
  refine ⟨?_, wl⟩
  unfold items at m
  rcases List.mem_append.mp m with m | m
  · rcases List.mem_append.mp m with m | m
    · rcases List.mem_append.mp m with m | m
      · obtain ⟨d, hd, rfl⟩ := List.mem_map.mp m
        exact (gs d hd).rd
      · obtain ⟨d, hd, rfl⟩ := List.mem_map.mp m
        exact (gp d hd).rd
    · obtain ⟨p, hp, rfl⟩ := List.mem_map.mp m
      obtain ⟨p1, p2, p3, p4⟩ := pr p hp
      obtain ⟨o1, o2, o3⟩ := b2c p hp
      exact ⟨p1, p2, p3, o1, o2, p4⟩
  · rw [List.mem_singleton.mp m]
    exact ⟨b2d, b2e, sb⟩
end Px

namespace Px
open PySem PySem.Spec L2 Tr Pu Sd PyProof.Rows
/-! ### the signs of the two texts -/
theorem okc_good {s : Str} (h : Brk s ∨ Good s) : ∀ c ∈ TL.tl s, okc c := by
  rcases h with (rfl | rfl) | h
  · exact (by decide +kernel : ∀ c ∈ TL.tl ("(" : Str), okc c)
  · exact (by decide +kernel : ∀ c ∈ TL.tl (")" : Str), okc c)
  · intro c m
    have := h.2.2.2.2.2.2 c m
    exact .inr ⟨by omega, this.2.1, this.2.2⟩
theorem flat_okc : ∀ ts : List Tk, (∀ t ∈ ts, t.ok) → (∀ s ∈ tkS ts, Brk s ∨ Good s) → ∀ c ∈ flat ts, okc c
  | [], _, _, c, m => by cases m
  | .g x :: r, h, g, c, m => by
    have m : c ∈ [x] ++ flat r := m
    rcases List.mem_append.mp m with m | m
    · rw [List.mem_singleton.mp m]
      have hx : x = 32 ∨ x = 10 := h _ List.mem_cons_self
      rcases hx with rfl | rfl
      · exact .inr ⟨by decide, by decide, by decide⟩
      · exact .inl rfl
    · exact flat_okc r (fun t mt => h t (List.mem_cons_of_mem _ mt)) g c m
  | .b x :: r, h, g, c, m => by
    have m : c ∈ [x] ++ flat r := m
    rcases List.mem_append.mp m with m | m
    · rw [List.mem_singleton.mp m]
      have hx : x = 40 ∨ x = 41 := h _ List.mem_cons_self
      rcases hx with rfl | rfl
      · exact .inr ⟨by decide, by decide, by decide⟩
      · exact .inr ⟨by decide, by decide, by decide⟩
    · exact flat_okc r (fun t mt => h t (List.mem_cons_of_mem _ mt)) (fun s ms => g s (List.mem_cons_of_mem _ ms)) c m
  | .w l :: r, h, g, c, m => by
    have m : c ∈ l ++ flat r := m
    rcases List.mem_append.mp m with m | m
    · exact okc_good (g (Ls l) List.mem_cons_self) c m
    · exact flat_okc r (fun t mt => h t (List.mem_cons_of_mem _ mt)) (fun s ms => g s (List.mem_cons_of_mem _ ms)) c m
mutual
theorem wd_bg : ∀ (F : Fm), okA Good F → ∀ s ∈ wd F, Brk s ∨ Good s
  | .w z, h, s, m => by
    simp only [okA] at h
    rw [wd_w] at m
    rw [List.mem_singleton.mp m]
    exact .inr h
  | .f l, h, s, m => by
    simp only [okA] at h
    rw [wd_f] at m
    rcases List.mem_cons.mp m with rfl | m
    · exact .inl (.inl rfl)
    rcases List.mem_append.mp m with m | m
    · exact wds_bg l h s m
    · rw [List.mem_singleton.mp m]; exact .inl (.inr rfl)
theorem wds_bg : ∀ (l : List Fm), okAs Good l → ∀ s ∈ wds l, Brk s ∨ Good s
  | [], _, s, m => by rw [wds_n] at m; cases m
  | x :: r, h, s, m => by
    simp only [okAs] at h
    rw [wds_c] at m
    rcases List.mem_append.mp m with m | m
    · exact wd_bg x h.1 s m
    · exact wds_bg r h.2 s m
end
theorem okc_text {l : List Fm} (h : okAs Good l) : ∀ c ∈ TL.tl (Txt.join ("\n" : Str) (txs l)), okc c := by
  rw [← tl_T]
  exact flat_okc _ (okT_T l h) (by rw [wds_T]; exact wds_bg l h)
theorem okc_los {ws : List Str} {z : Str} (h : LoS ws ws.length z) (g : ∀ s ∈ ws, Brk s ∨ Good s) : ∀ c ∈ TL.tl z, okc c := by
  obtain ⟨ts, h1, h2, h3, h4, h5, h6⟩ := h
  rw [h1]
  exact flat_okc ts h2 (by rw [h4, List.take_length]; exact g)
theorem okc_at {l : List Nat} (h : ∀ c ∈ l, okc c) : ∀ j < l.length, okc (l.getD j 0) := fun j hj => by
  rw [List.getD_eq_getElem?_getD, List.getElem?_eq_getElem hj]
  exact h _ (List.getElem_mem hj)
/-! ### how large the trees' data are, shown -/
structure Wt (d : PyData) (n m : Nat) : Prop where
  lay : d.canLay0 = true
  sh : d.showable = true
  dep : d.depth ≤ n
  len : d.shown.length ≤ m
structure WtL (ds : List PyData) (n m : Nat) : Prop where
  lay : PyData.canLayAll0 ds = true
  sh : PyData.showableAll ds = true
  dep : PyData.depthAll ds ≤ n
  len : ((PyData.shownAll ds).map (·.length)).sum + 2 * ds.length ≤ m
theorem Wt.mono {d : PyData} {n m n' m' : Nat} (h : Wt d n m) (a : n ≤ n') (b : m ≤ m') : Wt d n' m' := ⟨h.lay, h.sh, Nat.le_trans h.dep a, Nat.le_trans h.len b⟩
theorem wl_nil {n : Nat} : WtL [] n 0 := ⟨rfl, rfl, Nat.zero_le _, Nat.le_refl _⟩
theorem wl_cons {d : PyData} {ds : List PyData} {n m1 m2 : Nat} (h : Wt d n m1) (g : WtL ds n m2) : WtL (d :: ds) n (m1 + m2 + 2) := by
  refine ⟨?_, ?_, Nat.max_le.mpr ⟨h.dep, g.dep⟩, ?_⟩
  · show (d.canLay0 && PyData.canLayAll0 ds) = true
    rw [h.lay, g.lay]
    rfl
  · show (d.showable && PyData.showableAll ds) = true
    rw [h.sh, g.sh]
    rfl
  · have e : PyData.shownAll (d :: ds) = d.shown :: PyData.shownAll ds := by simp only [PyData.shownAll]
    rw [e, List.map_cons, List.sum_cons, List.length_cons]
    have h1 := h.len
    have h2 := g.len
    omega
theorem wt_tup {ds : List PyData} {n m : Nat} (h : WtL ds n m) : Wt (.tuple ds) (n + 1) (m + 3) := by
  refine ⟨h.lay, ?_, Nat.succ_le_succ h.dep, ?_⟩
  · show PyData.showableAll ds = true
    exact h.sh
  · have e : PyData.shown (.tuple ds) = tupleText (PyData.shownAll ds) := by simp only [PyData.shown]
    rw [e]
    have h1 := tupleText_len_le (PyData.shownAll ds)
    have h2 := h.len
    rw [PyData.shownAll_length] at h1
    omega
theorem wt_int {i : Int} {n : Nat} (h0 : 0 ≤ i) (h1 : i < 2147483648) : Wt (.int i) n 13 := by
  refine ⟨rfl, ?_, Nat.zero_le _, PyData.shown_int_le (by omega)⟩
  show decide (i.natAbs.log2 < 1920) = true
  exact decide_eq_true (small_of h0 h1)
theorem wt_none {n : Nat} : Wt .none n 4 := ⟨rfl, rfl, Nat.zero_le _, by decide +kernel⟩
theorem wt_str {s : Str} {n : Nat} (h : ∀ c ∈ s.cps.toList, c < 127) (l : s.length ≤ 10) : Wt (.str s) n 102 := by
  refine ⟨?_, rfl, Nat.zero_le _, ?_⟩
  · show PyData.strOk s = true
    unfold PyData.strOk
    rw [Array.all_eq_true']
    intro c hc
    have := h c (Array.mem_toList_iff.mpr hc)
    exact decide_eq_true (by omega)
  · have e : PyData.shown (.str s) = reprText s := by simp only [PyData.shown]
    rw [e]
    have := StrLaws.reprText_len s fun c m => Nat.lt_trans (h c m) (by decide)
    omega
theorem lad_small : ∀ c ∈ tLad.cps.toList, c < 127 := by decide +kernel
theorem wt_nm {s : Str} {n : Nat} (h : Nm s) : Wt (.str s) n 102 := by
  have l := h.len
  unfold Nm namB at h
  simp only [Bool.and_eq_true, List.all_eq_true, decide_eq_true_iff] at h
  exact wt_str (fun c m => lad_small c (h.2 c m)) (by omega)
theorem nest_lt {x : Fm} {l : List Fm} {n : Nat} (h : Sd.nest (.f l) ≤ n) (m : x ∈ l) : Sd.nest x + 1 ≤ n := by
  have h1 := nests_mem m
  simp only [Sd.nest] at h
  omega
theorem z_ix : ∀ (x : Ix) (n : Nat), rdIx x → Sd.nest (fIx x) ≤ n → ∃ m, Wt x.enc (2 * n + 1) m ∧ m + 100 ≤ 600 * (wd (fIx x)).length
  | .int i, n, h, _ => ⟨_, (wt_tup (wl_cons (wt_str (s := "integer") (by decide +kernel) (by decide +kernel)) (wl_cons (wt_int h.1 (by have := h.2; omega)) (wl_nil (n := 0))))).mono (by omega) (Nat.le_refl _), by
    show _ + 100 ≤ 600 * (wd (num i)).length
    unfold num
    rw [wd_1]
    decide⟩
  | .beat, n, _, _ => ⟨_, (wt_tup (wl_cons (wt_str (s := "beat") (by decide +kernel) (by decide +kernel)) (wl_nil (n := 0)))).mono (by omega) (Nat.le_refl _), by
    show _ + 100 ≤ 600 * (wd (.w _)).length
    rw [wd_1]
    decide⟩
  | .var s, n, h, _ => ⟨_, (wt_tup (wl_cons (wt_str (s := "index") (by decide +kernel) (by decide +kernel)) (wl_cons (wt_nm h) (wl_nil (n := 0))))).mono (by omega) (Nat.le_refl _), by
    show _ + 100 ≤ 600 * (wd (.w _)).length
    rw [wd_1]
    decide⟩
  | .rem a i, n, h, hn => by
    have hn' := nest_lt (x := fIx a) (l := [.w "rem", fIx a, num i]) hn (by simp)
    obtain ⟨m, w, hm⟩ := z_ix a (n - 1) h.1 (by omega)
    refine ⟨_, (wt_tup (wl_cons (wt_str (s := "rem") (by decide +kernel) (by decide +kernel)) (wl_cons w (wl_cons (wt_int (by have := h.2.1; omega) (by have := h.2.2; omega)) wl_nil)))).mono (by omega) (Nat.le_refl _), ?_⟩
    show _ + 100 ≤ 600 * (wd (.f [.w "rem", fIx a, num i])).length
    unfold num
    rw [wd_3, wd_1, wd_1]
    omega
  | .op o a b, n, h, hn => by
    have ha := nest_lt (x := fIx a) (l := [.w o.str, fIx a, fIx b]) hn (by simp)
    have hb := nest_lt (x := fIx b) (l := [.w o.str, fIx a, fIx b]) hn (by simp)
    obtain ⟨m, w, hm⟩ := z_ix a (n - 1) h.1 (by omega)
    obtain ⟨m2, w2, hm2⟩ := z_ix b (n - 1) h.2 (by omega)
    refine ⟨_, (wt_tup (wl_cons (wt_str (s := o.str) (by cases o <;> decide +kernel) (by cases o <;> decide +kernel)) (wl_cons w (wl_cons w2 wl_nil)))).mono (by omega) (Nat.le_refl _), ?_⟩
    show _ + 100 ≤ 600 * (wd (.f [.w o.str, fIx a, fIx b])).length
    rw [wd_3, wd_1]
    omega
/-- a place's two parts -/
theorem z_ox {nm : Str} : ∀ (ix : Option Ix) (n : Nat), rdOx ix → Sd.nest (fPl nm ix) ≤ n → ∃ m, Wt (encO ix) (2 * n + 1) m ∧ m + 450 ≤ 600 * (wd (fPl nm ix)).length
  | none, n, _, _ => ⟨4, wt_none, by
    show _ ≤ 600 * (wd (.w _)).length
    rw [wd_1]
    decide⟩
  | some x, n, h, hn => by
    have hn' := nest_lt (x := fIx x) (l := [.w "at", .w nm, fIx x]) hn (by simp)
    obtain ⟨m, w, hm⟩ := z_ix x (n - 1) h (by omega)
    refine ⟨_, w.mono (by omega) (Nat.le_refl _), ?_⟩
    show _ ≤ 600 * (wd (.f [.w "at", .w nm, fIx x])).length
    rw [wd_3, wd_1, wd_1]
    omega
theorem z_ex : ∀ (x : Ex) (n : Nat), rdEx x → Sd.nest (fEx x) ≤ n → ∃ m, Wt x.enc (2 * n + 2) m ∧ m + 100 ≤ 600 * (wd (fEx x)).length
  | .num i, n, h, _ => ⟨_, (wt_tup (wl_cons (wt_str (s := "number") (by decide +kernel) (by decide +kernel)) (wl_cons (wt_int h.1 (by have := h.2; omega)) (wl_nil (n := 0))))).mono (by omega) (Nat.le_refl _), by
    show _ + 100 ≤ 600 * (wd (num i)).length
    unfold num
    rw [wd_1]
    decide⟩
  | .place nm ix, n, h, hn => by
    obtain ⟨m, w, hm⟩ := z_ox (nm := nm) ix n h.2 hn
    refine ⟨_, (wt_tup (wl_cons (wt_str (s := "place") (by decide +kernel) (by decide +kernel)) (wl_cons (wt_nm h.1) (wl_cons w wl_nil)))).mono (by omega) (Nat.le_refl _), ?_⟩
    show _ + 100 ≤ 600 * (wd (fPl nm ix)).length
    omega
  | .op o a b, n, h, hn => by
    have ha := nest_lt (x := fEx a) (l := [.w o.str, fEx a, fEx b]) hn (by simp)
    have hb := nest_lt (x := fEx b) (l := [.w o.str, fEx a, fEx b]) hn (by simp)
    obtain ⟨m, w, hm⟩ := z_ex a (n - 1) h.1 (by omega)
    obtain ⟨m2, w2, hm2⟩ := z_ex b (n - 1) h.2 (by omega)
    refine ⟨_, (wt_tup (wl_cons (wt_str (s := o.str) (by cases o <;> decide +kernel) (by cases o <;> decide +kernel)) (wl_cons w (wl_cons w2 wl_nil)))).mono (by omega) (Nat.le_refl _), ?_⟩
    show _ + 100 ≤ 600 * (wd (.f [.w o.str, fEx a, fEx b])).length
    rw [wd_3, wd_1]
    omega
theorem z_ts : ∀ (x : Ts) (n : Nat), rdTs x → Sd.nest (fTs x) ≤ n → ∃ m, Wt x.enc (2 * n + 2) m ∧ m + 100 ≤ 600 * (wd (fTs x)).length
  | .zero e, n, h, hn => by
    have ha := nest_lt (x := fEx e) (l := [.w "zero", fEx e]) hn (by simp)
    obtain ⟨m, w, hm⟩ := z_ex e (n - 1) h (by omega)
    refine ⟨_, (wt_tup (wl_cons (wt_str (s := "zero") (by decide +kernel) (by decide +kernel)) (wl_cons w wl_nil))).mono (by omega) (Nat.le_refl _), ?_⟩
    show _ + 100 ≤ 600 * (wd (.f [.w "zero", fEx e])).length
    rw [wd_2, wd_1]
    omega
  | .not t, n, h, hn => by
    have ha := nest_lt (x := fTs t) (l := [.w "not", fTs t]) hn (by simp)
    obtain ⟨m, w, hm⟩ := z_ts t (n - 1) h (by omega)
    refine ⟨_, (wt_tup (wl_cons (wt_str (s := "not") (by decide +kernel) (by decide +kernel)) (wl_cons w wl_nil))).mono (by omega) (Nat.le_refl _), ?_⟩
    show _ + 100 ≤ 600 * (wd (.f [.w "not", fTs t])).length
    rw [wd_2, wd_1]
    omega
  | .less a b, n, h, hn => by
    have ha := nest_lt (x := fIx a) (l := [.w "less", fIx a, fIx b]) hn (by simp)
    have hb := nest_lt (x := fIx b) (l := [.w "less", fIx a, fIx b]) hn (by simp)
    obtain ⟨m, w, hm⟩ := z_ix a (n - 1) h.1 (by omega)
    obtain ⟨m2, w2, hm2⟩ := z_ix b (n - 1) h.2 (by omega)
    refine ⟨_, (wt_tup (wl_cons (wt_str (s := "less") (by decide +kernel) (by decide +kernel)) (wl_cons w (wl_cons w2 wl_nil)))).mono (by omega) (Nat.le_refl _), ?_⟩
    show _ + 100 ≤ 600 * (wd (.f [.w "less", fIx a, fIx b])).length
    rw [wd_3, wd_1]
    omega
  | .equal a b, n, h, hn => by
    have ha := nest_lt (x := fIx a) (l := [.w "equal", fIx a, fIx b]) hn (by simp)
    have hb := nest_lt (x := fIx b) (l := [.w "equal", fIx a, fIx b]) hn (by simp)
    obtain ⟨m, w, hm⟩ := z_ix a (n - 1) h.1 (by omega)
    obtain ⟨m2, w2, hm2⟩ := z_ix b (n - 1) h.2 (by omega)
    refine ⟨_, (wt_tup (wl_cons (wt_str (s := "equal") (by decide +kernel) (by decide +kernel)) (wl_cons w (wl_cons w2 wl_nil)))).mono (by omega) (Nat.le_refl _), ?_⟩
    show _ + 100 ≤ 600 * (wd (.f [.w "equal", fIx a, fIx b])).length
    rw [wd_3, wd_1]
    omega
/-- rows of one kind -/
theorem z_rows {α : Type} {F : α → Fm} {g : α → PyData} {n : Nat} : ∀ {l : List α}, (∀ x ∈ l, ∃ m, Wt (g x) n m ∧ m + 2 ≤ 600 * (wd (F x)).length) → ∃ m, WtL (l.map g) n m ∧ m ≤ 600 * (wds (l.map F)).length
  | [], _ => ⟨0, wl_nil, Nat.zero_le _⟩
  | x :: r, h => by
    obtain ⟨m, w, hm⟩ := h x List.mem_cons_self
    obtain ⟨m2, w2, hm2⟩ := z_rows fun y my => h y (List.mem_cons_of_mem _ my)
    refine ⟨_, wl_cons w w2, ?_⟩
    rw [List.map_cons, wds_cl]
    omega
end Px

namespace Px
open PySem PySem.Spec L2 Tr Pu Sd PyProof.Rows
theorem wt_hd {s : Str} {n : Nat} (h : s ∈ (["set", "call", "loop", "if", "let"] : List Str)) : Wt (.str s) n 102 :=
  wt_str ((by decide +kernel : ∀ s ∈ (["set", "call", "loop", "if", "let"] : List Str), ∀ c ∈ s.cps.toList, c < 127) s h) ((by decide +kernel : ∀ s ∈ (["set", "call", "loop", "if", "let"] : List Str), s.length ≤ 10) s h)
mutual
theorem z_st : ∀ (x : Tr.St) (n : Nat), rdSt x → Sd.nest (fSt x) ≤ n → ∃ m, Wt x.enc (2 * n + 2) m ∧ m + 100 ≤ 600 * (wd (fSt x)).length
  | .set nm ix e, n, h, hn => by
    simp only [rdSt] at h
    have ha := nest_lt (x := fPl nm ix) (l := [.w "set", fPl nm ix, fEx e]) hn (by simp)
    have hb := nest_lt (x := fEx e) (l := [.w "set", fPl nm ix, fEx e]) hn (by simp)
    obtain ⟨m, w, hm⟩ := z_ox (nm := nm) ix (n - 1) h.2.1 (by omega)
    obtain ⟨m2, w2, hm2⟩ := z_ex e (n - 1) h.2.2 (by omega)
    have wp : Wt (encPl nm ix) (2 * (n - 1) + 1 + 1) _ := wt_tup (wl_cons (wt_nm h.1) (wl_cons w wl_nil))
    refine ⟨_, (wt_tup (wl_cons (wt_hd (s := "set") (by simp)) (wl_cons wp (wl_cons (w2.mono (by omega) (Nat.le_refl _)) wl_nil)))).mono (by omega) (Nat.le_refl _), ?_⟩
    show _ + 100 ≤ 600 * (wd (.f [.w "set", fPl nm ix, fEx e])).length
    rw [wd_3, wd_1]
    omega
  | .call z xs ns, n, h, hn => by
    simp only [rdSt] at h
    have ha := nest_lt (x := .f (xs.map fIx)) (l := [.w "call", .w z, .f (xs.map fIx), .f (ns.map Fm.w)]) hn (by simp)
    obtain ⟨m, w, hm⟩ := z_rows (F := fIx) (g := Ix.enc) (n := 2 * (n - 2) + 1) (l := xs) fun x mx => by
      have hx := nest_lt (x := fIx x) (l := xs.map fIx) (n := Sd.nest (.f (xs.map fIx))) (Nat.le_refl _) (List.mem_map.mpr ⟨x, mx, rfl⟩)
      obtain ⟨m, w, hm⟩ := z_ix x (n - 2) (h.2.1 x mx) (by omega)
      exact ⟨m, w, by omega⟩
    obtain ⟨m2, w2, hm2⟩ := z_rows (F := Fm.w) (g := PyData.str) (n := 2 * (n - 2) + 1) (l := ns) fun x mx => ⟨102, wt_nm (h.2.2 x mx), by rw [wd_1]; decide⟩
    have n2 : 2 ≤ n := by
      have : 1 ≤ Sd.nest (.f (xs.map fIx)) := by simp only [Sd.nest]; omega
      omega
    refine ⟨_, (wt_tup (wl_cons (wt_hd (s := "call") (by simp)) (wl_cons (wt_nm h.1) (wl_cons (wt_tup w) (wl_cons (wt_tup w2) wl_nil))))).mono (by omega) (Nat.le_refl _), ?_⟩
    show _ + 100 ≤ 600 * (wd (.f [.w "call", .w z, .f (xs.map fIx), .f (ns.map Fm.w)])).length
    rw [wd_fl, wds_cl, wds_cl, wds_cl, wds_cl, wds_nl, wd_1, wd_1, wd_fl, wd_fl]
    omega
  | .loop nm c b, n, h, hn => by
    simp only [rdSt] at h
    have e : fSt (.loop nm c b) = .f ([.w "loop", .w nm, fIx c] ++ fSts b) := by simp only [fSt]
    rw [e] at hn ⊢
    have ha := nest_lt (x := fIx c) hn (by simp)
    obtain ⟨m, w, hm⟩ := z_ix c (n - 1) h.2.1 (by omega)
    obtain ⟨m2, w2, hm2⟩ := z_sts b (n - 1) h.2.2 (fun y my => by
      have := nest_lt (x := y) hn (List.mem_append_right _ my)
      omega)
    refine ⟨_, (wt_tup (wl_cons (wt_hd (s := "loop") (by simp)) (wl_cons (wt_nm h.1) (wl_cons (w.mono (by omega) (Nat.le_refl _)) (wl_cons (wt_tup w2) wl_nil))))).mono (by omega) (Nat.le_refl _), ?_⟩
    rw [wd_fl, wds_app, List.length_append, wds_cl, wds_cl, wds_cl, wds_nl, wd_1, wd_1]
    omega
  | .ite t a b, n, h, hn => by
    simp only [rdSt] at h
    have e : fSt (.ite t a b) = .f [.w "if", fTs t, .f (fSts a), .f (fSts b)] := by simp only [fSt]
    rw [e] at hn ⊢
    have ht := nest_lt (x := fTs t) hn (by simp)
    have ha := nest_lt (x := .f (fSts a)) hn (by simp)
    have hb := nest_lt (x := .f (fSts b)) hn (by simp)
    obtain ⟨m, w, hm⟩ := z_ts t (n - 1) h.1 (by omega)
    obtain ⟨m1, w1, hm1⟩ := z_sts a (n - 2) h.2.1 (fun y my => by
      have := nest_lt (x := y) (Nat.le_refl (Sd.nest (.f (fSts a)))) my
      omega)
    obtain ⟨m2, w2, hm2⟩ := z_sts b (n - 2) h.2.2 (fun y my => by
      have := nest_lt (x := y) (Nat.le_refl (Sd.nest (.f (fSts b)))) my
      omega)
    have n2 : 2 ≤ n := by
      have : 1 ≤ Sd.nest (.f (fSts a)) := by simp only [Sd.nest]; omega
      omega
    refine ⟨_, (wt_tup (wl_cons (wt_hd (s := "if") (by simp)) (wl_cons (w.mono (n' := 2 * n) (by omega) (Nat.le_refl _)) (wl_cons ((wt_tup w1).mono (by omega) (Nat.le_refl _)) (wl_cons ((wt_tup w2).mono (by omega) (Nat.le_refl _)) wl_nil))))).mono (by omega) (Nat.le_refl _), ?_⟩
    rw [wd_fl, wds_cl, wds_cl, wds_cl, wds_cl, wds_nl, wd_1, wd_fl, wd_fl]
    omega
  | .bind nm x b, n, h, hn => by
    simp only [rdSt] at h
    have e : fSt (.bind nm x b) = .f ([.w "let", .w nm, fEx x] ++ fSts b) := by simp only [fSt]
    rw [e] at hn ⊢
    have ha := nest_lt (x := fEx x) hn (by simp)
    obtain ⟨m, w, hm⟩ := z_ex x (n - 1) h.2.1 (by omega)
    obtain ⟨m2, w2, hm2⟩ := z_sts b (n - 1) h.2.2 (fun y my => by
      have := nest_lt (x := y) hn (List.mem_append_right _ my)
      omega)
    refine ⟨_, (wt_tup (wl_cons (wt_hd (s := "let") (by simp)) (wl_cons (wt_nm h.1) (wl_cons (w.mono (n' := 2 * n + 1) (by omega) (Nat.le_refl _)) (wl_cons ((wt_tup w2).mono (by omega) (Nat.le_refl _)) wl_nil))))).mono (by omega) (Nat.le_refl _), ?_⟩
    rw [wd_fl, wds_app, List.length_append, wds_cl, wds_cl, wds_cl, wds_nl, wd_1, wd_1]
    omega
theorem z_sts : ∀ (b : List Tr.St) (n : Nat), rdSts b → (∀ y ∈ fSts b, Sd.nest y ≤ n) → ∃ m, WtL (St.encs b) (2 * n + 2) m ∧ m ≤ 600 * (wds (fSts b)).length
  | [], n, _, _ => ⟨0, wl_nil, Nat.zero_le _⟩
  | s :: r, n, h, hn => by
    simp only [rdSts] at h
    obtain ⟨m, w, hm⟩ := z_st s n h.1 (hn _ (by simp only [fSts]; exact List.mem_cons_self))
    obtain ⟨m2, w2, hm2⟩ := z_sts r n h.2 (fun y my => hn y (by simp only [fSts]; exact List.mem_cons_of_mem _ my))
    refine ⟨_, wl_cons w w2, ?_⟩
    simp only [fSts]
    rw [wds_cl]
    omega
end
theorem z_decl {n : Nat} {d : Decl} (h : rdDecl d) : ∃ m, Wt d.enc (n + 1) m ∧ m + 2 ≤ 600 * (wds (fDecl d)).length := by
  obtain ⟨nm, z⟩ := d
  obtain ⟨h1, h2, h3⟩ := h
  have h2 : 0 ≤ z := h2
  have h3 : z ≤ 8 := h3
  refine ⟨_, wt_tup (wl_cons (wt_nm h1) (wl_cons (wt_int h2 (by omega)) wl_nil)), ?_⟩
  unfold fDecl num
  split
  · rw [wds_cl, wd_1, wds_nl]
    decide
  · rw [wds_cl, wds_cl, wd_1, wd_1, wds_nl]
    decide
theorem z_proc {p : Proc} {n : Nat} (h : rdProc p) (hn : Sd.nest (fProc p) ≤ n) : ∃ m, Wt p.enc (2 * n + 4) m ∧ m + 100 ≤ 600 * (wd (fProc p)).length := by
  obtain ⟨k1, k2, k3, k4, k5, k6⟩ := h
  have e : fProc p = .f ([.w "procedure", .w p.name, .f (p.idxs.map Fm.w), .f (p.refs.map fun d => .f (fDecl d))] ++ fSts p.body) := rfl
  rw [e] at hn ⊢
  obtain ⟨m1, w1, hm1⟩ := z_rows (F := Fm.w) (g := PyData.str) (n := 2 * n + 2) (l := p.idxs) fun x mx => ⟨102, wt_nm (k2 x mx), by rw [wd_1]; decide⟩
  obtain ⟨m2, w2, hm2⟩ := z_rows (F := fun d => .f (fDecl d)) (g := Decl.enc) (n := 2 * n + 2) (l := p.refs) fun x mx => by
    obtain ⟨m, w, hm⟩ := z_decl (n := 2 * n + 1) (k3 x mx)
    exact ⟨m, w, by rw [wd_fl]; omega⟩
  obtain ⟨m3, w3, hm3⟩ := z_sts p.body n k6 (fun y my => by
    have := nest_lt (x := y) hn (List.mem_append_right _ my)
    omega)
  refine ⟨_, wt_tup (wl_cons (wt_nm k1) (wl_cons (wt_tup w1) (wl_cons (wt_tup w2) (wl_cons (wt_tup w3) wl_nil)))), ?_⟩
  rw [wd_fl, wds_app, List.length_append, wds_cl, wds_cl, wds_cl, wds_cl, wds_nl, wd_1, wd_1, wd_fl, wd_fl]
  omega
theorem z_tree {t : Tr.Tree} (g : GTree t) (hw : (wds (fTree t)).length ≤ 12100) : t.enc.canLay0 = true ∧ t.enc.showable = true ∧ t.enc.depth ≤ 60 ∧ t.enc.shown.length ≤ sizeLine := by
  have rd := r_tree g
  have nt := n_tree g
  have eT : fTree t = ((t.state.map (fHd "state") ++ t.params.map (fHd "param")) ++ t.procs.map fProc) ++ [.f (.w "beat" :: fSts t.beat)] := rfl
  obtain ⟨m1, w1, hm1⟩ := z_rows (F := fHd "state") (g := Decl.enc) (n := 34) (l := t.state) fun x mx => by
    have r : rdDecl x := (rd (.state x) (by unfold items; simp only [List.mem_append, List.mem_map]; exact .inl (.inl (.inl ⟨x, mx, rfl⟩)))).1
    obtain ⟨m, w, hm⟩ := z_decl (n := 33) r
    refine ⟨m, w, ?_⟩
    show _ ≤ 600 * (wd (.f (.w "state" :: fDecl x))).length
    rw [wd_fl, wds_cl]
    omega
  obtain ⟨m2, w2, hm2⟩ := z_rows (F := fHd "param") (g := Decl.enc) (n := 34) (l := t.params) fun x mx => by
    have r : rdDecl x := (rd (.param x) (by unfold items; simp only [List.mem_append, List.mem_map]; exact .inl (.inl (.inr ⟨x, mx, rfl⟩)))).1
    obtain ⟨m, w, hm⟩ := z_decl (n := 33) r
    refine ⟨m, w, ?_⟩
    show _ ≤ 600 * (wd (.f (.w "param" :: fDecl x))).length
    rw [wd_fl, wds_cl]
    omega
  obtain ⟨m3, w3, hm3⟩ := z_rows (F := fProc) (g := Proc.enc) (n := 34) (l := t.procs) fun x mx => by
    have r : rdProc x := (rd (.proc x) (by unfold items; simp only [List.mem_append, List.mem_map]; exact .inl (.inr ⟨x, mx, rfl⟩))).1
    have hn : Sd.nest (fProc x) ≤ 15 := Nat.le_trans (nests_mem (by rw [eT]; simp only [List.mem_append, List.mem_map]; exact .inl (.inr ⟨x, mx, rfl⟩))) nt
    obtain ⟨m, w, hm⟩ := z_proc r hn
    exact ⟨m, w, by omega⟩
  obtain ⟨m4, w4, hm4⟩ := z_sts t.beat 15 ((rd (.beat t.beat) (by unfold items; simp only [List.mem_append]; exact .inr (List.mem_singleton.mpr rfl))).1.2.2) (fun y my => by
    have h1 : Sd.nest (.f (.w "beat" :: fSts t.beat)) ≤ 15 := Nat.le_trans (nests_mem (by rw [eT]; exact List.mem_append_right _ (List.mem_singleton.mpr rfl))) nt
    have := nest_lt (x := y) h1 (List.mem_cons_of_mem _ my)
    omega)
  have w : Wt t.enc 36 _ := wt_tup (n := 35) (wl_cons (wt_tup w1) (wl_cons (wt_tup w2) (wl_cons (wt_tup w3) (wl_cons ((wt_tup w4).mono (by omega) (Nat.le_refl _)) wl_nil))))
  refine ⟨w.lay, w.sh, Nat.le_trans w.dep (by decide), Nat.le_trans w.len ?_⟩
  rw [eT, wds_app, wds_app, wds_app, List.length_append, List.length_append, List.length_append, wds_cl, wds_nl, wd_fl, wds_cl, wd_1] at hw
  exact Nat.le_trans (show _ ≤ 10000000 by omega) (by decide)
end Px

namespace Px
open PySem PySem.Spec L2 Tr Pu Sd PyProof.Rows
abbrev sLaw : Stmt := top 83
abbrev nLaw : List Str := ["script", "draws", "at", "tree", "rows", "lines", "text", "words", "row", "loose", "shown"]
def spLaw (K : PySem.W.Frag) : Sp := fun vs H Q _ => ∃ (a : Addr) (ns : List Int), vs = [.ref a] ∧ SqL K H a (ns.map V.int) ∧ ns.length ≤ 63 ∧ ∀ H', Q (.bl true) H'
theorem stays_same_d {p d : Addr} {H H' : Hp} {o : HO} (s : Stays p H H') (n : d ≠ p) (e : H d = some o) : H' d = some o := s.o d o n e
section
variable {P : Program} {w : World} {K : PySem.W.Frag} {mg : Str → Option Value} {base : Heap}
theorem scLaw : FnScope nLaw ["script"] (defScope sLaw) := ⟨rfl, rfl, rfl, by decide +kernel, rfl, by decide +kernel, by decide +kernel⟩
/-- the lines of the rows of words -/
theorem lines_k {H3 : Hp} {σ : L2.St} {E : XK} {L : Addr} {t : Tr.Tree} {Q : VK} (gt : GTree t) (ll : LL H3 L ((fTree t).map wd)) (e4 : σ[4]? = some (some (.ref L))) (l8 : 8 < σ.length) (hw : (wds (fTree t)).length ≤ 130000)
    (k : ∀ D H', Same H3 H' → H' D = some (.lst (((fTree t).map tx).map V.str)) → Q (.ref D) H') : tLc (iList K (tVar 4)) (gName 8) tYes (tCall spLli [] E (tCons (tVar 8) tNil)) [8] σ H3 Q := by
  have big : 10000002 ≤ sizeLine := by decide
  obtain ⟨l, eL, each, el⟩ := ll
  have ll' : l.length = (fTree t).length := by
    have := congrArg List.length el
    rw [List.length_map, List.length_map] at this
    exact this
  have lx : (l.map fun p => V.ref p.1).length = (fTree t).length := by rw [List.length_map]; exact ll'
  obtain ⟨good, _, _, _, tt⟩ := b_tree gt
  refine ⟨_, e4, L, rfl, ⟨_, SqL.of eL⟩, fun D hD => ?_⟩
  refine lc_list (K := K) (a := L) (xs := l.map fun p => V.ref p.1) (fun j H' => Same H3 H' ∧ H' D = some (.lst ((((fTree t).map tx).take j).map V.str))) ⟨same_alloc hD, upd_same⟩ (fun j H' _ h => SqL.of (h.1 _ _ eL)) ?_ ?_
  · rintro j z H5 hj ⟨s5, eD⟩
    have jl : j < (fTree t).length := by rw [← lx]; exact (List.getElem?_eq_some_iff.mp hj).1
    obtain ⟨F, hF⟩ : ∃ F, (fTree t)[j]? = some F := ⟨_, List.getElem?_eq_getElem jl⟩
    obtain ⟨p, hp⟩ : ∃ p, l[j]? = some p := ⟨_, List.getElem?_eq_getElem (by omega)⟩
    rw [List.getElem?_map, hp] at hj
    cases hj
    have e2 : p.2 = wd F := by
      have := congrArg (·[j]?) el
      simp only [List.getElem?_map, hp, hF, Option.map_some, Option.some.injEq] at this
      exact this
    have mF := List.mem_of_getElem? hF
    have gF := good F mF
    have ln := line_wd F (okA_F gF)
    have lw : (wd F).length ≤ 1000000 := by
      have := wds_mem mF
      omega
    have lt : (tx F).length ≤ 10000000 := tot_mem tt mF
    have tke : ((fTree t).map tx).take (j + 1) = ((fTree t).map tx).take j ++ [tx F] := by
      rw [List.take_add_one, List.getElem?_map, hF]
      rfl
    refine ⟨wipe1 σ 8 _, _, by
      show ((σ.set 8 none).set 8 (some (V.ref p.1)))[8]? = _
      rw [List.getElem?_set, if_pos rfl, if_pos (by rw [List.length_set]; exact l8)], p.1, wd F, rfl, by rw [← e2]; exact s5 _ _ (each p (List.mem_of_getElem? hp)), lw, by rw [ln]; exact lt, ?_⟩
    rw [ln]
    refine ⟨_, eD, ?_, same_put s5 hD, ?_⟩
    · rw [List.length_map, List.length_take, List.length_map]
      have := rows_le (fTree t)
      omega
    · rw [upd_same, tke, List.map_append]
      rfl
  · rintro H5 ⟨s5, eD⟩
    have e6 : ((fTree t).map tx).take (l.map fun p => V.ref p.1).length = (fTree t).map tx := List.take_of_length_le (by rw [List.length_map, lx]; exact Nat.le_refl _)
    rw [e6] at eD
    exact k D H5 s5 eD
theorem nl_tree (t : Tr.Tree) : noL t.enc = true := by
  show (noLs (t.state.map Decl.enc) && (noLs (t.params.map Decl.enc) && (noLs (t.procs.map Proc.enc) && (noLs (St.encs t.beat) && true)))) = true
  rw [noLs_of (ds := t.state.map Decl.enc) fun d m => by obtain ⟨x, _, rfl⟩ := List.mem_map.mp m; exact nl_decl x, noLs_of (ds := t.params.map Decl.enc) fun d m => by obtain ⟨x, _, rfl⟩ := List.mem_map.mp m; exact nl_decl x, noLs_of (ds := t.procs.map Proc.enc) fun d m => by obtain ⟨x, _, rfl⟩ := List.mem_map.mp m; exact nl_proc x, nl_sts t.beat]
  rfl
/-- a text that reads as the tree -/
structure Rds (t : Tr.Tree) (l : List Nat) : Prop where
  len : l.length ≤ 6000
  ok : ∀ c ∈ l, okc c
  wds : (wordsOf l).map (fun z => Ls z.1) = Sd.wds (fTree t)
theorem Rds.few {t : Tr.Tree} {l : List Nat} (h : Rds t l) : (Sd.wds (fTree t)).length ≤ 12100 := by
  have h1 := congrArg List.length h.wds
  rw [List.length_map] at h1
  have h2 := wst_len l (l.length + 1)
  have h3 := h.len
  have h4 : (wordsOf l).length ≤ 2 * (l.length + 1) := h2
  omega
theorem read_k {t : Tr.Tree} {l : List Nat} {i : Nat} {σ : L2.St} {H : Hp} {E : XK} {Q : VK} (gt : GTree t) (r : Rds t l) (e : σ[i]? = some (some (.str (Ls l)))) (k : ∀ v H', Same H H' → Tv K H' t.enc v → Q v H') : tCall (spRp K) [] E (tCons (tVar i) tNil) σ H Q :=
  ⟨_, e, l, t, rfl, r.len, okc_at r.ok, r.wds, gt, r_tree gt, fun v H' s h => k v H' s (tv_of (nl_tree t) h)⟩
theorem shown_k {t : Tr.Tree} {te : TE} {σ : L2.St} {H : Hp} {Q : VK} (gt : GTree t) (few : (Sd.wds (fTree t)).length ≤ 12100) (h : ∀ R : VK, (∀ v H', Same H H' → Tv K H' t.enc v → R v H') → te σ H R) (k : ∀ H', Same H H' → Q (.str t.enc.shown) H') : tCB (Rp.spReprD K) (tCons te tNil) σ H Q :=
  h _ fun v H' s tv => by
    obtain ⟨z1, z2, z3, z4⟩ := z_tree gt few
    obtain ⟨a, xs, rfl, sq, tl⟩ := id tv
    exact .inl ⟨a, t.enc, rfl, Tv.dv _ _ z1 tv, z2, z4, Nat.le_trans z3 (by decide), k H' s⟩
theorem ok_law {f : Addr} {fd : FuncData} (F : Fun K "law" "law" sLaw f fd) (T : Bi mg) (zr : mg "repr" = none) (c_draws : Cal P w K mg base CX0 1 "_law_draws" ["script"] (spDraws K)) (c_tree : Cal P w K mg base CX0 20 "_law_tree" ["draws", "at"] (spTree K))
    (c_lwo : Cal P w K mg base CX0 64 "_law_words" ["tree"] (spLwo K)) (c_lli : Cal P w K mg base CX0 1 "_law_line" ["words"] spLli) (c_wpr : Cal P w K mg base CX0 65 "write_program" ["tree"] (spWpr K)) (c_llo : Cal P w K mg base CX0 2 "_law_loose" ["words", "draws", "at"] (spLlo K))
    (c_rp : Cal P w K mg base CX0 66 "read_program" ["text"] (spRp K)) : Gd.GFn P w K mg base CX0 68 f fd ["script"] (spLaw K) := by
  refine Gd.gfn0 F scLaw (fun vs H Q E h => ?_) (fun cdv A outer s H vs Q E gd hr h => ?_)
  · obtain ⟨a, ns, rfl, _⟩ := h
    rfl
  · obtain ⟨a, ns, rfl, hS, hl, q⟩ := h
    have nd := scLaw.nd
    have hu : (A.deeper (PyProof.Rows.envOfC "law" (defScope sLaw) s.heap.objs.size f cdv)).units + 200 < cLine := by have := hr.un; omega
    have one : 1 ≤ sizeLine := by decide
    have big : 10000002 ≤ sizeLine := by decide
    refine ⟨_, pss_cons (ps_set (i := 1) nd rfl (.inl rfl) (pe_call c_draws.ok (hr.mono (by first | decide | omega)) rfl c_draws.m c_draws.kp c_draws.b .nil pass0 (pa_cons (pv 0) pa_nil)))
      (pss_cons (ps_set (i := 2) nd rfl (.inl rfl) (pe_lst (pa_cons pe_int pa_nil)))
      (pss_cons (ps_set (i := 3) nd rfl (.inl rfl) (pe_call c_tree.ok (hr.mono (by first | decide | omega)) rfl c_tree.m c_tree.kp c_tree.b .nil pass0 (pa_cons (pv 1) (pa_cons (pv 2) pa_nil))))
      (pss_cons (ps_set (i := 4) nd rfl (.inl rfl) (pe_call c_lwo.ok (hr.mono (by first | decide | omega)) rfl c_lwo.m c_lwo.kp c_lwo.b .nil pass0 (pa_cons (pv 3) pa_nil)))
      (pss_cons (ps_setLc (i := 5) (own := [("row", 8)]) (g := gName 8) (tt := tYes) rfl nd rfl rfl (sw_true rfl rfl rfl (by decide +kernel)) (pi_list (pv 4)) (blkOk_by (N := nLaw) (sc := defScope sLaw) (by decide +kernel)) (fun _ _ _ _ _ => pg_name (i := 8) nd rfl (.inl rfl)) (fun _ _ _ _ _ => pts_nil) (fun _ _ _ _ _ => (pe_call c_lli.ok (hr.mono (by first | decide | omega)) rfl c_lli.m c_lli.kp c_lli.b .nil pass0 (pa_cons (pv 8) pa_nil))))
      (pss_cons (ps_set (i := 6) nd rfl (.inl rfl) (pe_call c_wpr.ok (hr.mono (by first | decide | omega)) rfl c_wpr.m c_wpr.kp c_wpr.b .nil pass0 (pa_cons (pv 3) pa_nil)))
      (pss_cons (ps_if (PW.pt (pw_or (pt_not (pt_val (pe_callB call_isi rfl T.isinstance PyProof.Rows.boot_isinstance (pa_cons (pv 6) (pa_cons (pe_bltn (v := .ty "str") rfl T.str PyProof.Rows.boot_str rfl) pa_nil))))) (pw_or1 (pt_cmpR op_ne (pv 6) (pe_join pe_str (pv 5)) (nomark _))))) (pss_one (ps_ret pe_bl)) pss_nil)
      (pss_cons (ps_set (i := 7) nd rfl (.inl rfl) (pe_lst pa_nil))
      (pss_cons (ps_for PassesOwn.never rfl (pi_list (pv 4)) (pg_name (i := 8) nd rfl (.inl rfl)) (pss_one (ps_set (i := 7) nd rfl (.inl rfl) (pe_op op_cat (pv 7) (pv 8)))))
      (pss_cons (ps_set (i := 9) nd rfl (.inl rfl) (pe_call c_llo.ok (hr.mono (by first | decide | omega)) rfl c_llo.m c_llo.kp c_llo.b .nil pass0 (pa_cons (pv 7) (pa_cons (pe_callTy call_list_of rfl T.list PyProof.Rows.boot_list (pa_cons (pe_revL (pv 1)) pa_nil)) (pa_cons (pe_lst (pa_cons pe_int pa_nil)) pa_nil)))))
      (pss_cons (ps_if (PW.pt (pw_or (pt_cmpR op_gt (pe_callB call_len_str rfl T.len PySem.boot_len (pa_cons (pv 9) pa_nil)) pe_int (nomark _)) (pw_or1 (pt_cmpR op_gt (pe_callB call_len_str rfl T.len PySem.boot_len (pa_cons (pv 6) pa_nil)) pe_int (nomark _))))) (pss_one (ps_ret pe_bl)) pss_nil)
      (pss_cons (ps_set (i := 10) nd rfl (.inl rfl) (pe_callB (Rp.cr_reprD gd hu) rfl zr PyProof.Rows.boot_repr (pa_cons (pv 3) pa_nil)))
      (pss_one (ps_ret (pe_and (pe_cmpR op_eq (pe_callB (Rp.cr_reprD gd hu) rfl zr PyProof.Rows.boot_repr (pa_cons (pe_call c_rp.ok (hr.mono (by first | decide | omega)) rfl c_rp.m c_rp.kp c_rp.b .nil pass0 (pa_cons (pv 6) pa_nil)) pa_nil)) (pv 10) (nomark _)) (pe_and (pe_cmpR op_eq (pe_callB (Rp.cr_reprD gd hu) rfl zr PyProof.Rows.boot_repr (pa_cons (pe_call c_rp.ok (hr.mono (by first | decide | omega)) rfl c_rp.m c_rp.kp c_rp.b .nil pass0 (pa_cons (pv 9) pa_nil)) pa_nil)) (pv 10) (nomark _)) (pe_one (pe_cmpR (op_eqD (Nat.lt_of_le_of_lt (Nat.add_le_add_left (by decide : 64 ≤ 200) _) hu)) (pe_call c_rp.ok (hr.mono (by first | decide | omega)) rfl c_rp.m c_rp.kp c_rp.b .nil pass0 (pa_cons (pv 6) pa_nil)) (pv 3) (nomark _)))))))))))))))))), ?_⟩
    refine ⟨_, rfl, a, ns, rfl, hS, fun d ds H1 hd sm e1 => ⟨one, fun p hp => ?_⟩⟩
    have nd0 : d ≠ p := ne_of_none e1 hp
    have ed0 : (upd H1 p (.lst [.int 0])) d = some (.lst (ds.map V.int)) := by rw [upd_ne nd0]; exact e1
    have D0 : Dr K (upd H1 p (.lst [V.int 0])) d p := ⟨nd0, ⟨ds, SqL.of ed0⟩, 0, Int.le_refl _, upd_same⟩
    refine ⟨_, rfl, _, rfl, d, p, rfl, D0, fun t u H2 gt tu s2 c2 => ?_⟩
    have ed2 := stays_same_d s2 nd0 ed0
    obtain ⟨good, okt, okz, hw, tt⟩ := b_tree gt
    refine ⟨_, rfl, u, t, rfl, tu, okt, okz, by omega, fun L H3 s3 ll => ?_⟩
    have ed3 := s3 _ _ ed2
    have tu3 := Tv.carry (same_carry s3) _ _ tu
    refine set_k (fun v H' => ∃ D, v = .ref D ∧ Same H3 H' ∧ H' D = some (.lst (((fTree t).map tx).map V.str))) (fun Q' kk => lines_k gt ll rfl (by show 8 < 11; decide) hw fun D H' s' e' => kk _ _ ⟨D, rfl, s', e'⟩) ?_
    rintro _ H4 ⟨D, rfl, s4, eD⟩
    have ed4 := s4 _ _ ed3
    have tu4 := Tv.carry (same_carry s4) _ _ tu3
    have ll4 := ll.next s4
    refine ⟨_, rfl, u, t, rfl, tu4, okt, tt, fun H5 s5 => ?_⟩
    have ed5 := s5 _ _ ed4
    have eD5 := s5 _ _ eD
    have tu5 := Tv.carry (same_carry s5) _ _ tu4
    have ll5 := ll4.next s5
    have eDt : (fTree t).map tx = txs (fTree t) := (txs_map _).symm
    rw [eDt] at eD5
    have jb : ((txs (fTree t)).map (·.length)).sum + (txs (fTree t)).length * ("\n" : Str).length ≤ 16777216 := by
      have h1 : (txs (fTree t)).length = (fTree t).length := by rw [txs_map, List.length_map]
      have h2 : ("\n" : Str).length = 1 := by decide +kernel
      unfold tot at tt
      rw [h1, h2]
      omega
    refine ⟨_, rfl, .str (textT t), .ty "str", .type "str", .type "str", true, rfl, .ty "str", .base (.str _), kit_ty (show kitB "str" "str" = some true by decide +kernel), true, rfl, ?_⟩
    refine iteF' rfl ?_
    refine ⟨_, rfl, ⟨_, rfl⟩, _, rfl, "\n", D, txs (fTree t), rfl, rfl, .inl (SqL.of eD5), jb, rfl, false, ?_, ?_⟩
    · exact congrArg V.bl (by show (!decide (V.str (textT t) = V.str (Txt.join ("\n" : Str) (txs (fTree t))))) = false; rw [decide_eq_true (show V.str (textT t) = V.str (Txt.join ("\n" : Str) (txs (fTree t))) from rfl)]; rfl)
    refine iteF' rfl ?_
    refine ⟨Nat.zero_le _, fun W nW => ?_⟩
    have s6 := same_alloc (o := .lst []) nW
    have ed6 := s6 _ _ ed5
    have tu6 := Tv.carry (same_carry s6) _ _ tu5
    have ll6 := ll5.next s6
    obtain ⟨l, eL, each, el⟩ := id ll6
    have lx : (l.map fun p => V.ref p.1).length = (fTree t).length := by
      have := congrArg List.length el
      rw [List.length_map, List.length_map] at this
      rw [List.length_map]
      exact this
    generalize hH6 : upd H5 W (.lst []) = H6 at s6 ed6 tu6 ll6 eL each
    have eW6 : H6 W = some (.lst []) := by rw [← hH6]; exact upd_same
    refine ⟨_, rfl, L, rfl, ⟨_, SqL.of eL⟩, for_list (K := K) (a := L) (xs := l.map fun p => V.ref p.1) (fun i σ' H' => Same H6 H' ∧ ∃ (M : Addr) (w8 : Option V), H' M = some (.lst ((wds ((fTree t).take i)).map V.str)) ∧
      σ' = [some (.ref a), some (.ref d), some (.ref p), some u, some (.ref L), some (.ref D), some (.str (textT t)), some (.ref M), w8, none, none])
      ⟨Pu.same_refl _, W, none, by rw [List.take_zero, wds_n]; exact eW6, rfl⟩ (fun i σ' H' _ h => SqL.of (h.1 _ _ eL)) ?_ ?_⟩
    · rintro i z σ' H7 hi ⟨s7, M, w8, eM, rfl⟩
      have il : i < (fTree t).length := by rw [← lx]; exact (List.getElem?_eq_some_iff.mp hi).1
      obtain ⟨F0, hF⟩ : ∃ F0, (fTree t)[i]? = some F0 := ⟨_, List.getElem?_eq_getElem il⟩
      obtain ⟨r, hr'⟩ : ∃ r, l[i]? = some r := ⟨_, List.getElem?_eq_getElem (by rw [List.length_map] at lx; omega)⟩
      rw [List.getElem?_map, hr'] at hi
      cases hi
      have e2 : r.2 = wd F0 := by
        have := congrArg (·[i]?) el
        simp only [List.getElem?_map, hr', hF, Option.map_some, Option.some.injEq] at this
        exact this
      have er := s7 _ _ (each r (List.mem_of_getElem? hr'))
      rw [e2] at er
      have tke : wds ((fTree t).take (i + 1)) = wds ((fTree t).take i) ++ wd F0 := by
        rw [List.take_add_one, hF, wds_app]
        show _ ++ wds [F0] = _
        rw [wds_c, wds_n, List.append_nil]
      have lle : (wds ((fTree t).take (i + 1))).length ≤ (wds (fTree t)).length := by
        have : wds (fTree t) = wds ((fTree t).take (i + 1)) ++ wds ((fTree t).drop (i + 1)) := by rw [← wds_app, List.take_append_drop]
        rw [this, List.length_append]
        omega
      rw [tke, List.length_append] at lle
      refine ⟨_, rfl, _, rfl, M, r.1, _, _, rfl, rfl, eM, er, by rw [List.length_map, List.length_map]; omega, fun N nN => ?_⟩
      exact ⟨s7.trans (same_alloc nN), N, _, by rw [upd_same, tke, List.map_append], rfl⟩
    rintro σ' H7 ⟨s7, M, w8, eM, rfl⟩
    rw [lx, List.take_length] at eM
    have ed7 := s7 _ _ ed6
    have tu7 := Tv.carry (same_carry s7) _ _ tu6
    refine ⟨_, rfl, _, rfl, d, _, rfl, SqL.of ed7, fun R1 nR1 => ⟨R1, _, rfl, .inl (SqL.of upd_same), fun R2 nR2 => ⟨one, fun p2 np2 => ?_⟩⟩⟩
    have k1 : Same H7 (upd H7 R1 (.lst (ds.map V.int).reverse)) := same_alloc nR1
    have k2 := k1.trans (same_alloc (o := .lst (ds.map V.int).reverse) nR2)
    have k3 := k2.trans (same_alloc (o := .lst [.int 0]) np2)
    have n2 : R2 ≠ p2 := ne_of_none upd_same np2
    have D2 : Dr K (upd (upd (upd H7 R1 (.lst (ds.map V.int).reverse)) R2 (.lst (ds.map V.int).reverse)) p2 (.lst [.int 0])) R2 p2 := ⟨n2, ⟨ds.reverse, SqL.of (by rw [upd_ne n2, upd_same, List.map_reverse])⟩, 0, Int.le_refl _, upd_same⟩
    have tu8 := Tv.carry (same_carry k3) _ _ tu7
    have bg := wds_bg _ (okAs_of good)
    refine ⟨M, R2, p2, wds (fTree t), rfl, k3 _ _ eM, D2, bg, by omega, fun z H8 s8 c8 los => ?_⟩
    have tu9 := Tv.carry (s8.carry D2.ctr) _ _ tu8
    have lz : z.length ≤ 10000000 := by
      obtain ⟨_, _, _, _, _, _, h6⟩ := los
      omega
    have lt : (textT t).length ≤ 10000000 := by
      have e : (textT t).length = ((txs (fTree t)).map (·.length)).sum + ((txs (fTree t)).length - 1) * ("\n" : Str).length := by
        show (Txt.join ("\n" : Str) (txs (fTree t))).length = _
        rw [TL.join_eq]
        exact (join_len _ _).symm
      have h1 : (txs (fTree t)).length = (fTree t).length := by rw [txs_map, List.length_map]
      have h2 : ("\n" : Str).length = 1 := by decide +kernel
      unfold tot at tt
      rw [h1, h2] at e
      omega
    refine ⟨_, rfl, z, rfl, by omega, _, _, rfl, rfl, _, rfl, ?_⟩
    by_cases cz : (z.length : Int) > 6000
    · exact iteT' (decide_eq_true cz) (iteT (q _))
    refine iteF' (decide_eq_false cz) ?_
    refine ⟨_, rfl, textT t, rfl, by omega, _, _, rfl, rfl, _, rfl, ?_⟩
    by_cases ct : ((textT t).length : Int) > 6000
    · exact iteT' (decide_eq_true ct) (q _)
    refine iteF' (decide_eq_false ct) ?_
    have rt : Rds t (TL.tl (textT t)) := ⟨by rw [← TL.len_tl]; omega, okc_text (okAs_of good), words_text (okAs_of good)⟩
    have rz : Rds t (TL.tl z) := ⟨by rw [← TL.len_tl]; omega, okc_los los bg, los_end los⟩
    unfold tNext
    dsimp only
    refine set_k (fun v H' => v = .str t.enc.shown ∧ Same H8 H') (fun Q' kk => shown_k gt rt.few (fun R k => ⟨_, rfl, k _ _ (Pu.same_refl _) tu9⟩) fun H9 s9 => kk _ _ ⟨rfl, s9⟩) ?_
    rintro _ H9 ⟨rfl, s9⟩
    have tu10 := Tv.carry (same_carry s9) _ _ tu9
    refine shown_k gt rt.few (fun R k => read_k gt rt rfl k) fun H10 s10 => ⟨_, rfl, rfl, true, congrArg V.bl (decide_eq_true rfl), ?_⟩
    refine iteT' rfl ?_
    refine shown_k gt rt.few (fun R k => read_k gt rz rfl k) fun H11 s11 => ⟨_, rfl, rfl, true, congrArg V.bl (decide_eq_true rfl), ?_⟩
    refine iteT' rfl ?_
    refine read_k gt rt rfl fun v H12 s12 tv => ⟨_, rfl, ?_⟩
    obtain ⟨z1, z2, z3, z4⟩ := z_tree gt rt.few
    exact same_data tv (Tv.carry (same_carry (s10.trans (s11.trans s12))) _ _ tu10) ⟨z1, z3⟩ (by decide) (q _)
end
end Px

namespace Px
open PySem L2 Tr Pu Sd PyProof.Rows
section
theorem all_mk {l : PySem.W.OpenLaw} {w : World} {K : PySem.W.Frag} {h : Heap} {mg : Str → Option Value} {fa f1 f2 f3 f4 f5 f6 f7 f8 f9 f10 f11 f12 f13 f14 f15 f16 f17 f18 f19 f20 f21 f22 f23 f24 f25 f26 f27 f28 f29 f30 f31 f32 f33 f34 f35 f36 f37 f38 f39 f40 f41 f42 f43 f44 f45 f46 f47 f48 f49 f50 f51 f52 f53 f54 f55 f56 : Addr} (X : K.In h) (G : h.Ns mainGlobals mg) (hfa : mg "law" = some (.ref fa))
    {od1 an1 od2 an2 od3 an3 od4 an4 od5 an5 od6 an6 od7 an7 od8 an8 od9 an9 od10 an10 od11 an11 od12 an12 od13 an13 od14 an14 od15 an15 od16 an16 od17 an17 od18 an18 od19 an19 od20 an20 od21 an21 od22 an22 od23 an23 od24 an24 od25 an25 od26 an26 od27 an27 od28 an28 od29 an29 od30 an30 od31 an31 od32 an32 od33 an33 od34 an34 od35 an35 od36 an36 od37 an37 od38 an38 od39 an39 od40 an40 od41 an41 od42 an42 od43 an43 od44 an44 od45 an45 od46 an46 od47 an47 od48 an48 od49 an49 od50 an50 od51 an51 od52 an52 od53 an53 od54 an54 od55 an55 od56 an56 : Option Addr} {sl1 sl2 sl3 sl4 sl5 sl6 sl7 sl8 sl9 sl10 sl11 sl12 sl13 sl14 sl15 sl16 sl17 sl18 sl19 sl20 sl21 sl22 sl23 sl24 sl25 sl26 sl27 sl28 sl29 sl30 sl31 sl32 sl33 sl34 sl35 sl36 sl37 sl38 sl39 sl40 sl41 sl42 sl43 sl44 sl45 sl46 sl47 sl48 sl49 sl50 sl51 sl52 sl53 sl54 sl55 sl56 : Array (Option Value)} {oc1 kV1 dc1 pm1 cd1 ct1 oc2 kV2 dc2 pm2 cd2 ct2 oc3 kV3 dc3 pm3 cd3 ct3 oc4 kV4 dc4 pm4 cd4 ct4 oc5 kV5 dc5 pm5 cd5 ct5 oc6 kV6 dc6 pm6 cd6 ct6 oc7 kV7 dc7 pm7 cd7 ct7 oc8 kV8 dc8 pm8 cd8 ct8 oc9 kV9 dc9 pm9 cd9 ct9 oc10 kV10 dc10 pm10 cd10 ct10 oc11 kV11 dc11 pm11 cd11 ct11 oc12 kV12 dc12 pm12 cd12 ct12 oc13 kV13 dc13 pm13 cd13 ct13 oc14 kV14 dc14 pm14 cd14 ct14 oc15 kV15 dc15 pm15 cd15 ct15 oc16 kV16 dc16 pm16 cd16 ct16 oc17 kV17 dc17 pm17 cd17 ct17 oc18 kV18 dc18 pm18 cd18 ct18 oc19 kV19 dc19 pm19 cd19 ct19 oc20 kV20 dc20 pm20 cd20 ct20 oc21 kV21 dc21 pm21 cd21 ct21 oc22 kV22 dc22 pm22 cd22 ct22 oc23 kV23 dc23 pm23 cd23 ct23 oc24 kV24 dc24 pm24 cd24 ct24 oc25 kV25 dc25 pm25 cd25 ct25 oc26 kV26 dc26 pm26 cd26 ct26 oc27 kV27 dc27 pm27 cd27 ct27 oc28 kV28 dc28 pm28 cd28 ct28 oc29 kV29 dc29 pm29 cd29 ct29 oc30 kV30 dc30 pm30 cd30 ct30 oc31 kV31 dc31 pm31 cd31 ct31 oc32 kV32 dc32 pm32 cd32 ct32 oc33 kV33 dc33 pm33 cd33 ct33 oc34 kV34 dc34 pm34 cd34 ct34 oc35 kV35 dc35 pm35 cd35 ct35 oc36 kV36 dc36 pm36 cd36 ct36 oc37 kV37 dc37 pm37 cd37 ct37 oc38 kV38 dc38 pm38 cd38 ct38 oc39 kV39 dc39 pm39 cd39 ct39 oc40 kV40 dc40 pm40 cd40 ct40 oc41 kV41 dc41 pm41 cd41 ct41 oc42 kV42 dc42 pm42 cd42 ct42 oc43 kV43 dc43 pm43 cd43 ct43 oc44 kV44 dc44 pm44 cd44 ct44 oc45 kV45 dc45 pm45 cd45 ct45 oc46 kV46 dc46 pm46 cd46 ct46 oc47 kV47 dc47 pm47 cd47 ct47 oc48 kV48 dc48 pm48 cd48 ct48 oc49 kV49 dc49 pm49 cd49 ct49 oc50 kV50 dc50 pm50 cd50 ct50 oc51 kV51 dc51 pm51 cd51 ct51 oc52 kV52 dc52 pm52 cd52 ct52 oc53 kV53 dc53 pm53 cd53 ct53 oc54 kV54 dc54 pm54 cd54 ct54 oc55 kV55 dc55 pm55 cd55 ct55 oc56 kV56 dc56 pm56 cd56 ct56 : Value}
    (a1 : PySem.W.nsIn K mainGlobals "_law_draws" = some (some (.ref f1))) (l1 : K.lookup f1 = some ⟨oc1, od1, .func (PySem.W.fnOf "_law_draws" "_law_draws" (defArgs sDraws) (defBody sDraws) (defScope sDraws) .none kV1 dc1 pm1 an1 cd1 ct1), sl1⟩) (c1 : PySem.W.codeIn K cd1 "_law_draws" = true) (k1 : PySem.W.keepIn K (.ref f1) = true)
    (a2 : PySem.W.nsIn K mainGlobals "_law_take" = some (some (.ref f2))) (l2 : K.lookup f2 = some ⟨oc2, od2, .func (PySem.W.fnOf "_law_take" "_law_take" (defArgs sTake) (defBody sTake) (defScope sTake) .none kV2 dc2 pm2 an2 cd2 ct2), sl2⟩) (c2 : PySem.W.codeIn K cd2 "_law_take" = true) (k2 : PySem.W.keepIn K (.ref f2) = true)
    (a3 : PySem.W.nsIn K mainGlobals "_law_number" = some (some (.ref f3))) (l3 : K.lookup f3 = some ⟨oc3, od3, .func (PySem.W.fnOf "_law_number" "_law_number" (defArgs sNumb) (defBody sNumb) (defScope sNumb) .none kV3 dc3 pm3 an3 cd3 ct3), sl3⟩) (c3 : PySem.W.codeIn K cd3 "_law_number" = true) (k3 : PySem.W.keepIn K (.ref f3) = true)
    (a4 : PySem.W.nsIn K mainGlobals "_law_index" = some (some (.ref f4))) (l4 : K.lookup f4 = some ⟨oc4, od4, .func (PySem.W.fnOf "_law_index" "_law_index" (defArgs sIx) (defBody sIx) (defScope sIx) .none kV4 dc4 pm4 an4 cd4 ct4), sl4⟩) (c4 : PySem.W.codeIn K cd4 "_law_index" = true) (k4 : PySem.W.keepIn K (.ref f4) = true)
    (a5 : PySem.W.nsIn K mainGlobals "_law_place" = some (some (.ref f5))) (l5 : K.lookup f5 = some ⟨oc5, od5, .func (PySem.W.fnOf "_law_place" "_law_place" (defArgs sPl) (defBody sPl) (defScope sPl) .none kV5 dc5 pm5 an5 cd5 ct5), sl5⟩) (c5 : PySem.W.codeIn K cd5 "_law_place" = true) (k5 : PySem.W.keepIn K (.ref f5) = true)
    (a6 : PySem.W.nsIn K mainGlobals "_law_expression" = some (some (.ref f6))) (l6 : K.lookup f6 = some ⟨oc6, od6, .func (PySem.W.fnOf "_law_expression" "_law_expression" (defArgs sEx) (defBody sEx) (defScope sEx) .none kV6 dc6 pm6 an6 cd6 ct6), sl6⟩) (c6 : PySem.W.codeIn K cd6 "_law_expression" = true) (k6 : PySem.W.keepIn K (.ref f6) = true)
    (a7 : PySem.W.nsIn K mainGlobals "_law_test" = some (some (.ref f7))) (l7 : K.lookup f7 = some ⟨oc7, od7, .func (PySem.W.fnOf "_law_test" "_law_test" (defArgs sTs) (defBody sTs) (defScope sTs) .none kV7 dc7 pm7 an7 cd7 ct7), sl7⟩) (c7 : PySem.W.codeIn K cd7 "_law_test" = true) (k7 : PySem.W.keepIn K (.ref f7) = true)
    (a8 : PySem.W.nsIn K mainGlobals "_law_call" = some (some (.ref f8))) (l8 : K.lookup f8 = some ⟨oc8, od8, .func (PySem.W.fnOf "_law_call" "_law_call" (defArgs sCall) (defBody sCall) (defScope sCall) .none kV8 dc8 pm8 an8 cd8 ct8), sl8⟩) (c8 : PySem.W.codeIn K cd8 "_law_call" = true) (k8 : PySem.W.keepIn K (.ref f8) = true)
    (a9 : PySem.W.nsIn K mainGlobals "_law_statement" = some (some (.ref f9))) (l9 : K.lookup f9 = some ⟨oc9, od9, .func (PySem.W.fnOf "_law_statement" "_law_statement" (defArgs sSt) (defBody sSt) (defScope sSt) .none kV9 dc9 pm9 an9 cd9 ct9), sl9⟩) (c9 : PySem.W.codeIn K cd9 "_law_statement" = true) (k9 : PySem.W.keepIn K (.ref f9) = true)
    (a10 : PySem.W.nsIn K mainGlobals "_law_body" = some (some (.ref f10))) (l10 : K.lookup f10 = some ⟨oc10, od10, .func (PySem.W.fnOf "_law_body" "_law_body" (defArgs sBody) (defBody sBody) (defScope sBody) .none kV10 dc10 pm10 an10 cd10 ct10), sl10⟩) (c10 : PySem.W.codeIn K cd10 "_law_body" = true) (k10 : PySem.W.keepIn K (.ref f10) = true)
    (a11 : PySem.W.nsIn K mainGlobals "_law_tree" = some (some (.ref f11))) (l11 : K.lookup f11 = some ⟨oc11, od11, .func (PySem.W.fnOf "_law_tree" "_law_tree" (defArgs sTree) (defBody sTree) (defScope sTree) .none kV11 dc11 pm11 an11 cd11 ct11), sl11⟩) (c11 : PySem.W.codeIn K cd11 "_law_tree" = true) (k11 : PySem.W.keepIn K (.ref f11) = true)
    (a12 : PySem.W.nsIn K mainGlobals "write_form" = some (some (.ref f12))) (l12 : K.lookup f12 = some ⟨oc12, od12, .func (PySem.W.fnOf "write_form" "write_form" (defArgs sWf) (defBody sWf) (defScope sWf) .none kV12 dc12 pm12 an12 cd12 ct12), sl12⟩) (c12 : PySem.W.codeIn K cd12 "write_form" = true) (k12 : PySem.W.keepIn K (.ref f12) = true)
    (a13 : PySem.W.nsIn K mainGlobals "write_index" = some (some (.ref f13))) (l13 : K.lookup f13 = some ⟨oc13, od13, .func (PySem.W.fnOf "write_index" "write_index" (defArgs sWi) (defBody sWi) (defScope sWi) .none kV13 dc13 pm13 an13 cd13 ct13), sl13⟩) (c13 : PySem.W.codeIn K cd13 "write_index" = true) (k13 : PySem.W.keepIn K (.ref f13) = true)
    (a14 : PySem.W.nsIn K mainGlobals "write_place" = some (some (.ref f14))) (l14 : K.lookup f14 = some ⟨oc14, od14, .func (PySem.W.fnOf "write_place" "write_place" (defArgs sWpl) (defBody sWpl) (defScope sWpl) .none kV14 dc14 pm14 an14 cd14 ct14), sl14⟩) (c14 : PySem.W.codeIn K cd14 "write_place" = true) (k14 : PySem.W.keepIn K (.ref f14) = true)
    (a15 : PySem.W.nsIn K mainGlobals "write_expression" = some (some (.ref f15))) (l15 : K.lookup f15 = some ⟨oc15, od15, .func (PySem.W.fnOf "write_expression" "write_expression" (defArgs sWe) (defBody sWe) (defScope sWe) .none kV15 dc15 pm15 an15 cd15 ct15), sl15⟩) (c15 : PySem.W.codeIn K cd15 "write_expression" = true) (k15 : PySem.W.keepIn K (.ref f15) = true)
    (a16 : PySem.W.nsIn K mainGlobals "write_test" = some (some (.ref f16))) (l16 : K.lookup f16 = some ⟨oc16, od16, .func (PySem.W.fnOf "write_test" "write_test" (defArgs sWt) (defBody sWt) (defScope sWt) .none kV16 dc16 pm16 an16 cd16 ct16), sl16⟩) (c16 : PySem.W.codeIn K cd16 "write_test" = true) (k16 : PySem.W.keepIn K (.ref f16) = true)
    (a17 : PySem.W.nsIn K mainGlobals "write_statement" = some (some (.ref f17))) (l17 : K.lookup f17 = some ⟨oc17, od17, .func (PySem.W.fnOf "write_statement" "write_statement" (defArgs sWs) (defBody sWs) (defScope sWs) .none kV17 dc17 pm17 an17 cd17 ct17), sl17⟩) (c17 : PySem.W.codeIn K cd17 "write_statement" = true) (k17 : PySem.W.keepIn K (.ref f17) = true)
    (a18 : PySem.W.nsIn K mainGlobals "write_statements" = some (some (.ref f18))) (l18 : K.lookup f18 = some ⟨oc18, od18, .func (PySem.W.fnOf "write_statements" "write_statements" (defArgs sWss) (defBody sWss) (defScope sWss) .none kV18 dc18 pm18 an18 cd18 ct18), sl18⟩) (c18 : PySem.W.codeIn K cd18 "write_statements" = true) (k18 : PySem.W.keepIn K (.ref f18) = true)
    (a19 : PySem.W.nsIn K mainGlobals "write_variable" = some (some (.ref f19))) (l19 : K.lookup f19 = some ⟨oc19, od19, .func (PySem.W.fnOf "write_variable" "write_variable" (defArgs sWv) (defBody sWv) (defScope sWv) .none kV19 dc19 pm19 an19 cd19 ct19), sl19⟩) (c19 : PySem.W.codeIn K cd19 "write_variable" = true) (k19 : PySem.W.keepIn K (.ref f19) = true)
    (a20 : PySem.W.nsIn K mainGlobals "write_procedure" = some (some (.ref f20))) (l20 : K.lookup f20 = some ⟨oc20, od20, .func (PySem.W.fnOf "write_procedure" "write_procedure" (defArgs sWp) (defBody sWp) (defScope sWp) .none kV20 dc20 pm20 an20 cd20 ct20), sl20⟩) (c20 : PySem.W.codeIn K cd20 "write_procedure" = true) (k20 : PySem.W.keepIn K (.ref f20) = true)
    (a21 : PySem.W.nsIn K mainGlobals "write_program" = some (some (.ref f21))) (l21 : K.lookup f21 = some ⟨oc21, od21, .func (PySem.W.fnOf "write_program" "write_program" (defArgs sWpr) (defBody sWpr) (defScope sWpr) .none kV21 dc21 pm21 an21 cd21 ct21), sl21⟩) (c21 : PySem.W.codeIn K cd21 "write_program" = true) (k21 : PySem.W.keepIn K (.ref f21) = true)
    (a22 : PySem.W.nsIn K mainGlobals "_law_index_text" = some (some (.ref f22))) (l22 : K.lookup f22 = some ⟨oc22, od22, .func (PySem.W.fnOf "_law_index_text" "_law_index_text" (defArgs sLix) (defBody sLix) (defScope sLix) .none kV22 dc22 pm22 an22 cd22 ct22), sl22⟩) (c22 : PySem.W.codeIn K cd22 "_law_index_text" = true) (k22 : PySem.W.keepIn K (.ref f22) = true)
    (a23 : PySem.W.nsIn K mainGlobals "_law_place_text" = some (some (.ref f23))) (l23 : K.lookup f23 = some ⟨oc23, od23, .func (PySem.W.fnOf "_law_place_text" "_law_place_text" (defArgs sLpl) (defBody sLpl) (defScope sLpl) .none kV23 dc23 pm23 an23 cd23 ct23), sl23⟩) (c23 : PySem.W.codeIn K cd23 "_law_place_text" = true) (k23 : PySem.W.keepIn K (.ref f23) = true)
    (a24 : PySem.W.nsIn K mainGlobals "_law_expression_text" = some (some (.ref f24))) (l24 : K.lookup f24 = some ⟨oc24, od24, .func (PySem.W.fnOf "_law_expression_text" "_law_expression_text" (defArgs sLex) (defBody sLex) (defScope sLex) .none kV24 dc24 pm24 an24 cd24 ct24), sl24⟩) (c24 : PySem.W.codeIn K cd24 "_law_expression_text" = true) (k24 : PySem.W.keepIn K (.ref f24) = true)
    (a25 : PySem.W.nsIn K mainGlobals "_law_test_text" = some (some (.ref f25))) (l25 : K.lookup f25 = some ⟨oc25, od25, .func (PySem.W.fnOf "_law_test_text" "_law_test_text" (defArgs sLts) (defBody sLts) (defScope sLts) .none kV25 dc25 pm25 an25 cd25 ct25), sl25⟩) (c25 : PySem.W.codeIn K cd25 "_law_test_text" = true) (k25 : PySem.W.keepIn K (.ref f25) = true)
    (a26 : PySem.W.nsIn K mainGlobals "_law_statement_text" = some (some (.ref f26))) (l26 : K.lookup f26 = some ⟨oc26, od26, .func (PySem.W.fnOf "_law_statement_text" "_law_statement_text" (defArgs sLst) (defBody sLst) (defScope sLst) .none kV26 dc26 pm26 an26 cd26 ct26), sl26⟩) (c26 : PySem.W.codeIn K cd26 "_law_statement_text" = true) (k26 : PySem.W.keepIn K (.ref f26) = true)
    (a27 : PySem.W.nsIn K mainGlobals "_law_body_text" = some (some (.ref f27))) (l27 : K.lookup f27 = some ⟨oc27, od27, .func (PySem.W.fnOf "_law_body_text" "_law_body_text" (defArgs sLbt) (defBody sLbt) (defScope sLbt) .none kV27 dc27 pm27 an27 cd27 ct27), sl27⟩) (c27 : PySem.W.codeIn K cd27 "_law_body_text" = true) (k27 : PySem.W.keepIn K (.ref f27) = true)
    (a28 : PySem.W.nsIn K mainGlobals "_law_variable_text" = some (some (.ref f28))) (l28 : K.lookup f28 = some ⟨oc28, od28, .func (PySem.W.fnOf "_law_variable_text" "_law_variable_text" (defArgs sLva) (defBody sLva) (defScope sLva) .none kV28 dc28 pm28 an28 cd28 ct28), sl28⟩) (c28 : PySem.W.codeIn K cd28 "_law_variable_text" = true) (k28 : PySem.W.keepIn K (.ref f28) = true)
    (a29 : PySem.W.nsIn K mainGlobals "_law_words" = some (some (.ref f29))) (l29 : K.lookup f29 = some ⟨oc29, od29, .func (PySem.W.fnOf "_law_words" "_law_words" (defArgs sLwo) (defBody sLwo) (defScope sLwo) .none kV29 dc29 pm29 an29 cd29 ct29), sl29⟩) (c29 : PySem.W.codeIn K cd29 "_law_words" = true) (k29 : PySem.W.keepIn K (.ref f29) = true)
    (a30 : PySem.W.nsIn K mainGlobals "_law_line" = some (some (.ref f30))) (l30 : K.lookup f30 = some ⟨oc30, od30, .func (PySem.W.fnOf "_law_line" "_law_line" (defArgs sLli) (defBody sLli) (defScope sLli) .none kV30 dc30 pm30 an30 cd30 ct30), sl30⟩) (c30 : PySem.W.codeIn K cd30 "_law_line" = true) (k30 : PySem.W.keepIn K (.ref f30) = true)
    (a31 : PySem.W.nsIn K mainGlobals "_law_loose" = some (some (.ref f31))) (l31 : K.lookup f31 = some ⟨oc31, od31, .func (PySem.W.fnOf "_law_loose" "_law_loose" (defArgs sLlo) (defBody sLlo) (defScope sLlo) .none kV31 dc31 pm31 an31 cd31 ct31), sl31⟩) (c31 : PySem.W.codeIn K cd31 "_law_loose" = true) (k31 : PySem.W.keepIn K (.ref f31) = true)
    (a32 : PySem.W.nsIn K mainGlobals "is_text_character" = some (some (.ref f32))) (l32 : K.lookup f32 = some ⟨oc32, od32, .func (PySem.W.fnOf "is_text_character" "is_text_character" (defArgs sAllow) (defBody sAllow) (defScope sAllow) .none kV32 dc32 pm32 an32 cd32 ct32), sl32⟩) (c32 : PySem.W.codeIn K cd32 "is_text_character" = true) (k32 : PySem.W.keepIn K (.ref f32) = true)
    (a33 : PySem.W.nsIn K mainGlobals "check_characters" = some (some (.ref f33))) (l33 : K.lookup f33 = some ⟨oc33, od33, .func (PySem.W.fnOf "check_characters" "check_characters" (defArgs sCheck) (defBody sCheck) (defScope sCheck) .none kV33 dc33 pm33 an33 cd33 ct33), sl33⟩) (c33 : PySem.W.codeIn K cd33 "check_characters" = true) (k33 : PySem.W.keepIn K (.ref f33) = true)
    (a34 : PySem.W.nsIn K mainGlobals "split_words" = some (some (.ref f34))) (l34 : K.lookup f34 = some ⟨oc34, od34, .func (PySem.W.fnOf "split_words" "split_words" (defArgs sSplit) (defBody sSplit) (defScope sSplit) .none kV34 dc34 pm34 an34 cd34 ct34), sl34⟩) (c34 : PySem.W.codeIn K cd34 "split_words" = true) (k34 : PySem.W.keepIn K (.ref f34) = true)
    (a35 : PySem.W.nsIn K mainGlobals "read_forms" = some (some (.ref f35))) (l35 : K.lookup f35 = some ⟨oc35, od35, .func (PySem.W.fnOf "read_forms" "read_forms" (defArgs sRf) (defBody sRf) (defScope sRf) .none kV35 dc35 pm35 an35 cd35 ct35), sl35⟩) (c35 : PySem.W.codeIn K cd35 "read_forms" = true) (k35 : PySem.W.keepIn K (.ref f35) = true)
    (a36 : PySem.W.nsIn K mainGlobals "is_integer" = some (some (.ref f36))) (l36 : K.lookup f36 = some ⟨oc36, od36, .func (PySem.W.fnOf "is_integer" "is_integer" (defArgs Px.sIsi) (defBody Px.sIsi) (defScope Px.sIsi) .none kV36 dc36 pm36 an36 cd36 ct36), sl36⟩) (c36 : PySem.W.codeIn K cd36 "is_integer" = true) (k36 : PySem.W.keepIn K (.ref f36) = true)
    (a37 : PySem.W.nsIn K mainGlobals "is_between" = some (some (.ref f37))) (l37 : K.lookup f37 = some ⟨oc37, od37, .func (PySem.W.fnOf "is_between" "is_between" (defArgs Px.sBtw) (defBody Px.sBtw) (defScope Px.sBtw) .none kV37 dc37 pm37 an37 cd37 ct37), sl37⟩) (c37 : PySem.W.codeIn K cd37 "is_between" = true) (k37 : PySem.W.keepIn K (.ref f37) = true)
    (a38 : PySem.W.nsIn K mainGlobals "is_name" = some (some (.ref f38))) (l38 : K.lookup f38 = some ⟨oc38, od38, .func (PySem.W.fnOf "is_name" "is_name" (defArgs sNam) (defBody sNam) (defScope sNam) .none kV38 dc38 pm38 an38 cd38 ct38), sl38⟩) (c38 : PySem.W.codeIn K cd38 "is_name" = true) (k38 : PySem.W.keepIn K (.ref f38) = true)
    (a39 : PySem.W.nsIn K mainGlobals "is_numeral" = some (some (.ref f39))) (l39 : K.lookup f39 = some ⟨oc39, od39, .func (PySem.W.fnOf "is_numeral" "is_numeral" (defArgs sNul) (defBody sNul) (defScope sNul) .none kV39 dc39 pm39 an39 cd39 ct39), sl39⟩) (c39 : PySem.W.codeIn K cd39 "is_numeral" = true) (k39 : PySem.W.keepIn K (.ref f39) = true)
    (a40 : PySem.W.nsIn K mainGlobals "read_list" = some (some (.ref f40))) (l40 : K.lookup f40 = some ⟨oc40, od40, .func (PySem.W.fnOf "read_list" "read_list" (defArgs sRls) (defBody sRls) (defScope sRls) .none kV40 dc40 pm40 an40 cd40 ct40), sl40⟩) (c40 : PySem.W.codeIn K cd40 "read_list" = true) (k40 : PySem.W.keepIn K (.ref f40) = true)
    (a41 : PySem.W.nsIn K mainGlobals "read_name" = some (some (.ref f41))) (l41 : K.lookup f41 = some ⟨oc41, od41, .func (PySem.W.fnOf "read_name" "read_name" (defArgs sRnm) (defBody sRnm) (defScope sRnm) .none kV41 dc41 pm41 an41 cd41 ct41), sl41⟩) (c41 : PySem.W.codeIn K cd41 "read_name" = true) (k41 : PySem.W.keepIn K (.ref f41) = true)
    (a42 : PySem.W.nsIn K mainGlobals "read_numeral" = some (some (.ref f42))) (l42 : K.lookup f42 = some ⟨oc42, od42, .func (PySem.W.fnOf "read_numeral" "read_numeral" (defArgs sRnu) (defBody sRnu) (defScope sRnu) .none kV42 dc42 pm42 an42 cd42 ct42), sl42⟩) (c42 : PySem.W.codeIn K cd42 "read_numeral" = true) (k42 : PySem.W.keepIn K (.ref f42) = true)
    (a43 : PySem.W.nsIn K mainGlobals "read_head" = some (some (.ref f43))) (l43 : K.lookup f43 = some ⟨oc43, od43, .func (PySem.W.fnOf "read_head" "read_head" (defArgs sRhd) (defBody sRhd) (defScope sRhd) .none kV43 dc43 pm43 an43 cd43 ct43), sl43⟩) (c43 : PySem.W.codeIn K cd43 "read_head" = true) (k43 : PySem.W.keepIn K (.ref f43) = true)
    (a44 : PySem.W.nsIn K mainGlobals "read_index" = some (some (.ref f44))) (l44 : K.lookup f44 = some ⟨oc44, od44, .func (PySem.W.fnOf "read_index" "read_index" (defArgs sRix) (defBody sRix) (defScope sRix) .none kV44 dc44 pm44 an44 cd44 ct44), sl44⟩) (c44 : PySem.W.codeIn K cd44 "read_index" = true) (k44 : PySem.W.keepIn K (.ref f44) = true)
    (a45 : PySem.W.nsIn K mainGlobals "read_place" = some (some (.ref f45))) (l45 : K.lookup f45 = some ⟨oc45, od45, .func (PySem.W.fnOf "read_place" "read_place" (defArgs sRpl) (defBody sRpl) (defScope sRpl) .none kV45 dc45 pm45 an45 cd45 ct45), sl45⟩) (c45 : PySem.W.codeIn K cd45 "read_place" = true) (k45 : PySem.W.keepIn K (.ref f45) = true)
    (a46 : PySem.W.nsIn K mainGlobals "read_expression" = some (some (.ref f46))) (l46 : K.lookup f46 = some ⟨oc46, od46, .func (PySem.W.fnOf "read_expression" "read_expression" (defArgs sRex) (defBody sRex) (defScope sRex) .none kV46 dc46 pm46 an46 cd46 ct46), sl46⟩) (c46 : PySem.W.codeIn K cd46 "read_expression" = true) (k46 : PySem.W.keepIn K (.ref f46) = true)
    (a47 : PySem.W.nsIn K mainGlobals "read_test" = some (some (.ref f47))) (l47 : K.lookup f47 = some ⟨oc47, od47, .func (PySem.W.fnOf "read_test" "read_test" (defArgs sRts) (defBody sRts) (defScope sRts) .none kV47 dc47 pm47 an47 cd47 ct47), sl47⟩) (c47 : PySem.W.codeIn K cd47 "read_test" = true) (k47 : PySem.W.keepIn K (.ref f47) = true)
    (a48 : PySem.W.nsIn K mainGlobals "read_statement" = some (some (.ref f48))) (l48 : K.lookup f48 = some ⟨oc48, od48, .func (PySem.W.fnOf "read_statement" "read_statement" (defArgs sRst) (defBody sRst) (defScope sRst) .none kV48 dc48 pm48 an48 cd48 ct48), sl48⟩) (c48 : PySem.W.codeIn K cd48 "read_statement" = true) (k48 : PySem.W.keepIn K (.ref f48) = true)
    (a49 : PySem.W.nsIn K mainGlobals "read_body" = some (some (.ref f49))) (l49 : K.lookup f49 = some ⟨oc49, od49, .func (PySem.W.fnOf "read_body" "read_body" (defArgs sRbd) (defBody sRbd) (defScope sRbd) .none kV49 dc49 pm49 an49 cd49 ct49), sl49⟩) (c49 : PySem.W.codeIn K cd49 "read_body" = true) (k49 : PySem.W.keepIn K (.ref f49) = true)
    (a50 : PySem.W.nsIn K mainGlobals "read_variable" = some (some (.ref f50))) (l50 : K.lookup f50 = some ⟨oc50, od50, .func (PySem.W.fnOf "read_variable" "read_variable" (defArgs sRva) (defBody sRva) (defScope sRva) .none kV50 dc50 pm50 an50 cd50 ct50), sl50⟩) (c50 : PySem.W.codeIn K cd50 "read_variable" = true) (k50 : PySem.W.keepIn K (.ref f50) = true)
    (a51 : PySem.W.nsIn K mainGlobals "read_reference" = some (some (.ref f51))) (l51 : K.lookup f51 = some ⟨oc51, od51, .func (PySem.W.fnOf "read_reference" "read_reference" (defArgs sRre) (defBody sRre) (defScope sRre) .none kV51 dc51 pm51 an51 cd51 ct51), sl51⟩) (c51 : PySem.W.codeIn K cd51 "read_reference" = true) (k51 : PySem.W.keepIn K (.ref f51) = true)
    (a52 : PySem.W.nsIn K mainGlobals "read_procedure" = some (some (.ref f52))) (l52 : K.lookup f52 = some ⟨oc52, od52, .func (PySem.W.fnOf "read_procedure" "read_procedure" (defArgs sRpr) (defBody sRpr) (defScope sRpr) .none kV52 dc52 pm52 an52 cd52 ct52), sl52⟩) (c52 : PySem.W.codeIn K cd52 "read_procedure" = true) (k52 : PySem.W.keepIn K (.ref f52) = true)
    (a53 : PySem.W.nsIn K mainGlobals "read_declaration" = some (some (.ref f53))) (l53 : K.lookup f53 = some ⟨oc53, od53, .func (PySem.W.fnOf "read_declaration" "read_declaration" (defArgs sRde) (defBody sRde) (defScope sRde) .none kV53 dc53 pm53 an53 cd53 ct53), sl53⟩) (c53 : PySem.W.codeIn K cd53 "read_declaration" = true) (k53 : PySem.W.keepIn K (.ref f53) = true)
    (a54 : PySem.W.nsIn K mainGlobals "declarations_behind" = some (some (.ref f54))) (l54 : K.lookup f54 = some ⟨oc54, od54, .func (PySem.W.fnOf "declarations_behind" "declarations_behind" (defArgs sDbe) (defBody sDbe) (defScope sDbe) .none kV54 dc54 pm54 an54 cd54 ct54), sl54⟩) (c54 : PySem.W.codeIn K cd54 "declarations_behind" = true) (k54 : PySem.W.keepIn K (.ref f54) = true)
    (a55 : PySem.W.nsIn K mainGlobals "read_program" = some (some (.ref f55))) (l55 : K.lookup f55 = some ⟨oc55, od55, .func (PySem.W.fnOf "read_program" "read_program" (defArgs sRp) (defBody sRp) (defScope sRp) .none kV55 dc55 pm55 an55 cd55 ct55), sl55⟩) (c55 : PySem.W.codeIn K cd55 "read_program" = true) (k55 : PySem.W.keepIn K (.ref f55) = true)
    (a56 : PySem.W.nsIn K mainGlobals "law" = some (some (.ref f56))) (l56 : K.lookup f56 = some ⟨oc56, od56, .func (PySem.W.fnOf "law" "law" (defArgs Px.sLaw) (defBody Px.sLaw) (defScope Px.sLaw) .none kV56 dc56 pm56 an56 cd56 ct56), sl56⟩) (c56 : PySem.W.codeIn K cd56 "law" = true) (k56 : PySem.W.keepIn K (.ref f56) = true)
    {B : Addr} (aB0 : PySem.W.nsIn K mainGlobals "CountermarchError" = some (some (.ref B)))
    (z_len : PySem.W.nsIn K mainGlobals "len" = some none)
    (z_int : PySem.W.nsIn K mainGlobals "int" = some none)
    (z_range : PySem.W.nsIn K mainGlobals "range" = some none)
    (z_tuple : PySem.W.nsIn K mainGlobals "tuple" = some none)
    (z_list : PySem.W.nsIn K mainGlobals "list" = some none)
    (z_str : PySem.W.nsIn K mainGlobals "str" = some none)
    (z_isinstance : PySem.W.nsIn K mainGlobals "isinstance" = some none)
    (z_bool : PySem.W.nsIn K mainGlobals "bool" = some none)
    (z_abs : PySem.W.nsIn K mainGlobals "abs" = some none)
    (z_max : PySem.W.nsIn K mainGlobals "max" = some none)
    (z_ord : PySem.W.nsIn K mainGlobals "ord" = some none)
    (z_enumerate : PySem.W.nsIn K mainGlobals "enumerate" = some none)
    (z_repr : PySem.W.nsIn K mainGlobals "repr" = some none)
    (z_all : PySem.W.nsIn K mainGlobals "all" = some none)
    {t_MAX_TEXT : Tok} (g_MAX_TEXT : PySem.W.nsIn K mainGlobals "MAX_TEXT" = some (some (.int 6000 t_MAX_TEXT)))
    {t_SPACE : Tok} (g_SPACE : PySem.W.nsIn K mainGlobals "SPACE" = some (some (.int 32 t_SPACE)))
    {t_TILDE : Tok} (g_TILDE : PySem.W.nsIn K mainGlobals "TILDE" = some (some (.int 126 t_TILDE)))
    {t_PERCENT : Tok} (g_PERCENT : PySem.W.nsIn K mainGlobals "PERCENT" = some (some (.int 37 t_PERCENT)))
    {t_MAX_FORMS : Tok} (g_MAX_FORMS : PySem.W.nsIn K mainGlobals "MAX_FORMS" = some (some (.int 20 t_MAX_FORMS)))
    {t_MAX_SIZE : Tok} (g_MAX_SIZE : PySem.W.nsIn K mainGlobals "MAX_SIZE" = some (some (.int 8 t_MAX_SIZE)))
    {t_PRIME : Tok} (g_PRIME : PySem.W.nsIn K mainGlobals "PRIME" = some (some (.int 2147483647 t_PRIME)))
    {t_MAX_INTEGER : Tok} (g_MAX_INTEGER : PySem.W.nsIn K mainGlobals "MAX_INTEGER" = some (some (.int 1000 t_MAX_INTEGER)))
    {t_LONGEST_NAME : Tok} (g_LONGEST_NAME : PySem.W.nsIn K mainGlobals "LONGEST_NAME" = some (some (.int 8 t_LONGEST_NAME)))
    {t_LONGEST_NUMERAL : Tok} (g_LONGEST_NUMERAL : PySem.W.nsIn K mainGlobals "LONGEST_NUMERAL" = some (some (.int 10 t_LONGEST_NUMERAL)))
    {C : Addr} (aC : PySem.W.nsIn K mainGlobals "TextError" = some (some (.ref C)))
    {nmC qC : Str} {NC : Addr} {bsC sbC : List Value} {snC : List Str} {abC : Bool} {clC : Option Bool} {ddC : Option Addr} {k0C k1C k2C k3C k5C : Option Value} (xC : K.lookup C = some (excClassObj nmC qC C NC bsC [.ref B, .type "ValueError", .type "Exception", .type "BaseException", .type "object"] true snC sbC abC clC ddC k0C k1C k2C k3C k5C "ValueError.__new__"))
    (saC : PySem.W.findIn K (.ref C) "__setattr__" = some (some (.builtin "object.__setattr__")))
    (bC : PySem.W.subIn K (.ref C) (.type "BaseException") = some true)
    (tC : PySem.W.typeIn K (.ref C) = some (.type "type"))
    (kC : PySem.W.keepIn K (.ref C) = true)
    {fC : Addr} (iC : PySem.W.findIn K (.ref C) "__init__" = some (some (.ref fC)))
    (jC : PySem.W.typeIn K (.ref fC) = some (.type "function"))
    {ocC kVC dcC pmC ctC : Value} {odC anC : Option Addr} {cdC ccC : Addr} {slC : Array (Option Value)} (lC : K.lookup fC = some ⟨ocC, odC, .func (PySem.W.ksFn "__init__" "TextError.__init__" (defArgs Er.sXE) (defBody Er.sXE) (defScope Er.sXE) .none kVC dcC pmC anC (.ref cdC) ctC ccC), slC⟩)
    (cC : PySem.W.codeIn K (.ref cdC) "TextError.__init__" = true)
    (uC : PySem.W.ks_superIn K C C "__init__" = some (some (.builtin "ValueError.__init__")))
    (yC : PySem.W.nsIn K cStatics "thirdparty.any" = some none)
    (vC : PySem.W.subIn K (.ref C) (.type "ValueError") = some true)
    {ceC : Value} {cgC : Option Addr} {chC : Array (Option Value)} (oC : K.lookup ccC = some ⟨ceC, cgC, .cell (some (.ref C)), chC⟩)
    (mC : PySem.W.mroIn K C (.ref C) = some true)
    (pC : PySem.W.nsIn K mainGlobals "super" = some none)
    {daC : Value} {dbC : Option Addr} {dvC : Array Value} {dwC : Array (Option Value)} (dC : K.lookup cdC = some ⟨daC, dbC, .fields dvC, dwC⟩)
    {flC : Str} {tfC : Tok} (eC : dvC[2]? = some (.str flC tfC))
    (wC : ((l.prog.main.file : Str) == flC) = true)
    (gC : (l.prog.main.scope.names.lookup ("super" : Str)).isSome = false)
    (nC_at : PySem.W.findIn K (.ref C) "at" = some none)
    {t_LETTERS : Tok} (g_LETTERS : PySem.W.nsIn K mainGlobals "LETTERS" = some (some (.str tLet t_LETTERS)))
    {t_LETTERS_AND_DIGITS : Tok} (g_LETTERS_AND_DIGITS : PySem.W.nsIn K mainGlobals "LETTERS_AND_DIGITS" = some (some (.str tLad t_LETTERS_AND_DIGITS)))
    {t_DIGITS : Tok} (g_DIGITS : PySem.W.nsIn K mainGlobals "DIGITS" = some (some (.str tDig t_DIGITS)))
    {a_RESERVED : Addr} (p_RESERVED : PySem.W.nsIn K mainGlobals "RESERVED" = some (some (.ref a_RESERVED)))
    {t0_RESERVED t1_RESERVED t2_RESERVED t3_RESERVED t4_RESERVED t5_RESERVED t6_RESERVED t7_RESERVED t8_RESERVED t9_RESERVED t10_RESERVED t11_RESERVED t12_RESERVED t13_RESERVED t14_RESERVED t15_RESERVED t16_RESERVED t17_RESERVED t18_RESERVED t19_RESERVED t20_RESERVED t21_RESERVED : Tok} {n_RESERVED : Nat} {s_RESERVED : Array (Option Value)} (q_RESERVED : K.lookup a_RESERVED = some ⟨.type "tuple", none, .seq #[.str "state" t0_RESERVED, .str "param" t1_RESERVED, .str "procedure" t2_RESERVED, .str "beat" t3_RESERVED, .str "set" t4_RESERVED, .str "loop" t5_RESERVED, .str "if" t6_RESERVED, .str "call" t7_RESERVED, .str "let" t8_RESERVED, .str "at" t9_RESERVED, .str "add" t10_RESERVED, .str "sub" t11_RESERVED, .str "mul" t12_RESERVED, .str "div" t13_RESERVED, .str "plus" t14_RESERVED, .str "minus" t15_RESERVED, .str "times" t16_RESERVED, .str "rem" t17_RESERVED, .str "less" t18_RESERVED, .str "equal" t19_RESERVED, .str "zero" t20_RESERVED, .str "not" t21_RESERVED] n_RESERVED, s_RESERVED⟩)
    {a_STATEMENTS : Addr} (p_STATEMENTS : PySem.W.nsIn K mainGlobals "STATEMENTS" = some (some (.ref a_STATEMENTS)))
    {t0_STATEMENTS t1_STATEMENTS t2_STATEMENTS t3_STATEMENTS t4_STATEMENTS : Tok} {n_STATEMENTS : Nat} {s_STATEMENTS : Array (Option Value)} (q_STATEMENTS : K.lookup a_STATEMENTS = some ⟨.type "tuple", none, .seq #[.str "set" t0_STATEMENTS, .str "loop" t1_STATEMENTS, .str "if" t2_STATEMENTS, .str "call" t3_STATEMENTS, .str "let" t4_STATEMENTS] n_STATEMENTS, s_STATEMENTS⟩)
    {a_EXPRESSIONS : Addr} (p_EXPRESSIONS : PySem.W.nsIn K mainGlobals "EXPRESSIONS" = some (some (.ref a_EXPRESSIONS)))
    {t0_EXPRESSIONS t1_EXPRESSIONS t2_EXPRESSIONS t3_EXPRESSIONS t4_EXPRESSIONS : Tok} {n_EXPRESSIONS : Nat} {s_EXPRESSIONS : Array (Option Value)} (q_EXPRESSIONS : K.lookup a_EXPRESSIONS = some ⟨.type "tuple", none, .seq #[.str "at" t0_EXPRESSIONS, .str "add" t1_EXPRESSIONS, .str "sub" t2_EXPRESSIONS, .str "mul" t3_EXPRESSIONS, .str "div" t4_EXPRESSIONS] n_EXPRESSIONS, s_EXPRESSIONS⟩)
    {a_INDEXES : Addr} (p_INDEXES : PySem.W.nsIn K mainGlobals "INDEXES" = some (some (.ref a_INDEXES)))
    {t0_INDEXES t1_INDEXES t2_INDEXES t3_INDEXES : Tok} {n_INDEXES : Nat} {s_INDEXES : Array (Option Value)} (q_INDEXES : K.lookup a_INDEXES = some ⟨.type "tuple", none, .seq #[.str "plus" t0_INDEXES, .str "minus" t1_INDEXES, .str "times" t2_INDEXES, .str "rem" t3_INDEXES] n_INDEXES, s_INDEXES⟩)
    {a_TESTS : Addr} (p_TESTS : PySem.W.nsIn K mainGlobals "TESTS" = some (some (.ref a_TESTS)))
    {t0_TESTS t1_TESTS t2_TESTS t3_TESTS : Tok} {n_TESTS : Nat} {s_TESTS : Array (Option Value)} (q_TESTS : K.lookup a_TESTS = some ⟨.type "tuple", none, .seq #[.str "less" t0_TESTS, .str "equal" t1_TESTS, .str "zero" t2_TESTS, .str "not" t3_TESTS] n_TESTS, s_TESTS⟩)
    {a_DECLARATIONS : Addr} (p_DECLARATIONS : PySem.W.nsIn K mainGlobals "DECLARATIONS" = some (some (.ref a_DECLARATIONS)))
    {t0_DECLARATIONS t1_DECLARATIONS t2_DECLARATIONS t3_DECLARATIONS : Tok} {n_DECLARATIONS : Nat} {s_DECLARATIONS : Array (Option Value)} (q_DECLARATIONS : K.lookup a_DECLARATIONS = some ⟨.type "tuple", none, .seq #[.str "state" t0_DECLARATIONS, .str "param" t1_DECLARATIONS, .str "procedure" t2_DECLARATIONS, .str "beat" t3_DECLARATIONS] n_DECLARATIONS, s_DECLARATIONS⟩)
    {pd : Addr} (p_PARTS : PySem.W.nsIn K mainGlobals "PARTS" = some (some (.ref pd)))
    {pes : Array DictEntry} {pn : Nat} (q_PARTS : K.lookup pd = some ⟨.type "dict", none, .dict pes pn, #[]⟩)
    (r_PARTS : PySem.W.KeysLit w.params pes.toList)
    (s_PARTS : (pd == sysModules) = false)
    {b_0 : Addr} (u0 : PySem.W.nsIn K pd "state" = some (some (.ref b_0)))
    {ta0 tb0 : Tok} {nb0 : Nat} {sb0 : Array (Option Value)} (v0 : K.lookup b_0 = some ⟨.type "tuple", none, .seq #[.int 2 ta0, .int 3 tb0] nb0, sb0⟩)
    {b_1 : Addr} (u1 : PySem.W.nsIn K pd "param" = some (some (.ref b_1)))
    {ta1 tb1 : Tok} {nb1 : Nat} {sb1 : Array (Option Value)} (v1 : K.lookup b_1 = some ⟨.type "tuple", none, .seq #[.int 2 ta1, .int 3 tb1] nb1, sb1⟩)
    {b_2 : Addr} (u2 : PySem.W.nsIn K pd "procedure" = some (some (.ref b_2)))
    {ta2 : Tok} {nb2 : Nat} {sb2 : Array (Option Value)} (v2 : K.lookup b_2 = some ⟨.type "tuple", none, .seq #[.int 4 ta2, .none] nb2, sb2⟩)
    {b_3 : Addr} (u3 : PySem.W.nsIn K pd "beat" = some (some (.ref b_3)))
    {ta3 : Tok} {nb3 : Nat} {sb3 : Array (Option Value)} (v3 : K.lookup b_3 = some ⟨.type "tuple", none, .seq #[.int 1 ta3, .none] nb3, sb3⟩)
    {b_4 : Addr} (u4 : PySem.W.nsIn K pd "set" = some (some (.ref b_4)))
    {ta4 tb4 : Tok} {nb4 : Nat} {sb4 : Array (Option Value)} (v4 : K.lookup b_4 = some ⟨.type "tuple", none, .seq #[.int 3 ta4, .int 3 tb4] nb4, sb4⟩)
    {b_5 : Addr} (u5 : PySem.W.nsIn K pd "loop" = some (some (.ref b_5)))
    {ta5 : Tok} {nb5 : Nat} {sb5 : Array (Option Value)} (v5 : K.lookup b_5 = some ⟨.type "tuple", none, .seq #[.int 3 ta5, .none] nb5, sb5⟩)
    {b_6 : Addr} (u6 : PySem.W.nsIn K pd "if" = some (some (.ref b_6)))
    {ta6 tb6 : Tok} {nb6 : Nat} {sb6 : Array (Option Value)} (v6 : K.lookup b_6 = some ⟨.type "tuple", none, .seq #[.int 4 ta6, .int 4 tb6] nb6, sb6⟩)
    {b_7 : Addr} (u7 : PySem.W.nsIn K pd "call" = some (some (.ref b_7)))
    {ta7 tb7 : Tok} {nb7 : Nat} {sb7 : Array (Option Value)} (v7 : K.lookup b_7 = some ⟨.type "tuple", none, .seq #[.int 4 ta7, .int 4 tb7] nb7, sb7⟩)
    {b_8 : Addr} (u8 : PySem.W.nsIn K pd "let" = some (some (.ref b_8)))
    {ta8 : Tok} {nb8 : Nat} {sb8 : Array (Option Value)} (v8 : K.lookup b_8 = some ⟨.type "tuple", none, .seq #[.int 3 ta8, .none] nb8, sb8⟩)
    {b_9 : Addr} (u9 : PySem.W.nsIn K pd "at" = some (some (.ref b_9)))
    {ta9 tb9 : Tok} {nb9 : Nat} {sb9 : Array (Option Value)} (v9 : K.lookup b_9 = some ⟨.type "tuple", none, .seq #[.int 3 ta9, .int 3 tb9] nb9, sb9⟩)
    {b_10 : Addr} (u10 : PySem.W.nsIn K pd "add" = some (some (.ref b_10)))
    {ta10 tb10 : Tok} {nb10 : Nat} {sb10 : Array (Option Value)} (v10 : K.lookup b_10 = some ⟨.type "tuple", none, .seq #[.int 3 ta10, .int 3 tb10] nb10, sb10⟩)
    {b_11 : Addr} (u11 : PySem.W.nsIn K pd "sub" = some (some (.ref b_11)))
    {ta11 tb11 : Tok} {nb11 : Nat} {sb11 : Array (Option Value)} (v11 : K.lookup b_11 = some ⟨.type "tuple", none, .seq #[.int 3 ta11, .int 3 tb11] nb11, sb11⟩)
    {b_12 : Addr} (u12 : PySem.W.nsIn K pd "mul" = some (some (.ref b_12)))
    {ta12 tb12 : Tok} {nb12 : Nat} {sb12 : Array (Option Value)} (v12 : K.lookup b_12 = some ⟨.type "tuple", none, .seq #[.int 3 ta12, .int 3 tb12] nb12, sb12⟩)
    {b_13 : Addr} (u13 : PySem.W.nsIn K pd "div" = some (some (.ref b_13)))
    {ta13 tb13 : Tok} {nb13 : Nat} {sb13 : Array (Option Value)} (v13 : K.lookup b_13 = some ⟨.type "tuple", none, .seq #[.int 3 ta13, .int 3 tb13] nb13, sb13⟩)
    {b_14 : Addr} (u14 : PySem.W.nsIn K pd "plus" = some (some (.ref b_14)))
    {ta14 tb14 : Tok} {nb14 : Nat} {sb14 : Array (Option Value)} (v14 : K.lookup b_14 = some ⟨.type "tuple", none, .seq #[.int 3 ta14, .int 3 tb14] nb14, sb14⟩)
    {b_15 : Addr} (u15 : PySem.W.nsIn K pd "minus" = some (some (.ref b_15)))
    {ta15 tb15 : Tok} {nb15 : Nat} {sb15 : Array (Option Value)} (v15 : K.lookup b_15 = some ⟨.type "tuple", none, .seq #[.int 3 ta15, .int 3 tb15] nb15, sb15⟩)
    {b_16 : Addr} (u16 : PySem.W.nsIn K pd "times" = some (some (.ref b_16)))
    {ta16 tb16 : Tok} {nb16 : Nat} {sb16 : Array (Option Value)} (v16 : K.lookup b_16 = some ⟨.type "tuple", none, .seq #[.int 3 ta16, .int 3 tb16] nb16, sb16⟩)
    {b_17 : Addr} (u17 : PySem.W.nsIn K pd "rem" = some (some (.ref b_17)))
    {ta17 tb17 : Tok} {nb17 : Nat} {sb17 : Array (Option Value)} (v17 : K.lookup b_17 = some ⟨.type "tuple", none, .seq #[.int 3 ta17, .int 3 tb17] nb17, sb17⟩)
    {b_18 : Addr} (u18 : PySem.W.nsIn K pd "less" = some (some (.ref b_18)))
    {ta18 tb18 : Tok} {nb18 : Nat} {sb18 : Array (Option Value)} (v18 : K.lookup b_18 = some ⟨.type "tuple", none, .seq #[.int 3 ta18, .int 3 tb18] nb18, sb18⟩)
    {b_19 : Addr} (u19 : PySem.W.nsIn K pd "equal" = some (some (.ref b_19)))
    {ta19 tb19 : Tok} {nb19 : Nat} {sb19 : Array (Option Value)} (v19 : K.lookup b_19 = some ⟨.type "tuple", none, .seq #[.int 3 ta19, .int 3 tb19] nb19, sb19⟩)
    {b_20 : Addr} (u20 : PySem.W.nsIn K pd "zero" = some (some (.ref b_20)))
    {ta20 tb20 : Tok} {nb20 : Nat} {sb20 : Array (Option Value)} (v20 : K.lookup b_20 = some ⟨.type "tuple", none, .seq #[.int 2 ta20, .int 2 tb20] nb20, sb20⟩)
    {b_21 : Addr} (u21 : PySem.W.nsIn K pd "not" = some (some (.ref b_21)))
    {ta21 tb21 : Tok} {nb21 : Nat} {sb21 : Array (Option Value)} (v21 : K.lookup b_21 = some ⟨.type "tuple", none, .seq #[.int 2 ta21, .int 2 tb21] nb21, sb21⟩) :
    ∃ fd : FuncData, (∀ (s : Shared) (v : Value), BindsTo s fd ⟨[v], []⟩ [("script", v)]) ∧ ∀ base : Heap, K.In base → base.Ns mainGlobals mg → Gd.GFn l.prog w K mg base CX0 68 fa fd ["script"] (spLaw K) := by
  have e := hfa.symm.trans (PySem.W.mg_of X G a56)
  cases e
  have F1 := fun_mk (st := sDraws) l1 c1 k1
  have b1 := F1.binds (ps := ["script"]) fun _ _ _ _ _ _ us hl => match us, hl with | [_], _ => rfl
  have m1 := PySem.W.mg_of X G a1
  have F2 := fun_mk (st := sTake) l2 c2 k2
  have b2 := F2.binds (ps := ["draws", "at", "many"]) fun _ _ _ _ _ _ us hl => match us, hl with | [_, _, _], _ => rfl
  have m2 := PySem.W.mg_of X G a2
  have F3 := fun_mk (st := sNumb) l3 c3 k3
  have b3 := F3.binds (ps := ["draws", "at"]) fun _ _ _ _ _ _ us hl => match us, hl with | [_, _], _ => rfl
  have m3 := PySem.W.mg_of X G a3
  have F4 := fun_mk (st := sIx) l4 c4 k4
  have b4 := F4.binds (ps := ["integers", "draws", "at", "depth"]) fun _ _ _ _ _ _ us hl => match us, hl with | [_, _, _, _], _ => rfl
  have m4 := PySem.W.mg_of X G a4
  have F5 := fun_mk (st := sPl) l5 c5 k5
  have b5 := F5.binds (ps := ["variables", "integers", "draws", "at"]) fun _ _ _ _ _ _ us hl => match us, hl with | [_, _, _, _], _ => rfl
  have m5 := PySem.W.mg_of X G a5
  have F6 := fun_mk (st := sEx) l6 c6 k6
  have b6 := F6.binds (ps := ["variables", "integers", "draws", "at", "depth"]) fun _ _ _ _ _ _ us hl => match us, hl with | [_, _, _, _, _], _ => rfl
  have m6 := PySem.W.mg_of X G a6
  have F7 := fun_mk (st := sTs) l7 c7 k7
  have b7 := F7.binds (ps := ["variables", "integers", "draws", "at"]) fun _ _ _ _ _ _ us hl => match us, hl with | [_, _, _, _], _ => rfl
  have m7 := PySem.W.mg_of X G a7
  have F8 := fun_mk (st := sCall) l8 c8 k8
  have b8 := F8.binds (ps := ["variables", "integers", "known", "draws", "at"]) fun _ _ _ _ _ _ us hl => match us, hl with | [_, _, _, _, _], _ => rfl
  have m8 := PySem.W.mg_of X G a8
  have F9 := fun_mk (st := sSt) l9 c9 k9
  have b9 := F9.binds (ps := ["variables", "integers", "known", "draws", "at", "depth"]) fun _ _ _ _ _ _ us hl => match us, hl with | [_, _, _, _, _, _], _ => rfl
  have m9 := PySem.W.mg_of X G a9
  have F10 := fun_mk (st := sBody) l10 c10 k10
  have b10 := F10.binds (ps := ["variables", "integers", "known", "draws", "at", "depth"]) fun _ _ _ _ _ _ us hl => match us, hl with | [_, _, _, _, _, _], _ => rfl
  have m10 := PySem.W.mg_of X G a10
  have F11 := fun_mk (st := sTree) l11 c11 k11
  have b11 := F11.binds (ps := ["draws", "at"]) fun _ _ _ _ _ _ us hl => match us, hl with | [_, _], _ => rfl
  have m11 := PySem.W.mg_of X G a11
  have F12 := fun_mk (st := sWf) l12 c12 k12
  have b12 := F12.binds (ps := ["parts"]) fun _ _ _ _ _ _ us hl => match us, hl with | [_], _ => rfl
  have m12 := PySem.W.mg_of X G a12
  have F13 := fun_mk (st := sWi) l13 c13 k13
  have b13 := F13.binds (ps := ["index"]) fun _ _ _ _ _ _ us hl => match us, hl with | [_], _ => rfl
  have m13 := PySem.W.mg_of X G a13
  have F14 := fun_mk (st := sWpl) l14 c14 k14
  have b14 := F14.binds (ps := ["place"]) fun _ _ _ _ _ _ us hl => match us, hl with | [_], _ => rfl
  have m14 := PySem.W.mg_of X G a14
  have F15 := fun_mk (st := sWe) l15 c15 k15
  have b15 := F15.binds (ps := ["expression"]) fun _ _ _ _ _ _ us hl => match us, hl with | [_], _ => rfl
  have m15 := PySem.W.mg_of X G a15
  have F16 := fun_mk (st := sWt) l16 c16 k16
  have b16 := F16.binds (ps := ["test"]) fun _ _ _ _ _ _ us hl => match us, hl with | [_], _ => rfl
  have m16 := PySem.W.mg_of X G a16
  have F17 := fun_mk (st := sWs) l17 c17 k17
  have b17 := F17.binds (ps := ["statement"]) fun _ _ _ _ _ _ us hl => match us, hl with | [_], _ => rfl
  have m17 := PySem.W.mg_of X G a17
  have F18 := fun_mk (st := sWss) l18 c18 k18
  have b18 := F18.binds (ps := ["body"]) fun _ _ _ _ _ _ us hl => match us, hl with | [_], _ => rfl
  have m18 := PySem.W.mg_of X G a18
  have F19 := fun_mk (st := sWv) l19 c19 k19
  have b19 := F19.binds (ps := ["variable"]) fun _ _ _ _ _ _ us hl => match us, hl with | [_], _ => rfl
  have m19 := PySem.W.mg_of X G a19
  have F20 := fun_mk (st := sWp) l20 c20 k20
  have b20 := F20.binds (ps := ["procedure"]) fun _ _ _ _ _ _ us hl => match us, hl with | [_], _ => rfl
  have m20 := PySem.W.mg_of X G a20
  have F21 := fun_mk (st := sWpr) l21 c21 k21
  have b21 := F21.binds (ps := ["tree"]) fun _ _ _ _ _ _ us hl => match us, hl with | [_], _ => rfl
  have m21 := PySem.W.mg_of X G a21
  have F22 := fun_mk (st := sLix) l22 c22 k22
  have b22 := F22.binds (ps := ["index"]) fun _ _ _ _ _ _ us hl => match us, hl with | [_], _ => rfl
  have m22 := PySem.W.mg_of X G a22
  have F23 := fun_mk (st := sLpl) l23 c23 k23
  have b23 := F23.binds (ps := ["name", "index"]) fun _ _ _ _ _ _ us hl => match us, hl with | [_, _], _ => rfl
  have m23 := PySem.W.mg_of X G a23
  have F24 := fun_mk (st := sLex) l24 c24 k24
  have b24 := F24.binds (ps := ["expression"]) fun _ _ _ _ _ _ us hl => match us, hl with | [_], _ => rfl
  have m24 := PySem.W.mg_of X G a24
  have F25 := fun_mk (st := sLts) l25 c25 k25
  have b25 := F25.binds (ps := ["test"]) fun _ _ _ _ _ _ us hl => match us, hl with | [_], _ => rfl
  have m25 := PySem.W.mg_of X G a25
  have F26 := fun_mk (st := sLst) l26 c26 k26
  have b26 := F26.binds (ps := ["statement"]) fun _ _ _ _ _ _ us hl => match us, hl with | [_], _ => rfl
  have m26 := PySem.W.mg_of X G a26
  have F27 := fun_mk (st := sLbt) l27 c27 k27
  have b27 := F27.binds (ps := ["body"]) fun _ _ _ _ _ _ us hl => match us, hl with | [_], _ => rfl
  have m27 := PySem.W.mg_of X G a27
  have F28 := fun_mk (st := sLva) l28 c28 k28
  have b28 := F28.binds (ps := ["words", "name", "size"]) fun _ _ _ _ _ _ us hl => match us, hl with | [_, _, _], _ => rfl
  have m28 := PySem.W.mg_of X G a28
  have F29 := fun_mk (st := sLwo) l29 c29 k29
  have b29 := F29.binds (ps := ["tree"]) fun _ _ _ _ _ _ us hl => match us, hl with | [_], _ => rfl
  have m29 := PySem.W.mg_of X G a29
  have F30 := fun_mk (st := sLli) l30 c30 k30
  have b30 := F30.binds (ps := ["words"]) fun _ _ _ _ _ _ us hl => match us, hl with | [_], _ => rfl
  have m30 := PySem.W.mg_of X G a30
  have F31 := fun_mk (st := sLlo) l31 c31 k31
  have b31 := F31.binds (ps := ["words", "draws", "at"]) fun _ _ _ _ _ _ us hl => match us, hl with | [_, _, _], _ => rfl
  have m31 := PySem.W.mg_of X G a31
  have F32 := fun_mk (st := sAllow) l32 c32 k32
  have b32 := F32.binds (ps := ["character"]) fun _ _ _ _ _ _ us hl => match us, hl with | [_], _ => rfl
  have m32 := PySem.W.mg_of X G a32
  have F33 := fun_mk (st := sCheck) l33 c33 k33
  have b33 := F33.binds (ps := ["text"]) fun _ _ _ _ _ _ us hl => match us, hl with | [_], _ => rfl
  have m33 := PySem.W.mg_of X G a33
  have F34 := fun_mk (st := sSplit) l34 c34 k34
  have b34 := F34.binds (ps := ["text"]) fun _ _ _ _ _ _ us hl => match us, hl with | [_], _ => rfl
  have m34 := PySem.W.mg_of X G a34
  have F35 := fun_mk (st := sRf) l35 c35 k35
  have b35 := F35.binds (ps := ["words", "length"]) fun _ _ _ _ _ _ us hl => match us, hl with | [_, _], _ => rfl
  have m35 := PySem.W.mg_of X G a35
  have F36 := fun_mk (st := Px.sIsi) l36 c36 k36
  have b36 := F36.binds (ps := ["value"]) fun _ _ _ _ _ _ us hl => match us, hl with | [_], _ => rfl
  have m36 := PySem.W.mg_of X G a36
  have F37 := fun_mk (st := Px.sBtw) l37 c37 k37
  have b37 := F37.binds (ps := ["value", "least", "most"]) fun _ _ _ _ _ _ us hl => match us, hl with | [_, _, _], _ => rfl
  have m37 := PySem.W.mg_of X G a37
  have F38 := fun_mk (st := sNam) l38 c38 k38
  have b38 := F38.binds (ps := ["value"]) fun _ _ _ _ _ _ us hl => match us, hl with | [_], _ => rfl
  have m38 := PySem.W.mg_of X G a38
  have F39 := fun_mk (st := sNul) l39 c39 k39
  have b39 := F39.binds (ps := ["value"]) fun _ _ _ _ _ _ us hl => match us, hl with | [_], _ => rfl
  have m39 := PySem.W.mg_of X G a39
  have F40 := fun_mk (st := sRls) l40 c40 k40
  have b40 := F40.binds (ps := ["part"]) fun _ _ _ _ _ _ us hl => match us, hl with | [_], _ => rfl
  have m40 := PySem.W.mg_of X G a40
  have F41 := fun_mk (st := sRnm) l41 c41 k41
  have b41 := F41.binds (ps := ["part"]) fun _ _ _ _ _ _ us hl => match us, hl with | [_], _ => rfl
  have m41 := PySem.W.mg_of X G a41
  have F42 := fun_mk (st := sRnu) l42 c42 k42
  have b42 := F42.binds (ps := ["part", "least", "most"]) fun _ _ _ _ _ _ us hl => match us, hl with | [_, _, _], _ => rfl
  have m42 := PySem.W.mg_of X G a42
  have F43 := fun_mk (st := sRhd) l43 c43 k43
  have b43 := F43.binds (ps := ["part", "heads"]) fun _ _ _ _ _ _ us hl => match us, hl with | [_, _], _ => rfl
  have m43 := PySem.W.mg_of X G a43
  have F44 := fun_mk (st := sRix) l44 c44 k44
  have b44 := F44.binds (ps := ["part"]) fun _ _ _ _ _ _ us hl => match us, hl with | [_], _ => rfl
  have m44 := PySem.W.mg_of X G a44
  have F45 := fun_mk (st := sRpl) l45 c45 k45
  have b45 := F45.binds (ps := ["part"]) fun _ _ _ _ _ _ us hl => match us, hl with | [_], _ => rfl
  have m45 := PySem.W.mg_of X G a45
  have F46 := fun_mk (st := sRex) l46 c46 k46
  have b46 := F46.binds (ps := ["part"]) fun _ _ _ _ _ _ us hl => match us, hl with | [_], _ => rfl
  have m46 := PySem.W.mg_of X G a46
  have F47 := fun_mk (st := sRts) l47 c47 k47
  have b47 := F47.binds (ps := ["part"]) fun _ _ _ _ _ _ us hl => match us, hl with | [_], _ => rfl
  have m47 := PySem.W.mg_of X G a47
  have F48 := fun_mk (st := sRst) l48 c48 k48
  have b48 := F48.binds (ps := ["part"]) fun _ _ _ _ _ _ us hl => match us, hl with | [_], _ => rfl
  have m48 := PySem.W.mg_of X G a48
  have F49 := fun_mk (st := sRbd) l49 c49 k49
  have b49 := F49.binds (ps := ["parts"]) fun _ _ _ _ _ _ us hl => match us, hl with | [_], _ => rfl
  have m49 := PySem.W.mg_of X G a49
  have F50 := fun_mk (st := sRva) l50 c50 k50
  have b50 := F50.binds (ps := ["parts"]) fun _ _ _ _ _ _ us hl => match us, hl with | [_], _ => rfl
  have m50 := PySem.W.mg_of X G a50
  have F51 := fun_mk (st := sRre) l51 c51 k51
  have b51 := F51.binds (ps := ["part"]) fun _ _ _ _ _ _ us hl => match us, hl with | [_], _ => rfl
  have m51 := PySem.W.mg_of X G a51
  have F52 := fun_mk (st := sRpr) l52 c52 k52
  have b52 := F52.binds (ps := ["parts"]) fun _ _ _ _ _ _ us hl => match us, hl with | [_], _ => rfl
  have m52 := PySem.W.mg_of X G a52
  have F53 := fun_mk (st := sRde) l53 c53 k53
  have b53 := F53.binds (ps := ["head", "parts"]) fun _ _ _ _ _ _ us hl => match us, hl with | [_, _], _ => rfl
  have m53 := PySem.W.mg_of X G a53
  have F54 := fun_mk (st := sDbe) l54 c54 k54
  have b54 := F54.binds (ps := ["head"]) fun _ _ _ _ _ _ us hl => match us, hl with | [_], _ => rfl
  have m54 := PySem.W.mg_of X G a54
  have F55 := fun_mk (st := sRp) l55 c55 k55
  have b55 := F55.binds (ps := ["text"]) fun _ _ _ _ _ _ us hl => match us, hl with | [_], _ => rfl
  have m55 := PySem.W.mg_of X G a55
  have F56 := fun_mk (st := Px.sLaw) l56 c56 k56
  refine ⟨PySem.W.fnOf "law" "law" (defArgs Px.sLaw) (defBody Px.sLaw) (defScope Px.sLaw) .none kV56 dc56 pm56 an56 cd56 ct56, fun s v => .of_eq rfl, fun base _ _ => ?_⟩
  have T : Bi mg := ⟨PySem.W.mg_none_of X G z_len, PySem.W.mg_none_of X G z_int, PySem.W.mg_none_of X G z_range, PySem.W.mg_none_of X G z_tuple, PySem.W.mg_none_of X G z_list, PySem.W.mg_none_of X G z_str, PySem.W.mg_none_of X G z_isinstance, PySem.W.mg_none_of X G z_bool, PySem.W.mg_none_of X G z_abs, PySem.W.mg_none_of X G z_max⟩
  have SuC : Su.Sup l.prog K C ccC cdC := ⟨⟨⟨_, _, _, _, _, _, _, _, _, _, _, _, _, _, _, xC, rfl⟩, saC, bC, tC, kC⟩, uC, yC, vC, ⟨_, _, _, oC⟩, mC, pC, ⟨_, _, _, _, _, _, dC, eC, wC⟩, gC⟩
  have mkC : Mk l.prog w K mg base "TextError" C ["self", "at"] (Er.spXE K C) := ⟨fC, _, Er.ok_xe lC cC SuC nC_at, .all (fun us hl => match us, hl with | [_, _], _ => rfl), SuC.ex, iC, jC, PySem.W.mg_of X G aC⟩
  have gx : Gx w K mg := ⟨_, PySem.W.mg_of X G g_MAX_SIZE, _, PySem.W.mg_of X G g_PRIME, _, PySem.W.mg_of X G g_MAX_INTEGER, _, PySem.W.mg_of X G g_LONGEST_NAME, _, PySem.W.mg_of X G g_LONGEST_NUMERAL, _, PySem.W.mg_of X G g_LETTERS, _, PySem.W.mg_of X G g_LETTERS_AND_DIGITS, _, PySem.W.mg_of X G g_DIGITS,
    GT.mk' (PySem.W.mg_of X G p_RESERVED) q_RESERVED (show (22 : Nat) ≤ sizeLine by decide) rfl, GT.mk' (PySem.W.mg_of X G p_STATEMENTS) q_STATEMENTS (show (5 : Nat) ≤ sizeLine by decide) rfl, GT.mk' (PySem.W.mg_of X G p_EXPRESSIONS) q_EXPRESSIONS (show (5 : Nat) ≤ sizeLine by decide) rfl, GT.mk' (PySem.W.mg_of X G p_INDEXES) q_INDEXES (show (4 : Nat) ≤ sizeLine by decide) rfl, GT.mk' (PySem.W.mg_of X G p_TESTS) q_TESTS (show (4 : Nat) ≤ sizeLine by decide) rfl, GT.mk' (PySem.W.mg_of X G p_DECLARATIONS) q_DECLARATIONS (show (4 : Nat) ≤ sizeLine by decide) rfl,
    PySem.W.mg_none_of X G z_all, pd, pes, pn, PySem.W.mg_of X G p_PARTS, ⟨q_PARTS, r_PARTS, s_PARTS⟩, by
      unfold tParts
      simp only [List.forall_mem_cons]
      exact ⟨⟨_, u0, fun H => sqT_lk v0 (show (2 : Nat) ≤ sizeLine by decide) rfl H⟩, ⟨_, u1, fun H => sqT_lk v1 (show (2 : Nat) ≤ sizeLine by decide) rfl H⟩, ⟨_, u2, fun H => sqT_lk v2 (show (2 : Nat) ≤ sizeLine by decide) rfl H⟩, ⟨_, u3, fun H => sqT_lk v3 (show (2 : Nat) ≤ sizeLine by decide) rfl H⟩, ⟨_, u4, fun H => sqT_lk v4 (show (2 : Nat) ≤ sizeLine by decide) rfl H⟩, ⟨_, u5, fun H => sqT_lk v5 (show (2 : Nat) ≤ sizeLine by decide) rfl H⟩, ⟨_, u6, fun H => sqT_lk v6 (show (2 : Nat) ≤ sizeLine by decide) rfl H⟩, ⟨_, u7, fun H => sqT_lk v7 (show (2 : Nat) ≤ sizeLine by decide) rfl H⟩, ⟨_, u8, fun H => sqT_lk v8 (show (2 : Nat) ≤ sizeLine by decide) rfl H⟩, ⟨_, u9, fun H => sqT_lk v9 (show (2 : Nat) ≤ sizeLine by decide) rfl H⟩, ⟨_, u10, fun H => sqT_lk v10 (show (2 : Nat) ≤ sizeLine by decide) rfl H⟩, ⟨_, u11, fun H => sqT_lk v11 (show (2 : Nat) ≤ sizeLine by decide) rfl H⟩, ⟨_, u12, fun H => sqT_lk v12 (show (2 : Nat) ≤ sizeLine by decide) rfl H⟩, ⟨_, u13, fun H => sqT_lk v13 (show (2 : Nat) ≤ sizeLine by decide) rfl H⟩, ⟨_, u14, fun H => sqT_lk v14 (show (2 : Nat) ≤ sizeLine by decide) rfl H⟩, ⟨_, u15, fun H => sqT_lk v15 (show (2 : Nat) ≤ sizeLine by decide) rfl H⟩, ⟨_, u16, fun H => sqT_lk v16 (show (2 : Nat) ≤ sizeLine by decide) rfl H⟩, ⟨_, u17, fun H => sqT_lk v17 (show (2 : Nat) ≤ sizeLine by decide) rfl H⟩, ⟨_, u18, fun H => sqT_lk v18 (show (2 : Nat) ≤ sizeLine by decide) rfl H⟩, ⟨_, u19, fun H => sqT_lk v19 (show (2 : Nat) ≤ sizeLine by decide) rfl H⟩, ⟨_, u20, fun H => sqT_lk v20 (show (2 : Nat) ≤ sizeLine by decide) rfl H⟩, ⟨_, u21, fun H => sqT_lk v21 (show (2 : Nat) ≤ sizeLine by decide) rfl H⟩, fun _ h => nomatch h⟩⟩
  have cDraws : Cal l.prog w K mg base CX0 1 "_law_draws" ["script"] (spDraws K) := ⟨f1, _, ok_draws F1 T, b1, k1, m1⟩
  have cTake : Cal l.prog w K mg base CX0 1 "_law_take" ["draws", "at", "many"] (spTake K) := ⟨f2, _, ok_take F2 T, b2, k2, m2⟩
  have cNumb : Cal l.prog w K mg base CX0 2 "_law_number" ["draws", "at"] (spNumb K) := ⟨f3, _, ok_numb F3 cTake, b3, k3, m3⟩
  have cIx : Cal l.prog w K mg base CX0 4 "_law_index" ["integers", "draws", "at", "depth"] (spIx K 3) := ⟨f4, _, ok_ix F4 T cTake b4 m4 3, b4, k4, m4⟩
  have cPl : Cal l.prog w K mg base CX0 5 "_law_place" ["variables", "integers", "draws", "at"] (spPl K) := ⟨f5, _, ok_pl F5 T cTake cIx, b5, k5, m5⟩
  have cEx : Cal l.prog w K mg base CX0 8 "_law_expression" ["variables", "integers", "draws", "at", "depth"] (spEx K 3) := ⟨f6, _, ok_ex F6 T cTake cNumb cPl b6 m6 3, b6, k6, m6⟩
  have cTs : Cal l.prog w K mg base CX0 9 "_law_test" ["variables", "integers", "draws", "at"] (spTs K) := ⟨f7, _, ok_ts F7 cTake cIx cEx, b7, k7, m7⟩
  have cCall : Cal l.prog w K mg base CX0 5 "_law_call" ["variables", "integers", "known", "draws", "at"] (spCall K) := ⟨f8, _, ok_call F8 T cTake cIx, b8, k8, m8⟩
  have cBody : Cal l.prog w K mg base CX0 19 "_law_body" ["variables", "integers", "known", "draws", "at", "depth"] (spBody K 4) := ⟨f10, _, (ok_sb F9 F10 T cTake cIx cPl cEx cTs cCall b9 m9 b10 m10 4).2, b10, k10, m10⟩
  have cTree : Cal l.prog w K mg base CX0 20 "_law_tree" ["draws", "at"] (spTree K) := ⟨f11, _, ok_tree F11 T cTake cBody, b11, k11, m11⟩
  have cWf : Cal l.prog w K mg base CX0 1 "write_form" ["parts"] (spWf K) := ⟨f12, _, ok_wf F12, b12, k12, m12⟩
  have cWi : Cal l.prog w K mg base CX0 9 "write_index" ["index"] (spP K 1 (dWi 8)) := ⟨f13, _, ok_wi F13 T cWf b13 m13 8, b13, k13, m13⟩
  have cWpl : Cal l.prog w K mg base CX0 10 "write_place" ["place"] (spP K 1 (dWpl 8)) := ⟨f14, _, ok_wpl F14 T cWf cWi, b14, k14, m14⟩
  have cWe : Cal l.prog w K mg base CX0 18 "write_expression" ["expression"] (spP K 1 (dWe 8)) := ⟨f15, _, ok_we F15 T cWf cWpl b15 m15 8, b15, k15, m15⟩
  have cWt : Cal l.prog w K mg base CX0 26 "write_test" ["test"] (spP K 1 (dWt 8)) := ⟨f16, _, ok_wt F16 T cWf cWi cWe b16 m16 8, b16, k16, m16⟩
  have cWs : Cal l.prog w K mg base CX0 62 "write_statement" ["statement"] (spP K 1 (dWs 16)) := ⟨f17, _, ok_ws F17 T cWf cWi cWpl cWe cWt b17 m17 F18 b18 m18 16, b17, k17, m17⟩
  have cWss : Cal l.prog w K mg base CX0 63 "write_statements" ["body"] (spWss K 16) := ⟨f18, _, ok_wss F18 cWs, b18, k18, m18⟩
  have cWv : Cal l.prog w K mg base CX0 1 "write_variable" ["variable"] (spWv K) := ⟨f19, _, ok_wv F19 T, b19, k19, m19⟩
  have cWp : Cal l.prog w K mg base CX0 64 "write_procedure" ["procedure"] (spP K 1 dWp) := ⟨f20, _, ok_wp F20 T cWf cWv cWss, b20, k20, m20⟩
  have cWpr : Cal l.prog w K mg base CX0 65 "write_program" ["tree"] (spWpr K) := ⟨f21, _, ok_wpr F21 T cWf cWv cWp cWss, b21, k21, m21⟩
  have cLix : Cal l.prog w K mg base CX0 9 "_law_index_text" ["index"] (spL K 1 (dLix 8)) := ⟨f22, _, ok_lix F22 T b22 m22 8, b22, k22, m22⟩
  have cLpl : Cal l.prog w K mg base CX0 10 "_law_place_text" ["name", "index"] (spL K 2 (dLpl 8)) := ⟨f23, _, ok_lpl F23 T cLix, b23, k23, m23⟩
  have cLex : Cal l.prog w K mg base CX0 18 "_law_expression_text" ["expression"] (spL K 1 (dLex 8)) := ⟨f24, _, ok_lex F24 T cLpl b24 m24 8, b24, k24, m24⟩
  have cLts : Cal l.prog w K mg base CX0 26 "_law_test_text" ["test"] (spL K 1 (dLts 8)) := ⟨f25, _, ok_lts F25 T cLix cLex b25 m25 8, b25, k25, m25⟩
  have cLst : Cal l.prog w K mg base CX0 62 "_law_statement_text" ["statement"] (spL K 1 (dLst 16)) := ⟨f26, _, ok_lst F26 T cLix cLpl cLex cLts b26 m26 F27 b27 m27 16, b26, k26, m26⟩
  have cLbt : Cal l.prog w K mg base CX0 63 "_law_body_text" ["body"] (spL K 1 (dLbt 16)) := ⟨f27, _, ok_lbt F27 cLst, b27, k27, m27⟩
  have cLva : Cal l.prog w K mg base CX0 1 "_law_variable_text" ["words", "name", "size"] spLva := ⟨f28, _, ok_lva F28 T, b28, k28, m28⟩
  have cLwo : Cal l.prog w K mg base CX0 64 "_law_words" ["tree"] (spLwo K) := ⟨f29, _, ok_lwo F29 T cLva cLbt, b29, k29, m29⟩
  have cLli : Cal l.prog w K mg base CX0 1 "_law_line" ["words"] spLli := ⟨f30, _, ok_lli F30 T, b30, k30, m30⟩
  have cLlo : Cal l.prog w K mg base CX0 2 "_law_loose" ["words", "draws", "at"] (spLlo K) := ⟨f31, _, ok_llo F31 T cTake, b31, k31, m31⟩
  have cAllow : Cal l.prog w K mg base CX0 1 "is_text_character" ["character"] spAllow := ⟨f32, _, ok_allow F32 (PySem.W.mg_none_of X G z_ord) (PySem.W.mg_of X G g_SPACE) (PySem.W.mg_of X G g_TILDE) (PySem.W.mg_of X G g_PERCENT), b32, k32, m32⟩
  have cCheck : Cal l.prog w K mg base (L2.CX l.prog w) 3 "check_characters" ["text"] (spCheck K C) := ⟨f33, _, ok_check F33 T (PySem.W.mg_none_of X G z_enumerate) (PySem.W.mg_of X G g_MAX_TEXT) mkC cAllow, b33, k33, m33⟩
  have cSplit : Cal l.prog w K mg base (L2.CX l.prog w) 4 "split_words" ["text"] (spSplit K C) := ⟨f34, _, ok_split F34 (PySem.W.mg_none_of X G z_enumerate) cCheck, b34, k34, m34⟩
  have cRf : Cal l.prog w K mg base (L2.CX l.prog w) 3 "read_forms" ["words", "length"] (spRf K) := ⟨f35, _, ok_rf F35 T (PySem.W.mg_of X G g_MAX_FORMS) mkC, b35, k35, m35⟩
  have cIsi : Cal l.prog w K mg base CX0 1 "is_integer" ["value"] (spX K 1 dIsi) := ⟨f36, _, Px.ok_isi F36 T, b36, k36, m36⟩
  have cBtw : Cal l.prog w K mg base CX0 2 "is_between" ["value", "least", "most"] (spX K 3 dBtw) := ⟨f37, _, Px.ok_btw F37 cIsi, b37, k37, m37⟩
  have cNam : Cal l.prog w K mg base CX0 1 "is_name" ["value"] (spX K 1 dNam) := ⟨f38, _, ok_nam F38 T gx, b38, k38, m38⟩
  have cNul : Cal l.prog w K mg base CX0 1 "is_numeral" ["value"] (spX K 1 dNul) := ⟨f39, _, ok_nul F39 T gx, b39, k39, m39⟩
  have cRls : Cal l.prog w K mg base CX0 1 "read_list" ["part"] (spX K 1 dRls) := ⟨f40, _, ok_rls F40 T, b40, k40, m40⟩
  have cRnm : Cal l.prog w K mg base CX0 2 "read_name" ["part"] (spX K 1 dRnm) := ⟨f41, _, ok_rnm F41 cNam, b41, k41, m41⟩
  have cRnu : Cal l.prog w K mg base CX0 3 "read_numeral" ["part", "least", "most"] (spX K 3 dRnu) := ⟨f42, _, ok_rnu F42 T cNul cBtw, b42, k42, m42⟩
  have cRhd : Cal l.prog w K mg base CX0 2 "read_head" ["part", "heads"] (spX K 2 dRhd) := ⟨f43, _, ok_rhd F43 T gx cRls, b43, k43, m43⟩
  have cRix : Cal l.prog w K mg base CX0 11 "read_index" ["part"] (spX K 1 (dRix 8)) := ⟨f44, _, ok_rix F44 T gx cNul cRnm cRnu cRhd b44 m44 8, b44, k44, m44⟩
  have cRpl : Cal l.prog w K mg base CX0 12 "read_place" ["part"] (spX K 1 (dRpl 8)) := ⟨f45, _, ok_rpl F45 T cRnm cRhd cRix, b45, k45, m45⟩
  have cRex : Cal l.prog w K mg base CX0 19 "read_expression" ["part"] (spX K 1 (dRex 8)) := ⟨f46, _, ok_rex F46 T gx cNul cRnm cRnu cRhd cRix b46 m46 8, b46, k46, m46⟩
  have cRts : Cal l.prog w K mg base CX0 27 "read_test" ["part"] (spX K 1 (dRts 8)) := ⟨f47, _, ok_rts F47 T gx cRhd cRix cRex b47 m47 8, b47, k47, m47⟩
  have cRst : Cal l.prog w K mg base CX0 62 "read_statement" ["part"] (spX K 1 (dRst 16)) := ⟨f48, _, ok_rst F48 T gx cRls cRnm cRhd cRix cRpl cRex cRts b48 m48 F49 b49 m49 16, b48, k48, m48⟩
  have cRbd : Cal l.prog w K mg base CX0 63 "read_body" ["parts"] (spX K 1 (dRbd 16)) := ⟨f49, _, ok_rbd F49 T cRst, b49, k49, m49⟩
  have cRva : Cal l.prog w K mg base CX0 4 "read_variable" ["parts"] (spX K 1 dRva) := ⟨f50, _, ok_rva F50 T gx cRnm cRnu, b50, k50, m50⟩
  have cRre : Cal l.prog w K mg base CX0 5 "read_reference" ["part"] (spX K 1 dRre) := ⟨f51, _, ok_rre F51 T cRls cRva, b51, k51, m51⟩
  have cRpr : Cal l.prog w K mg base CX0 64 "read_procedure" ["parts"] (spX K 1 dRpr) := ⟨f52, _, ok_rpr F52 T cRls cRnm cRre cRbd, b52, k52, m52⟩
  have cRde : Cal l.prog w K mg base CX0 65 "read_declaration" ["head", "parts"] (spX K 2 dRde) := ⟨f53, _, ok_rde F53 cRva cRpr cRbd, b53, k53, m53⟩
  have cDbe : Cal l.prog w K mg base CX0 1 "declarations_behind" ["head"] (spX K 1 dDbe) := ⟨f54, _, ok_dbe F54 gx, b54, k54, m54⟩
  have cRp : Cal l.prog w K mg base CX0 66 "read_program" ["text"] (spRp K) := ⟨f55, _, ok_rp F55 T gx cSplit cRf cRhd cRde cDbe, b55, k55, m55⟩
  exact ok_law F56 T (PySem.W.mg_none_of X G z_repr) cDraws cTree cLwo cLli cWpr cLlo cRp
end
theorem walk {l : PySem.W.OpenLaw} {q : Program} {loose : List Str} {XP : (Str → Option Value) → Heap → Prop} {YP : World → Heap → Prop} {d : DefRec} {K : Params → PySem.W.Frag} (hn : l.most = some 63) (hdf : d.params.defaults = [])
    (hY : ∀ (w : World) (h : Heap), YP w h → (K w.params).In h)
    (F : ∀ (w : World) (mg : Str → Option Value) (fa : Addr) (h : Heap), (K w.params).In h → h.Ns mainGlobals mg → mg d.name = some (.ref fa) →
      ∃ fd : FuncData, (∀ (s : Shared) (u : Value), BindsTo s fd ⟨[u], []⟩ [("script", u)]) ∧ ∀ base : Heap, (K w.params).In base → base.Ns mainGlobals mg → Gd.GFn l.prog w (K w.params) mg base CX0 68 fa fd ["script"] (spLaw (K w.params))) :
    PySem.W.WalkO q loose XP YP l.row.toRowW d [] (fun f vs => PySem.call f vs) :=
  Gd.walk (n := 63) (k := 68) (x := "script") (CX := fun _ => CX0) (sp := fun w => spLaw (K w.params)) hn (by decide) hdf ⟨rfl, by decide, by decide⟩ hY F (fun _ _ a ns hl _ hS => ⟨a, ns, rfl, hS, hl, fun _ => rfl⟩) fun _ _ _ _ _ z => z
end Px
open PySem PySem.W PyProof.Rows
set_option maxRecDepth 100000 in
set_option maxHeartbeats 0 in
theorem PySem.Challenge.cw_countermarch_k06_whole_read_back_holds : PySem.Challenge.rw_countermarch_k06_whole_read_back.Holds := by
  w_on; o_law; k_head; (case hw => w_witness2)
  k_fill
  refine Px.walk (l := PySem.Challenge.rw_countermarch_k06_whole_read_back) rfl rfl (fun w h Y => PySem.W.kIn_of Y) ?F
  case F =>
    intro w mg fa h KX G hmg
    refine' Px.all_mk KX G hmg ?a1 ?l1 ?c1 ?k1 ?a2 ?l2 ?c2 ?k2 ?a3 ?l3 ?c3 ?k3 ?a4 ?l4 ?c4 ?k4 ?a5 ?l5 ?c5 ?k5 ?a6 ?l6 ?c6 ?k6 ?a7 ?l7 ?c7 ?k7 ?a8 ?l8 ?c8 ?k8 ?a9 ?l9 ?c9 ?k9 ?a10 ?l10 ?c10 ?k10 ?a11 ?l11 ?c11 ?k11 ?a12 ?l12 ?c12 ?k12 ?a13 ?l13 ?c13 ?k13 ?a14 ?l14 ?c14 ?k14 ?a15 ?l15 ?c15 ?k15 ?a16 ?l16 ?c16 ?k16 ?a17 ?l17 ?c17 ?k17 ?a18 ?l18 ?c18 ?k18 ?a19 ?l19 ?c19 ?k19 ?a20 ?l20 ?c20 ?k20 ?a21 ?l21 ?c21 ?k21 ?a22 ?l22 ?c22 ?k22 ?a23 ?l23 ?c23 ?k23 ?a24 ?l24 ?c24 ?k24 ?a25 ?l25 ?c25 ?k25 ?a26 ?l26 ?c26 ?k26 ?a27 ?l27 ?c27 ?k27 ?a28 ?l28 ?c28 ?k28 ?a29 ?l29 ?c29 ?k29 ?a30 ?l30 ?c30 ?k30 ?a31 ?l31 ?c31 ?k31 ?a32 ?l32 ?c32 ?k32 ?a33 ?l33 ?c33 ?k33 ?a34 ?l34 ?c34 ?k34 ?a35 ?l35 ?c35 ?k35 ?a36 ?l36 ?c36 ?k36 ?a37 ?l37 ?c37 ?k37 ?a38 ?l38 ?c38 ?k38 ?a39 ?l39 ?c39 ?k39 ?a40 ?l40 ?c40 ?k40 ?a41 ?l41 ?c41 ?k41 ?a42 ?l42 ?c42 ?k42 ?a43 ?l43 ?c43 ?k43 ?a44 ?l44 ?c44 ?k44 ?a45 ?l45 ?c45 ?k45 ?a46 ?l46 ?c46 ?k46 ?a47 ?l47 ?c47 ?k47 ?a48 ?l48 ?c48 ?k48 ?a49 ?l49 ?c49 ?k49 ?a50 ?l50 ?c50 ?k50 ?a51 ?l51 ?c51 ?k51 ?a52 ?l52 ?c52 ?k52 ?a53 ?l53 ?c53 ?k53 ?a54 ?l54 ?c54 ?k54 ?a55 ?l55 ?c55 ?k55 ?a56 ?l56 ?c56 ?k56 ?aB0 ?z_len ?z_int ?z_range ?z_tuple ?z_list ?z_str ?z_isinstance ?z_bool ?z_abs ?z_max ?z_ord ?z_enumerate ?z_repr ?z_all ?g_MAX_TEXT ?g_SPACE ?g_TILDE ?g_PERCENT ?g_MAX_FORMS ?g_MAX_SIZE ?g_PRIME ?g_MAX_INTEGER ?g_LONGEST_NAME ?g_LONGEST_NUMERAL ?aC ?xC ?saC ?bC ?tC ?kC ?iC ?jC ?lC ?cC ?uC ?yC ?vC ?oC ?mC ?pC ?dC ?eC ?wC ?gC ?nC_at ?g_LETTERS ?g_LETTERS_AND_DIGITS ?g_DIGITS ?p_RESERVED ?q_RESERVED ?p_STATEMENTS ?q_STATEMENTS ?p_EXPRESSIONS ?q_EXPRESSIONS ?p_INDEXES ?q_INDEXES ?p_TESTS ?q_TESTS ?p_DECLARATIONS ?q_DECLARATIONS ?p_PARTS ?q_PARTS ?r_PARTS ?s_PARTS ?u0 ?v0 ?u1 ?v1 ?u2 ?v2 ?u3 ?v3 ?u4 ?v4 ?u5 ?v5 ?u6 ?v6 ?u7 ?v7 ?u8 ?v8 ?u9 ?v9 ?u10 ?v10 ?u11 ?v11 ?u12 ?v12 ?u13 ?v13 ?u14 ?v14 ?u15 ?v15 ?u16 ?v16 ?u17 ?v17 ?u18 ?v18 ?u19 ?v19 ?u20 ?v20 ?u21 ?v21
    (case a1 => k_is)
    (case l1 => k_is)
    (case c1 => k_is)
    (case k1 => k_is)
    (case a2 => k_is)
    (case l2 => k_is)
    (case c2 => k_is)
    (case k2 => k_is)
    (case a3 => k_is)
    (case l3 => k_is)
    (case c3 => k_is)
    (case k3 => k_is)
    (case a4 => k_is)
    (case l4 => k_is)
    (case c4 => k_is)
    (case k4 => k_is)
    (case a5 => k_is)
    (case l5 => k_is)
    (case c5 => k_is)
    (case k5 => k_is)
    (case a6 => k_is)
    (case l6 => k_is)
    (case c6 => k_is)
    (case k6 => k_is)
    (case a7 => k_is)
    (case l7 => k_is)
    (case c7 => k_is)
    (case k7 => k_is)
    (case a8 => k_is)
    (case l8 => k_is)
    (case c8 => k_is)
    (case k8 => k_is)
    (case a9 => k_is)
    (case l9 => k_is)
    (case c9 => k_is)
    (case k9 => k_is)
    (case a10 => k_is)
    (case l10 => k_is)
    (case c10 => k_is)
    (case k10 => k_is)
    (case a11 => k_is)
    (case l11 => k_is)
    (case c11 => k_is)
    (case k11 => k_is)
    (case a12 => k_is)
    (case l12 => k_is)
    (case c12 => k_is)
    (case k12 => k_is)
    (case a13 => k_is)
    (case l13 => k_is)
    (case c13 => k_is)
    (case k13 => k_is)
    (case a14 => k_is)
    (case l14 => k_is)
    (case c14 => k_is)
    (case k14 => k_is)
    (case a15 => k_is)
    (case l15 => k_is)
    (case c15 => k_is)
    (case k15 => k_is)
    (case a16 => k_is)
    (case l16 => k_is)
    (case c16 => k_is)
    (case k16 => k_is)
    (case a17 => k_is)
    (case l17 => k_is)
    (case c17 => k_is)
    (case k17 => k_is)
    (case a18 => k_is)
    (case l18 => k_is)
    (case c18 => k_is)
    (case k18 => k_is)
    (case a19 => k_is)
    (case l19 => k_is)
    (case c19 => k_is)
    (case k19 => k_is)
    (case a20 => k_is)
    (case l20 => k_is)
    (case c20 => k_is)
    (case k20 => k_is)
    (case a21 => k_is)
    (case l21 => k_is)
    (case c21 => k_is)
    (case k21 => k_is)
    (case a22 => k_is)
    (case l22 => k_is)
    (case c22 => k_is)
    (case k22 => k_is)
    (case a23 => k_is)
    (case l23 => k_is)
    (case c23 => k_is)
    (case k23 => k_is)
    (case a24 => k_is)
    (case l24 => k_is)
    (case c24 => k_is)
    (case k24 => k_is)
    (case a25 => k_is)
    (case l25 => k_is)
    (case c25 => k_is)
    (case k25 => k_is)
    (case a26 => k_is)
    (case l26 => k_is)
    (case c26 => k_is)
    (case k26 => k_is)
    (case a27 => k_is)
    (case l27 => k_is)
    (case c27 => k_is)
    (case k27 => k_is)
    (case a28 => k_is)
    (case l28 => k_is)
    (case c28 => k_is)
    (case k28 => k_is)
    (case a29 => k_is)
    (case l29 => k_is)
    (case c29 => k_is)
    (case k29 => k_is)
    (case a30 => k_is)
    (case l30 => k_is)
    (case c30 => k_is)
    (case k30 => k_is)
    (case a31 => k_is)
    (case l31 => k_is)
    (case c31 => k_is)
    (case k31 => k_is)
    (case a32 => k_is)
    (case l32 => k_is)
    (case c32 => k_is)
    (case k32 => k_is)
    (case a33 => k_is)
    (case l33 => k_is)
    (case c33 => k_is)
    (case k33 => k_is)
    (case a34 => k_is)
    (case l34 => k_is)
    (case c34 => k_is)
    (case k34 => k_is)
    (case a35 => k_is)
    (case l35 => k_is)
    (case c35 => k_is)
    (case k35 => k_is)
    (case a36 => k_is)
    (case l36 => k_is)
    (case c36 => k_is)
    (case k36 => k_is)
    (case a37 => k_is)
    (case l37 => k_is)
    (case c37 => k_is)
    (case k37 => k_is)
    (case a38 => k_is)
    (case l38 => k_is)
    (case c38 => k_is)
    (case k38 => k_is)
    (case a39 => k_is)
    (case l39 => k_is)
    (case c39 => k_is)
    (case k39 => k_is)
    (case a40 => k_is)
    (case l40 => k_is)
    (case c40 => k_is)
    (case k40 => k_is)
    (case a41 => k_is)
    (case l41 => k_is)
    (case c41 => k_is)
    (case k41 => k_is)
    (case a42 => k_is)
    (case l42 => k_is)
    (case c42 => k_is)
    (case k42 => k_is)
    (case a43 => k_is)
    (case l43 => k_is)
    (case c43 => k_is)
    (case k43 => k_is)
    (case a44 => k_is)
    (case l44 => k_is)
    (case c44 => k_is)
    (case k44 => k_is)
    (case a45 => k_is)
    (case l45 => k_is)
    (case c45 => k_is)
    (case k45 => k_is)
    (case a46 => k_is)
    (case l46 => k_is)
    (case c46 => k_is)
    (case k46 => k_is)
    (case a47 => k_is)
    (case l47 => k_is)
    (case c47 => k_is)
    (case k47 => k_is)
    (case a48 => k_is)
    (case l48 => k_is)
    (case c48 => k_is)
    (case k48 => k_is)
    (case a49 => k_is)
    (case l49 => k_is)
    (case c49 => k_is)
    (case k49 => k_is)
    (case a50 => k_is)
    (case l50 => k_is)
    (case c50 => k_is)
    (case k50 => k_is)
    (case a51 => k_is)
    (case l51 => k_is)
    (case c51 => k_is)
    (case k51 => k_is)
    (case a52 => k_is)
    (case l52 => k_is)
    (case c52 => k_is)
    (case k52 => k_is)
    (case a53 => k_is)
    (case l53 => k_is)
    (case c53 => k_is)
    (case k53 => k_is)
    (case a54 => k_is)
    (case l54 => k_is)
    (case c54 => k_is)
    (case k54 => k_is)
    (case a55 => k_is)
    (case l55 => k_is)
    (case c55 => k_is)
    (case k55 => k_is)
    (case a56 => k_is)
    (case l56 => k_is)
    (case c56 => k_is)
    (case k56 => k_is)
    (case aB0 => k_is)
    (case z_len => k_is)
    (case z_int => k_is)
    (case z_range => k_is)
    (case z_tuple => k_is)
    (case z_list => k_is)
    (case z_str => k_is)
    (case z_isinstance => k_is)
    (case z_bool => k_is)
    (case z_abs => k_is)
    (case z_max => k_is)
    (case z_ord => k_is)
    (case z_enumerate => k_is)
    (case z_repr => k_is)
    (case z_all => k_is)
    (case g_MAX_TEXT => k_is)
    (case g_SPACE => k_is)
    (case g_TILDE => k_is)
    (case g_PERCENT => k_is)
    (case g_MAX_FORMS => k_is)
    (case g_MAX_SIZE => k_is)
    (case g_PRIME => k_is)
    (case g_MAX_INTEGER => k_is)
    (case g_LONGEST_NAME => k_is)
    (case g_LONGEST_NUMERAL => k_is)
    (case aC => k_is)
    (case xC => k_is)
    (case saC => k_is)
    (case bC => k_is)
    (case tC => k_is)
    (case kC => k_is)
    (case iC => k_is)
    (case jC => k_is)
    (case lC => k_is)
    (case cC => k_is)
    (case uC => first | ks_is | k_is)
    (case yC => k_is)
    (case vC => k_is)
    (case oC => k_is)
    (case mC => k_is)
    (case pC => k_is)
    (case dC => k_is)
    (case eC => rfl)
    (case wC => first | rfl | decide +kernel)
    (case gC => first | rfl | decide +kernel)
    (case nC_at => k_is)
    (case g_LETTERS => k_is)
    (case g_LETTERS_AND_DIGITS => k_is)
    (case g_DIGITS => k_is)
    (case p_RESERVED => k_is)
    (case q_RESERVED => k_is)
    (case p_STATEMENTS => k_is)
    (case q_STATEMENTS => k_is)
    (case p_EXPRESSIONS => k_is)
    (case q_EXPRESSIONS => k_is)
    (case p_INDEXES => k_is)
    (case q_INDEXES => k_is)
    (case p_TESTS => k_is)
    (case q_TESTS => k_is)
    (case p_DECLARATIONS => k_is)
    (case q_DECLARATIONS => k_is)
    (case p_PARTS => k_is)
    (case q_PARTS => k_is)
    (case r_PARTS => exact ⟨⟨_, _, rfl, rfl⟩, ⟨_, _, rfl, rfl⟩, ⟨_, _, rfl, rfl⟩, ⟨_, _, rfl, rfl⟩, ⟨_, _, rfl, rfl⟩, ⟨_, _, rfl, rfl⟩, ⟨_, _, rfl, rfl⟩, ⟨_, _, rfl, rfl⟩, ⟨_, _, rfl, rfl⟩, ⟨_, _, rfl, rfl⟩, ⟨_, _, rfl, rfl⟩, ⟨_, _, rfl, rfl⟩, ⟨_, _, rfl, rfl⟩, ⟨_, _, rfl, rfl⟩, ⟨_, _, rfl, rfl⟩, ⟨_, _, rfl, rfl⟩, ⟨_, _, rfl, rfl⟩, ⟨_, _, rfl, rfl⟩, ⟨_, _, rfl, rfl⟩, ⟨_, _, rfl, rfl⟩, ⟨_, _, rfl, rfl⟩, ⟨_, _, rfl, rfl⟩, trivial⟩)
    (case s_PARTS => first | rfl | decide +kernel)
    (case u0 => k_is)
    (case v0 => k_is)
    (case u1 => k_is)
    (case v1 => k_is)
    (case u2 => k_is)
    (case v2 => k_is)
    (case u3 => k_is)
    (case v3 => k_is)
    (case u4 => k_is)
    (case v4 => k_is)
    (case u5 => k_is)
    (case v5 => k_is)
    (case u6 => k_is)
    (case v6 => k_is)
    (case u7 => k_is)
    (case v7 => k_is)
    (case u8 => k_is)
    (case v8 => k_is)
    (case u9 => k_is)
    (case v9 => k_is)
    (case u10 => k_is)
    (case v10 => k_is)
    (case u11 => k_is)
    (case v11 => k_is)
    (case u12 => k_is)
    (case v12 => k_is)
    (case u13 => k_is)
    (case v13 => k_is)
    (case u14 => k_is)
    (case v14 => k_is)
    (case u15 => k_is)
    (case v15 => k_is)
    (case u16 => k_is)
    (case v16 => k_is)
    (case u17 => k_is)
    (case v17 => k_is)
    (case u18 => k_is)
    (case v18 => k_is)
    (case u19 => k_is)
    (case v19 => k_is)
    (case u20 => k_is)
    (case v20 => k_is)
    (case u21 => k_is)
    (case v21 => k_is)
#print axioms PySem.Challenge.cw_countermarch_k06_whole_read_back_holds

