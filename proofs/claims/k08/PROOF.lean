import PyProof.Rows.All
import Wide.All
import OpenK.AllK
import Wide.FinOn
import HandS.Base
import HandS.Call
import HandS.List
import HandS.Comp
import HandS.Ends
import HandS.Exc
import HandS.TryOnly
import HandS.ExcOwn
import HandS.Words
import HandS.WordsList
import HandS.WordsExc
import HandS.Flow
import HandS.Wide
import HandS.Style
import HandS.IsInst
import HandS.ExcIs
import KE.RegKIsAll
import HandS.Walk
import HandS.ExcInit
import HandS.ExcField
import HandS.FStr
import HandS.FStrTup
import KE.KExcSuper
import KE.KExcIs
import HandS.Text
import HandS.TupAny
import HandS.Evl
import HandS.Dict
import HandS.DictSub
import HandS.WordsDict
import KE.DatumOrd
import KE.GoesEnum
import HandS.Zip0
import HandS.Zip
import HandS.Conv
import HandS.Deep
import HandS.Rev
import HandS.RevRange
import HandS.DictComp
import HandS.TryMany
import HandS.CallSlots
import HandS.SuiteRaise
import HandS.RaiseFrom
import HandS.RaiseMore
import HandS.Strs
import HandS.NoneIn
import HandS.Codes
import KE.KStateDown
import KE.KDictKeyed
import KE.KDictDisplayH
import HandS.Head4
import HandS.HeadHook1
import HandS.HeadHook2
import HandS.HeadHook3
import HandS.HeadHook4
import KE.DataEq
import KE.KDictZip
import HandS.ListItems
import PySem.Challenge.RW_countermarch_k08_cells_and_variables
set_option Elab.async false
set_option linter.all false
set_option maxRecDepth 100000
set_option maxHeartbeats 4000000
set_option synthInstance.maxSize 4000
set_option synthInstance.maxHeartbeats 2000000
/-! ## An evaluator for the text: values, a store of what changes, actions -/
namespace Ev
open PySem L2
inductive W where
  | non | bl (b : Bool) | int (i : Int) | str (s : Str) | tup (ws : List W) | ref (n : Nat) | glo (x : Str) | ty (n : String) | fzl (ws : List W)
  deriving Inhabited
/-- what changes: lists, dicts, instances of the program's own classes -/
inductive SO where
  | lst (ws : List W) | dic (kvs : List (Key × W)) | ins (c : Str) (fs : List (Str × W))
  deriving Inhabited
abbrev Sto := List SO
/-- an exception: its class, its attributes -/
structure Xn where
  c : Str
  fs : List (Str × W)
inductive Res (α : Type) where
  | ok (a : α) (S : Sto) | er (x : Xn) (S : Sto) | no
abbrev M (α : Type) := Sto → Res α
def ret {α : Type} (a : α) : M α := fun S => .ok a S
def bd {α β : Type} (a : M α) (f : α → M β) : M β := fun S => match a S with | .ok x T => f x T | .er x T => .er x T | .no => .no
def fail {α : Type} : M α := fun _ => .no
/-- what o gives, or nothing is said -/
def opt {α : Type} (o : Option α) : M α := match o with | some a => ret a | none => fail
def guard (b : Bool) {α : Type} (a : M α) : M α := if b = true then a else fail
/-- the slots -/
abbrev Rho := List (Option W)
abbrev A := Rho → M W
abbrev AL := Rho → M (List W)
abbrev AT := Rho → M Bool
/-! ### the store -/
def new (o : SO) : M W := fun S => .ok (.ref S.length) (S ++ [o])
def put (i : Nat) (o : SO) : M Unit := fun S => .ok () (S.set i o)
def lstAt (S : Sto) (i : Nat) : Option (List W) := match S[i]? with | some (.lst ws) => some ws | _ => none
def dicAt (S : Sto) (i : Nat) : Option (List (Key × W)) := match S[i]? with | some (.dic kvs) => some kvs | _ => none
def insAt (S : Sto) (i : Nat) : Option (Str × List (Str × W)) := match S[i]? with | some (.ins c fs) => some (c, fs) | _ => none
/-- the items of a list or a tuple -/
def seqAt (S : Sto) : W → Option (List W)
  | .tup ws => some ws
  | .ref i => lstAt S i
  | _ => none
def getL (i : Nat) : M (List W) := fun S => opt (lstAt S i) S
def seqM (w : W) : M (List W) := fun S => opt (seqAt S w) S
/-! ### simple actions -/
def lim : Nat := 10000000
def aVar (i : Nat) : A := fun ρ S => match ρ[i]? with | some (some w) => .ok w S | _ => .no
def aC (w : W) : A := fun _ => ret w
def aNil : AL := fun _ => ret []
def aCons (a : A) (l : AL) : AL := fun ρ => bd (a ρ) fun w => bd (l ρ) fun ws => ret (w :: ws)
def short (n : Nat) : Bool := decide (n ≤ lim)
def aTup (l : AL) : A := fun ρ => bd (l ρ) fun ws => guard (short ws.length) (ret (.tup ws))
def aLst (l : AL) : A := fun ρ => bd (l ρ) fun ws => guard (short ws.length) (new (.lst ws))
def aOp (f : W → W → M W) (a b : A) : A := fun ρ => bd (a ρ) fun x => bd (b ρ) fun y => f x y
def aUn (f : W → M W) (a : A) : A := fun ρ => bd (a ρ) f
def aCallF (f : List W → M W) (l : AL) : A := fun ρ => bd (l ρ) f
def aIf (t : AT) (a b : A) : A := fun ρ => bd (t ρ) fun c => if c = true then a ρ else b ρ
/-! ### truth -/
def truth (S : Sto) : W → Option Bool
  | .non => some false
  | .bl b => some b
  | .int i => some (i != 0)
  | .str s => if s.length ≤ lim then some ((s.length : Int) != 0) else none
  | .tup ws => some (!ws.isEmpty)
  | .ref n => match S[n]? with | some (.lst ws) => some (!ws.isEmpty) | some (.dic kvs) => some (!kvs.isEmpty) | _ => none
  | _ => none
def truthM (w : W) : M Bool := fun S => opt (truth S w) S
def tOf (a : A) : AT := fun ρ => bd (a ρ) truthM
def boolM : W → M Bool
  | .bl b => ret b
  | _ => fail
def tBool (a : A) : AT := fun ρ => bd (a ρ) boolM
def tAnd (t u : AT) : AT := fun ρ => bd (t ρ) fun c => if c = true then u ρ else ret false
def tOr (t u : AT) : AT := fun ρ => bd (t ρ) fun c => if c = true then ret true else u ρ
def tNot (t : AT) : AT := fun ρ => bd (t ρ) fun c => ret (!c)
def aAnd (a b : A) : A := fun ρ => bd (a ρ) fun x => bd (truthM x) fun c => if c = true then b ρ else ret x
def aOr (a b : A) : A := fun ρ => bd (a ρ) fun x => bd (truthM x) fun c => if c = true then ret x else b ρ
def aNot (a : A) : A := fun ρ => bd (a ρ) fun x => bd (truthM x) fun c => ret (.bl (!c))
/-! ### arithmetic -/
def addW : W → W → M W
  | .int i, .int j => ret (.int (i + j))
  | .str a, .str b => guard (short (a.length + b.length)) (ret (.str (a ++ b)))
  | .tup a, .tup b => guard (short (a.length + b.length)) (ret (.tup (a ++ b)))
  | .ref i, .ref j => bd (getL i) fun a => bd (getL j) fun b => guard (short (a.length + b.length)) (new (.lst (a ++ b)))
  | _, _ => fail
def subW : W → W → M W
  | .int i, .int j => ret (.int (i - j))
  | _, _ => fail
def in64 (i : Int) : Bool := decide (-(2 ^ 64) < i) && decide (i < 2 ^ 64)
def mulW : W → W → M W
  | .int i, .int j => guard (in64 i || in64 j) (ret (.int (i * j)))
  | _, _ => fail
def divW : W → W → M W
  | .int i, .int j => guard (decide (0 < j) && decide (j < 1073741824)) (ret (.int (i / j)))
  | _, _ => fail
def modW : W → W → M W
  | .int i, .int j => guard (decide (0 < j)) (ret (.int (i % j)))
  | _, _ => fail
def powW : W → W → M W
  | .int i, .int j => guard (decide (0 ≤ j) && decide (j ≤ 1000000) && decide (i.natAbs < 2 ^ 64)) (ret (.int (i ^ j.toNat)))
  | _, _ => fail
def negW : W → M W
  | .int i => ret (.int (-i))
  | _ => fail
/-! ### equality: flat values, and data with tuples and lists -/
def datN : Nat → Sto → W → Option PyData
  | 0, _, _ => none
  | _ + 1, _, .non => some .none
  | _ + 1, _, .bl b => some (.bool b)
  | _ + 1, _, .int i => some (.int i)
  | _ + 1, _, .str s => some (.str s)
  | n + 1, S, .tup ws => (ws.mapM (datN n S)).map .tuple
  | n + 1, S, .ref i => match lstAt S i with | some ws => (ws.mapM (datN n S)).map .list | none => none
  | _, _, _ => none
def dat (S : Sto) (w : W) : Option PyData := match datN 70 S w with | some d => if SeqAt.shaped d = true then some d else none | none => none
def flat : W → Bool
  | .non => true | .bl _ => true | .int _ => true | .str _ => true
  | _ => false
def eqF : W → W → Bool
  | .non, .non => true
  | .bl a, .bl b => a == b
  | .bl a, .int b => (if a then 1 else 0) == b
  | .int a, .bl b => a == (if b then 1 else 0)
  | .int a, .int b => a == b
  | .str a, .str b => a == b
  | _, _ => false
def eqW (x y : W) : M Bool := fun S => match x, y with
  | .str a, .str b => .ok (decide (a = b)) S
  | .int a, .int b => .ok (decide (a = b)) S
  | .bl a, .bl b => .ok (decide (a = b)) S
  | .non, .non => .ok true S
  | .int _, .str _ => .ok false S
  | .str _, .int _ => .ok false S
  | .bl _, .str _ => .ok false S
  | .str _, .bl _ => .ok false S
  | .non, .int _ => .ok false S
  | .int _, .non => .ok false S
  | .non, .bl _ => .ok false S
  | .bl _, .non => .ok false S
  | .non, .str _ => .ok false S
  | .str _, .non => .ok false S
  | _, _ => match dat S x, dat S y with | some d, some e => .ok (PyData.eqv d e) S | _, _ => .no
def cmpI (f : Int → Int → Bool) : W → W → M W
  | .int i, .int j => ret (.bl (f i j))
  | _, _ => fail
def isNo : W → Bool
  | .non => true
  | _ => false
def isW (x : W) : W → M W
  | .non => ret (.bl (isNo x))
  | _ => fail
def isnW (x : W) : W → M W
  | .non => ret (.bl (!isNo x))
  | _ => fail
def eqO (x y : W) : M W := bd (eqW x y) fun b => ret (.bl b)
def neO (x y : W) : M W := bd (eqW x y) fun b => ret (.bl (!b))
/-! ### keys -/
def keyW : W → Option Key
  | .int i => some (.inl i)
  | .str s => some (.inr s)
  | _ => none
def valK (kvs : List (Key × W)) (k : Key) : Option W := (kvs.find? fun kv => decide (kv.1 = k)).map (·.2)
def putKW (kvs : List (Key × W)) (k : Key) (v : W) : List (Key × W) := if (kvs.any fun kv => decide (kv.1 = k)) = true then kvs.map (fun kv => if kv.1 = k then (kv.1, v) else kv) else kvs ++ [(k, v)]
def dropKW (kvs : List (Key × W)) (k : Key) : List (Key × W) := kvs.filter fun kv => !decide (kv.1 = k)
/-- a part of a text -/
def inStr (a b : Str) : Bool := !(Builtin.Str.occurrences b a 0 b.length 1).isEmpty
/-- x in y: a text, a list or tuple of flat things, a list of data, a dict -/
def inM (x y : W) : M Bool := fun S => match y with
  | .str b => (match x with | .str a => .ok (inStr a b) S | _ => .no)
  | .tup ws => if (flat x && ws.all flat) = true then .ok (ws.any fun z => eqF z x) S else (match dat S x, dat S (.tup ws) with | some d, some (.tuple ds) => .ok (ds.any fun z => PyData.eqv z d) S | _, _ => .no)
  | .ref i => (match S[i]? with
    | some (.lst ws) => if (flat x && ws.all flat) = true then .ok (ws.any fun z => eqF z x) S else (match dat S x, dat S (.ref i) with | some d, some (.list ds) => .ok (ds.any fun z => PyData.eqv z d) S | _, _ => .no)
    | some (.dic kvs) => (match keyW x with | some k => .ok (valK kvs k).isSome S | none => .no)
    | _ => .no)
  | _ => .no
/-! ### parts -/
def chr1 (c : Nat) : W := .str ⟨#[c]⟩
def ixW (x y : W) : M W := fun S => match x with
  | .fzl ws => (match y with | .int i => opt (atI ws i) S | _ => .no)
  | .tup ws => (match y with | .int i => opt (atI ws i) S | _ => .no)
  | .str z => (match y with | .int i => if z.length ≤ lim then opt ((atI z.cps.toList i).map chr1) S else .no | _ => .no)
  | .ref n => (match S[n]? with
    | some (.lst ws) => (match y with | .int i => opt (atI ws i) S | _ => .no)
    | some (.dic kvs) => (match keyW y with | some k => opt (valK kvs k) S | none => .no)
    | _ => .no)
  | _ => .no
def cutW (xs : List W) (lo hi : Option Int) : List W := (xs.drop (HT.sIx xs.length 0 lo)).take (HT.sIx xs.length xs.length hi - HT.sIx xs.length 0 lo)
def intO : W → M (Option Int)
  | .int i => ret (some i)
  | _ => fail
/-- a bound of a slice -/
abbrev AO := Rho → M (Option Int)
def oNone : AO := fun _ => ret none
def oSome (a : A) : AO := fun ρ => bd (a ρ) intO
def slW (x : W) (lo hi : Option Int) : M W := fun S => match x with
  | .fzl ws => new (.lst (cutW ws lo hi)) S
  | .tup ws => .ok (.tup (cutW ws lo hi)) S
  | .ref n => (match lstAt S n with | some ws => new (.lst (cutW ws lo hi)) S | none => .no)
  | _ => .no
def aSl (a : A) (l h : AO) : A := fun ρ => bd (a ρ) fun x => bd (l ρ) fun lo => bd (h ρ) fun hi => slW x lo hi
def revW (x : W) : M W := fun S => match x with
  | .ref n => (match lstAt S n with | some ws => new (.lst ws.reverse) S | none => .no)
  | _ => .no
def fldW (ok : Str → Bool) (f : Str) (x : W) : M W := fun S => match x with
  | .ref n => (match insAt S n with | some (c, fs) => if ok c = true then opt (fs.lookup f) S else .no | none => .no)
  | _ => .no
def inO (x y : W) : M W := bd (inM x y) fun b => ret (.bl b)
def ninO (x y : W) : M W := bd (inM x y) fun b => ret (.bl (!b))
end Ev

/-! ## The evaluator's values and store over the heap -/
namespace Ev
open PySem L2 PyProof.Rows
/-- what is known of the whole text -/
structure Wd where
  K : PySem.W.Frag
  mg : Str → Option Value
/-- a list that nobody changes -/
def SqF (K : PySem.W.Frag) (H : Hp) (a : Addr) (xs : List V) : Prop := (∃ o, H a = some (.frz o (.lst xs))) ∨ ∃ o its n, K.lookup a = some o ∧ o.cls = .type "list" ∧ o.dict = none ∧ o.data = .seq its n ∧ its.size ≤ sizeLine ∧ Vals xs its.toList
theorem SqF.l {K : PySem.W.Frag} {H : Hp} {a : Addr} {xs : List V} (h : SqF K H a xs) : SqL K H a xs := h.elim (fun ⟨o, h⟩ => .inl (.inr ⟨o, h⟩)) .inr
mutual
def Va (G : Wd) (m : List Addr) (H : Hp) : W → V → Prop
  | .non, v => v = .non
  | .bl b, v => v = .bl b
  | .int i, v => v = .int i
  | .str s, v => v = .str s
  | .tup ws, v => ∃ a xs, v = .ref a ∧ SqT G.K H a xs ∧ VaL G m H ws xs
  | .ref n, v => ∃ a, m[n]? = some a ∧ v = .ref a
  | .glo x, v => ∃ a, G.mg x = some (.ref a) ∧ v = .ref a
  | .ty n, v => v = .ty n
  | .fzl ws, v => ∃ a xs, v = .ref a ∧ SqF G.K H a xs ∧ VaL G m H ws xs
def VaL (G : Wd) (m : List Addr) (H : Hp) : List W → List V → Prop
  | [], vs => vs = []
  | w :: ws, vs => ∃ x xs, vs = x :: xs ∧ Va G m H w x ∧ VaL G m H ws xs
end
/-- the map grows, by what is new; no tuple is lost; what is not in the map stays -/
structure Ex0 (G : Wd) (m : List Addr) (H : Hp) (m' : List Addr) (H' : Hp) : Prop where
  pre : ∃ t, m' = m ++ t
  tup : ∀ a xs, SqT G.K H a xs → SqT G.K H' a xs
  fz : ∀ a xs, SqF G.K H a xs → SqF G.K H' a xs
structure Ext (G : Wd) (m : List Addr) (H : Hp) (m' : List Addr) (H' : Hp) : Prop extends Ex0 G m H m' H' where
  frame : ∀ a u, H a = some u → a ∉ m' → H' a = some u
  new : ∀ a, a ∈ m' → a ∈ m ∨ H a = none
section
variable {G : Wd} {m m' m1 m2 : List Addr} {H H' H1 H2 : Hp}
theorem Ext.refl : Ext G m H m H := ⟨⟨⟨[], by simp⟩, fun _ _ h => h, fun _ _ h => h⟩, fun _ _ h _ => h, fun _ h => .inl h⟩
theorem Ext.sub (a : Ext G m H m1 H1) {x : Addr} (h : x ∈ m) : x ∈ m1 := by
  obtain ⟨t, rfl⟩ := a.pre
  exact List.mem_append_left _ h
theorem Ext.trans (a : Ext G m H m1 H1) (b : Ext G m1 H1 m2 H2) : Ext G m H m2 H2 := ⟨⟨by
  obtain ⟨t, rfl⟩ := a.pre
  obtain ⟨u, rfl⟩ := b.pre
  exact ⟨t ++ u, by simp⟩, fun x xs h => b.tup x xs (a.tup x xs h), fun x xs h => b.fz x xs (a.fz x xs h)⟩, fun x u h n => b.frame x u (a.frame x u h fun z => n (b.sub z)) n, fun x h => by
    rcases b.new x h with h1 | h1
    · exact a.new x h1
    · by_cases c : x ∈ m1
      · exact a.new x c
      · refine .inr ?_
        cases e : H x with
        | none => rfl
        | some u =>
          rw [a.frame x u e c] at h1
          cases h1⟩
theorem Ex0.get {i : Nat} {a : Addr} (e : Ex0 G m H m' H') (h : m[i]? = some a) : m'[i]? = some a := by
  obtain ⟨t, rfl⟩ := e.pre
  rw [List.getElem?_append_left (List.getElem?_eq_some_iff.mp h).1]
  exact h
mutual
theorem Va.ex0 (e : Ex0 G m H m' H') : ∀ {w : W} {v : V}, Va G m H w v → Va G m' H' w v
  | .non, _, h => h
  | .bl _, _, h => h
  | .int _, _, h => h
  | .str _, _, h => h
  | .tup ws, _, h => by
    obtain ⟨a, xs, e1, s, l⟩ := h
    exact ⟨a, xs, e1, e.tup a xs s, VaL.ex0 e l⟩
  | .ref n, _, h => by
    obtain ⟨a, h1, h2⟩ := h
    exact ⟨a, e.get h1, h2⟩
  | .glo _, _, h => h
  | .ty _, _, h => h
  | .fzl ws, _, h => by
    obtain ⟨a, xs, e1, s, l⟩ := h
    exact ⟨a, xs, e1, e.fz a xs s, VaL.ex0 e l⟩
theorem VaL.ex0 (e : Ex0 G m H m' H') : ∀ {ws : List W} {vs : List V}, VaL G m H ws vs → VaL G m' H' ws vs
  | [], _, h => h
  | w :: ws, _, h => by
    obtain ⟨x, xs, e1, t, l⟩ := h
    exact ⟨x, xs, e1, Va.ex0 e t, VaL.ex0 e l⟩
end
theorem Va.ext (e : Ext G m H m' H') {w : W} {v : V} (h : Va G m H w v) : Va G m' H' w v := h.ex0 e.toEx0
theorem VaL.ext (e : Ext G m H m' H') {ws : List W} {vs : List V} (h : VaL G m H ws vs) : VaL G m' H' ws vs := h.ex0 e.toEx0
theorem VaL.len : ∀ {ws : List W} {vs : List V}, VaL G m H ws vs → vs.length = ws.length
  | [], _, h => by subst h; rfl
  | w :: ws, _, h => by
    obtain ⟨x, xs, rfl, _, l⟩ := h
    rw [List.length_cons, List.length_cons, l.len]
theorem VaL.get : ∀ {ws : List W} {vs : List V} {j : Nat} {w : W}, VaL G m H ws vs → ws[j]? = some w → ∃ x, vs[j]? = some x ∧ Va G m H w x
  | [], _, _, _, _, e => by simp at e
  | w :: ws, _, 0, _, h, e => by
    obtain ⟨x, xs, rfl, t, l⟩ := h
    simp at e
    subst e
    exact ⟨x, rfl, t⟩
  | w :: ws, _, j + 1, e', h, e => by
    obtain ⟨x, xs, rfl, t, l⟩ := h
    obtain ⟨y, h1, h2⟩ := VaL.get (j := j) l (by simpa using e)
    exact ⟨y, by simpa using h1, h2⟩
theorem VaL.none_of {ws : List W} {vs : List V} {j : Nat} (l : VaL G m H ws vs) (h : ws[j]? = none) : vs.length ≤ j := by
  rw [l.len]
  exact List.getElem?_eq_none_iff.mp h
theorem VaL.app : ∀ {ws us : List W} {xs ys : List V}, VaL G m H ws xs → VaL G m H us ys → VaL G m H (ws ++ us) (xs ++ ys)
  | [], _, _, _, h, g => by subst h; exact g
  | w :: ws, _, _, _, h, g => by
    obtain ⟨x, xs, rfl, t, l⟩ := h
    exact ⟨x, _, rfl, t, VaL.app l g⟩
theorem VaL.drop : ∀ {ws : List W} {xs : List V} (n : Nat), VaL G m H ws xs → VaL G m H (ws.drop n) (xs.drop n)
  | _, _, 0, h => h
  | [], _, n + 1, h => by subst h; rfl
  | w :: ws, _, n + 1, h => by
    obtain ⟨x, xs, rfl, _, l⟩ := h
    exact VaL.drop n l
theorem VaL.take : ∀ {ws : List W} {xs : List V} (n : Nat), VaL G m H ws xs → VaL G m H (ws.take n) (xs.take n)
  | _, _, 0, h => rfl
  | [], _, n + 1, h => by subst h; rfl
  | w :: ws, _, n + 1, h => by
    obtain ⟨x, xs, rfl, t, l⟩ := h
    exact ⟨x, _, rfl, t, VaL.take n l⟩
theorem VaL.set {u : W} {y : V} (t' : Va G m H u y) : ∀ {ws : List W} {xs : List V} (n : Nat), VaL G m H ws xs → VaL G m H (ws.set n u) (xs.set n y)
  | [], _, _, h => by subst h; rfl
  | w :: ws, _, 0, h => by
    obtain ⟨x, xs, rfl, t, l⟩ := h
    exact ⟨y, xs, rfl, t', l⟩
  | w :: ws, _, n + 1, h => by
    obtain ⟨x, xs, rfl, t, l⟩ := h
    exact ⟨x, _, rfl, t, VaL.set t' n l⟩
theorem VaL.one {w : W} {x : V} (t : Va G m H w x) : VaL G m H [w] [x] := ⟨x, [], rfl, t, rfl⟩
theorem VaL.isEmpty {ws : List W} {xs : List V} (l : VaL G m H ws xs) : xs.isEmpty = ws.isEmpty := by
  have := l.len
  cases ws <;> cases xs <;> simp_all
theorem VaL.reverse : ∀ {ws : List W} {xs : List V}, VaL G m H ws xs → VaL G m H ws.reverse xs.reverse
  | [], _, h => by subst h; rfl
  | w :: ws, _, h => by
    obtain ⟨x, xs, rfl, t, l⟩ := h
    rw [List.reverse_cons, List.reverse_cons]
    exact l.reverse.app (.one t)
end
/-! ### the store -/
/-- pairs of a name or a key and a value -/
def KvL {κ : Type} (G : Wd) (m : List Addr) (H : Hp) (fs : List (κ × W)) (gs : List (κ × V)) : Prop := gs.map (·.1) = fs.map (·.1) ∧ VaL G m H (fs.map (·.2)) (gs.map (·.2))
def Ob (G : Wd) (m : List Addr) (H : Hp) (a : Addr) : SO → Prop
  | .lst ws => ∃ xs, H a = some (.lst xs) ∧ VaL G m H ws xs
  | .dic kvs => ∃ ks, H a = some (.dK ks) ∧ KvL G m H kvs ks
  | .ins c fs => ∃ C dx gs, G.mg c = some (.ref C) ∧ H a = some (.ins C dx gs) ∧ KvL G m H fs gs
structure Rel (G : Wd) (m : List Addr) (H : Hp) (S : Sto) : Prop where
  len : m.length = S.length
  nd : m.Nodup
  at_ : ∀ (i : Nat) (a : Addr) (o : SO), m[i]? = some a → S[i]? = some o → Ob G m H a o
structure Sr (G : Wd) (m : List Addr) (ρ : Rho) (S : Sto) (σ : L2.St) (H : Hp) : Prop where
  rel : Rel G m H S
  len : σ.length = ρ.length
  at_ : ∀ (i : Nat) (w : W), ρ[i]? = some (some w) → ∃ v, σ[i]? = some (some v) ∧ Va G m H w v
section
variable {G : Wd} {m m' m1 m2 : List Addr} {H H' H1 H2 : Hp} {S S' : Sto} {ρ : Rho} {σ : L2.St} {κ : Type} [DecidableEq κ]
theorem KvL.ex0 {fs : List (κ × W)} {gs : List (κ × V)} (e : Ex0 G m H m' H') (h : KvL G m H fs gs) : KvL G m' H' fs gs := ⟨h.1, h.2.ex0 e⟩
theorem KvL.ext {fs : List (κ × W)} {gs : List (κ × V)} (e : Ext G m H m' H') (h : KvL G m H fs gs) : KvL G m' H' fs gs := ⟨h.1, h.2.ext e⟩
theorem KvL.nil : KvL (κ := κ) G m H [] [] := ⟨rfl, rfl⟩
theorem KvL.cons {k : κ} {w : W} {fs : List (κ × W)} {gs : List (κ × V)} (h : KvL G m H ((k, w) :: fs) gs) : ∃ v r, gs = (k, v) :: r ∧ Va G m H w v ∧ KvL G m H fs r := by
  obtain ⟨h1, h2⟩ := h
  cases gs with
  | nil => cases h1
  | cons p r =>
    obtain ⟨j, v⟩ := p
    rw [List.map_cons, List.map_cons] at h1
    obtain ⟨e1, e2⟩ := List.cons.inj h1
    have e1' : j = k := e1
    subst e1'
    obtain ⟨x, xs, e3, t, l⟩ := h2
    have e3' : v :: r.map (·.2) = x :: xs := e3
    cases e3'
    exact ⟨v, r, rfl, t, e2, l⟩
theorem KvL.mk {k : κ} {w : W} {v : V} {fs : List (κ × W)} {gs : List (κ × V)} (t : Va G m H w v) (h : KvL G m H fs gs) : KvL G m H ((k, w) :: fs) ((k, v) :: gs) := ⟨by
  rw [List.map_cons, List.map_cons, h.1], v, gs.map (·.2), rfl, t, h.2⟩
theorem KvL.len {fs : List (κ × W)} {gs : List (κ × V)} (h : KvL G m H fs gs) : gs.length = fs.length := by
  have := congrArg List.length h.1
  simpa using this
theorem sqT_same {K : PySem.W.Frag} (h : Same H H') : ∀ a xs, SqT K H a xs → SqT K H' a xs := fun a xs q => by
  rcases q with (q | ⟨o, q⟩) | q
  · exact .inl (.inl (h a _ q))
  · exact .inl (.inr ⟨o, h a _ q⟩)
  · exact .inr q
theorem sqF_same {K : PySem.W.Frag} (h : Same H H') : ∀ a xs, SqF K H a xs → SqF K H' a xs := fun a xs q => q.imp (fun ⟨o, q⟩ => ⟨o, h a _ q⟩) id
theorem Ext.same (h : Same H H') : Ext G m H m H' := ⟨⟨⟨[], by simp⟩, sqT_same h, sqF_same h⟩, fun a u e _ => h a u e, fun _ h => .inl h⟩
theorem Ext.fresh {p : Addr} (h : Same H H') (hp : H p = none) : Ext G m H (m ++ [p]) H' := ⟨⟨⟨[p], rfl⟩, sqT_same h, sqF_same h⟩, fun a u e _ => h a u e, fun a q => by
  rcases List.mem_append.mp q with q | q
  · exact .inl q
  · rw [List.mem_singleton] at q
    subst q
    exact .inr hp⟩
/-- a thing made on the way is taken in -/
theorem Ext.track {p : Addr} (e : Ext G m H m1 H1) (hp : H p = none) : Ext G m H (m1 ++ [p]) H1 := by
  refine ⟨⟨?_, e.tup, e.fz⟩, fun a u h n => e.frame a u h fun z => n (List.mem_append_left _ z), fun a q => ?_⟩
  · obtain ⟨t, ht⟩ := e.pre
    exact ⟨t ++ [p], by rw [ht, List.append_assoc]⟩
  · rcases List.mem_append.mp q with q | q
    · exact e.new a q
    · rw [List.mem_singleton] at q
      subst q
      exact .inr hp
/-- a change of an object that is no tuple -/
theorem Ext.upd {a : Addr} {o u : HO} (hm : a ∈ m) (h : H a = some o) (n : ∀ xs, o ≠ .tup xs) (f : ∀ p xs, o ≠ .frz p xs) : Ext G m H m (upd H a u) := ⟨⟨⟨[], by simp⟩, fun b xs q => by
  rcases q with (q | ⟨p, q⟩) | q
  · refine .inl (.inl ?_)
    rw [upd_ne (fun z => by subst z; rw [h] at q; exact n _ (Option.some.inj q))]
    exact q
  · refine .inl (.inr ⟨p, ?_⟩)
    rw [upd_ne (fun z => by subst z; rw [h] at q; exact f _ _ (Option.some.inj q))]
    exact q
  · exact .inr q, fun b xs q => q.imp (fun ⟨p, q⟩ => ⟨p, by
    rw [upd_ne (fun z => by subst z; rw [h] at q; exact f _ _ (Option.some.inj q))]
    exact q⟩) id⟩, fun b w q nb => by rw [upd_ne (fun z => by subst z; exact nb hm)]; exact q, fun _ h => .inl h⟩
theorem Ob.ex0 {a : Addr} {o : SO} (e : Ex0 G m H m' H') (ea : H' a = H a) (h : Ob G m H a o) : Ob G m' H' a o := by
  cases o with
  | lst ws =>
    obtain ⟨xs, h1, h2⟩ := h
    exact ⟨xs, by rw [ea]; exact h1, h2.ex0 e⟩
  | dic kvs =>
    obtain ⟨xs, h1, h2⟩ := h
    exact ⟨xs, by rw [ea]; exact h1, h2.ex0 e⟩
  | ins c fs =>
    obtain ⟨C, dx, gs, h0, h1, h2⟩ := h
    exact ⟨C, dx, gs, h0, by rw [ea]; exact h1, h2.ex0 e⟩
theorem Ob.ext {a : Addr} {o : SO} (e : Ext G m H m' H') (ea : H' a = H a) (h : Ob G m H a o) : Ob G m' H' a o := h.ex0 e.toEx0 ea
/-- what a tracked object is -/
def hoK : HO → Bool
  | .lst _ => true | .dK _ => true | .ins _ _ _ => true
  | _ => false
theorem Ob.ho {a : Addr} {o : SO} (h : Ob G m H a o) : ∃ u, H a = some u ∧ hoK u = true := by
  cases o with
  | lst ws => obtain ⟨xs, h1, _⟩ := h; exact ⟨_, h1, rfl⟩
  | dic kvs => obtain ⟨xs, h1, _⟩ := h; exact ⟨_, h1, rfl⟩
  | ins c fs => obtain ⟨C, dx, gs, _, h1, _⟩ := h; exact ⟨_, h1, rfl⟩
theorem Rel.of {i : Nat} {o : SO} (r : Rel G m H S) (h : S[i]? = some o) : ∃ a, m[i]? = some a ∧ Ob G m H a o := by
  have hi := (List.getElem?_eq_some_iff.mp h).1
  have hm : i < m.length := by rw [r.len]; exact hi
  exact ⟨m[i], List.getElem?_eq_getElem hm, r.at_ i _ o (List.getElem?_eq_getElem hm) h⟩
theorem Rel.mem {a : Addr} (r : Rel G m H S) (h : a ∈ m) : ∃ u, H a = some u ∧ hoK u = true := by
  obtain ⟨i, hi⟩ := List.getElem?_of_mem h
  have hl := (List.getElem?_eq_some_iff.mp hi).1
  have hs : i < S.length := by rw [← r.len]; exact hl
  exact (r.at_ i a _ hi (List.getElem?_eq_getElem hs)).ho
/-- the heap grows -/
theorem Rel.same (r : Rel G m H S) (h : Same H H') : Rel G m H' S := ⟨r.len, r.nd, fun i a o h1 h2 => by
  have q := r.at_ i a o h1 h2
  obtain ⟨u, hu, _⟩ := q.ho
  exact q.ext (Ext.same h) (by rw [hu, h a u hu])⟩
theorem Sr.same (r : Sr G m ρ S σ H) (h : Same H H') : Sr G m ρ S σ H' := ⟨r.rel.same h, r.len, fun i w e => by
  obtain ⟨v, h1, h2⟩ := r.at_ i w e
  exact ⟨v, h1, h2.ext (.same h)⟩⟩
theorem same_new {p : Addr} {o : HO} (h : H p = none) : Same H (upd H p o) := fun b u e => by rw [upd_ne (ne_of_none e h)]; exact e
/-- a new object -/
theorem Rel.new {p : Addr} {u : HO} {o : SO} (r : Rel G m H S) (h : H p = none) (ob : Ob G (m ++ [p]) (upd H p u) p o) : Rel G (m ++ [p]) (upd H p u) (S ++ [o]) := by
  have np : p ∉ m := fun hm => by
    obtain ⟨u, hu, _⟩ := r.mem hm
    rw [h] at hu
    cases hu
  refine ⟨by simp [r.len], ?_, fun i a x h1 h2 => ?_⟩
  · rw [List.nodup_append]
    refine ⟨r.nd, by simp, fun x hx y hy z => ?_⟩
    rw [List.mem_singleton] at hy
    subst hy
    subst z
    exact np hx
  · by_cases c : i < m.length
    · rw [List.getElem?_append_left c] at h1
      rw [List.getElem?_append_left (by rw [← r.len]; exact c)] at h2
      have q := r.at_ i a x h1 h2
      refine q.ext (Ext.fresh (same_new h) h) ?_
      exact upd_ne (fun z => np (by rw [← z]; exact List.mem_of_getElem? h1))
    · have hi := (List.getElem?_eq_some_iff.mp h1).1
      rw [List.length_append, List.length_singleton] at hi
      have e : i = m.length := by omega
      subst e
      rw [List.getElem?_append_right (Nat.le_refl _), Nat.sub_self] at h1
      rw [List.getElem?_append_right (by rw [r.len]; exact Nat.le_refl _), r.len, Nat.sub_self] at h2
      cases h1
      cases h2
      exact ob
theorem Sr.new {p : Addr} {u : HO} {o : SO} (r : Sr G m ρ S σ H) (h : H p = none) (ob : Ob G (m ++ [p]) (upd H p u) p o) : Sr G (m ++ [p]) ρ (S ++ [o]) σ (upd H p u) := ⟨r.rel.new h ob, r.len, fun i w e => by
  obtain ⟨v, h1, h2⟩ := r.at_ i w e
  exact ⟨v, h1, h2.ext (.fresh (same_new h) h)⟩⟩
theorem hoK_tup {u : HO} (h : hoK u = true) : ∀ xs, u ≠ .tup xs := fun xs e => by subst e; cases h
theorem hoK_frz {u : HO} (h : hoK u = true) : ∀ p xs, u ≠ .frz p xs := fun p xs e => by subst e; cases h
/-- a changed object -/
theorem Rel.set {i : Nat} {a : Addr} {u : HO} {o : SO} (r : Rel G m H S) (h : m[i]? = some a) (ob : Ob G m (upd H a u) a o) : Rel G m (upd H a u) (S.set i o) := by
  have hl := (List.getElem?_eq_some_iff.mp h).1
  obtain ⟨u0, h0, k0⟩ := r.mem (List.mem_of_getElem? h)
  refine ⟨by rw [List.length_set]; exact r.len, r.nd, fun j b x h1 h2 => ?_⟩
  by_cases c : i = j
  · subst c
    rw [h] at h1
    cases h1
    rw [List.getElem?_set_self (by rw [← r.len]; exact hl)] at h2
    cases h2
    exact ob
  · rw [List.getElem?_set_ne c] at h2
    refine (r.at_ j b x h1 h2).ext (Ext.upd (List.mem_of_getElem? h) h0 (hoK_tup k0) (hoK_frz k0)) (upd_ne fun z => ?_)
    subst z
    exact c ((List.getElem?_inj hl r.nd).mp (h.trans h1.symm))
theorem Sr.set {i : Nat} {a : Addr} {u : HO} {o : SO} (r : Sr G m ρ S σ H) (h : m[i]? = some a) (ob : Ob G m (upd H a u) a o) : Sr G m ρ (S.set i o) σ (upd H a u) := by
  obtain ⟨u0, h0, k0⟩ := r.rel.mem (List.mem_of_getElem? h)
  exact ⟨r.rel.set h ob, r.len, fun j w e => by
    obtain ⟨v, h1, h2⟩ := r.at_ j w e
    exact ⟨v, h1, h2.ext (Ext.upd (List.mem_of_getElem? h) h0 (hoK_tup k0) (hoK_frz k0))⟩⟩
/-- a slot stored -/
theorem Sr.put {i : Nat} {w : W} {v : V} (r : Sr G m ρ S σ H) (t : Va G m H w v) : Sr G m (ρ.set i (some w)) S (σ.set i (some v)) H := ⟨r.rel, by rw [List.length_set, List.length_set]; exact r.len, fun j u e => by
  rw [List.getElem?_set] at e
  rw [List.getElem?_set]
  by_cases c : i = j
  · rw [if_pos c] at e ⊢
    by_cases c2 : i < ρ.length
    · rw [if_pos c2] at e
      cases e
      rw [if_pos (by rw [r.len]; exact c2)]
      exact ⟨v, rfl, t⟩
    · rw [if_neg c2] at e
      cases e
  · rw [if_neg c] at e ⊢
    exact r.at_ j u e⟩
/-- slots forgotten -/
theorem Sr.forget {σ' : L2.St} {ρ' : Rho} (r : Sr G m ρ S σ H) (hl : σ'.length = ρ'.length) (h : ∀ (i : Nat) (w : W), ρ'[i]? = some (some w) → ρ[i]? = some (some w) ∧ σ'[i]? = σ[i]?) : Sr G m ρ' S σ' H := ⟨r.rel, hl, fun i w e => by
  obtain ⟨h1, h2⟩ := h i w e
  rw [h2]
  exact r.at_ i w h1⟩
/-- the slots stay known -/
theorem Sr.carry (r : Sr G m ρ S σ H) (e : Ext G m H m' H') (r' : Rel G m' H' S') : Sr G m' ρ S' σ H' := ⟨r', r.len, fun i w h => by
  obtain ⟨v, h1, h2⟩ := r.at_ i w h
  exact ⟨v, h1, h2.ext e⟩⟩
/-- a thing made on the way is taken in -/
theorem Rel.track {p : Addr} {o : SO} (r : Rel G m H S) (np : p ∉ m) (ob : Ob G (m ++ [p]) H p o) : Rel G (m ++ [p]) H (S ++ [o]) := by
  refine ⟨by simp [r.len], ?_, fun i a x h1 h2 => ?_⟩
  · rw [List.nodup_append]
    refine ⟨r.nd, by simp, fun x hx y hy z => ?_⟩
    rw [List.mem_singleton] at hy
    subst hy
    subst z
    exact np hx
  · by_cases c : i < m.length
    · rw [List.getElem?_append_left c] at h1
      rw [List.getElem?_append_left (by rw [← r.len]; exact c)] at h2
      exact (r.at_ i a x h1 h2).ex0 ⟨⟨[p], rfl⟩, fun _ _ q => q, fun _ _ q => q⟩ rfl
    · have hi := (List.getElem?_eq_some_iff.mp h1).1
      rw [List.length_append, List.length_singleton] at hi
      have e : i = m.length := by omega
      subst e
      rw [List.getElem?_append_right (Nat.le_refl _), Nat.sub_self] at h1
      rw [List.getElem?_append_right (by rw [r.len]; exact Nat.le_refl _), r.len, Nat.sub_self] at h2
      cases h1
      cases h2
      exact ob
end
end Ev

/-! ## What an action promises; expressions -/
namespace Ev
open PySem L2 PyProof.Rows
/-- an exception as the heap has it -/
def Xa (G : Wd) (m : List Addr) (H : Hp) (x : Xn) (cls : Value) (od : Option Addr) : Prop := ∃ C, G.mg x.c = some (.ref C) ∧ cls = .ref C ∧ (x.fs = [] ∨ ∃ dd gs, od = some dd ∧ H dd = some (.xd gs) ∧ KvL G m H x.fs gs)
abbrev Vr (α β : Type) := List Addr → Hp → α → β → Prop
/-- what is wanted of a result -/
def Out {α β : Type} (G : Wd) (Vv : Vr α β) (Wx : WX) (σ : L2.St) (ρ : Rho) (m : List Addr) (H : Hp) (r : Res α) (Q : β → Hp → Prop) : Prop := match r with
  | .ok w S' => ∀ m' v H', Ext G m H m' H' → Sr G m' ρ S' σ H' → Vv m' H' w v → Q v H'
  | .er x S' => ∀ m' H' cls od, Ext G m H m' H' → Sr G m' ρ S' σ H' → Xa G m' H' x cls od → Wx cls od σ H'
  | .no => False
def rd {α β : Type} (G : Wd) (Vv : Vr α β) (Wx : WX) (a : Rho → M α) : L2.St → Hp → (β → Hp → Prop) → Prop := fun σ H Q => ∃ m ρ S, Sr G m ρ S σ H ∧ Out G Vv Wx σ ρ m H (a ρ S) Q
def Vb : Vr Bool Bool := fun _ _ b c => c = b
def Vu : Vr Unit Unit := fun _ _ _ _ => True
abbrev wd (X : Cx) : Wd := ⟨X.K, X.mg⟩
abbrev rdE (G : Wd) (Wx : WX) (a : A) : TE := rd G (Va G) Wx a
abbrev rdL (G : Wd) (Wx : WX) (a : AL) : TA := rd G (VaL G) Wx a
abbrev rdT (G : Wd) (Wx : WX) (a : AT) : TT := rd G Vb Wx a
section
variable {α β γ δ : Type} {G : Wd} {Vv : Vr α β} {V' : Vr γ δ} {Wx : WX} {σ : L2.St} {ρ : Rho} {m m1 : List Addr} {H H1 : Hp} {S : Sto} {Q : β → Hp → Prop} {R : δ → Hp → Prop}
theorem Out.ext {r : Res α} (e : Ext G m H m1 H1) (o : Out G Vv Wx σ ρ m H r Q) : Out G Vv Wx σ ρ m1 H1 r Q := by
  cases r with
  | ok w S' => exact fun m' v H' e' => o m' v H' (e.trans e')
  | er x S' => exact fun m' H' cls od e' => o m' H' cls od (e.trans e')
  | no => exact o
theorem Out.mono {r : Res α} {Q' : β → Hp → Prop} (o : Out G Vv Wx σ ρ m H r Q) (h : ∀ v H', Q v H' → Q' v H') : Out G Vv Wx σ ρ m H r Q' := by
  cases r with
  | ok w S' => exact fun m' v H' e s q => h v H' (o m' v H' e s q)
  | er x S' => exact o
  | no => exact o
/-- one action ahead of others -/
theorem out_bd {a : Rho → M γ} {f : γ → M α} (s : Sr G m ρ S σ H) (o : Out G Vv Wx σ ρ m H (bd (a ρ) f S) Q)
    (k : ∀ w S1 m1 v H1, Ext G m H m1 H1 → Sr G m1 ρ S1 σ H1 → V' m1 H1 w v → Out G Vv Wx σ ρ m1 H1 (f w S1) Q → R v H1) : rd G V' Wx a σ H R := by
  refine ⟨m, ρ, S, s, ?_⟩
  unfold bd at o
  cases e : a ρ S with
  | ok w S1 =>
    rw [e] at o
    exact fun m1 v H1 e1 s1 v1 => k w S1 m1 v H1 e1 s1 v1 (o.ext e1)
  | er x S1 =>
    rw [e] at o
    exact o
  | no =>
    rw [e] at o
    exact o
theorem out_ok {w : α} (s : Sr G m ρ S σ H) (o : Out G Vv Wx σ ρ m H (.ok w S) Q) {v : β} (h : Vv m H w v) : Q v H := o m v H .refl s h
theorem out_opt {x : Option α} (o : Out G Vv Wx σ ρ m H (opt x S) Q) : ∃ w, x = some w ∧ Out G Vv Wx σ ρ m H (.ok w S) Q := by
  cases x with
  | some w => exact ⟨w, rfl, o⟩
  | none => exact False.elim o
theorem out_guard {b : Bool} {a : M α} (o : Out G Vv Wx σ ρ m H (guard b a S) Q) : b = true ∧ Out G Vv Wx σ ρ m H (a S) Q := by
  cases b with
  | true => exact ⟨rfl, o⟩
  | false => exact False.elim o
/-- an action that gives a value ahead of others, the store as it is -/
theorem out_bdo {x : Option γ} {f : γ → M α} (o : Out G Vv Wx σ ρ m H (bd (opt x) f S) Q) : ∃ w, x = some w ∧ Out G Vv Wx σ ρ m H (f w S) Q := by
  cases x with
  | some w => exact ⟨w, rfl, o⟩
  | none => exact False.elim o
/-- .. that is read off the store -/
theorem out_bdS {x : Sto → Option γ} {f : γ → M α} (o : Out G Vv Wx σ ρ m H (bd (fun T => opt (x T) T) f S) Q) : ∃ w, x S = some w ∧ Out G Vv Wx σ ρ m H (f w S) Q := by
  unfold bd at o
  cases e : x S with
  | some w =>
    simp only [e] at o
    exact ⟨w, rfl, o⟩
  | none =>
    simp only [e] at o
    exact False.elim o
/-- a new object's address -/
theorem out_new {u : HO} {o : SO} {Q : V → Hp → Prop} (s : Sr G m ρ S σ H) (h : Out G (Va G) Wx σ ρ m H (new o S) Q) {p : Addr} (hp : H p = none) (ob : ∀ e : Ext G m H (m ++ [p]) (upd H p u), Ob G (m ++ [p]) (upd H p u) p o) : Q (.ref p) (upd H p u) := by
  have e : Ext G m H (m ++ [p]) (upd H p u) := Ext.fresh (same_new hp) hp
  refine h _ _ _ e (s.new hp (ob e)) ⟨p, ?_, rfl⟩
  rw [List.getElem?_append_right (by rw [s.rel.len]; exact Nat.le_refl _), s.rel.len, Nat.sub_self]
  rfl
/-- .. of a tuple -/
theorem out_tup {ws : List W} {vs : List V} {Q : V → Hp → Prop} (s : Sr G m ρ S σ H) (h : Out G (Va G) Wx σ ρ m H (.ok (.tup ws) S) Q) (l : VaL G m H ws vs) {p : Addr} (hp : H p = none) : Q (.ref p) (upd H p (.tup vs)) :=
  h _ _ _ (Ext.same (same_new hp)) (s.same (same_new hp)) ⟨p, vs, rfl, SqT.of upd_same, l.ext (Ext.same (same_new hp))⟩
end
def unstar : Expr → Bool
  | .Starred _ _ => false
  | _ => true
theorem lim_le : lim ≤ sizeLine := by rw [sizeLine_eq]; decide
theorem lim_lt : lim < sizeLine := by rw [sizeLine_eq]; decide
section
variable {X : Cx} {Wx : WX} {e e2 : Expr} {es : List Expr} {a b : A} {l : AL} {pos : Pos} {t u : AT}
theorem s_var {i : Nat} {x : Str} (hN : X.N[i]? = some x) (hv : Vis X.env.scope x) (hd : (x == ("__debug__" : Str)) = false) (hcd : (x == ("__classdict__" : Str)) = false) : PE X (.Name x pos) (rdE (wd X) Wx (aVar i)) := by
  refine ⟨fun pins s σ H Q I h => (pe_var (i := i) hN hv hd hcd).run pins s σ H Q I ?_⟩
  obtain ⟨m, ρ, S, sr, o⟩ := h
  unfold aVar at o
  cases e : ρ[i]? with
  | none => rw [e] at o; exact False.elim o
  | some z =>
    cases z with
    | none => rw [e] at o; exact False.elim o
    | some w =>
      rw [e] at o
      obtain ⟨v, h1, h2⟩ := sr.at_ i w e
      exact ⟨v, h1, out_ok sr o h2⟩
/-- a constant: w as v, whatever the heap -/
theorem s_c {w : W} {v : V} (h : PE X e (tC v)) (hv : ∀ m H, Va (wd X) m H w v) : PE X e (rdE (wd X) Wx (aC w)) := by
  refine ⟨fun pins s σ H Q I h' => h.run pins s σ H Q I ?_⟩
  obtain ⟨m, ρ, S, sr, o⟩ := h'
  exact out_ok sr o (hv m H)
theorem s_nil : PA X [] (rdL (wd X) Wx aNil) := by
  refine ⟨fun pos pins s σ H Q I h => pa_nil.run pos pins s σ H Q I ?_⟩
  obtain ⟨m, ρ, S, sr, o⟩ := h
  exact out_ok sr o (by rfl : VaL (wd X) m H [] [])
theorem star_ok (h : unstar e = true) : starEach (e :: es) X.env = (false, eval e X.env) :: starEach es X.env := by
  cases e <;> first | rfl | cases h
theorem s_cons (ha : PE X e (rdE (wd X) Wx a)) (hl : PA X es (rdL (wd X) Wx l)) (hs : unstar e = true) : PA X (e :: es) (rdL (wd X) Wx (aCons a l)) := by
  refine ⟨fun pos pins s σ H Q I h => (pa_cons ha hl (star_ok hs)).run pos pins s σ H Q I ?_⟩
  obtain ⟨m, ρ, S, sr, o⟩ := h
  refine out_bd sr o fun w S1 m1 v H1 e1 s1 v1 o1 => ?_
  refine out_bd s1 o1 fun ws S2 m2 vs H2 e2 s2 v2 o2 => ?_
  exact out_ok s2 o2 ⟨v, vs, rfl, v1.ext e2, v2⟩
end
end Ev

namespace Ev
open PySem L2 PyProof.Rows
theorem short_le {n : Nat} (h : short n = true) : n ≤ sizeLine := Nat.le_trans (of_decide_eq_true h) lim_le
theorem short_lt {n : Nat} (h : short n = true) : n < sizeLine := Nat.lt_of_le_of_lt (of_decide_eq_true h) lim_lt
section
variable {X : Cx} {Wx : WX} {e e2 e3 : Expr} {es : List Expr} {a b c : A} {l : AL} {pos : Pos} {t u : AT} {k : Nat}
theorem s_tup (h : PA X es (rdL (wd X) Wx l)) : PE X (.Tuple es k pos) (rdE (wd X) Wx (aTup l)) := by
  refine ⟨fun pins s σ H Q I h' => (pe_tup h).run pins s σ H Q I ?_⟩
  obtain ⟨m, ρ, S, sr, o⟩ := h'
  refine out_bd sr o fun ws S1 m1 vs H1 e1 s1 v1 o1 => ?_
  obtain ⟨h1, o1⟩ := out_guard o1
  exact ⟨by rw [v1.len]; exact short_le h1, fun p hp => out_tup s1 o1 v1 hp⟩
theorem s_lst (h : PA X es (rdL (wd X) Wx l)) : PE X (.List es pos) (rdE (wd X) Wx (aLst l)) := by
  refine ⟨fun pins s σ H Q I h' => (pe_lst h).run pins s σ H Q I ?_⟩
  obtain ⟨m, ρ, S, sr, o⟩ := h'
  refine out_bd sr o fun ws S1 m1 vs H1 e1 s1 v1 o1 => ?_
  obtain ⟨h1, o1⟩ := out_guard o1
  exact ⟨by rw [v1.len]; exact short_le h1, fun p hp => out_new s1 o1 hp fun e => ⟨vs, upd_same, v1.ext e⟩⟩
/-- an operation: its reading from what the action says -/
def OpS (X : Cx) (Wx : WX) (f : W → W → M W) (r : R2) : Prop := ∀ (σ : L2.St) (ρ : Rho) (m : List Addr) (H : Hp) (S : Sto) (x y : W) (v w : V) (Q : VK), Sr (wd X) m ρ S σ H → Va (wd X) m H x v → Va (wd X) m H y w → Out (wd X) (Va (wd X)) Wx σ ρ m H (f x y S) Q → r v w H Q
theorem op_read {f : W → W → M W} {r : R2} (os : OpS X Wx f r) {σ : L2.St} {H : Hp} {Q : VK} (h : rdE (wd X) Wx (aOp f a b) σ H Q) : tOp r (rdE (wd X) Wx a) (rdE (wd X) Wx b) σ H Q := by
  obtain ⟨m, ρ, S, sr, o⟩ := h
  refine out_bd sr o fun x S1 m1 v H1 e1 s1 v1 o1 => ?_
  refine out_bd s1 o1 fun y S2 m2 w H2 e2 s2 v2 o2 => ?_
  exact os σ ρ m2 H2 S2 x y v w Q s2 (v1.ext e2) v2 o2
theorem s_bin {op : Operator} {f : W → W → M W} {r : R2} (ho : OpR X (binaryOp op) r) (os : OpS X Wx f r) (ha : PE X e (rdE (wd X) Wx a)) (hb : PE X e2 (rdE (wd X) Wx b)) : PE X (.BinOp e op e2 pos) (rdE (wd X) Wx (aOp f a b)) :=
  ⟨fun pins s σ H Q I h => (pe_op ho ha hb).run pins s σ H Q I (op_read os h)⟩
theorem s_cmp {op : CmpOp} {f : W → W → M W} {r : R2} (ho : OpR X (compareOp op) r) (os : OpS X Wx f r) (ha : PE X e (rdE (wd X) Wx a)) (hb : PE X e2 (rdE (wd X) Wx b)) (hm : behindInMarks op e2 = false) : PE X (.Compare e [op] [e2] pos) (rdE (wd X) Wx (aOp f a b)) :=
  ⟨fun pins s σ H Q I h => (pe_cmpR ho ha hb hm).run pins s σ H Q I (op_read os h)⟩
theorem out_bool {σ : L2.St} {ρ : Rho} {m : List Addr} {H : Hp} {S : Sto} {Q : Bool → Hp → Prop} {w : W} {v : V} (sr : Sr (wd X) m ρ S σ H) (hv : Va (wd X) m H w v) (o : Out (wd X) Vb Wx σ ρ m H (boolM w S) Q) : ∃ k, v = .bl k ∧ Q k H := by
  cases w with
  | bl b =>
    cases hv
    exact ⟨b, rfl, out_ok (w := b) sr o rfl⟩
  | _ => exact False.elim o
theorem s_cmpT {op : CmpOp} {f : W → W → M W} {r : R2} (ho : OpR X (compareOp op) r) (os : OpS X Wx f r) (ha : PE X e (rdE (wd X) Wx a)) (hb : PE X e2 (rdE (wd X) Wx b)) (hm : behindInMarks op e2 = false) : PT X (.Compare e [op] [e2] pos) (rdT (wd X) Wx (tBool (aOp f a b))) := by
  refine ⟨fun pins s σ H Q I h => (pt_cmpR ho ha hb hm).run pins s σ H Q I ?_⟩
  obtain ⟨m, ρ, S, sr, o⟩ := h
  have := out_bd (V' := Va (wd X)) (R := fun (x : V) (H' : Hp) => ∃ k, x = .bl k ∧ Q k H') sr o fun w S1 m1 v H1 e1 s1 v1 o1 => out_bool s1 v1 o1
  exact op_read os this
theorem truth_ok {G : Wd} {m : List Addr} {H : Hp} {S : Sto} {w : W} {v : V} {b : Bool} (r : Rel G m H S) (hv : Va G m H w v) (h : truth S w = some b) : TruV G.K v H b := by
  cases w with
  | non => cases hv; cases h; rfl
  | bl c => cases hv; cases h; rfl
  | int i => cases hv; cases h; rfl
  | str z =>
    cases hv
    simp only [truth] at h
    split at h
    · cases h
      exact ⟨Nat.le_trans (by assumption) lim_le, rfl⟩
    · cases h
  | tup ws =>
    obtain ⟨p, xs, rfl, sq, l⟩ := hv
    cases h
    exact .inr (.inl ⟨xs, sq, by rw [l.isEmpty]⟩)
  | ref n =>
    obtain ⟨p, hp, rfl⟩ := hv
    simp only [truth] at h
    cases e : S[n]? with
    | none => rw [e] at h; cases h
    | some o =>
      have ob := r.at_ n p o hp e
      rw [e] at h
      cases o with
      | lst ws =>
        obtain ⟨xs, h1, l⟩ := ob
        cases h
        exact .inl ⟨xs, SqL.of h1, by rw [l.isEmpty]⟩
      | dic kvs =>
        obtain ⟨ks, h1, l⟩ := ob
        cases h
        refine .inr (.inr ⟨ks, h1, ?_⟩)
        have := l.len
        cases ks <;> cases kvs <;> simp_all
      | ins c fs => cases h
  | glo x => cases h
  | ty n => cases h
  | fzl ws => cases h
theorem s_truth (he : PE X e (rdE (wd X) Wx a)) (hp : ∀ whole, isTrue e X.env whole = (do let v ← whole; standAt e.pos; holding [v] (truthy v))) : PT X e (rdT (wd X) Wx (tOf a)) := by
  refine ⟨fun pins s σ H Q I h => (pt_truth he hp).run pins s σ H Q I ?_⟩
  obtain ⟨m, ρ, S, sr, o⟩ := h
  refine out_bd sr o fun w S1 m1 v H1 e1 s1 v1 o1 => ?_
  obtain ⟨b, hb, o2⟩ := out_opt o1
  exact ⟨b, truth_ok s1.rel v1 hb, out_ok s1 o2 rfl⟩
theorem s_not (h : PT X e (rdT (wd X) Wx t)) : PT X (.UnaryOp .Not e pos) (rdT (wd X) Wx (tNot t)) := by
  refine ⟨fun pins s σ H Q I h' => (pt_not h).run pins s σ H Q I ?_⟩
  obtain ⟨m, ρ, S, sr, o⟩ := h'
  refine out_bd sr o fun c S1 m1 v H1 e1 s1 v1 o1 => ?_
  cases v1
  exact out_ok s1 o1 rfl
theorem s_and (ha : PT X e (rdT (wd X) Wx t)) (hb : PW X (.BoolOp .And (e2 :: es) pos) (rdT (wd X) Wx u)) : PW X (.BoolOp .And (e :: e2 :: es) pos) (rdT (wd X) Wx (tAnd t u)) := by
  refine ⟨fun wh pins s σ H Q I h' => (pw_and ha hb).run wh pins s σ H Q I ?_⟩
  obtain ⟨m, ρ, S, sr, o⟩ := h'
  refine out_bd sr o fun c S1 m1 v H1 e1 s1 v1 o1 => ?_
  cases v1
  cases c with
  | true => exact ⟨m1, ρ, S1, s1, o1⟩
  | false => exact out_ok s1 o1 rfl
theorem s_or (ha : PT X e (rdT (wd X) Wx t)) (hb : PW X (.BoolOp .Or (e2 :: es) pos) (rdT (wd X) Wx u)) : PW X (.BoolOp .Or (e :: e2 :: es) pos) (rdT (wd X) Wx (tOr t u)) := by
  refine ⟨fun wh pins s σ H Q I h' => (pw_or ha hb).run wh pins s σ H Q I ?_⟩
  obtain ⟨m, ρ, S, sr, o⟩ := h'
  refine out_bd sr o fun c S1 m1 v H1 e1 s1 v1 o1 => ?_
  cases v1
  cases c with
  | true => exact out_ok s1 o1 rfl
  | false => exact ⟨m1, ρ, S1, s1, o1⟩
theorem s_notV (h : PE X e (rdE (wd X) Wx a)) : PE X (.UnaryOp .Not e pos) (rdE (wd X) Wx (aNot a)) := by
  refine ⟨fun pins s σ H Q I h' => (pe_notT h).run pins s σ H Q I ?_⟩
  obtain ⟨m, ρ, S, sr, o⟩ := h'
  refine out_bd sr o fun c S1 m1 v H1 e1 s1 v1 o1 => ?_
  obtain ⟨b, hb, o2⟩ := out_bdo o1
  exact ⟨b, truth_ok s1.rel v1 hb, out_ok s1 o2 rfl⟩
theorem s_andV (ha : PE X e (rdE (wd X) Wx a)) (hb : PE X (.BoolOp .And (e2 :: es) pos) (rdE (wd X) Wx b)) : PE X (.BoolOp .And (e :: e2 :: es) pos) (rdE (wd X) Wx (aAnd a b)) := by
  refine ⟨fun pins s σ H Q I h' => (pe_andT ha hb).run pins s σ H Q I ?_⟩
  obtain ⟨m, ρ, S, sr, o⟩ := h'
  refine out_bd sr o fun c S1 m1 v H1 e1 s1 v1 o1 => ?_
  obtain ⟨k, hk, o2⟩ := out_bdo o1
  refine ⟨k, truth_ok s1.rel v1 hk, ?_⟩
  cases k with
  | true => exact ⟨m1, ρ, S1, s1, o2⟩
  | false => exact out_ok s1 o2 v1
theorem s_orV (ha : PE X e (rdE (wd X) Wx a)) (hb : PE X (.BoolOp .Or (e2 :: es) pos) (rdE (wd X) Wx b)) : PE X (.BoolOp .Or (e :: e2 :: es) pos) (rdE (wd X) Wx (aOr a b)) := by
  refine ⟨fun pins s σ H Q I h' => (pe_orT ha hb).run pins s σ H Q I ?_⟩
  obtain ⟨m, ρ, S, sr, o⟩ := h'
  refine out_bd sr o fun c S1 m1 v H1 e1 s1 v1 o1 => ?_
  obtain ⟨k, hk, o2⟩ := out_bdo o1
  refine ⟨k, truth_ok s1.rel v1 hk, ?_⟩
  cases k with
  | true => exact out_ok s1 o2 v1
  | false => exact ⟨m1, ρ, S1, s1, o2⟩
theorem s_if (ht : PT X e (rdT (wd X) Wx t)) (ha : PE X e2 (rdE (wd X) Wx a)) (hb : PE X e3 (rdE (wd X) Wx b)) : PE X (.IfExp e e2 e3 pos) (rdE (wd X) Wx (aIf t a b)) := by
  refine ⟨fun pins s σ H Q I h' => (pe_ifExp ht ha hb).run pins s σ H Q I ?_⟩
  obtain ⟨m, ρ, S, sr, o⟩ := h'
  refine out_bd sr o fun c S1 m1 v H1 e1 s1 v1 o1 => ?_
  cases v1
  cases c with
  | true => exact ⟨m1, ρ, S1, s1, o1⟩
  | false => exact ⟨m1, ρ, S1, s1, o1⟩
end
end Ev

namespace Ev
open PySem L2 PyProof.Rows
section
variable {X : Cx} {Wx : WX} {G : Wd} {m : List Addr} {H : Hp} {S : Sto} {α β : Type} {Vv : Vr α β} {σ : L2.St} {ρ : Rho} {Q : β → Hp → Prop}
theorem no_fail (o : Out G Vv Wx σ ρ m H ((fail : M α) S) Q) : False := o
/-! ### addition, the other operations on numbers -/
def rAdd (K : PySem.W.Frag) : R2 := fun x y H Q => (∃ i j, x = .int i ∧ y = .int j ∧ Q (.int (i + j)) H) ∨ (∃ i j, x = .str i ∧ y = .str j ∧ i.length + j.length ≤ sizeLine ∧ Q (.str (i ++ j)) H) ∨ rCatA K x y H Q ∨ rCat x y H Q
theorem op_addA : OpR X (binaryOp .Add) (rAdd X.K) := OpR.or op_add (OpR.or op_add_str (OpR.or op_catA op_cat))
theorem seq_lst {i : Nat} {ws : List W} {v : V} (r : Rel G m H S) (hv : Va G m H (.ref i) v) (h : lstAt S i = some ws) : ∃ a xs, m[i]? = some a ∧ v = .ref a ∧ H a = some (.lst xs) ∧ VaL G m H ws xs := by
  obtain ⟨a, ha, rfl⟩ := hv
  unfold lstAt at h
  cases e : S[i]? with
  | none => rw [e] at h; cases h
  | some o =>
    rw [e] at h
    have ob := r.at_ i a o ha e
    cases o with
    | lst us =>
      cases h
      obtain ⟨xs, h1, l⟩ := ob
      exact ⟨a, xs, ha, rfl, h1, l⟩
    | dic kvs => cases h
    | ins c fs => cases h
theorem os_add : OpS X Wx addW (rAdd X.K) := by
  intro σ ρ m H S x y v w Q sr hv hw o
  cases x <;> cases y <;> first | exact False.elim o | skip
  · cases hv
    cases hw
    exact .inl ⟨_, _, rfl, rfl, out_ok sr o rfl⟩
  · cases hv
    cases hw
    obtain ⟨h1, o⟩ := out_guard o
    exact .inr (.inl ⟨_, _, rfl, rfl, short_le h1, out_ok sr o rfl⟩)
  · obtain ⟨a, xs, rfl, sa, la⟩ := hv
    obtain ⟨b, ys, rfl, sb, lb⟩ := hw
    obtain ⟨h1, o⟩ := out_guard o
    refine .inr (.inr (.inl ⟨a, b, xs, ys, rfl, rfl, sa, sb, by rw [la.len, lb.len]; exact short_le h1, fun z => ?_, fun z1 z2 => ?_, fun z1 z2 p hp => ?_⟩))
    · refine out_ok sr o ⟨b, ys, rfl, sb, ?_⟩
      have := la.app lb
      rw [z] at this
      exact this
    · refine out_ok sr o ⟨a, xs, rfl, sa, ?_⟩
      have := la.app lb
      rw [z2, List.append_nil] at this
      exact this
    · exact out_tup sr o (la.app lb) hp
  · rename_i i j
    obtain ⟨ws, hws, o⟩ := out_bdS (x := fun T => lstAt T i) o
    obtain ⟨us, hus, o⟩ := out_bdS (x := fun T => lstAt T j) o
    obtain ⟨h1, o⟩ := out_guard o
    obtain ⟨a, xs, ha, rfl, ea, la⟩ := seq_lst sr.rel hv hws
    obtain ⟨b, ys, hb, rfl, eb, lb⟩ := seq_lst sr.rel hw hus
    exact .inr (.inr (.inr ⟨a, b, xs, ys, rfl, rfl, ea, eb, by rw [la.len, lb.len]; exact short_le h1, fun p hp => out_new sr o hp fun e => ⟨_, upd_same, (la.app lb).ext e⟩⟩))
theorem os_sub : OpS X Wx subW (rI0 fun i j => .int (i - j)) := by
  intro σ ρ m H S x y v w Q sr hv hw o
  cases x <;> cases y <;> first | exact False.elim o | skip
  cases hv
  cases hw
  exact ⟨_, _, rfl, rfl, out_ok sr o rfl⟩
theorem in64_ok {i : Int} (h : in64 i = true) : -(2 ^ 64) < i ∧ i < 2 ^ 64 := by
  unfold in64 at h
  rw [Bool.and_eq_true, decide_eq_true_eq, decide_eq_true_eq] at h
  exact h
theorem os_mul : OpS X Wx mulW (rI CMul fun i j => .int (i * j)) := by
  intro σ ρ m H S x y v w Q sr hv hw o
  cases x <;> cases y <;> first | exact False.elim o | skip
  cases hv
  cases hw
  obtain ⟨h1, o⟩ := out_guard o
  rw [Bool.or_eq_true] at h1
  exact ⟨_, _, rfl, rfl, h1.imp in64_ok in64_ok, out_ok sr o rfl⟩
theorem os_div : OpS X Wx divW (rI CDiv fun i j => .int (i / j)) := by
  intro σ ρ m H S x y v w Q sr hv hw o
  cases x <;> cases y <;> first | exact False.elim o | skip
  cases hv
  cases hw
  obtain ⟨h1, o⟩ := out_guard o
  rw [Bool.and_eq_true, decide_eq_true_eq, decide_eq_true_eq] at h1
  exact ⟨_, _, rfl, rfl, h1, out_ok sr o rfl⟩
theorem os_mod : OpS X Wx modW (rI (fun _ j => 0 < j) fun i j => .int (i % j)) := by
  intro σ ρ m H S x y v w Q sr hv hw o
  cases x <;> cases y <;> first | exact False.elim o | skip
  cases hv
  cases hw
  obtain ⟨h1, o⟩ := out_guard o
  exact ⟨_, _, rfl, rfl, of_decide_eq_true h1, out_ok sr o rfl⟩
theorem os_pow : OpS X Wx powW (rI CPow fun i j => .int (i ^ j.toNat)) := by
  intro σ ρ m H S x y v w Q sr hv hw o
  cases x <;> cases y <;> first | exact False.elim o | skip
  cases hv
  cases hw
  obtain ⟨h1, o⟩ := out_guard o
  rw [Bool.and_eq_true, Bool.and_eq_true, decide_eq_true_eq, decide_eq_true_eq, decide_eq_true_eq] at h1
  exact ⟨_, _, rfl, rfl, ⟨h1.1.1, h1.1.2, h1.2⟩, out_ok sr o rfl⟩
theorem os_cmpI {f : Int → Int → Bool} : OpS X Wx (cmpI f) (rI0 fun i j => .bl (f i j)) := by
  intro σ ρ m H S x y v w Q sr hv hw o
  cases x <;> cases y <;> first | exact False.elim o | skip
  cases hv
  cases hw
  exact ⟨_, _, rfl, rfl, out_ok sr o rfl⟩
theorem isNo_ok {w : W} {v : V} (h : Va G m H w v) : decide (v = .non) = isNo w := by
  cases w with
  | non => cases h; rfl
  | bl b => cases h; rfl
  | int i => cases h; rfl
  | str s => cases h; rfl
  | tup ds => obtain ⟨a, xs, rfl, _⟩ := h; rfl
  | ref n => obtain ⟨a, _, rfl⟩ := h; rfl
  | glo x => obtain ⟨a, _, rfl⟩ := h; rfl
  | ty n => cases h; rfl
  | fzl ds => obtain ⟨a, xs, rfl, _⟩ := h; rfl
theorem os_is : OpS X Wx isW (fun x y H Q => y = .non ∧ Q (.bl (decide (x = .non))) H) := by
  intro σ ρ m H S x y v w Q sr hv hw o
  cases y <;> first | exact False.elim o | skip
  cases hw
  refine ⟨rfl, ?_⟩
  rw [isNo_ok hv]
  exact out_ok sr o rfl
theorem os_isn : OpS X Wx isnW (fun x y H Q => y = .non ∧ Q (.bl (!decide (x = .non))) H) := by
  intro σ ρ m H S x y v w Q sr hv hw o
  cases y <;> first | exact False.elim o | skip
  cases hw
  refine ⟨rfl, ?_⟩
  rw [isNo_ok hv]
  exact out_ok sr o rfl
/-! ### equality -/
theorem mapM_dp {n : Nat} (ih : ∀ (w : W) (d : PyData) (v : V), datN n S w = some d → Va G m H w v → Dp G.K H v d) : ∀ (ws : List W) (ds : List PyData) (vs : List V), ws.mapM (datN n S) = some ds → VaL G m H ws vs → DpAll G.K H vs ds
  | [], ds, vs, h, l => by
    have e : ds = [] := by simpa using h.symm
    have e2 : vs = [] := l
    subst e e2
    exact .nil
  | w :: ws, ds, vs, h, l => by
    obtain ⟨x, xs, rfl, t, l⟩ := l
    rw [List.mapM_cons] at h
    cases e : datN n S w with
    | none => rw [e] at h; cases h
    | some d =>
      rw [e] at h
      cases e2 : ws.mapM (datN n S) with
      | none => rw [e2] at h; cases h
      | some r =>
        rw [e2] at h
        cases h
        exact .cons (ih w d x e t) (mapM_dp ih ws r xs e2 l)
theorem datN_dp (r : Rel G m H S) : ∀ (n : Nat) (w : W) (d : PyData) (v : V), datN n S w = some d → Va G m H w v → Dp G.K H v d
  | 0, w, d, v, h, hv => by cases h
  | n + 1, w, d, v, h, hv => by
    cases w with
    | non => cases hv; cases h; exact .non
    | bl b => cases hv; cases h; exact .bl b
    | int i => cases hv; cases h; exact .int i
    | str s => cases hv; cases h; exact .str s
    | tup ws =>
      obtain ⟨a, xs, rfl, sq, l⟩ := hv
      simp only [datN] at h
      cases e : ws.mapM (datN n S) with
      | none => rw [e] at h; cases h
      | some ds =>
        rw [e] at h
        cases h
        exact .tup sq (mapM_dp (datN_dp r n) ws ds xs e l)
    | ref i =>
      simp only [datN] at h
      cases e0 : lstAt S i with
      | none => rw [e0] at h; cases h
      | some ws =>
        rw [e0] at h
        have h : (ws.mapM (datN n S)).map PyData.list = some d := h
        obtain ⟨a, xs, ha, rfl, ea, l⟩ := seq_lst r hv e0
        cases e : ws.mapM (datN n S) with
        | none => rw [e] at h; cases h
        | some ds =>
          rw [e] at h
          cases h
          exact .lst (SqL.of ea) (mapM_dp (datN_dp r n) ws ds xs e l)
    | glo x => cases h
    | ty x => cases h
    | fzl x => cases h
theorem dat_dp (r : Rel G m H S) {w : W} {d : PyData} {v : V} (h : dat S w = some d) (hv : Va G m H w v) : Dp G.K H v d ∧ SeqAt.shaped d = true := by
  unfold dat at h
  cases e : datN 70 S w with
  | none => rw [e] at h; cases h
  | some d' =>
    rw [e] at h
    split at h
    · rename_i e2
      cases e2
      split at h
      · cases h
        exact ⟨datN_dp r 70 w _ v e hv, by assumption⟩
      · cases h
    · cases h
def rEqA (K : PySem.W.Frag) : R2 := fun x y H Q => rEq x y H Q ∨ rEqD K x y H Q
def rNeA (K : PySem.W.Frag) : R2 := fun x y H Q => rNe x y H Q ∨ rNeD K x y H Q
theorem op_eqA (hu : X.A.units + 64 < cLine) : OpR X (compareOp .Eq) (rEqA X.K) := OpR.or op_eq (op_eqD hu)
theorem op_neA (hu : X.A.units + 64 < cLine) : OpR X (compareOp .NotEq) (rNeA X.K) := OpR.or op_ne (op_neD hu)
theorem eq_deep {S : Sto} {x y : W} {v w : V} {k : Bool} (r : Rel (wd X) m H S) (hv : Va (wd X) m H x v) (hw : Va (wd X) m H y w) {dx dy : Option PyData} (e1 : dat S x = dx) (e2 : dat S y = dy) {T : Sto} (h : (match dx, dy with | some d, some e => Res.ok (PyData.eqv d e) S | _, _ => Res.no) = .ok k T) :
    T = S ∧ ∃ d e, Dp X.K H v d ∧ Dp X.K H w e ∧ SeqAt.shaped d = true ∧ SeqAt.shaped e = true ∧ PyData.eqv d e = k := by
  cases dx with
  | none => cases h
  | some d =>
    cases dy with
    | none => cases h
    | some e =>
      obtain ⟨h1, h2⟩ := Res.ok.inj h
      obtain ⟨q1, q2⟩ := dat_dp r e1 hv
      obtain ⟨q3, q4⟩ := dat_dp r e2 hw
      exact ⟨h2.symm, d, e, q1, q3, q2, q4, h1⟩
theorem eqW_ok {x y : W} {v w : V} {k : Bool} {T : Sto} (r : Rel (wd X) m H S) (hv : Va (wd X) m H x v) (hw : Va (wd X) m H y w) (h : eqW x y S = .ok k T) :
    T = S ∧ ((scal v w = true ∧ decide (v = w) = k) ∨ ∃ d e, Dp X.K H v d ∧ Dp X.K H w e ∧ SeqAt.shaped d = true ∧ SeqAt.shaped e = true ∧ PyData.eqv d e = k) := by
  have deep : ∀ {T : Sto} {k : Bool}, (match dat S x, dat S y with | some d, some e => Res.ok (PyData.eqv d e) S | _, _ => Res.no) = .ok k T →
      T = S ∧ ((scal v w = true ∧ decide (v = w) = k) ∨ ∃ d e, Dp X.K H v d ∧ Dp X.K H w e ∧ SeqAt.shaped d = true ∧ SeqAt.shaped e = true ∧ PyData.eqv d e = k) := fun h => by
    obtain ⟨h1, h2⟩ := eq_deep r hv hw rfl rfl h
    exact ⟨h1, .inr h2⟩
  cases x <;> cases y <;> first
    | exact deep h
    | (cases hv; cases hw; obtain ⟨h1, h2⟩ := Res.ok.inj h; exact ⟨h2.symm, .inl ⟨rfl, by rw [← h1]; simp⟩⟩)
theorem eqW_res {x y : W} : (∃ k T, eqW x y S = .ok k T) ∨ eqW x y S = .no := by
  unfold eqW
  cases x <;> cases y <;> first
    | exact .inl ⟨_, _, rfl⟩
    | (dsimp only; split <;> first | exact .inl ⟨_, _, rfl⟩ | exact .inr rfl)
theorem os_eq : OpS X Wx eqO (rEqA X.K) := by
  intro σ ρ m H S x y v w Q sr hv hw o
  unfold eqO bd at o
  rcases eqW_res (S := S) (x := x) (y := y) with ⟨k, T, e⟩ | e
  · rw [e] at o
    obtain ⟨rfl, h⟩ := eqW_ok sr.rel hv hw e
    rcases h with ⟨h1, h2⟩ | ⟨d, e', h1, h2, h3, h4, h5⟩
    · exact .inl ⟨h1, by rw [h2]; exact out_ok sr o rfl⟩
    · exact .inr ⟨d, e', h1, h2, h3, h4, by rw [h5]; exact out_ok sr o rfl⟩
  · rw [e] at o
    exact False.elim o
theorem os_ne : OpS X Wx neO (rNeA X.K) := by
  intro σ ρ m H S x y v w Q sr hv hw o
  unfold neO bd at o
  rcases eqW_res (S := S) (x := x) (y := y) with ⟨k, T, e⟩ | e
  · rw [e] at o
    obtain ⟨rfl, h⟩ := eqW_ok sr.rel hv hw e
    rcases h with ⟨h1, h2⟩ | ⟨d, e', h1, h2, h3, h4, h5⟩
    · exact .inl ⟨h1, by rw [h2]; exact out_ok sr o rfl⟩
    · exact .inr ⟨d, e', h1, h2, h3, h4, by rw [h5]; exact out_ok sr o rfl⟩
  · rw [e] at o
    exact False.elim o
end
end Ev

namespace Ev
open PySem L2 PyProof.Rows
section
variable {X : Cx} {Wx : WX} {G : Wd} {m : List Addr} {H : Hp} {S : Sto} {e e2 e3 : Expr} {es : List Expr} {a b : A} {l : AL} {pos p2 p3 : Pos} {lo hi : AO}
/-! ### x in y -/
theorem flat_ok {w : W} {v : V} (h : Va G m H w v) (f : flat w = true) : flatV v = true := by
  cases w <;> first | (cases h; rfl) | cases f
theorem eqF_ok {w u : W} {v x : V} (h : Va G m H w v) (h2 : Va G m H u x) (f : flat w = true) (g : flat u = true) : eqV v x = eqF w u := by
  cases w <;> cases u <;> first | exact (Bool.false_ne_true f).elim | exact (Bool.false_ne_true g).elim | (cases h; cases h2; rfl)
theorem flats_ok : ∀ {ws : List W} {xs : List V}, VaL G m H ws xs → ws.all flat = true → xs.all flatV = true
  | [], _, h, _ => by
    have e : _ = [] := h
    subst e
    rfl
  | w :: ws, _, h, f => by
    obtain ⟨x, xs, rfl, t, l⟩ := h
    rw [List.all_cons, Bool.and_eq_true] at f ⊢
    exact ⟨flat_ok t f.1, flats_ok l f.2⟩
theorem inF_ok {u : W} {y : V} (h2 : Va G m H u y) (g : flat u = true) : ∀ {ws : List W} {xs : List V}, VaL G m H ws xs → ws.all flat = true → inV y xs = ws.any fun z => eqF z u
  | [], _, h, _ => by
    have e : _ = [] := h
    subst e
    rfl
  | w :: ws, _, h, f => by
    obtain ⟨x, xs, rfl, t, l⟩ := h
    rw [List.all_cons, Bool.and_eq_true] at f
    rw [List.any_cons, ← inF_ok h2 g l f.2, ← eqF_ok t h2 f.1 g]
    rfl
theorem key_ok {w : W} {v : V} {k : Key} (h : Va G m H w v) (e : keyW w = some k) : v = kV k := by
  cases w <;> cases e
  · cases h; rfl
  · cases h; rfl
theorem valK_ok {k : Key} : ∀ {kvs : List (Key × W)} {ks : List (Key × V)}, KvL G m H kvs ks → (match valK kvs k with | some w => ∃ v, valV ks k = some v ∧ Va G m H w v | none => valV ks k = none)
  | [], ks, h => by
    have e : ks = [] := by have := h.len; simpa using this
    subst e
    rfl
  | (j, w) :: r, ks, h => by
    obtain ⟨v, r2, rfl, t, h'⟩ := h.cons
    unfold valK valV
    rw [List.find?_cons, List.find?_cons]
    by_cases c : j = k
    · simp only [c, decide_true]
      exact ⟨v, rfl, t⟩
    · simp only [c, decide_false]
      exact valK_ok h'
theorem valK_some {k : Key} {kvs : List (Key × W)} {ks : List (Key × V)} (h : KvL G m H kvs ks) : (valV ks k).isSome = (valK kvs k).isSome := by
  have := valK_ok (k := k) h
  cases e : valK kvs k with
  | none => rw [e] at this; rw [show valV ks k = none from this]; rfl
  | some w => rw [e] at this; obtain ⟨v, h1, _⟩ := this; rw [h1]; rfl
theorem dic_at {i : Nat} {kvs : List (Key × W)} {a : Addr} (r : Rel G m H S) (ha : m[i]? = some a) (e : S[i]? = some (.dic kvs)) : ∃ ks, H a = some (.dK ks) ∧ KvL G m H kvs ks := r.at_ i a _ ha e
def rDIn (n : Bool) : R2 := fun x y H Q => ∃ a o, y = .ref a ∧ DGet H a x o ∧ Q (.bl (if n then !o.isSome else o.isSome)) H
theorem op_dinR (hu : X.A.units + 1 < cLine) : OpR X (compareOp .In) (rDIn false) := by
  intro pins s σ H x y v u Q I rx ry h
  obtain ⟨a, o, rfl, g, q⟩ := h
  obtain rfl : u = Value.ref a := ry
  exact d_in hu I g rx fun s3 I3 => ⟨.bl o.isSome, H, I3, rfl, q⟩
theorem op_dninR (hu : X.A.units + 1 < cLine) : OpR X (compareOp .NotIn) (rDIn true) := by
  intro pins s σ H x y v u Q I rx ry h
  obtain ⟨a, o, rfl, g, q⟩ := h
  obtain rfl : u = Value.ref a := ry
  exact d_notIn hu I g rx fun s3 I3 => ⟨.bl (!o.isSome), H, I3, rfl, q⟩
def rInDT (K : PySem.W.Frag) : R2 := fun x y H Q => ∃ d ds, Dp K H x d ∧ Dp K H y (.tuple ds) ∧ SeqAt.shaped d = true ∧ SeqAt.shaped (.tuple ds) = true ∧ Q (.bl (ds.any fun z => z.eqv d)) H
def rNinDT (K : PySem.W.Frag) : R2 := fun x y H Q => ∃ d ds, Dp K H x d ∧ Dp K H y (.tuple ds) ∧ SeqAt.shaped d = true ∧ SeqAt.shaped (.tuple ds) = true ∧ Q (.bl (!ds.any fun z => z.eqv d)) H
theorem op_inDT (hu : X.A.units + 65 < cLine) : OpR X (compareOp .In) (rInDT X.K) := by
  intro pins s σ H x y v u Q I rx ry h
  obtain ⟨d, ds, hd, he, sd, se, q⟩ := h
  obtain ⟨as, r1⟩ := Dp.reads I d x v hd rx
  obtain ⟨bs, r2⟩ := Dp.reads I _ y u he ry
  exact SeqAt.in_tuple_reads r2 r1 (SeqAt.canLay_of_shaped se) (SeqAt.canLay_of_shaped sd) (room_in_shaped sd hu) ⟨.bl _, H, I, rfl, q⟩
theorem op_ninDT (hu : X.A.units + 65 < cLine) : OpR X (compareOp .NotIn) (rNinDT X.K) := by
  intro pins s σ H x y v u Q I rx ry h
  obtain ⟨d, ds, hd, he, sd, se, q⟩ := h
  obtain ⟨as, r1⟩ := Dp.reads I d x v hd rx
  obtain ⟨bs, r2⟩ := Dp.reads I _ y u he ry
  exact SeqAt.notIn_tuple_reads r2 r1 (SeqAt.canLay_of_shaped se) (SeqAt.canLay_of_shaped sd) (room_in_shaped sd hu) ⟨.bl _, H, I, rfl, q⟩
def rInA (K : PySem.W.Frag) : R2 := fun x y H Q => rIn K false x y H Q ∨ (∃ i j, x = .str i ∧ y = .str j ∧ Q (.bl (!(Builtin.Str.occurrences j i 0 j.length 1).isEmpty)) H) ∨ rInD K x y H Q ∨ rDIn false x y H Q ∨ rInDT K x y H Q
def rNinA (K : PySem.W.Frag) : R2 := fun x y H Q => rIn K true x y H Q ∨ (∃ i j, x = .str i ∧ y = .str j ∧ Q (.bl (!(!(Builtin.Str.occurrences j i 0 j.length 1).isEmpty))) H) ∨ rNotInD K x y H Q ∨ rDIn true x y H Q ∨ rNinDT K x y H Q
theorem op_inA (hu : X.A.units + 65 < cLine) : OpR X (compareOp .In) (rInA X.K) := OpR.or op_in_seq (OpR.or op_in_str (OpR.or (op_inD hu) (OpR.or (op_dinR (by omega)) (op_inDT hu))))
theorem op_ninA (hu : X.A.units + 65 < cLine) : OpR X (compareOp .NotIn) (rNinA X.K) := OpR.or op_notIn_seq (OpR.or op_notin_str (OpR.or (op_notInD hu) (OpR.or (op_dninR (by omega)) (op_ninDT hu))))
/-- what inM finds -/
theorem inM_ok {x y : W} {v w : V} (r : Rel (wd X) m H S) (hv : Va (wd X) m H x v) (hw : Va (wd X) m H y w) : inM x y S = .no ∨ ∃ k, inM x y S = .ok k S ∧
    ((∃ p xs, w = .ref p ∧ (SqL X.K H p xs ∨ SqT X.K H p xs) ∧ flatV v = true ∧ xs.all flatV = true ∧ inV v xs = k) ∨ (∃ i j, v = .str i ∧ w = .str j ∧ inStr i j = k) ∨
      (∃ d ds, Dp X.K H v d ∧ Dp X.K H w (.list ds) ∧ SeqAt.shaped d = true ∧ SeqAt.shaped (.list ds) = true ∧ (ds.any fun z => PyData.eqv z d) = k) ∨ (∃ a o, w = .ref a ∧ DGet H a v o ∧ o.isSome = k) ∨
      ∃ d ds, Dp X.K H v d ∧ Dp X.K H w (.tuple ds) ∧ SeqAt.shaped d = true ∧ SeqAt.shaped (.tuple ds) = true ∧ (ds.any fun z => PyData.eqv z d) = k) := by
  cases y with
  | str b =>
    cases hw
    cases x <;> first | exact .inl rfl | skip
    cases hv
    exact .inr ⟨_, rfl, .inr (.inl ⟨_, _, rfl, rfl, rfl⟩)⟩
  | tup ws =>
    obtain ⟨p, xs, rfl, sq, l⟩ := hw
    by_cases c : (flat x && ws.all flat) = true
    · have c' := c
      rw [Bool.and_eq_true] at c'
      exact .inr ⟨_, if_pos c, .inl ⟨p, xs, rfl, .inr sq, flat_ok hv c'.1, flats_ok l c'.2, inF_ok hv c'.1 l c'.2⟩⟩
    · unfold inM
      dsimp only
      rw [if_neg c]
      cases e1 : dat S x with
      | none => exact .inl rfl
      | some d =>
        cases e2 : dat S (.tup ws) with
        | none => exact .inl rfl
        | some z =>
          cases z <;> first | exact .inl rfl | skip
          obtain ⟨q1, q2⟩ := dat_dp r e1 hv
          obtain ⟨q3, q4⟩ := dat_dp r e2 (v := .ref p) ⟨p, xs, rfl, sq, l⟩
          exact .inr ⟨_, rfl, .inr (.inr (.inr (.inr ⟨d, _, q1, q3, q2, q4, rfl⟩)))⟩
  | ref n =>
    obtain ⟨p, hp, rfl⟩ := hw
    unfold inM
    dsimp only
    cases e : S[n]? with
    | none => exact .inl rfl
    | some o =>
      have ob := r.at_ n p o hp e
      cases o with
      | lst ws =>
        obtain ⟨xs, h1, l⟩ := ob
        dsimp only
        by_cases c : (flat x && ws.all flat) = true
        · have c' := c
          rw [Bool.and_eq_true] at c'
          exact .inr ⟨_, if_pos c, .inl ⟨p, xs, rfl, .inl (SqL.of h1), flat_ok hv c'.1, flats_ok l c'.2, inF_ok hv c'.1 l c'.2⟩⟩
        · rw [if_neg c]
          cases e1 : dat S x with
          | none => exact .inl rfl
          | some d =>
            cases e2 : dat S (.ref n) with
            | none => exact .inl rfl
            | some z =>
              cases z <;> first | exact .inl rfl | skip
              obtain ⟨q1, q2⟩ := dat_dp r e1 hv
              obtain ⟨q3, q4⟩ := dat_dp r e2 (v := .ref p) ⟨p, hp, rfl⟩
              exact .inr ⟨_, rfl, .inr (.inr (.inl ⟨d, _, q1, q3, q2, q4, rfl⟩))⟩
      | dic kvs =>
        obtain ⟨ks, h1, l⟩ := ob
        dsimp only
        cases e1 : keyW x with
        | none => exact .inl rfl
        | some k =>
          rw [key_ok hv e1]
          exact .inr ⟨_, rfl, .inr (.inr (.inr (.inl ⟨p, _, rfl, DGet.k h1, valK_some l⟩)))⟩
      | ins c fs => exact .inl rfl
  | _ => exact .inl rfl
theorem os_in : OpS X Wx inO (rInA X.K) := by
  intro σ ρ m H S x y v w Q sr hv hw o
  unfold inO bd at o
  rcases inM_ok sr.rel hv hw with e | ⟨k, e, h⟩
  · rw [e] at o
    exact False.elim o
  · rw [e] at o
    have q : Q (.bl k) H := out_ok sr o rfl
    rcases h with ⟨p, xs, h1, h2, h3, h4, h5⟩ | ⟨i, j, h1, h2, h3⟩ | ⟨d, ds, h1, h2, h3, h4, h5⟩ | ⟨p, u, h1, h2, h3⟩ | ⟨d, ds, h1, h2, h3, h4, h5⟩
    · exact .inl ⟨p, xs, h1, h2, h3, h4, by rw [h5]; exact q⟩
    · exact .inr (.inl ⟨i, j, h1, h2, by rw [← h3] at q; exact q⟩)
    · exact .inr (.inr (.inl ⟨d, ds, h1, h2, h3, h4, by rw [h5]; exact q⟩))
    · exact .inr (.inr (.inr (.inl ⟨p, u, h1, h2, by rw [h3]; exact q⟩)))
    · exact .inr (.inr (.inr (.inr ⟨d, ds, h1, h2, h3, h4, by rw [h5]; exact q⟩)))
theorem os_nin : OpS X Wx ninO (rNinA X.K) := by
  intro σ ρ m H S x y v w Q sr hv hw o
  unfold ninO bd at o
  rcases inM_ok sr.rel hv hw with e | ⟨k, e, h⟩
  · rw [e] at o
    exact False.elim o
  · rw [e] at o
    have q : Q (.bl (!k)) H := out_ok sr o rfl
    rcases h with ⟨p, xs, h1, h2, h3, h4, h5⟩ | ⟨i, j, h1, h2, h3⟩ | ⟨d, ds, h1, h2, h3, h4, h5⟩ | ⟨p, u, h1, h2, h3⟩ | ⟨d, ds, h1, h2, h3, h4, h5⟩
    · exact .inl ⟨p, xs, h1, h2, h3, h4, by rw [h5]; exact q⟩
    · exact .inr (.inl ⟨i, j, h1, h2, by rw [← h3] at q; exact q⟩)
    · exact .inr (.inr (.inl ⟨d, ds, h1, h2, h3, h4, by rw [h5]; exact q⟩))
    · exact .inr (.inr (.inr (.inl ⟨p, u, h1, h2, by rw [h3]; exact q⟩)))
    · exact .inr (.inr (.inr (.inr ⟨d, ds, h1, h2, h3, h4, by rw [h5]; exact q⟩)))
/-! ### parts: x[i], slices, attributes -/
theorem at_ok {ws : List W} {xs : List V} {i : Int} {w : W} (l : VaL G m H ws xs) (h : atI ws i = some w) : ∃ v, atI xs i = some v ∧ Va G m H w v := by
  unfold atI at h ⊢
  rw [l.len]
  cases e : ixN ws.length i with
  | none => rw [e] at h; cases h
  | some j => rw [e] at h; exact l.get h
def plainIx : Expr → Bool
  | .Slice _ _ _ _ => false
  | _ => true
theorem plainIx_ok (h : plainIx e = true) : PlainIx e := fun o i => by
  cases e <;> first | rfl | cases h
def rDG : R2 := fun x y H Q => ∃ a v, x = .ref a ∧ DGet H a y (some v) ∧ Q v H
theorem ix_d (hu : X.A.units + 1 < cLine) : IxR X rDG := by
  intro value slice pins s σ H x y v u Q I rx ry h hs
  obtain ⟨a, w, rfl, g, q⟩ := h
  obtain rfl : v = Value.ref a := rx
  have ty : s.TypeIs (.ref a) "dict" := by
    rcases g with ⟨kvs, k, e, _⟩ | ⟨kvs, k, b, e, _⟩
    · exact (isD_at I (.inl ⟨kvs, e⟩)).1
    · exact (isD_at I (.inr ⟨kvs, e⟩)).1
  exact tail_any ty PySem.F.slot_dict_getitem.lookup (d_getItem hu I g ry fun w' s' I' r' => ⟨w, H, I', r', q⟩) hs
def rIxA (K : PySem.W.Frag) : R2 := fun x y H Q => rIx K x y H Q ∨ rDG x y H Q
theorem ix_a (hu : X.A.units + 1 < cLine) : IxR X (rIxA X.K) := ix_seq.or (ix_d hu)
theorem os_ix : OpS X Wx ixW (rIxA X.K) := by
  intro σ ρ m H S x y v w Q sr hv hw o
  cases x with
  | tup ws =>
    obtain ⟨p, xs, rfl, sq, l⟩ := hv
    cases y <;> first | exact False.elim o | skip
    cases hw
    obtain ⟨z, hz, o⟩ := out_opt o
    obtain ⟨u, h1, h2⟩ := at_ok l hz
    exact .inl (.inr (.inl ⟨p, xs, _, u, rfl, rfl, sq, h1, out_ok sr o h2⟩))
  | str z =>
    cases hv
    cases y <;> first | exact False.elim o | skip
    cases hw
    have o : Out (wd X) (Va (wd X)) Wx σ ρ m H (if z.length ≤ lim then opt ((atI z.cps.toList _).map chr1) S else .no) Q := o
    split at o
    · obtain ⟨c, hc, o⟩ := out_opt o
      cases e : atI z.cps.toList _ with
      | none => rw [e] at hc; cases hc
      | some n =>
        rw [e] at hc
        cases hc
        exact .inl (.inr (.inr ⟨z, _, n, rfl, rfl, Nat.le_trans (by assumption) lim_le, e, out_ok sr o rfl⟩))
    · exact False.elim o
  | ref n =>
    obtain ⟨p, hp, rfl⟩ := hv
    unfold ixW at o
    dsimp only at o
    cases e : S[n]? with
    | none => rw [e] at o; exact False.elim o
    | some ob =>
      have h := sr.rel.at_ n p ob hp e
      rw [e] at o
      cases ob with
      | lst ws =>
        obtain ⟨xs, h1, l⟩ := h
        cases y <;> first | exact False.elim o | skip
        cases hw
        obtain ⟨z, hz, o⟩ := out_opt o
        obtain ⟨u, h2, h3⟩ := at_ok l hz
        exact .inl (.inl ⟨p, xs, _, u, rfl, rfl, SqL.of h1, h2, out_ok sr o h3⟩)
      | dic kvs =>
        obtain ⟨ks, h1, l⟩ := h
        dsimp only at o
        cases e1 : keyW y with
        | none => rw [e1] at o; exact False.elim o
        | some k =>
          rw [e1] at o
          obtain ⟨z, hz, o⟩ := out_opt o
          have q := valK_ok (k := k) l
          rw [hz] at q
          obtain ⟨u, h2, h3⟩ := q
          have hk := key_ok hw e1
          subst hk
          refine .inr ⟨p, u, rfl, ?_, out_ok sr o h3⟩
          rw [← h2]
          exact DGet.k h1
      | ins c fs => exact False.elim o
  | fzl ws =>
    obtain ⟨p, xs, rfl, sq, l⟩ := hv
    cases y <;> first | exact False.elim o | skip
    cases hw
    obtain ⟨z, hz, o⟩ := out_opt o
    obtain ⟨u, h1, h2⟩ := at_ok l hz
    exact .inl (.inl ⟨p, xs, _, u, rfl, rfl, sq.l, h1, out_ok sr o h2⟩)
  | _ => exact False.elim o
theorem s_ix (hu : X.A.units + 1 < cLine) (ha : PE X e (rdE (wd X) Wx a)) (hb : PE X e2 (rdE (wd X) Wx b)) (hs : plainIx e2 = true) : PE X (.Subscript e e2 pos) (rdE (wd X) Wx (aOp ixW a b)) :=
  ⟨fun pins s σ H Q I h => (pe_ix (ix_a hu) ha hb (plainIx_ok hs)).run pins s σ H Q I (op_read os_ix h)⟩
def Vo : Vr (Option Int) (Option Int) := fun _ _ b c => c = b
theorem s_oNone : PO X none (rd (wd X) Vo Wx oNone) := by
  refine ⟨fun pins s σ H Q I h => po_none.run pins s σ H Q I ?_⟩
  obtain ⟨m, ρ, S, sr, o⟩ := h
  exact out_ok sr o rfl
theorem s_oSome (he : PE X e (rdE (wd X) Wx a)) : PO X (some e) (rd (wd X) Vo Wx (oSome a)) := by
  refine ⟨fun pins s σ H Q I h => (po_some he).run pins s σ H Q I ?_⟩
  obtain ⟨m, ρ, S, sr, o⟩ := h
  refine out_bd sr o fun w S1 m1 v H1 e1 s1 v1 o1 => ?_
  cases w <;> first | exact False.elim o1 | skip
  cases v1
  exact ⟨_, rfl, out_ok s1 o1 rfl⟩
theorem cut_ok {ws : List W} {xs : List V} {lo hi : Option Int} (l : VaL G m H ws xs) : VaL G m H (cutW ws lo hi) (cutV xs lo hi) := by
  unfold cutW cutV
  rw [l.len]
  exact VaL.take _ (VaL.drop _ l)
theorem cut_all {ws : List W} {lo hi : Option Int} (h : HT.sIx ws.length 0 lo = 0 ∧ HT.sIx ws.length ws.length hi = ws.length) : cutW ws lo hi = ws := by
  unfold cutW
  rw [h.1, h.2, List.drop_zero, Nat.sub_zero, List.take_length]
theorem s_sl {x y : Option Expr} (he : PE X e (rdE (wd X) Wx a)) (hl : PO X x (rd (wd X) Vo Wx lo)) (hh : PO X y (rd (wd X) Vo Wx hi)) : PE X (.Subscript e (.Slice x y none p2) pos) (rdE (wd X) Wx (aSl a lo hi)) := by
  refine ⟨fun pins s σ H Q I h => (pe_slice (sl_list.or sl_tupA) he hl hh).run pins s σ H Q I ?_⟩
  obtain ⟨m, ρ, S, sr, o⟩ := h
  refine out_bd sr o fun w S1 m1 v H1 e1 s1 v1 o1 => ?_
  refine out_bd s1 o1 fun i S2 m2 i' H2 e2 s2 v2 o2 => ?_
  refine out_bd s2 o2 fun j S3 m3 j' H3 e3 s3 v3 o3 => ?_
  cases v2
  cases v3
  have v1 := v1.ext (e2.trans e3)
  cases w with
  | tup ws =>
    obtain ⟨p, xs, rfl, sq, l⟩ := v1
    refine .inr ⟨p, xs, rfl, sq, fun z => ?_, fun z q hq => ?_⟩
    · rw [l.len] at z
      refine out_ok s3 o3 ⟨p, xs, rfl, sq, ?_⟩
      rw [cut_all z]
      exact l
    · exact out_tup s3 o3 (cut_ok l) hq
  | ref n =>
    unfold slW at o3
    dsimp only at o3
    cases e : lstAt S3 n with
    | none => rw [e] at o3; exact False.elim o3
    | some ws =>
      rw [e] at o3
      obtain ⟨p, xs, _, rfl, h1, l⟩ := seq_lst s3.rel v1 e
      exact .inl ⟨p, xs, rfl, SqL.of h1, fun q hq => out_new s3 o3 hq fun e => ⟨_, upd_same, (cut_ok l).ext e⟩⟩
  | fzl ws =>
    obtain ⟨p, xs, rfl, sq, l⟩ := v1
    exact .inl ⟨p, xs, rfl, sq.l, fun q hq => out_new s3 o3 hq fun e => ⟨_, upd_same, (cut_ok l).ext e⟩⟩
  | _ => exact False.elim o3
theorem s_rev {k : Nat} {p1 : Pos} (he : PE X e (rdE (wd X) Wx a)) : PE X (.Subscript e (.Slice none none (some (.UnaryOp .USub (.Constant (.int 1) k p1) p2)) p3) pos) (rdE (wd X) Wx (aUn revW a)) := by
  refine ⟨fun pins s σ H Q I h => (pe_revL he).run pins s σ H Q I ?_⟩
  obtain ⟨m, ρ, S, sr, o⟩ := h
  refine out_bd sr o fun w S1 m1 v H1 e1 s1 v1 o1 => ?_
  cases w <;> first | exact False.elim o1 | skip
  rename_i n
  unfold revW at o1
  dsimp only at o1
  cases e : lstAt S1 n with
  | none => rw [e] at o1; exact False.elim o1
  | some ws =>
    rw [e] at o1
    obtain ⟨p, xs, _, rfl, h1, l⟩ := seq_lst s1.rel v1 e
    exact ⟨p, xs, rfl, SqL.of h1, fun q hq => out_new s1 o1 hq fun e => ⟨_, upd_same, l.reverse.ext e⟩⟩
theorem lookup_ok {f : Str} : ∀ {fs : List (Str × W)} {gs : List (Str × V)}, KvL G m H fs gs → (match fs.lookup f with | some w => ∃ v, gs.lookup f = some v ∧ Va G m H w v | none => gs.lookup f = none)
  | [], gs, h => by
    have e : gs = [] := by have := h.len; simpa using this
    subst e
    rfl
  | (j, w) :: r, gs, h => by
    obtain ⟨v, r2, rfl, t, h'⟩ := h.cons
    rw [List.lookup_cons, List.lookup_cons]
    cases c : f == j with
    | true => exact ⟨v, rfl, t⟩
    | false => exact lookup_ok h'
/-- what is known of an own class -/
structure ClX (X : Cx) (c : Str) (fs : List Str) : Prop where
  ex : ∀ C, X.mg c = some (.ref C) → Cls X.K C ∧ ∀ f ∈ fs, NoAttr X.K C f
def plainBase : Expr → Bool
  | .Call (.Name _ _) [] [] _ => false
  | _ => true
theorem plainBase_ok {f : Str} {env : Env} {wh : Sem Value} (h : plainBase e = true) : attributeBase e f env wh = wh := by
  unfold attributeBase
  cases e <;> first | rfl | skip
  rename_i fn args kws p
  cases fn <;> first | rfl | skip
  cases args <;> first | rfl | skip
  cases kws <;> first | rfl | skip
  cases h
theorem ins_of {n : Nat} {c : Str} {fs : List (Str × W)} (h : insAt S n = some (c, fs)) : S[n]? = some (.ins c fs) := by
  unfold insAt at h
  cases e2 : S[n]? with
  | none => rw [e2] at h; cases h
  | some ob =>
    rw [e2] at h
    cases ob <;> cases h
    rfl
/-- the classes whose attribute f is the instance's own -/
def AtOk (X : Cx) (ok : Str → Bool) (f : Str) : Prop := ∀ c, ok c = true → ∀ C, X.mg c = some (.ref C) → Cls X.K C ∧ NoAttr X.K C f
theorem s_fld {f : Str} {ok : Str → Bool} (he : PE X e (rdE (wd X) Wx a)) (hb : plainBase e = true) (hc : AtOk X ok f) : PE X (.Attribute e f pos) (rdE (wd X) Wx (aUn (fldW ok f) a)) := by
  refine ⟨fun pins s σ H Q I h => (pe_fld he (plainBase_ok hb)).run pins s σ H Q I ?_⟩
  obtain ⟨m, ρ, S, sr, o⟩ := h
  refine out_bd sr o fun w S1 m1 v H1 e1 s1 v1 o1 => ?_
  cases w <;> first | exact False.elim o1 | skip
  rename_i n
  obtain ⟨p, hp, rfl⟩ := v1
  dsimp only [fldW] at o1
  cases e : insAt S1 n with
  | none => rw [e] at o1; exact False.elim o1
  | some cf =>
    obtain ⟨c, fs⟩ := cf
    rw [e] at o1
    dsimp only at o1
    split at o1
    · rename_i hok
      obtain ⟨z, hz, o1⟩ := out_opt o1
      obtain ⟨C, dx, gs, h0, h1, l⟩ := s1.rel.at_ n p _ hp (ins_of e)
      have q := lookup_ok (f := f) l
      rw [hz] at q
      obtain ⟨u, h2, h3⟩ := q
      obtain ⟨h4, h5⟩ := hc c hok C h0
      exact ⟨p, C, dx, gs, u, rfl, h1, h4, h5, h2, out_ok s1 o1 h3⟩
    · exact False.elim o1
end
end Ev

/-! ## Targets -/
namespace Ev
open PySem L2 PyProof.Rows
/-- a statement's result: with the slots -/
inductive RS (α : Type) where
  | ok (a : α) (ρ : Rho) (S : Sto) | er (x : Xn) (ρ : Rho) (S : Sto) | no
abbrev MS (α : Type) := Rho → Sto → RS α
def retS {α : Type} (a : α) : MS α := fun ρ S => .ok a ρ S
def failS {α : Type} : MS α := fun _ _ => .no
def up {α : Type} (a : Rho → M α) : MS α := fun ρ S => match a ρ S with | .ok w T => .ok w ρ T | .er x T => .er x ρ T | .no => .no
def bs {α β : Type} (a : MS α) (f : α → MS β) : MS β := fun ρ S => match a ρ S with | .ok w ρ' T => f w ρ' T | .er x ρ' T => .er x ρ' T | .no => .no
/-- a target, given the value -/
abbrev AG := W → MS Unit
def gNm (i : Nat) : AG := fun w ρ S => .ok () (ρ.set i (some w)) S
def gAll : List AG → List W → MS Unit
  | [], [] => retS ()
  | g :: gs, w :: ws => bs (g w) fun _ => gAll gs ws
  | _, _ => failS
def gTu (gs : List AG) : AG := fun w ρ S => match seqAt S w with | some ws => (if ws.length = gs.length then gAll gs ws ρ S else .no) | none => .no
def setW (o i v : W) : M Unit := fun S => match o with
  | .ref n => (match S[n]? with
    | some (.lst ws) => (match i with | .int k => (match ixN ws.length k with | some j => .ok () (S.set n (.lst (ws.set j v))) | none => .no) | _ => .no)
    | some (.dic kvs) => (match keyW i with | some k => if short (kvs.length + 1) = true then .ok () (S.set n (.dic (putKW kvs k v))) else .no | none => .no)
    | _ => .no)
  | _ => .no
def gSb (o i : A) : AG := fun v => up fun ρ => bd (o ρ) fun x => bd (i ρ) fun y => setW x y v
/-- what is wanted behind -/
def OutS {α : Type} (G : Wd) (Wx : WX) (m : List Addr) (H : Hp) (r : RS α) (P : α → List Addr → L2.St → Hp → Prop) : Prop := match r with
  | .ok a ρ' S' => ∀ m' σ' H', Ext G m H m' H' → Sr G m' ρ' S' σ' H' → P a m' σ' H'
  | .er x ρ' S' => ∀ m' σ' H' cls od, Ext G m H m' H' → Sr G m' ρ' S' σ' H' → Xa G m' H' x cls od → Wx cls od σ' H'
  | .no => False
/-- which slots may change -/
structure Fram where
  rel : L2.St → L2.St → Prop
  rfl : ∀ σ, rel σ σ
  trans : ∀ {a b c}, rel a b → rel b c → rel a c
def frAny : Fram := ⟨fun _ _ => True, fun _ => trivial, fun _ _ => trivial⟩
def frOwn (vs : List Nat) : Fram := ⟨fun a b => wipe b vs = wipe a vs, fun _ => rfl, fun h g => g.trans h⟩
def rdG (G : Wd) (Wx : WX) (Fr : Fram) (g : AG) : TG := fun v σ H Q => ∃ m ρ S w, Sr G m ρ S σ H ∧ Va G m H w v ∧ OutS G Wx m H (g w ρ S) (fun _ _ σ' H' => Fr.rel σ σ' → Q σ' H')
def rdGs (G : Wd) (Wx : WX) (Fr : Fram) (gs : List AG) : TGs := fun vs σ H Q => ∃ m ρ S ws, Sr G m ρ S σ H ∧ VaL G m H ws vs ∧ OutS G Wx m H (gAll gs ws ρ S) (fun _ _ σ' H' => Fr.rel σ σ' → Q σ' H')
section
variable {α β γ : Type} {G : Wd} {Wx : WX} {m m1 : List Addr} {H H1 : Hp} {ρ : Rho} {S : Sto} {σ : L2.St} {P : α → List Addr → L2.St → Hp → Prop}
theorem OutS.ext {r : RS α} (e : Ext G m H m1 H1) (o : OutS G Wx m H r P) : OutS G Wx m1 H1 r P := by
  cases r with
  | ok a ρ' S' => exact fun m' σ' H' e' => o m' σ' H' (e.trans e')
  | er x ρ' S' => exact fun m' σ' H' cls od e' => o m' σ' H' cls od (e.trans e')
  | no => exact o
theorem OutS.mono {r : RS α} {P' : α → List Addr → L2.St → Hp → Prop} (o : OutS G Wx m H r P) (h : ∀ a m' σ' H', Ext G m H m' H' → P a m' σ' H' → P' a m' σ' H') : OutS G Wx m H r P' := by
  cases r with
  | ok a ρ' S' => exact fun m' σ' H' e s => h a m' σ' H' e (o m' σ' H' e s)
  | er x ρ' S' => exact o
  | no => exact o
theorem up_bd {a : Rho → M γ} {f : γ → Rho → M α} : up (fun ρ => bd (a ρ) fun w => f w ρ) = bs (up a) fun w => up (f w) := by
  funext ρ S
  unfold up bs bd
  cases e : a ρ S <;> simp only [e]
/-- an action ahead of the rest -/
theorem outS_up {δ : Type} {Vv : Vr γ δ} {a : Rho → M γ} {f : γ → MS α} {R : δ → Hp → Prop} (s : Sr G m ρ S σ H) (o : OutS G Wx m H (bs (up a) f ρ S) P)
    (k : ∀ w S1 m1 v H1, Ext G m H m1 H1 → Sr G m1 ρ S1 σ H1 → Vv m1 H1 w v → OutS G Wx m1 H1 (f w ρ S1) P → R v H1) : rd G Vv Wx a σ H R := by
  refine ⟨m, ρ, S, s, ?_⟩
  unfold bs up at o
  cases e : a ρ S with
  | ok w S1 =>
    rw [e] at o
    exact fun m1 v H1 e1 s1 v1 => k w S1 m1 v H1 e1 s1 v1 (o.ext e1)
  | er x S1 =>
    rw [e] at o
    exact fun m' H' cls od e1 s1 x1 => o m' σ H' cls od e1 s1 x1
  | no =>
    rw [e] at o
    exact o
theorem outS_up1 {δ : Type} {Vv : Vr α δ} {a : Rho → M α} {R : δ → Hp → Prop} (s : Sr G m ρ S σ H) (o : OutS G Wx m H (up a ρ S) P)
    (k : ∀ w S1 m1 v H1, Ext G m H m1 H1 → Sr G m1 ρ S1 σ H1 → Vv m1 H1 w v → P w m1 σ H1 → R v H1) : rd G Vv Wx a σ H R := by
  refine ⟨m, ρ, S, s, ?_⟩
  unfold up at o
  cases e : a ρ S with
  | ok w S1 =>
    rw [e] at o
    exact fun m1 v H1 e1 s1 v1 => k w S1 m1 v H1 e1 s1 v1 (o m1 σ H1 e1 s1)
  | er x S1 =>
    rw [e] at o
    exact fun m' H' cls od e1 s1 x1 => o m' σ H' cls od e1 s1 x1
  | no =>
    rw [e] at o
    exact o
end
section
variable {X : Cx} {Wx : WX} {Fr : Fram} {e e2 : Expr} {es : List Expr} {a b : A} {pos : Pos} {g : AG} {gs : List AG} {k : Nat}
theorem s_gname {i : Nat} {x : Str} (hN : X.N.Nodup) (hi : X.N[i]? = some x) (hx : X.env.scope.names.lookup x = some .local) (hf : ∀ σ v, Fr.rel σ (σ.set i (some v))) : PG X (.Name x pos) (rdG (wd X) Wx Fr (gNm i)) := by
  refine ⟨fun pins s σ H v u Q I r h => (pg_name hN hi (.inl hx) (hf := .inr hx)).run pins s σ H v u Q I r ?_⟩
  obtain ⟨m, ρ, S, w, sr, hv, o⟩ := h
  exact o m _ H .refl (sr.put hv) (hf _ _)
theorem s_gname2 {i : Nat} {x : Str} (hN : X.N.Nodup) (hi : X.N[i]? = some x) (hx : L2.Loc X.env.scope x) (h2 : X.fn x = true ∨ X.env.scope.names.lookup x = some .local) (hf : ∀ σ v, Fr.rel σ (σ.set i (some v))) : PG X (.Name x pos) (rdG (wd X) Wx Fr (gNm i)) := by
  refine ⟨fun pins s σ H v u Q I r h => (pg_name hN hi hx (hf := h2)).run pins s σ H v u Q I r ?_⟩
  obtain ⟨m, ρ, S, w, sr, hv, o⟩ := h
  exact o m _ H .refl (sr.put hv) (hf _ _)
theorem s_gnil : PGs X [] (rdGs (wd X) Wx Fr []) := by
  refine ⟨fun pins s σ H vs us Q I r h => pgs_nil.run pins s σ H vs us Q I r ?_⟩
  obtain ⟨m, ρ, S, ws, sr, hv, o⟩ := h
  cases ws with
  | nil => exact ⟨hv, o m σ H .refl sr (Fr.rfl σ)⟩
  | cons w ws => exact False.elim o
theorem assign_ok (h : unstar e = true) : (assignEach (e :: es) X.env).map (·.2) = assign e X.env :: (assignEach es X.env).map (·.2) := by
  cases e <;> first | rfl | cases h
theorem s_gcons (h1 : PG X e (rdG (wd X) Wx Fr g)) (h2 : PGs X es (rdGs (wd X) Wx Fr gs)) (hs : unstar e = true) : PGs X (e :: es) (rdGs (wd X) Wx Fr (g :: gs)) := by
  refine ⟨fun pins s σ H vs us Q I r h => (pgs_cons h1 h2 (assign_ok hs)).run pins s σ H vs us Q I r ?_⟩
  obtain ⟨m, ρ, S, ws, sr, hv, o⟩ := h
  cases ws with
  | nil => exact False.elim o
  | cons w ws =>
    obtain ⟨x, xs, rfl, t, l⟩ := hv
    refine ⟨x, xs, rfl, m, ρ, S, w, sr, t, ?_⟩
    have o : OutS (wd X) Wx m H (bs (g w) (fun _ => gAll gs ws) ρ S) (fun _ _ σ' H' => Fr.rel σ σ' → Q σ' H') := o
    unfold bs at o
    cases e1 : g w ρ S with
    | ok a ρ1 S1 =>
      rw [e1] at o
      exact fun m1 σ1 H1 x1 s1 f1 => ⟨m1, ρ1, S1, ws, s1, l.ext x1, (o.ext x1).mono fun _ _ σ' H' _ q f2 => q (Fr.trans f1 f2)⟩
    | er x ρ1 S1 =>
      rw [e1] at o
      exact o
    | no =>
      rw [e1] at o
      exact o
theorem seqAt_ok {m : List Addr} {H : Hp} {S : Sto} {w : W} {v : V} {ws : List W} (r : Rel (wd X) m H S) (hv : Va (wd X) m H w v) (h : seqAt S w = some ws) : ∃ p xs, v = .ref p ∧ ((∃ i, w = .ref i ∧ m[i]? = some p ∧ H p = some (.lst xs)) ∨ SqT X.K H p xs) ∧ VaL (wd X) m H ws xs := by
  cases w <;> first | (cases h; done) | skip
  · obtain ⟨p, xs, rfl, sq, l⟩ := hv
    cases h
    exact ⟨p, xs, rfl, .inr sq, l⟩
  · rename_i i
    obtain ⟨p, xs, hp, rfl, h1, l⟩ := seq_lst r hv h
    exact ⟨p, xs, rfl, .inl ⟨i, rfl, hp, h1⟩, l⟩
theorem unstar_len : ∀ {es : List Expr}, es.all unstar = true → (assignEach es X.env).length = es.length ∧ (assignEach es X.env).findIdx? (·.1) = none
  | [], _ => ⟨rfl, rfl⟩
  | e :: es, h => by
    rw [List.all_cons, Bool.and_eq_true] at h
    obtain ⟨h1, h2⟩ := unstar_len h.2
    have e1 : assignEach (e :: es) X.env = (false, assign e X.env) :: assignEach es X.env := by
      cases e <;> first | rfl | exact (Bool.false_ne_true h.1).elim
    rw [e1]
    exact ⟨by rw [List.length_cons, List.length_cons, h1], by rw [List.findIdx?_cons, h2]; rfl⟩
theorem s_gtup (hc : X.calm = true) (h : PGs X es (rdGs (wd X) Wx Fr gs)) (hs : es.all unstar = true) (hl : gs.length = es.length) : PG X (.Tuple es k pos) (rdG (wd X) Wx Fr (gTu gs)) := by
  obtain ⟨u1, u2⟩ := unstar_len (X := X) hs
  refine ⟨fun pins s σ H v u Q I r h' => ?_⟩
  obtain ⟨m, ρ, S, w, sr, hv, o⟩ := h'
  unfold gTu at o
  cases e : seqAt S w with
  | none => rw [e] at o; exact False.elim o
  | some ws =>
    rw [e] at o
    dsimp only at o
    split at o
    · rename_i hlen
      obtain ⟨p, xs, rfl, h1, l⟩ := seqAt_ok sr.rel hv e
      have q : rdGs (wd X) Wx Fr gs xs σ H Q := ⟨m, ρ, S, ws, sr, l, o⟩
      have xl : xs.length = (assignEach es X.env).length := by rw [l.len, u1, hlen, hl]
      rcases h1 with ⟨i, _, _, h1⟩ | h1
      · exact (pg_unl hc h rfl u2).run pins s σ H _ u Q I r ⟨p, xs, rfl, SqL.of h1, xl, q⟩
      · exact (pg_tup hc h rfl u2).run pins s σ H _ u Q I r ⟨p, xs, rfl, h1, xl, q⟩
    · exact False.elim o
/-! ### o[i] = v -/
theorem putKW_ok {κ : Type} [DecidableEq κ] {m : List Addr} {H : Hp} {k : Key} {w : W} {v : V} (t : Va (wd X) m H w v) : ∀ {kvs : List (Key × W)} {ks : List (Key × V)}, KvL (wd X) m H kvs ks → KvL (wd X) m H (putKW kvs k w) (putK ks k v) := by
  have anyE : ∀ {kvs : List (Key × W)} {ks : List (Key × V)}, KvL (wd X) m H kvs ks → (ks.any fun kv => decide (kv.1 = k)) = (kvs.any fun kv => decide (kv.1 = k)) := by
    intro kvs
    induction kvs with
    | nil =>
      intro ks h
      have e : ks = [] := by have := h.len; simpa using this
      subst e
      rfl
    | cons p r ih =>
      intro ks h
      obtain ⟨j, u⟩ := p
      obtain ⟨x, r2, rfl, t1, h'⟩ := h.cons
      rw [List.any_cons, List.any_cons, ih h']
  have mapE : ∀ {kvs : List (Key × W)} {ks : List (Key × V)}, KvL (wd X) m H kvs ks → KvL (wd X) m H (kvs.map fun kv => if kv.1 = k then (kv.1, w) else kv) (ks.map fun kv => if kv.1 = k then (kv.1, v) else kv) := by
    intro kvs
    induction kvs with
    | nil =>
      intro ks h
      have e : ks = [] := by have := h.len; simpa using this
      subst e
      exact h
    | cons p r ih =>
      intro ks h
      obtain ⟨j, u⟩ := p
      obtain ⟨x, r2, rfl, t1, h'⟩ := h.cons
      rw [List.map_cons, List.map_cons]
      by_cases c : j = k
      · simp only [c, if_true]
        exact KvL.mk t (ih h')
      · simp only [c, if_false]
        exact KvL.mk t1 (ih h')
  have appE : ∀ {kvs : List (Key × W)} {ks : List (Key × V)}, KvL (wd X) m H kvs ks → KvL (wd X) m H (kvs ++ [(k, w)]) (ks ++ [(k, v)]) := by
    intro kvs
    induction kvs with
    | nil =>
      intro ks h
      have e : ks = [] := by have := h.len; simpa using this
      subst e
      exact KvL.mk t .nil
    | cons p r ih =>
      intro ks h
      obtain ⟨j, u⟩ := p
      obtain ⟨x, r2, rfl, t1, h'⟩ := h.cons
      exact KvL.mk t1 (ih h')
  intro kvs ks h
  unfold putKW putK
  rw [anyE h]
  split
  · exact mapE h
  · exact appE h
def rSetD : TSet := fun o i v H Q => ∃ a H4, o = .ref a ∧ DPut H a i v H4 ∧ Q H4
theorem set_d (hu : X.A.units + 1 < cLine) : PSet X rSetD := by
  intro pins s σ H o i v ov iv u Q I r1 r2 r3 h
  obtain ⟨a, H4, rfl, g, q⟩ := h
  obtain rfl : ov = Value.ref a := r1
  exact d_setItem hu I g r2 r3 fun s4 I4 => ⟨H4, I4, q⟩
def rSetA : TSet := fun o i v H Q => rSetL o i v H Q ∨ rSetD o i v H Q
theorem set_a (hu : X.A.units + 1 < cLine) : PSet X rSetA := fun pins s σ H o i v ov iv u Q I r1 r2 r3 h => h.elim (set_list pins s σ H o i v ov iv u Q I r1 r2 r3) (set_d hu pins s σ H o i v ov iv u Q I r1 r2 r3)
theorem os_set {m : List Addr} {H : Hp} {S : Sto} {σ : L2.St} {ρ : Rho} {x y w : W} {o i v : V} {Q : L2.St → Hp → Prop} (sr : Sr (wd X) m ρ S σ H) (h1 : Va (wd X) m H x o) (h2 : Va (wd X) m H y i) (h3 : Va (wd X) m H w v)
    (h : ∀ S', setW x y w S = .ok () S' → ∀ m' H', Ext (wd X) m H m' H' → Sr (wd X) m' ρ S' σ H' → Q σ H') (hn : setW x y w S ≠ .no) : rSetA o i v H (fun H' => Q σ H') := by
  cases x <;> first | exact absurd rfl hn | skip
  rename_i n
  obtain ⟨p, hp, rfl⟩ := h1
  unfold setW at h hn
  dsimp only at h hn
  cases e : S[n]? with
  | none => rw [e] at hn; exact absurd rfl hn
  | some ob =>
    have hob := sr.rel.at_ n p ob hp e
    rw [e] at h hn
    cases ob with
    | lst ws =>
      obtain ⟨xs, g1, l⟩ := hob
      cases y <;> first | exact absurd rfl hn | skip
      cases h2
      dsimp only at h hn
      rename_i k
      cases e1 : ixN ws.length k with
      | none => rw [e1] at hn; exact absurd rfl hn
      | some j =>
        rw [e1] at h
        have ex : Ext (wd X) m H m (upd H p (.lst (xs.set j v))) := Ext.upd (List.mem_of_getElem? hp) g1 (fun _ z => by cases z) (fun _ _ z => by cases z)
        refine .inl ⟨p, xs, k, j, rfl, rfl, g1, by rw [l.len]; exact e1, h _ rfl m _ ex (sr.set hp ⟨_, upd_same, (VaL.set h3 j l).ext ex⟩)⟩
    | dic kvs =>
      obtain ⟨ks, g1, l⟩ := hob
      dsimp only at h hn
      cases e1 : keyW y with
      | none => rw [e1] at hn; exact absurd rfl hn
      | some k =>
        rw [e1] at h hn
        dsimp only at h hn
        by_cases c : short (kvs.length + 1) = true
        · rw [if_pos c] at h
          have hk := key_ok h2 e1
          subst hk
          have ex : Ext (wd X) m H m (upd H p (.dK (putK ks k v))) := Ext.upd (List.mem_of_getElem? hp) g1 (fun _ z => by cases z) (fun _ _ z => by cases z)
          refine .inr ⟨p, _, rfl, .inl ⟨ks, k, g1, rfl, ?_, rfl⟩, h _ rfl m _ ex (sr.set hp ⟨_, upd_same, (putKW_ok (κ := Key) h3 l).ext ex⟩)⟩
          rw [l.len]
          exact Nat.lt_of_lt_of_le (Nat.lt_succ_self _) (short_le c)
        · rw [if_neg c] at hn
          exact absurd rfl hn
    | ins c fs => exact absurd rfl hn
theorem s_gsub (hu : X.A.units + 1 < cLine) (hp : plainIx e2 = true) (ha : PE X e (rdE (wd X) Wx a)) (hb : PE X e2 (rdE (wd X) Wx b)) : PG X (.Subscript e e2 pos) (rdG (wd X) Wx Fr (gSb a b)) := by
  refine ⟨fun pins s σ H v u Q I r h => (pg_sub ha hb (set_a hu) (by intro v; cases e2 <;> first | rfl | exact (Bool.false_ne_true hp).elim)).run pins s σ H v u Q I r ?_⟩
  obtain ⟨m, ρ, S, w, sr, hv, o⟩ := h
  unfold gSb at o
  rw [up_bd] at o
  refine outS_up (Vv := Va (wd X)) sr o fun x S1 m1 vo H1 e1 s1 v1 o1 => ?_
  rw [up_bd (f := fun y _ => setW x y w)] at o1
  refine outS_up (Vv := Va (wd X)) s1 o1 fun y S2 m2 vi H2 e2 s2 v2 o2 => ?_
  refine os_set s2 (v1.ext e2) v2 (hv.ext (e1.trans e2)) (fun S' q m' H' e3 s3 => ?_) fun q => ?_
  · simp only [up, q] at o2
    exact o2 m' σ H' e3 s3 (Fr.rfl σ)
  · simp only [up, q] at o2
    exact o2
end
end Ev

/-! ## enumerate of a tuple -/
namespace Et
open PySem PySem.Spec PyProof.Rows L2
set_option maxHeartbeats 1000000 in
theorem meets_new1 {v : Value} {o : Obj} {H : Heap → Prop} (B : Begins v o H) :
    Meets (Builtin.«enumerate.__new__» ⟨[.type "enumerate", v], []⟩) (fun _ R s => H s.heap ∧
      R (.ok (.ret (.ref (s.heap.push o).objs.size))) { s with heap := (s.heap.push o).push { cls := .type "enumerate", data := .fields #[.none, .bool false, .ref s.heap.objs.size, rawInt 0, .none, .none] } }) :=
  .of_wp fun prog w A R s h => by
    obtain ⟨hp, g, d, tk, os⟩ := s; obtain ⟨h1, h⟩ := h
    have hsub := sub_enumerate
    have q1 : ∀ {A' : Around} {E : Value → Shared → Prop} {Q : Value → Shared → Prop}, Q (.ref hp.objs.size) ⟨hp.push o, g, d, tk, os⟩ → wpAny (model prog w) A' (pyIter v) Q E ⟨hp, g, d, tk, os⟩ :=
      fun q => B.iter prog w _ _ ⟨hp, g, d, tk, os⟩ _ h1 q
    wp_walk using q1
    refine wpAny_stack_any fun st => wpAny_pure ?_
    split
    · rename_i c _ _ _ _ _
      cases (c == Value.type "enumerate")
      · wp_walk using q1
        exact ⟨_, rfl, h⟩
      · wp_walk using q1
        exact ⟨_, rfl, h⟩
    · wp_walk using q1
      exact ⟨_, rfl, h⟩
section
variable {prog : Program} {w : World} {A : Around} {E : Value → Shared → Prop} {s : Shared}
theorem call_enum1 {v : Value} {o : Obj} {H : Heap → Prop} {Q : Value → Shared → Prop} (B : Begins v o H) (h1 : H s.heap)
    (h : ∀ h', IsEnum h' (s.heap.objs.size + 1) s.heap.objs.size 0 .none → h'.get? s.heap.objs.size = some o → h'.objs.size = s.heap.objs.size + 2 →
      (∀ b o, s.heap.get? b = some o → h'.get? b = some o) → Q (.ref (s.heap.objs.size + 1)) { s with heap := h' }) :
    wpAny (model prog w) A (call (.type "enumerate") [v]) Q E s := by
  refine callType_new F.called_enumerate (by decide) (F.typeCall_enumerate_1 _) (F.newCall_enumerate_1 _) (fun obj => F.args_object_init_2 obj _) F.entry_enumerate_new
    (meets_new1 B) ⟨h1, ?_⟩
  have hz : (s.heap.push o).objs.size = s.heap.objs.size + 1 := Heap.size_push ..
  show _ ∧ _
  rw [hz]
  have he : IsEnum ((s.heap.push o).push { cls := .type "enumerate", data := .fields #[.none, .bool false, .ref s.heap.objs.size, rawInt 0, .none, .none] }) (s.heap.objs.size + 1) s.heap.objs.size 0 .none := by
    have := Heap.get?_push_size (s.heap.push o) (o := { cls := .type "enumerate", data := .fields #[.none, .bool false, .ref s.heap.objs.size, rawInt 0, .none, .none] }) rfl
    rw [hz] at this; exact this
  refine ⟨⟨_, he, rfl⟩, h _ he (Heap.get?_push_of_some _ (Heap.get?_push_size _ B.free)) (by rw [Heap.size_push, hz]) fun b o x => Heap.get?_push_of_some _ (Heap.get?_push_of_some _ x)⟩
theorem draws_tup (hh : A.handled = none) (it l : Addr) (hne : l ≠ it) (items : Array Value) :
    Draws prog w A it [it, l] items.size (fun i v => items[i]? = some v) (fun i h => h.IsTupleIter it l i ∧ h.IsTuple l items) where
  live := fun _ _ x => let ⟨o, ho, _⟩ := x.1; ⟨o, ho⟩
  frame := fun _ _ _ x k => ⟨x.1.at fun o e => k it (List.mem_cons_self ..) o e, x.2.at fun o e => k l (List.mem_cons_of_mem _ (List.mem_cons_self ..)) o e⟩
  item := fun i s Q E hi x k => RZ.nextOf_tuple_item x.1 x.2 (x := items[i]) (by simp [hi]) fun h' y c => k _ h' s.toks (by simp [hi]) ⟨y, x.2.extBut c.extBut hne⟩ c
  done := fun s Q E x k => RZ.nextOf_tuple_end hh x.1 x.2 (by simp) k
end
def Iut (K : PySem.W.Frag) (a : Addr) (xs : List V) : It :=
  ⟨fun i H => SqT K H a xs ∧ i < xs.length, fun i H v H' => ∃ T x, v = .ref T ∧ H T = none ∧ H' = upd H T (.tup [.int (i : Nat), x]) ∧ xs[i]? = some x, fun i H => SqT K H a xs ∧ xs.length ≤ i⟩
theorem tup_is {h : Heap} {a : Addr} {its : Array Value} (t : IsTup h a its) : h.IsTuple a its := let ⟨o, e, c, n, d⟩ := t; ⟨o, e, c, n, d⟩
theorem turn_enumT {P : Program} {w : World} {K : PySem.W.Frag} {elts : List Expr} {kk : Nat} {tpos : Pos} (a e it : Addr) (xs : List V) :
    Turn P w K (.Tuple elts kk tpos) (Iut K a xs) [e, it] e (fun i h => (∃ old, IsEnum h e it ((i : Nat) : Int) old) ∧ h.IsTupleIter it a i ∧ e ≠ it ∧ e ≠ a ∧ a ≠ it ∧ i ≤ xs.length) where
  mem := by simp
  obj := fun i h st b hb => by
    obtain ⟨⟨old, he⟩, ⟨o, ho, hc, hd⟩, _⟩ := st
    have e' : b = e ∨ b = it := by simpa using hb
    rcases e' with z | z
    · rw [z]; exact ⟨_, he, fun v q => nomatch q⟩
    · rw [z]; exact ⟨o, ho, fun v q => by rw [hd] at q; cases q⟩
  keep := fun i h h' st k => let ⟨⟨old, he⟩, hi, r⟩ := st; ⟨⟨old, k e (by simp) _ he⟩, hi.at fun o q => k it (by simp) o q, r⟩
  item := by
    intro X hP hw hK hc i pins s σ H E I hf st hg
    subst hP hw hK
    obtain ⟨⟨old, he⟩, hit, hne, hea, hai, _⟩ := st
    obtain ⟨hq, hlt⟩ := hg
    obtain ⟨its, rv, p, hz⟩ := I.tuple hq
    have hel : e < s.heap.objs.size := Heap.lt_size he
    have hil : it < s.heap.objs.size := by obtain ⟨_, q, _⟩ := hit; exact Heap.lt_size q
    have hn : its.toArray.size = xs.length := by simp [rv.length]
    refine wpAny_pyNext_enum_itemD (D := draws_tup (A := X.A.in1) (I.ok.hd hc) it a hai its.toArray) he ⟨hit, tup_is p⟩ (by omega) hne (by simp [hne, hea]) fun v h' tk hv ho hit' hT hsz hk => ?_
    obtain ⟨x, hx, ru⟩ : ∃ x, xs[i]? = some x ∧ RelV x v := by
      obtain ⟨u, h1, h2⟩ := rv.get (List.getElem?_eq_getElem hlt)
      have : u = v := by
        have hv' : its[i]? = some v := by simpa using hv
        rw [h1] at hv'
        exact Option.some.inj hv'
      subst this
      exact ⟨_, List.getElem?_eq_getElem hlt, h2⟩
    refine ⟨_, rfl, wpAny_letOwnedTupleGo_enum (s := { s with heap := h', toks := tk + 1 }) ho fun h'' he' sb => ?_⟩
    have hT2 : h''.get? s.heap.objs.size = some { cls := .type "tuple", data := .seq #[.int i tk, v] } := (sb.2 _ (Nat.ne_of_gt hel)).trans hT
    have new : ObjOk X.prog X.w (upd H s.heap.objs.size (.tup [.int (i : Nat), x])) h'' s.heap.objs.size (.tup [.int (i : Nat), x]) :=
      ⟨by show 2 ≤ sizeLine; decide, [.int i tk, v], .cons ⟨_, rfl⟩ (.cons ru .nil), ⟨_, hT2, rfl, _, rfl⟩⟩
    have I1 : Inv X pins σ (upd H s.heap.objs.size (.tup [.int (i : Nat), x])) { s with heap := h'', toks := tk + 1 } :=
      I.turnedNew (ch := [e, it]) (fun b ob hb q => (sb.2 b (fun z => hb (by simp [z]))).trans (hk b ob (fun z => hb (by simp [z])) (fun z => hb (by simp [z])) q)) hf (Nat.le_refl _) new
    refine ⟨.ref s.heap.objs.size, _, I1, rfl, ⟨_, x, rfl, I.hok.fresh (Nat.le_refl _), rfl, hx⟩, ⟨⟨v, ?_⟩, hit'.1.at fun o q => (sb.2 it (Ne.symm hne)).trans q, hne, hea, hai, hlt⟩, fun b hb => ?_⟩
    · have e1 : ((i + 1 : Nat) : Int) = (i : Int) + 1 := by omega
      rw [e1]; exact he'
    · have hb' : b < s.heap.objs.size := by
        have e' : b = e ∨ b = it := by simpa using hb
        rcases e' with z | z
        · rw [z]; exact hel
        · rw [z]; exact hil
      rw [upd_ne (Nat.ne_of_lt hb')]
      exact (hf b hb).1
  done := by
    intro X hP hw hK hc i pins s σ H E I hf st hg
    subst hP hw hK
    obtain ⟨⟨old, he⟩, hit, hne, hea, hai, hi⟩ := st
    obtain ⟨hq, hle⟩ := hg
    obtain ⟨its, rv, p, hz⟩ := I.tuple hq
    have hn : its.toArray.size = xs.length := by simp [rv.length]
    have ei : i = its.toArray.size := by omega
    obtain ⟨f0, f1, f2, f3, f4, f5⟩ := hf it (by simp)
    rw [ei] at hit he
    exact wpAny_pyNext_enum_endD (D := draws_tup (A := X.A.in1) (I.ok.hd hc) it a hai its.toArray) he ⟨hit, tup_is p⟩ fun h' eb => ⟨rfl, I.turned (t' := s.toks) (fun b o hb q => eb b o hb q) f0 f1 f3 f4 f5⟩
  self := fun A i s Q E st h => let ⟨⟨_, he⟩, _⟩ := st; wpAny_pyIter_enum he h
def iEnumT (K : PySem.W.Frag) (ta : TA) : TI := fun σ H R => ta σ H fun vs H1 => ∃ a xs, vs = [.ref a] ∧ SqT K H1 a xs ∧ R (Iut K a xs) H1
theorem pi_enumT {X : Cx} {e : Expr} {ta : TA} {p pos tpos : Pos} {elts : List Expr} {kk : Nat} (hg : Gl X "enumerate") (hm : X.mg "enumerate" = none) (ha : PA X [e] ta) (hs : starEach [e] X.env = [(false, eval e X.env)] := by rfl) :
    PI X (.Tuple elts kk tpos) (.Call (.Name "enumerate" p) [e] [] pos) (iEnumT X.K ta) := by
  refine ⟨fun pins s σ H R I h => ?_⟩
  refine Call_ (ld_blt I hg hm boot_enumerate (PyProof.Rows.callWith_type1 (thn (ha.run pos pins s σ H _ I h) fun us s1 ⟨vs, H1, I1, r1, q1⟩ => ?_) hs rfl))
  obtain ⟨a, xs, ex, hq, q⟩ := q1
  subst ex
  cases r1 with
  | cons r rr =>
    cases rr
    cases r
    obtain ⟨its, rv, p', hz⟩ := I1.tuple hq
    have la : a < s1.heap.objs.size := by obtain ⟨o, e, _⟩ := p'; exact Heap.lt_size e
    refine call_enum1 (begins_tuple a its.toArray) (tup_is p') fun h' he hit hsz hk => wpAny_pyIter_enum he ?_
    have I2 : Inv X pins σ H1 { s1 with heap := h' } := I1.kept (t' := s1.toks) hk
    refine ⟨s1.heap.objs.size + 1, [s1.heap.objs.size + 1, s1.heap.objs.size], _, _, H1, rfl, I2, turn_enumT a (s1.heap.objs.size + 1) s1.heap.objs.size xs, ⟨⟨.none, he⟩, ⟨_, hit, rfl, rfl⟩, Nat.succ_ne_self _, Nat.ne_of_gt (Nat.lt_succ_of_lt la), Nat.ne_of_lt la, Nat.zero_le _⟩, fun b hb => ?_, q⟩
    have e' : b = s1.heap.objs.size + 1 ∨ b = s1.heap.objs.size := by simpa using hb
    have hle : s1.heap.objs.size ≤ b := by
      rcases e' with z | z
      · rw [z]; exact Nat.le_add_right _ _
      · rw [z]; exact Nat.le_refl _
    exact I1.fpOk hle (I1.hok.fresh hle)
/-- a loop over the places and items of a tuple -/
theorem for_enumT {K : PySem.W.Frag} {a : Addr} {xs : List V} {g : TG} {tb : TS} {D : Ends} {σ : L2.St} {H : Hp} (Pv : Nat → L2.St → Hp → Prop) (h0 : Pv 0 σ H) (hl : ∀ i σ H, i ≤ xs.length → Pv i σ H → SqT K H a xs)
    (hb : ∀ (i : Nat) (x : V) (σ : L2.St) (H : Hp) (T : Addr), xs[i]? = some x → H T = none → Pv i σ H → g (.ref T) σ (upd H T (.tup [.int (i : Nat), x])) fun σ2 H2 => tb { D with nx := Pv (i + 1), ct := Pv (i + 1), bk := D.nx } σ2 H2)
    (hd : ∀ σ H, Pv xs.length σ H → D.nx σ H) :
    ∃ W : Nat → Nat → L2.St → Hp → Prop, (∃ m, W 0 m σ H) ∧ ∀ i m σ H, W i m σ H →
      ((Iut K a xs).stop i H ∧ D.nx σ H) ∨ ((Iut K a xs).go i H ∧ ∃ N : L2.St → Hp → Prop, (∀ σ' H', N σ' H' → ∃ m', m' < m ∧ W (i + 1) m' σ' H') ∧ ∀ v H', (Iut K a xs).yld i H v H' → g v σ H' fun σ2 H2 => tb { D with nx := N, ct := N, bk := D.nx } σ2 H2) := by
  refine ⟨fun i m σ H => m = xs.length - i ∧ i ≤ xs.length ∧ Pv i σ H, ⟨xs.length, by simp, Nat.zero_le _, h0⟩, ?_⟩
  rintro i m σ H ⟨rfl, hi, p⟩
  by_cases hlt : i < xs.length
  · refine .inr ⟨⟨hl i σ H hi p, hlt⟩, Pv (i + 1), fun σ' H' p' => ⟨xs.length - (i + 1), by omega, rfl, hlt, p'⟩, fun v H' y => ?_⟩
    obtain ⟨T, x, rfl, hT, rfl, hx⟩ := y
    exact hb i x σ H T hx hT p
  · have e : i = xs.length := by omega
    subst e
    exact .inl ⟨⟨hl _ σ H hi p, Nat.le_refl _⟩, hd σ H p⟩
end Et

/-! ## Iterators, comprehensions -/
namespace Ev
open PySem L2 PyProof.Rows
/-- the item at a turn: nothing is said, the end, an item -/
abbrev ItE := Nat → Sto → Option (Option W)
abbrev AI := Rho → M ItE
def itTup (ws : List W) : ItE := fun i _ => some ws[i]?
def itLst (n : Nat) : ItE := fun i S => (lstAt S n).map (·[i]?)
def itRng (lo : Int) (n : Nat) : ItE := fun i _ => some (if i < n then some (.int (lo + i)) else none)
def itStr (z : Str) : ItE := fun i _ => some ((z.cps.toList[i]?).map chr1)
def itZip (a b : ItE) : ItE := fun i S => match a i S, b i S with
  | some (some x), some (some y) => some (some (.tup [x, y]))
  | some none, some _ => some none
  | some (some _), some none => some none
  | _, _ => none
def itEnu (a : ItE) : ItE := fun i S => match a i S with
  | some (some x) => some (some (.tup [.int i, x]))
  | some none => some none
  | none => none
def itW (w : W) : M ItE := fun S => match w with
  | .tup ws => .ok (itTup ws) S
  | .ref n => (match lstAt S n with | some _ => .ok (itLst n) S | none => .no)
  | .str z => if z.length ≤ lim then .ok (itStr z) S else .no
  | _ => .no
def in62 (i : Int) : Bool := decide (-(2 ^ 62) ≤ i) && decide (i < 2 ^ 62)
def rng1 : W → M ItE
  | .int j => guard (in62 j) (ret (itRng 0 j.toNat))
  | _ => fail
def rng2 : W → W → M ItE
  | .int i, .int j => guard (in62 i && in62 j) (ret (itRng i (j - i).toNat))
  | _, _ => fail
def zipW (x y : W) : M ItE := fun S => match x, y with
  | .tup a, .tup b => .ok (itZip (itTup a) (itTup b)) S
  | .ref i, .ref j => (match lstAt S i, lstAt S j with | some _, some _ => .ok (itZip (itLst i) (itLst j)) S | _, _ => .no)
  | _, _ => .no
def enuW (w : W) : M ItE := fun S => match w with
  | .ref i => (match lstAt S i with | some _ => .ok (itEnu (itLst i)) S | _ => .no)
  | .tup a => .ok (itEnu (itTup a)) S
  | _ => .no
def itRev (n k : Nat) : ItE := fun i T => if i < k then (match lstAt T n with | some us => (match us[k - 1 - i]? with | some u => some (some u) | none => none) | none => none) else some none
def revI (w : W) : M ItE := fun S => match w with
  | .tup ws => .ok (itTup ws.reverse) S
  | .ref n => (match lstAt S n with | some ws => .ok (itRev n ws.length) S | none => .no)
  | _ => .no
def aIt (a : A) : AI := fun ρ => bd (a ρ) itW
def aRng1 (a : A) : AI := fun ρ => bd (a ρ) rng1
def aRng2 (a b : A) : AI := fun ρ => bd (a ρ) fun x => bd (b ρ) fun y => rng2 x y
def aZip (a b : A) : AI := fun ρ => bd (a ρ) fun x => bd (b ρ) fun y => zipW x y
def aEnu (a : A) : AI := fun ρ => bd (a ρ) enuW
def aRev (a : A) : AI := fun ρ => bd (a ρ) revI
def wipeR (ρ : Rho) : List Nat → Rho
  | [] => ρ
  | v :: vs => (wipeR ρ vs).set v none
def compN (it : ItE) (g : AG) (tt : AT) (te : A) (ρ0 : Rho) : Nat → Nat → List W → M (List W)
  | 0, _, _ => fail
  | f + 1, i, acc => fun S => match it i S with
    | none => .no
    | some none => .ok acc S
    | some (some w) => (match g w ρ0 S with
      | .ok _ ρ1 S1 => (match tt ρ1 S1 with
        | .ok true S2 => (match te ρ1 S2 with
          | .ok y S3 => if short (acc.length + 1) = true then compN it g tt te ρ0 f (i + 1) (acc ++ [y]) S3 else .no
          | _ => .no)
        | .ok false S2 => compN it g tt te ρ0 f (i + 1) acc S2
        | _ => .no)
      | _ => .no)
def big : Nat := 1000000000
/-- a comprehension's items -/
def aComp (own : List Nat) (it : AI) (g : AG) (tt : AT) (te : A) : AL := fun ρ => bd (it ρ) fun j => compN j g tt te (wipeR ρ own) big 0 []
def tYes : AT := fun _ => ret true
/-- a new list -/
def newL (l : AL) : A := fun ρ => bd (l ρ) fun ws => new (.lst ws)
/-- an iterator of the heap -/
def Vi (G : Wd) : Vr ItE It := fun m0 H0 it J => ∀ (m : List Addr) (H : Hp) (S : Sto) (i : Nat), Ext G m0 H0 m H → Rel G m H S → match it i S with
  | none => True
  | some none => J.stop i H
  | some (some w) => J.go i H ∧ ∀ x H', J.yld i H x H' → Same H H' ∧ Va G m H' w x
/-- a new list that is not in the store -/
def Vs (G : Wd) (H0 : Hp) : Vr (List W) V := fun m H ws v => ∃ p xs, v = .ref p ∧ p ∉ m ∧ H0 p = none ∧ H p = some (.lst xs) ∧ VaL G m H ws xs
def rdQ (G : Wd) (Wx : WX) (l : AL) : TE := fun σ H Q => rd G (Vs G H) Wx l σ H Q
/-- a list or a tuple -/
def Vq (G : Wd) : Vr (List W) V := fun m H ws v => ∃ p xs, v = .ref p ∧ (SqL G.K H p xs ∨ SqT G.K H p xs) ∧ VaL G m H ws xs
section
variable {X : Cx} {Wx : WX} {G : Wd} {m m' : List Addr} {H H' : Hp} {S : Sto} {e e2 : Expr} {es : List Expr} {a b te : A} {tt : AT} {it : AI} {l : AL} {pos p2 : Pos} {g : AG} {k : Nat}
theorem same_refl {H : Hp} : Same H H := fun _ _ h => h
theorem vi_tup {p : Addr} {xs : List V} {ws : List W} (sq : SqT G.K H p xs) (l : VaL G m H ws xs) : Vi G m H (itTup ws) (Itt G.K p) := fun m1 H1 S1 i e r => by
  unfold itTup
  have l1 := l.ext e
  have sq1 := e.tup _ _ sq
  cases e1 : ws[i]? with
  | none => exact ⟨xs, sq1, l1.none_of e1⟩
  | some w =>
    obtain ⟨x, h1, h2⟩ := l1.get e1
    refine ⟨⟨xs, x, sq1, h1⟩, fun y H' ⟨z1, z2⟩ => ?_⟩
    subst z1
    rw [z2 xs sq1] at h1
    cases h1
    exact ⟨same_refl, h2⟩
theorem lst_at {n : Nat} {ws : List W} (r : Rel G m H S) (h : lstAt S n = some ws) {p : Addr} (hp : m[n]? = some p) : ∃ xs, H p = some (.lst xs) ∧ VaL G m H ws xs := by
  obtain ⟨a, xs, ha, _, h1, l⟩ := seq_lst (v := .ref p) r ⟨p, hp, rfl⟩ h
  rw [hp] at ha
  cases ha
  exact ⟨xs, h1, l⟩
theorem sqL_eq {K : PySem.W.Frag} {p : Addr} {xs ys : List V} (h : H p = some (.lst xs)) (q : SqL K H p ys) (nk : ∀ o, K.lookup p = some o → False) : ys = xs := by
  rcases q with (q | ⟨o, q⟩) | ⟨o, _, _, q, _⟩
  · rw [h] at q; cases q; rfl
  · rw [h] at q; cases q
  · exact (nk o q).elim
theorem vi_lst {n : Nat} {p : Addr} (hp : m[n]? = some p) : Vi G m H (itLst n) (Itl G.K p) := fun m1 H1 S1 i e r => by
  unfold itLst
  cases e1 : lstAt S1 n with
  | none => exact trivial
  | some ws =>
    obtain ⟨xs, h1, l⟩ := lst_at r e1 (e.get hp)
    show (match some (ws[i]?) with | none => True | some none => _ | some (some w) => _)
    cases e2 : ws[i]? with
    | none => exact ⟨xs, SqL.of h1, l.none_of e2⟩
    | some w =>
      obtain ⟨x, h2, h3⟩ := l.get e2
      refine ⟨⟨xs, x, SqL.of h1, h2⟩, fun y H' ⟨z1, z2⟩ => ?_⟩
      subst z1
      rw [z2 xs (SqL.of h1)] at h2
      cases h2
      exact ⟨same_refl, h3⟩
theorem vi_rng {lo : Int} {n : Nat} : Vi G m H (itRng lo n) (Itr lo n) := fun m1 H1 S1 i e r => by
  unfold itRng
  by_cases c : i < n
  · rw [if_pos c]
    exact ⟨c, fun y H' ⟨z1, z2⟩ => by subst z1; subst z2; exact ⟨same_refl, rfl⟩⟩
  · rw [if_neg c]
    exact Nat.le_of_not_lt c
theorem s_it (he : PE X e (rdE (wd X) Wx a)) : PI X e2 e (rd (wd X) (Vi (wd X)) Wx (aIt a)) := by
  refine ⟨fun pins s σ H R I h => ?_⟩
  obtain ⟨m, ρ, S, sr, o⟩ := h
  unfold aIt bd at o
  cases ea : a ρ S with
  | no => rw [ea] at o; exact False.elim o
  | er x T =>
    rw [ea] at o
    refine (pi_list he).run pins s σ H R I ⟨m, ρ, S, sr, ?_⟩
    rw [ea]
    exact o
  | ok w T =>
    rw [ea] at o
    cases w <;> first | exact False.elim o | skip
    · rename_i z
      refine (pi_str he).run pins s σ H R I ⟨m, ρ, S, sr, ?_⟩
      rw [ea]
      intro m1 v H1 e1 s1 v1
      cases v1
      have o : Out (wd X) (Vi (wd X)) Wx σ ρ m H (if z.length ≤ lim then .ok (itStr z) T else .no) R := o
      split at o
      · refine ⟨z, rfl, o m1 _ H1 e1 s1 fun m2 H2 S2 i e2 r => ?_⟩
        unfold itStr
        cases e3 : z.cps.toList[i]? with
        | none =>
          show z.cps.size ≤ i
          have := List.getElem?_eq_none_iff.mp e3
          simpa using this
        | some c =>
          have hi := (List.getElem?_eq_some_iff.mp e3).1
          refine ⟨(by simpa using hi : i < z.cps.size), fun x H' ⟨z1, c', z2, z3⟩ => ?_⟩
          subst z1
          subst z3
          refine ⟨same_refl, ?_⟩
          rw [Array.getElem?_toList, z2] at e3
          cases e3
          rfl
      · exact False.elim o
    · rename_i ws
      refine (pi_tup he).run pins s σ H R I ⟨m, ρ, S, sr, ?_⟩
      rw [ea]
      intro m1 v H1 e1 s1 v1
      obtain ⟨p, xs, rfl, sq, l⟩ := v1
      exact ⟨p, rfl, ⟨xs, sq⟩, o m1 _ H1 e1 s1 (vi_tup sq l)⟩
    · rename_i n
      refine (pi_list he).run pins s σ H R I ⟨m, ρ, S, sr, ?_⟩
      rw [ea]
      intro m1 v H1 e1 s1 v1
      obtain ⟨p, hp, rfl⟩ := v1
      have o : Out (wd X) (Vi (wd X)) Wx σ ρ m H (match lstAt T n with | some _ => .ok (itLst n) T | none => .no) R := o
      cases e2 : lstAt T n with
      | none => rw [e2] at o; exact False.elim o
      | some ws =>
        rw [e2] at o
        obtain ⟨xs, h1, l⟩ := lst_at s1.rel e2 hp
        exact ⟨p, rfl, ⟨xs, SqL.of h1⟩, o m1 _ H1 e1 s1 (vi_lst hp)⟩
theorem in62_ok {i : Int} (h : in62 i = true) : -(2 ^ 62) ≤ i ∧ i < 2 ^ 62 := by
  unfold in62 at h
  rw [Bool.and_eq_true, decide_eq_true_eq, decide_eq_true_eq] at h
  exact h
theorem starEach_ok : ∀ {es : List Expr}, es.all unstar = true → starEach es X.env = es.map fun e => (false, eval e X.env)
  | [], _ => rfl
  | e :: es, h => by
    rw [List.all_cons, Bool.and_eq_true] at h
    rw [star_ok h.1, starEach_ok h.2]
    rfl
theorem star_any (h : es.all unstar = true) : (backTo pos (starEach es X.env)).any (·.1) = false := by
  rw [starEach_ok h]
  unfold backTo
  rw [List.map_map, List.any_map]
  induction es with
  | nil => rfl
  | cons e es ih =>
    rw [List.all_cons, Bool.and_eq_true] at h
    rw [List.any_cons, ih h.2]
    rfl
theorem pa1 (ha : PE X e (rdE (wd X) Wx a)) (hs : unstar e = true) : PA X [e] (tCons (rdE (wd X) Wx a) tNil) := pa_cons ha pa_nil (star_ok hs)
theorem pa2 (ha : PE X e (rdE (wd X) Wx a)) (hb : PE X e2 (rdE (wd X) Wx b)) (hs : unstar e = true) (hs2 : unstar e2 = true) : PA X [e, e2] (tCons (rdE (wd X) Wx a) (tCons (rdE (wd X) Wx b) tNil)) := pa_cons ha (pa1 hb hs2) (star_ok hs)
variable {tg : Expr} {elts : List Expr} {kk : Nat} {tpos : Pos}
theorem s_rng1 (hg : Gl X "range") (hm : X.mg "range" = none) (ha : PE X e (rdE (wd X) Wx a)) (hs : unstar e = true) : PI X tg (.Call (.Name "range" p2) [e] [] pos) (rd (wd X) (Vi (wd X)) Wx (aRng1 a)) := by
  refine ⟨fun pins s σ H R I h => (pi_range1 hg hm (pa1 ha hs) (star_ok hs)).run pins s σ H R I ?_⟩
  obtain ⟨m, ρ, S, sr, o⟩ := h
  refine out_bd sr o fun w S1 m1 v H1 e1 s1 v1 o1 => ?_
  cases w <;> first | exact False.elim o1 | skip
  cases v1
  obtain ⟨h1, o1⟩ := out_guard o1
  obtain ⟨h2, h3⟩ := in62_ok h1
  exact ⟨_, rfl, h2, h3, out_ok s1 o1 vi_rng⟩
theorem s_rng2 (hg : Gl X "range") (hm : X.mg "range" = none) (ha : PE X e (rdE (wd X) Wx a)) (hb : PE X e2 (rdE (wd X) Wx b)) (hs : unstar e = true) (hs2 : unstar e2 = true) : PI X tg (.Call (.Name "range" p2) [e, e2] [] pos) (rd (wd X) (Vi (wd X)) Wx (aRng2 a b)) := by
  refine ⟨fun pins s σ H R I h => (pi_range2 hg hm (pa2 ha hb hs hs2) (by rw [star_ok hs, star_ok hs2]; rfl) (star_ok hs2)).run pins s σ H R I ?_⟩
  obtain ⟨m, ρ, S, sr, o⟩ := h
  refine out_bd sr o fun w S1 m1 v H1 e1 s1 v1 o1 => ?_
  refine out_bd s1 o1 fun w2 S2 m2 v2 H2 e2 s2 v2 o2 => ?_
  cases w <;> cases w2 <;> first | exact False.elim o2 | skip
  cases v1
  cases v2
  obtain ⟨h1, o2⟩ := out_guard o2
  rw [Bool.and_eq_true] at h1
  obtain ⟨h2, h3⟩ := in62_ok h1.1
  obtain ⟨h4, h5⟩ := in62_ok h1.2
  exact ⟨_, _, rfl, ⟨h2, h3, h4, h5⟩, out_ok s2 o2 vi_rng⟩
theorem va_pair {p : Addr} {w u : W} {x y : V} (hp : H p = none) (t : Va G m H w x) (t2 : Va G m H u y) : Same H (upd H p (.tup [x, y])) ∧ Va G m (upd H p (.tup [x, y])) (.tup [w, u]) (.ref p) :=
  ⟨same_new hp, p, _, rfl, SqT.of upd_same, x, [y], rfl, t.ext (.same (same_new hp)), y, [], rfl, t2.ext (.same (same_new hp)), rfl⟩
theorem vi_zipT {p q : Addr} {xs ys : List V} {ws us : List W} (s1 : SqT G.K H p xs) (l1 : VaL G m H ws xs) (s2 : SqT G.K H q ys) (l2 : VaL G m H us ys) : Vi G m H (itZip (itTup ws) (itTup us)) (RZ.ItzT G.K p q) := fun m1 H1 S1 i e r => by
  unfold itZip itTup
  have sa := e.tup _ _ s1
  have sb := e.tup _ _ s2
  have la := l1.ext e
  have lb := l2.ext e
  cases e1 : ws[i]? with
  | none => cases e2 : us[i]? <;> exact ⟨xs, ys, sa, sb, .inl (la.none_of e1)⟩
  | some w =>
    cases e2 : us[i]? with
    | none => exact ⟨xs, ys, sa, sb, .inr (lb.none_of e2)⟩
    | some u =>
      obtain ⟨x, h1, h2⟩ := la.get e1
      obtain ⟨y, h3, h4⟩ := lb.get e2
      refine ⟨⟨xs, ys, x, y, sa, sb, h1, h3⟩, fun z H' ⟨T, x', y', z1, z2, z3, z4, z5⟩ => ?_⟩
      subst z1
      subst z3
      rw [z4 xs sa] at h1
      rw [z5 ys sb] at h3
      cases h1
      cases h3
      exact va_pair z2 h2 h4
theorem vi_zipL {n k : Nat} {p q : Addr} (hp : m[n]? = some p) (hq : m[k]? = some q) : Vi G m H (itZip (itLst n) (itLst k)) (Itz G.K p q) := fun m1 H1 S1 i e r => by
  unfold itZip itLst
  cases e1 : lstAt S1 n with
  | none => exact trivial
  | some ws =>
    cases e2 : lstAt S1 k with
    | none =>
      dsimp only [Option.map]
      cases ws[i]? <;> exact trivial
    | some us =>
      obtain ⟨xs, h1, la⟩ := lst_at r e1 (e.get hp)
      obtain ⟨ys, h2, lb⟩ := lst_at r e2 (e.get hq)
      dsimp only [Option.map]
      cases e3 : ws[i]? with
      | none => cases e4 : us[i]? <;> exact ⟨xs, ys, SqL.of h1, SqL.of h2, .inl (la.none_of e3)⟩
      | some w =>
        cases e4 : us[i]? with
        | none => exact ⟨xs, ys, SqL.of h1, SqL.of h2, .inr (lb.none_of e4)⟩
        | some u =>
          obtain ⟨x, h3, h4⟩ := la.get e3
          obtain ⟨y, h5, h6⟩ := lb.get e4
          refine ⟨⟨xs, ys, x, y, SqL.of h1, SqL.of h2, h3, h5⟩, fun z H' ⟨T, x', y', z1, z2, z3, z4, z5⟩ => ?_⟩
          subst z1
          subst z3
          rw [z4 xs (SqL.of h1)] at h3
          rw [z5 ys (SqL.of h2)] at h5
          cases h3
          cases h5
          exact va_pair z2 h4 h6
theorem s_zip (hg : Gl X "zip") (hm : X.mg "zip" = none) (ha : PE X e (rdE (wd X) Wx a)) (hb : PE X e2 (rdE (wd X) Wx b)) (hs : unstar e = true) (hs2 : unstar e2 = true) : PI X (.Tuple elts kk tpos) (.Call (.Name "zip" p2) [e, e2] [] pos) (rd (wd X) (Vi (wd X)) Wx (aZip a b)) := by
  refine ⟨fun pins s σ H R I h => (RZ.pi_zipA hg hm (pa2 ha hb hs hs2) (star_ok hs) (star_any (by simp [hs2]))).run pins s σ H R I ?_⟩
  obtain ⟨m, ρ, S, sr, o⟩ := h
  refine out_bd sr o fun w S1 m1 v H1 e1 s1 v1 o1 => ?_
  refine out_bd s1 o1 fun w2 S2 m2 v2 H2 e2 s2 t2 o2 => ?_
  have t1 := v1.ext e2
  cases w <;> cases w2 <;> first | exact False.elim o2 | skip
  · obtain ⟨p, xs, rfl, sa, la⟩ := t1
    obtain ⟨q, ys, rfl, sb, lb⟩ := t2
    exact ⟨p, q, xs, ys, rfl, .inr ⟨sa, sb, out_ok s2 o2 (vi_zipT sa la sb lb)⟩⟩
  · rename_i i j
    obtain ⟨p, hp, rfl⟩ := t1
    obtain ⟨q, hq, rfl⟩ := t2
    have o2 : Out (wd X) (Vi (wd X)) Wx σ ρ m2 H2 (match lstAt S2 i, lstAt S2 j with | some _, some _ => .ok (itZip (itLst i) (itLst j)) S2 | _, _ => .no) R := o2
    cases e3 : lstAt S2 i with
    | none => rw [e3] at o2; exact False.elim o2
    | some ws =>
      cases e4 : lstAt S2 j with
      | none => rw [e3, e4] at o2; exact False.elim o2
      | some us =>
        rw [e3, e4] at o2
        obtain ⟨xs, h1, la⟩ := lst_at s2.rel e3 hp
        obtain ⟨ys, h2, lb⟩ := lst_at s2.rel e4 hq
        exact ⟨p, q, xs, ys, rfl, .inl ⟨SqL.of h1, SqL.of h2, out_ok s2 o2 (vi_zipL hp hq)⟩⟩
theorem vi_enuT {p : Addr} {xs : List V} {ws : List W} (sq : SqT G.K H p xs) (l : VaL G m H ws xs) : Vi G m H (itEnu (itTup ws)) (Et.Iut G.K p xs) := fun m1 H1 S1 i e r => by
  unfold itEnu itTup
  have l1 := l.ext e
  have sq1 := e.tup _ _ sq
  cases e1 : ws[i]? with
  | none => exact ⟨sq1, l1.none_of e1⟩
  | some w =>
    obtain ⟨x, h1, h2⟩ := l1.get e1
    refine ⟨⟨sq1, (List.getElem?_eq_some_iff.mp h1).1⟩, fun z H' ⟨T, x', z1, z2, z3, z4⟩ => ?_⟩
    subst z1
    subst z3
    rw [z4] at h1
    cases h1
    exact va_pair z2 rfl h2
theorem vi_enuL {n : Nat} {p : Addr} (hp : m[n]? = some p) : Vi G m H (itEnu (itLst n)) (Ite G.K p) := fun m1 H1 S1 i e r => by
  unfold itEnu itLst
  cases e1 : lstAt S1 n with
  | none => exact trivial
  | some ws =>
    obtain ⟨xs, h1, l⟩ := lst_at r e1 (e.get hp)
    dsimp only [Option.map]
    cases e2 : ws[i]? with
    | none => exact ⟨xs, SqL.of h1, l.none_of e2⟩
    | some w =>
      obtain ⟨x, h2, h3⟩ := l.get e2
      refine ⟨⟨xs, x, SqL.of h1, h2⟩, fun z H' ⟨T, x', z1, z2, z3, z4⟩ => ?_⟩
      subst z1
      subst z3
      rw [z4 xs (SqL.of h1)] at h2
      cases h2
      exact va_pair z2 rfl h3
theorem s_enu (hg : Gl X "enumerate") (hm : X.mg "enumerate" = none) (ha : PE X e (rdE (wd X) Wx a)) (hs : unstar e = true) : PI X (.Tuple elts kk tpos) (.Call (.Name "enumerate" p2) [e] [] pos) (rd (wd X) (Vi (wd X)) Wx (aEnu a)) := by
  refine ⟨fun pins s σ H R I h => ?_⟩
  obtain ⟨m, ρ, S, sr, o⟩ := h
  unfold aEnu bd at o
  cases ea : a ρ S with
  | no => rw [ea] at o; exact False.elim o
  | er x T =>
    rw [ea] at o
    refine (pi_enum hg hm (pa1 ha hs) (star_ok hs)).run pins s σ H R I ⟨m, ρ, S, sr, ?_⟩
    rw [ea]
    exact o
  | ok w T =>
    rw [ea] at o
    cases w <;> first | exact False.elim o | skip
    · rename_i ws
      refine (Et.pi_enumT hg hm (pa1 ha hs) (star_ok hs)).run pins s σ H R I ⟨m, ρ, S, sr, ?_⟩
      rw [ea]
      intro m1 v H1 e1 s1 v1
      obtain ⟨p, xs, rfl, sq, l⟩ := v1
      exact ⟨p, xs, rfl, sq, o m1 _ H1 e1 s1 (vi_enuT sq l)⟩
    · rename_i n
      refine (pi_enum hg hm (pa1 ha hs) (star_ok hs)).run pins s σ H R I ⟨m, ρ, S, sr, ?_⟩
      rw [ea]
      intro m1 v H1 e1 s1 v1
      obtain ⟨p, hp, rfl⟩ := v1
      dsimp only [enuW] at o
      cases e2 : lstAt T n with
      | none => rw [e2] at o; exact False.elim o
      | some ws =>
        rw [e2] at o
        obtain ⟨xs, h1, l⟩ := lst_at s1.rel e2 hp
        exact ⟨p, xs, rfl, SqL.of h1, o m1 _ H1 e1 s1 (vi_enuL hp)⟩
/-! ### reversed -/
theorem vi_revT {p : Addr} {xs : List V} {ws : List W} (sq : SqT G.K H p xs) (l : VaL G m H ws xs) : Vi G m H (itTup ws.reverse) (RT.ItvT G.K p xs.length) := fun m1 H1 S1 i e r => by
  unfold itTup
  have l1 := l.ext e
  have sq1 := e.tup _ _ sq
  have hl := l.len
  cases e1 : ws.reverse[i]? with
  | none =>
    show xs.length ≤ i
    have := List.getElem?_eq_none_iff.mp e1
    rw [List.length_reverse] at this
    omega
  | some w =>
    have hi := (List.getElem?_eq_some_iff.mp e1).1
    rw [List.length_reverse] at hi
    rw [List.getElem?_reverse hi] at e1
    obtain ⟨x, h1, h2⟩ := l1.get e1
    rw [← hl] at h1
    refine ⟨⟨by omega, xs, x, sq1, h1⟩, fun y H' ⟨z1, z2⟩ => ?_⟩
    subst z1
    rw [z2 xs sq1] at h1
    cases h1
    exact ⟨same_refl, h2⟩
theorem vi_revL {n : Nat} {p : Addr} {xs : List V} {ws : List W} (hp : m[n]? = some p) (hl : xs.length = ws.length) : Vi G m H (itRev n ws.length) (Itv G.K p xs.length) := fun m1 H1 S1 i e r => by
  unfold itRev
  by_cases c : i < ws.length
  · rw [if_pos c]
    cases e1 : lstAt S1 n with
    | none => exact trivial
    | some us =>
      obtain ⟨ys, h1, l⟩ := lst_at r e1 (e.get hp)
      dsimp only
      cases e2 : us[ws.length - 1 - i]? with
      | none => exact trivial
      | some u =>
        obtain ⟨x, h2, h3⟩ := l.get e2
        rw [← hl] at h2
        refine ⟨⟨by omega, ys, x, SqL.of h1, h2⟩, fun y H' ⟨z1, z2⟩ => ?_⟩
        subst z1
        rw [z2 ys (SqL.of h1)] at h2
        cases h2
        exact ⟨same_refl, h3⟩
  · rw [if_neg c]
    show xs.length ≤ i
    omega
theorem s_revI (hg : Gl X "reversed") (hm : X.mg "reversed" = none) (ha : PE X e (rdE (wd X) Wx a)) (hs : unstar e = true) : PI X tg (.Call (.Name "reversed" p2) [e] [] pos) (rd (wd X) (Vi (wd X)) Wx (aRev a)) := by
  refine ⟨fun pins s σ H R I h => (RT.pi_revA hg hm ha (star_ok hs)).run pins s σ H R I ?_⟩
  obtain ⟨m, ρ, S, sr, o⟩ := h
  refine out_bd sr o fun w S1 m1 v H1 e1 s1 v1 o1 => ?_
  cases w <;> first | exact False.elim o1 | skip
  · obtain ⟨p, xs, rfl, sq, l⟩ := v1
    exact ⟨p, xs, rfl, .inr ⟨sq, out_ok s1 o1 (vi_revT sq l)⟩⟩
  · obtain ⟨p, hp, rfl⟩ := v1
    dsimp only [revI] at o1
    split at o1
    · rename_i ws e2
      obtain ⟨xs, h1, l⟩ := lst_at s1.rel e2 hp
      exact ⟨p, xs, rfl, .inl ⟨SqL.of h1, out_ok s1 o1 (vi_revL hp l.len)⟩⟩
    · exact False.elim o1
/-! ### comprehensions -/
theorem wipe_get (σ : L2.St) : ∀ (is : List Nat) (k : Nat), (wipe σ is)[k]? = if k ∈ is ∧ k < σ.length then some none else σ[k]?
  | [], k => by simp [wipe]
  | i :: r, k => by
    show ((wipe σ r).set i none)[k]? = _
    rw [List.getElem?_set, wipe_length, wipe_get σ r k]
    by_cases c : i = k
    · subst c
      by_cases d : i < σ.length
      · simp [d]
      · simp [d]
    · have c' : ¬ k = i := fun h => c h.symm
      simp [c, c']
theorem wipe_put {σ : L2.St} {is : List Nat} {i : Nat} {x : Option V} (h : i ∈ is) : wipe (σ.set i x) is = wipe σ is := by
  refine List.ext_getElem? fun k => ?_
  rw [wipe_get, wipe_get, List.length_set, List.getElem?_set]
  by_cases c : i = k
  · subst c
    by_cases d : i < σ.length
    · simp [h, d]
    · simp [d]
  · simp [c]
theorem wipe_self (σ : L2.St) (is : List Nat) : wipe (wipe σ is) is = wipe σ is := by
  refine List.ext_getElem? fun k => ?_
  rw [wipe_get, wipe_length, wipe_get]
  by_cases c : k ∈ is ∧ k < σ.length
  · simp [c]
  · simp [c]
theorem Ext.other {m1 : List Addr} {H1 : Hp} {D : Addr} {xs ys : List V} (e : Ext G m H m1 H1) (hD : H D = none) (h1 : H1 D = some (.lst xs)) : Ext G m H m1 (L2.upd H1 D (.lst ys)) := ⟨⟨e.pre, fun a zs q => by
  rcases e.tup a zs q with (q | ⟨o, q⟩) | q
  · exact .inl (.inl (by rw [upd_ne (fun z => by subst z; rw [h1] at q; cases q)]; exact q))
  · exact .inl (.inr ⟨o, by rw [upd_ne (fun z => by subst z; rw [h1] at q; cases q)]; exact q⟩)
  · exact .inr q, fun a zs q => by
  rcases e.fz a zs q with ⟨o, q⟩ | q
  · exact .inl ⟨o, by rw [upd_ne (fun z => by subst z; rw [h1] at q; cases q)]; exact q⟩
  · exact .inr q⟩, fun a u h n => by
    rw [upd_ne (fun z => by subst z; rw [hD] at h; cases h)]
    exact e.frame a u h n, e.new⟩
theorem ex0_other {D : Addr} {xs ys : List V} (h1 : H D = some (.lst xs)) : Ex0 G m H m (L2.upd H D (.lst ys)) := ⟨⟨[], by simp⟩, fun a zs q => by
  rcases q with (q | ⟨o, q⟩) | q
  · exact .inl (.inl (by rw [upd_ne (fun z => by subst z; rw [h1] at q; cases q)]; exact q))
  · exact .inl (.inr ⟨o, by rw [upd_ne (fun z => by subst z; rw [h1] at q; cases q)]; exact q⟩)
  · exact .inr q, fun a zs q => q.imp (fun ⟨o, q⟩ => ⟨o, by rw [upd_ne (fun z => by subst z; rw [h1] at q; cases q)]; exact q⟩) id⟩
theorem Rel.other {D : Addr} {xs ys : List V} (r : Rel G m H S) (nD : D ∉ m) (h1 : H D = some (.lst xs)) : Rel G m (upd H D (.lst ys)) S := ⟨r.len, r.nd, fun i a o g1 g2 =>
  (r.at_ i a o g1 g2).ex0 (ex0_other h1) (upd_ne fun z => nD (by rw [← z]; exact List.mem_of_getElem? g1))⟩
theorem Ext.keepD {D : Addr} {u : HO} {m1 : List Addr} {H1 : Hp} (e : Ext G m H m1 H1) (h : H D = some u) (n : D ∉ m) : D ∉ m1 ∧ H1 D = some u := by
  have n1 : D ∉ m1 := fun z => by
    rcases e.new D z with q | q
    · exact n q
    · rw [h] at q; cases q
  exact ⟨n1, e.frame D u h n1⟩
theorem wipeR_len (ρ : Rho) : ∀ vs : List Nat, (wipeR ρ vs).length = ρ.length
  | [] => rfl
  | v :: vs => by unfold wipeR; rw [List.length_set, wipeR_len ρ vs]
theorem wipeR_ok {σ : L2.St} {ρ : Rho} (h : σ.length = ρ.length) : ∀ vs : List Nat, ∀ (i : Nat) (w : W), (wipeR ρ vs)[i]? = some (some w) → ρ[i]? = some (some w) ∧ (wipe σ vs)[i]? = σ[i]?
  | [], i, w, e => ⟨e, rfl⟩
  | v :: vs, i, w, e => by
    unfold wipeR at e
    unfold wipe
    rw [List.getElem?_set] at e ⊢
    by_cases c : v = i
    · rw [if_pos c] at e
      split at e <;> cases e
    · rw [if_neg c] at e ⊢
      exact wipeR_ok h vs i w e
theorem sr_wipe {σ : L2.St} {ρ : Rho} (r : Sr G m ρ S σ H) (vs : List Nat) : Sr G m (wipeR ρ vs) S (wipe σ vs) H := ⟨r.rel, by rw [wipe_length, wipeR_len]; exact r.len, fun i w e => by
  obtain ⟨h1, h2⟩ := wipeR_ok r.len vs i w e
  rw [h2]
  exact r.at_ i w h1⟩
abbrev Wx0 : WX := fun _ _ _ _ => False
theorem comp_read {vs : List Nat} {σ : L2.St} {H : Hp} {Q : VK} (h : rdQ (wd X) Wx (aComp vs it g tt te) σ H Q) : tLc (rd (wd X) (Vi (wd X)) Wx it) (rdG (wd X) Wx0 (frOwn vs) g) (rdT (wd X) Wx0 tt) (rdE (wd X) Wx0 te) vs σ H Q := by
  obtain ⟨m, ρ, S, sr, o⟩ := h
  refine out_bd sr o fun j S1 m1 J H1 e1 s1 vi o1 => ?_
  intro D hD
  have sD : Same H1 (upd H1 D (.lst [])) := same_new hD
  have nD : D ∉ m1 := fun z => by
    obtain ⟨u, hu, _⟩ := s1.rel.mem z
    rw [hD] at hu
    cases hu
  have hD0 : H D = none := by
    cases e : H D with
    | none => rfl
    | some u =>
      rw [e1.frame D u e nD] at hD
      cases hD
  let W0 : Nat → Nat → Hp → Prop := fun i f H5 => ∃ (acc : List W) (m5 : List Addr) (S5 : Sto) (xs : List V), Ext (wd X) m1 H1 m5 H5 ∧ Rel (wd X) m5 H5 S5 ∧ D ∉ m5 ∧ H5 D = some (.lst xs) ∧ VaL (wd X) m5 H5 acc xs ∧
    Out (wd X) (Vs (wd X) H) Wx σ ρ m1 H1 (compN j g tt te (wipeR ρ vs) f i acc S5) Q
  refine ⟨W0, ⟨big, [], m1, S1, [], .same sD, s1.rel.same sD, nD, upd_same, rfl, o1⟩, ?_⟩
  rintro i f H5 ⟨acc, m5, S5, xs, x5, r5, n5, h5, l5, o5⟩
  cases f with
  | zero => exact False.elim o5
  | succ f =>
    have vi5 := vi m5 H5 S5 i x5 r5
    simp only [compN] at o5
    cases hj : j i S5 with
    | none => rw [hj] at o5; exact False.elim o5
    | some z =>
      rw [hj] at o5 vi5
      cases z with
      | none => exact .inl ⟨vi5, o5 m5 _ H5 x5 (s1.carry x5 r5) ⟨D, xs, rfl, n5, hD0, h5, l5⟩⟩
      | some w =>
        dsimp only at o5
        refine .inr ⟨vi5.1, W0 (i + 1) f, fun H' h => ⟨f, Nat.lt_succ_self f, h⟩, fun x H6 hy => ?_⟩
        obtain ⟨s6, v6⟩ := vi5.2 x H6 hy
        have x6 : Ext (wd X) m5 H5 m5 H6 := .same s6
        have sr6 : Sr (wd X) m5 (wipeR ρ vs) S5 (wipe σ vs) H6 := (sr_wipe s1 vs).carry (x5.trans x6) (r5.same s6)
        refine ⟨m5, wipeR ρ vs, S5, w, sr6, v6, ?_⟩
        cases eg : g w (wipeR ρ vs) S5 with
        | no => rw [eg] at o5; exact False.elim o5
        | er y ρ1 T => rw [eg] at o5; exact False.elim o5
        | ok u ρ1 T =>
          rw [eg] at o5
          dsimp only at o5
          intro m7 σ7 H7 x7 s7 hf
          have hf' : wipe σ7 vs = wipe (wipe σ vs) vs := hf
          have ww : wipe (wipe σ vs) vs = wipe σ vs := by
            exact wipe_self σ vs
          refine ⟨hf'.trans ww, m7, ρ1, T, s7, ?_⟩
          cases et : tt ρ1 T with
          | no => rw [et] at o5; exact False.elim o5
          | er y T2 => rw [et] at o5; exact False.elim o5
          | ok b T2 =>
            rw [et] at o5
            intro m8 b' H8 x8 s8 hb
            cases hb
            obtain ⟨n6, h6⟩ := x6.keepD h5 n5
            obtain ⟨n7, h7⟩ := x7.keepD h6 n6
            obtain ⟨n8, h8⟩ := x8.keepD h7 n7
            have x58 := (x6.trans x7).trans x8
            cases b with
            | false => exact ⟨acc, m8, T2, xs, x5.trans x58, s8.rel, n8, h8, l5.ext x58, o5⟩
            | true =>
              dsimp only at o5
              refine ⟨m8, ρ1, T2, s8, ?_⟩
              cases ee : te ρ1 T2 with
              | no => rw [ee] at o5; exact False.elim o5
              | er y T3 => rw [ee] at o5; exact False.elim o5
              | ok y T3 =>
                rw [ee] at o5
                intro m9 v9 H9 x9 s9 t9
                obtain ⟨n9, h9⟩ := x9.keepD h8 n8
                dsimp only at o5
                split at o5
                · rename_i hsh
                  have lx : xs.length = acc.length := l5.len
                  refine ⟨xs, h9, by rw [lx]; exact Nat.lt_of_lt_of_le (Nat.lt_succ_self _) (short_le hsh), acc ++ [y], m9, T3, xs ++ [v9], ((x5.trans x58).trans x9).other hD h9, s9.rel.other n9 h9, n9, upd_same, ?_, o5⟩
                  exact ((l5.ext (x58.trans x9)).app (.one t9)).ex0 (ex0_other h9)
                · exact False.elim o5
theorem s_comp {elt iter : Expr} {ifs : List Expr} {scope : Scope} {own : List (Str × Nat)} (hc : X.calm = true) (hN : X.N.Nodup) (ok : BlkOk X.N X.env.scope scope own) (hi : PI X tg iter (rd (wd X) (Vi (wd X)) Wx it))
    (hg : ∀ (s : Shared) (H : Hp) (C : Addr) (cl : List (Str × Addr)) (fp : List Addr), PG (X.blk s H scope (compEnvC scope cl C X.env) fp) tg (rdG (wd X) Wx0 (frOwn (own.map (·.2))) g))
    (ht : ∀ (s : Shared) (H : Hp) (C : Addr) (cl : List (Str × Addr)) (fp : List Addr), PTs (X.blk s H scope (compEnvC scope cl C X.env) fp) ifs (rdT (wd X) Wx0 tt))
    (he : ∀ (s : Shared) (H : Hp) (C : Addr) (cl : List (Str × Addr)) (fp : List Addr), PE (X.blk s H scope (compEnvC scope cl C X.env) fp) elt (rdE (wd X) Wx0 te)) (hs : ∀ x, foldedSetIterable iter X.env x = pure x) :
    PE X (.ListComp elt [⟨tg, iter, ifs, 0⟩] scope pos) (rdQ (wd X) Wx (aComp (own.map (·.2)) it g tt te)) :=
  ⟨fun pins s σ H Q I h => (pe_lc hc hN hi ok hg ht he hs).run pins s σ H Q I (comp_read h)⟩
end
end Ev

/-! ## Built-in functions -/
namespace Ev
open PySem L2 PyProof.Rows
/-! ### the actions -/
def intsW : List W → Option (List Int)
  | [] => some []
  | .int i :: r => (intsW r).map (i :: ·)
  | _ => none
def boolsW : List W → Option (List Bool)
  | [] => some []
  | .bl b :: r => (boolsW r).map (b :: ·)
  | _ => none
def lenW (w : W) : M W := fun S => match w with
  | .str z => if z.length ≤ lim then .ok (.int z.length) S else .no
  | .tup ws => .ok (.int ws.length) S
  | .fzl ws => .ok (.int ws.length) S
  | .ref n => (match S[n]? with
    | some (.lst ws) => .ok (.int ws.length) S
    | _ => .no)
  | _ => .no
def absW : W → M W
  | .int i => ret (.int (if i < 0 then -i else i))
  | _ => fail
def max2 : W → W → M W
  | .int i, .int j => ret (.int (if j > i then j else i))
  | _, _ => fail
def min2 : W → W → M W
  | .int i, .int j => ret (.int (if j < i then j else i))
  | _, _ => fail
def intW : W → M W
  | .int i => ret (.int i)
  | .bl b => ret (.int (if b then 1 else 0))
  | _ => fail
def strW : W → M W
  | .int i => guard (decide (i.natAbs.log2 < 1920)) (ret (.str (toString i)))
  | _ => fail
def ordW : W → M W
  | .str z => guard (decide (z.length = 1)) (ret (.int (z.cps.getD 0 0 : Nat)))
  | _ => fail
def tyN : W → String
  | .non => "NoneType" | .bl _ => "bool" | .int _ => "int" | .str _ => "str" | .tup _ => "tuple"
  | _ => "?"
/-- the type of a value -/
def tyS (S : Sto) : W → Option String
  | .ref n => (match S[n]? with | some (.lst _) => some "list" | some (.dic _) => some "dict" | _ => none)
  | .non => some "NoneType" | .bl _ => some "bool" | .int _ => some "int" | .str _ => some "str" | .tup _ => some "tuple"
  | _ => none
def isiW (x t : W) : M W := fun S => match t with
  | .ty n => (match tyS S x with | some k => (match kitB k n with | some b => .ok (.bl b) S | none => .no) | none => .no)
  | _ => .no
/-- of the items of a new list -/
def tupQ (ws : List W) : M W := ret (.tup ws)
def allQ (ws : List W) : M W := fun S => match boolsW ws with | some bs => .ok (.bl (bs.all id)) S | none => .no
def anyQ (ws : List W) : M W := fun S => match boolsW ws with | some bs => .ok (.bl (bs.any id)) S | none => .no
def sumQ (ws : List W) : M W := fun S => match intsW ws with | some ns => .ok (.int ns.sum) S | none => .no
def lenQ (ws : List W) : M W := ret (.int ws.length)
/-- tuple(x), list(x) of a list or tuple -/
def tupW (x : W) : M W := fun S => match seqAt S x with | some ws => .ok (.tup ws) S | none => .no
def lstW (x : W) : M W := fun S => match seqAt S x with | some ws => new (.lst ws) S | none => .no
def aQ (f : List W → M W) (l : AL) : A := fun ρ => bd (l ρ) f
section
variable {X : Cx} {Wx : WX} {G : Wd} {m m' : List Addr} {H H' : Hp} {S : Sto} {e e2 : Expr} {es : List Expr} {a b te : A} {l : AL} {pos p2 p3 : Pos} {x : Str} {id T : String}
theorem newL_read {σ : L2.St} {H : Hp} {Q : VK} (h : rdE (wd X) Wx (newL l) σ H Q) : rdQ (wd X) Wx l σ H Q := by
  obtain ⟨m, ρ, S, sr, o⟩ := h
  refine ⟨m, ρ, S, sr, ?_⟩
  unfold newL bd at o
  cases e1 : l ρ S with
  | no => rw [e1] at o; exact o
  | er y T => rw [e1] at o; exact o
  | ok ws T =>
    rw [e1] at o
    rintro m1 v H1 x1 s1 ⟨p, xs, rfl, np, hp, h1, lv⟩
    have ex : Ex0 (wd X) m1 H1 (m1 ++ [p]) H1 := ⟨⟨[p], rfl⟩, fun _ _ q => q, fun _ _ q => q⟩
    refine o (m1 ++ [p]) (.ref p) H1 (x1.track hp) ⟨s1.rel.track np ⟨xs, h1, lv.ex0 ex⟩, s1.len, fun i w q => ?_⟩ ⟨p, ?_, rfl⟩
    · obtain ⟨u, q1, q2⟩ := s1.at_ i w q
      exact ⟨u, q1, q2.ex0 ex⟩
    · rw [List.getElem?_append_right (by rw [s1.rel.len]; exact Nat.le_refl _), s1.rel.len, Nat.sub_self]
      rfl
theorem s_newL (h : PE X e (rdQ (wd X) Wx l)) : PE X e (rdE (wd X) Wx (newL l)) := ⟨fun pins s σ H Q I h' => h.run pins s σ H Q I (newL_read h')⟩
/-- a function of one argument by its rule -/
def CallS1 (X : Cx) (Wx : WX) (f : W → M W) (r : List V → Hp → VK → Prop) : Prop := ∀ (σ : L2.St) (ρ : Rho) (m : List Addr) (H : Hp) (S : Sto) (x : W) (v : V) (Q : VK), Sr (wd X) m ρ S σ H → Va (wd X) m H x v → Out (wd X) (Va (wd X)) Wx σ ρ m H (f x S) Q → r [v] H Q
def CallS2 (X : Cx) (Wx : WX) (f : W → W → M W) (r : List V → Hp → VK → Prop) : Prop := ∀ (σ : L2.St) (ρ : Rho) (m : List Addr) (H : Hp) (S : Sto) (x y : W) (v w : V) (Q : VK), Sr (wd X) m ρ S σ H → Va (wd X) m H x v → Va (wd X) m H y w → Out (wd X) (Va (wd X)) Wx σ ρ m H (f x y S) Q → r [v, w] H Q
/-- .. of a new list -/
def CallQ (X : Cx) (Wx : WX) (f : List W → M W) (r : List V → Hp → VK → Prop) : Prop := ∀ (σ : L2.St) (ρ : Rho) (m : List Addr) (H : Hp) (S : Sto) (ws : List W) (p : Addr) (xs : List V) (Q : VK), Sr (wd X) m ρ S σ H → H p = some (.lst xs) → VaL (wd X) m H ws xs → Out (wd X) (Va (wd X)) Wx σ ρ m H (f ws S) Q → r [.ref p] H Q
theorem s_callB1 {f : W → M W} {r : List V → Hp → VK → Prop} (cs : CallS1 X Wx f r) (hc : CallR X (.builtin id) r) (hg : Gl X x) (hm : X.mg x = none) (hv : bootBuiltins x = some (.builtin id)) (he : PE X e (rdE (wd X) Wx a)) (hs : unstar e = true) (hn : x ≠ "__name__") (hdb : (x == ("__debug__" : Str)) = false) :
    PE X (.Call (.Name x p2) [e] [] pos) (rdE (wd X) Wx (aUn f a)) := by
  refine ⟨fun pins s σ H Q I h' => (pe_callB hc hg hm hv (pa1 he hs) hn hdb (star_ok hs) rfl).run pins s σ H Q I ?_⟩
  obtain ⟨m, ρ, S, sr, o⟩ := h'
  refine out_bd sr o fun w S1 m1 v H1 e1 s1 v1 o1 => ?_
  exact cs σ ρ m1 H1 S1 w v Q s1 v1 o1
theorem s_callB2 {f : W → W → M W} {r : List V → Hp → VK → Prop} (cs : CallS2 X Wx f r) (hc : CallR X (.builtin id) r) (hg : Gl X x) (hm : X.mg x = none) (hv : bootBuiltins x = some (.builtin id)) (he : PE X e (rdE (wd X) Wx a)) (hb : PE X e2 (rdE (wd X) Wx b)) (hs : unstar e = true) (hs2 : unstar e2 = true) (hn : x ≠ "__name__") (hdb : (x == ("__debug__" : Str)) = false) :
    PE X (.Call (.Name x p2) [e, e2] [] pos) (rdE (wd X) Wx (aOp f a b)) := by
  refine ⟨fun pins s σ H Q I h' => (pe_callB hc hg hm hv (pa2 he hb hs hs2) hn hdb (star_ok hs) (star_any (by simp [hs2]))).run pins s σ H Q I ?_⟩
  obtain ⟨m, ρ, S, sr, o⟩ := h'
  refine out_bd sr o fun w S1 m1 v H1 e1 s1 v1 o1 => ?_
  refine out_bd s1 o1 fun w2 S2 m2 v2 H2 e2 s2 t2 o2 => ?_
  exact cs σ ρ m2 H2 S2 w w2 v v2 Q s2 (v1.ext e2) t2 o2
theorem s_callT1 {f : W → M W} {r : List V → Hp → VK → Prop} (cs : CallS1 X Wx f r) (hc : CallR X (.type T) r) (hg : Gl X x) (hm : X.mg x = none) (hv : bootBuiltins x = some (.type T)) (he : PE X e (rdE (wd X) Wx a)) (hs : unstar e = true) (hn : x ≠ "__name__") (hdb : (x == ("__debug__" : Str)) = false) :
    PE X (.Call (.Name x p2) [e] [] pos) (rdE (wd X) Wx (aUn f a)) := by
  refine ⟨fun pins s σ H Q I h' => (pe_callTy hc hg hm hv (pa1 he hs) hn hdb (star_ok hs) rfl).run pins s σ H Q I ?_⟩
  obtain ⟨m, ρ, S, sr, o⟩ := h'
  refine out_bd sr o fun w S1 m1 v H1 e1 s1 v1 o1 => ?_
  exact cs σ ρ m1 H1 S1 w v Q s1 v1 o1
theorem paQ (h : PE X e (rdQ (wd X) Wx l)) (hs : unstar e = true) : PA X [e] (tCons (rdQ (wd X) Wx l) tNil) := pa_cons h pa_nil (star_ok hs)
theorem s_callQB {f : List W → M W} {r : List V → Hp → VK → Prop} (cs : CallQ X Wx f r) (hc : CallR X (.builtin id) r) (hg : Gl X x) (hm : X.mg x = none) (hv : bootBuiltins x = some (.builtin id)) (he : PE X e (rdQ (wd X) Wx l)) (hs : unstar e = true) (hn : x ≠ "__name__") (hdb : (x == ("__debug__" : Str)) = false) :
    PE X (.Call (.Name x p2) [e] [] pos) (rdE (wd X) Wx (aQ f l)) := by
  refine ⟨fun pins s σ H Q I h' => (pe_callB hc hg hm hv (paQ he hs) hn hdb (star_ok hs) rfl).run pins s σ H Q I ?_⟩
  obtain ⟨m, ρ, S, sr, o⟩ := h'
  refine out_bd (V' := Vs (wd X) H) sr o fun ws S1 m1 v H1 e1 s1 v1 o1 => ?_
  obtain ⟨p, xs, rfl, np, hp, h1, lv⟩ := v1
  exact cs σ ρ m1 H1 S1 ws p xs Q s1 h1 lv o1
theorem s_callQT {f : List W → M W} {r : List V → Hp → VK → Prop} (cs : CallQ X Wx f r) (hc : CallR X (.type T) r) (hg : Gl X x) (hm : X.mg x = none) (hv : bootBuiltins x = some (.type T)) (he : PE X e (rdQ (wd X) Wx l)) (hs : unstar e = true) (hn : x ≠ "__name__") (hdb : (x == ("__debug__" : Str)) = false) :
    PE X (.Call (.Name x p2) [e] [] pos) (rdE (wd X) Wx (aQ f l)) := by
  refine ⟨fun pins s σ H Q I h' => (pe_callTy hc hg hm hv (paQ he hs) hn hdb (star_ok hs) rfl).run pins s σ H Q I ?_⟩
  obtain ⟨m, ρ, S, sr, o⟩ := h'
  refine out_bd (V' := Vs (wd X) H) sr o fun ws S1 m1 v H1 e1 s1 v1 o1 => ?_
  obtain ⟨p, xs, rfl, np, hp, h1, lv⟩ := v1
  exact cs σ ρ m1 H1 S1 ws p xs Q s1 h1 lv o1
/-! ### their readings -/
theorem ints_ok : ∀ {ws : List W} {ns : List Int} {xs : List V}, intsW ws = some ns → VaL G m H ws xs → xs = ns.map V.int
  | [], _, _, h, l => by cases h; exact l
  | w :: ws, ns, _, h, l => by
    obtain ⟨x, xs, rfl, t, l⟩ := l
    cases w <;> first | cases h | skip
    simp only [intsW] at h
    cases e : intsW ws with
    | none => rw [e] at h; cases h
    | some r => rw [e] at h; cases h; cases t; rw [List.map_cons, ints_ok e l]
theorem bools_ok : ∀ {ws : List W} {bs : List Bool} {xs : List V}, boolsW ws = some bs → VaL G m H ws xs → xs = bs.map V.bl
  | [], _, _, h, l => by cases h; exact l
  | w :: ws, ns, _, h, l => by
    obtain ⟨x, xs, rfl, t, l⟩ := l
    cases w <;> first | cases h | skip
    simp only [boolsW] at h
    cases e : boolsW ws with
    | none => rw [e] at h; cases h
    | some r => rw [e] at h; cases h; cases t; rw [List.map_cons, bools_ok e l]
theorem cs_len : CallS1 X Wx lenW (fun xs H Q => ∃ x n, xs = [x] ∧ LenV X.K x H n ∧ Q (.int n) H) := by
  intro σ ρ m H S x v Q sr hv o
  cases x <;> first | exact False.elim o | skip
  · cases hv
    dsimp only [lenW] at o
    split at o
    · exact ⟨_, _, rfl, ⟨Nat.le_trans (by assumption) lim_le, rfl⟩, out_ok sr o rfl⟩
    · exact False.elim o
  · obtain ⟨p, xs, rfl, sq, l⟩ := hv
    exact ⟨_, xs.length, rfl, .inr ⟨xs, sq, rfl⟩, by rw [l.len]; exact out_ok sr o rfl⟩
  · rename_i n
    obtain ⟨p, hp, rfl⟩ := hv
    dsimp only [lenW] at o
    cases e : S[n]? with
    | none => rw [e] at o; exact False.elim o
    | some ob =>
      have h := sr.rel.at_ n p ob hp e
      rw [e] at o
      cases ob <;> first | exact False.elim o | skip
      obtain ⟨xs, h1, l⟩ := h
      exact ⟨_, xs.length, rfl, .inl ⟨xs, SqL.of h1, rfl⟩, by rw [l.len]; exact out_ok sr o rfl⟩
  · obtain ⟨p, xs, rfl, sq, l⟩ := hv
    exact ⟨_, xs.length, rfl, .inl ⟨xs, sq.l, rfl⟩, by rw [l.len]; exact out_ok sr o rfl⟩
theorem cs_abs : CallS1 X Wx absW (fun xs H Q => ∃ i, xs = [.int i] ∧ Q (.int (if i < 0 then -i else i)) H) := by
  intro σ ρ m H S x v Q sr hv o
  cases x <;> first | exact False.elim o | skip
  cases hv
  exact ⟨_, rfl, out_ok sr o rfl⟩
theorem cs_max2 : CallS2 X Wx max2 (fun xs H Q => ∃ i j, xs = [.int i, .int j] ∧ Q (.int (if j > i then j else i)) H) := by
  intro σ ρ m H S x y v w Q sr hv hw o
  cases x <;> cases y <;> first | exact False.elim o | skip
  cases hv
  cases hw
  exact ⟨_, _, rfl, out_ok sr o rfl⟩
theorem cs_min2 : CallS2 X Wx min2 (fun xs H Q => ∃ i j, xs = [.int i, .int j] ∧ Q (.int (if j < i then j else i)) H) := by
  intro σ ρ m H S x y v w Q sr hv hw o
  cases x <;> cases y <;> first | exact False.elim o | skip
  cases hv
  cases hw
  exact ⟨_, _, rfl, out_ok sr o rfl⟩
theorem cs_int : CallS1 X Wx intW (fun xs H Q => (∃ i, xs = [.int i] ∧ Q (.int i) H) ∨ ∃ k, xs = [.bl k] ∧ Q (.int (if k then 1 else 0)) H) := by
  intro σ ρ m H S x v Q sr hv o
  cases x <;> first | exact False.elim o | skip
  · cases hv
    exact .inr ⟨_, rfl, out_ok sr o rfl⟩
  · cases hv
    exact .inl ⟨_, rfl, out_ok sr o rfl⟩
theorem cs_str : CallS1 X Wx strW (fun xs H Q => ∃ i, xs = [.int i] ∧ i.natAbs.log2 < 1920 ∧ Q (.str (toString i)) H) := by
  intro σ ρ m H S x v Q sr hv o
  cases x <;> first | exact False.elim o | skip
  cases hv
  obtain ⟨h1, o⟩ := out_guard o
  exact ⟨_, rfl, of_decide_eq_true h1, out_ok sr o rfl⟩
theorem cs_ord : CallS1 X Wx ordW (fun xs H Q => ∃ x, xs = [.str x] ∧ x.length = 1 ∧ Q (.int (x.cps.getD 0 0 : Nat)) H) := by
  intro σ ρ m H S x v Q sr hv o
  cases x <;> first | exact False.elim o | skip
  cases hv
  obtain ⟨h1, o⟩ := out_guard o
  exact ⟨_, rfl, of_decide_eq_true h1, out_ok sr o rfl⟩
theorem cq_tup : CallQ X Wx tupQ (fun xs H Q => ∃ p ys, xs = [.ref p] ∧ ((SqL X.K H p ys ∧ ∀ l, H l = none → Q (.ref l) (upd H l (.tup ys))) ∨ (SqT X.K H p ys ∧ Q (.ref p) H))) := by
  intro σ ρ m H S ws p xs Q sr h1 lv o
  exact ⟨p, xs, rfl, .inl ⟨SqL.of h1, fun q hq => out_tup sr o lv hq⟩⟩
theorem cq_all : CallQ X Wx allQ (rAll X.K) := by
  intro σ ρ m H S ws p xs Q sr h1 lv o
  unfold allQ at o
  cases e : boolsW ws with
  | none => rw [e] at o; exact False.elim o
  | some bs =>
    rw [e] at o
    have e2 := bools_ok e lv
    subst e2
    exact ⟨p, bs, rfl, SqL.of h1, out_ok sr o rfl⟩
theorem cq_any : CallQ X Wx anyQ (rAny X.K) := by
  intro σ ρ m H S ws p xs Q sr h1 lv o
  unfold anyQ at o
  cases e : boolsW ws with
  | none => rw [e] at o; exact False.elim o
  | some bs =>
    rw [e] at o
    have e2 := bools_ok e lv
    subst e2
    exact ⟨p, bs, rfl, SqL.of h1, out_ok sr o rfl⟩
theorem cq_sum : CallQ X Wx sumQ (rSum X.K) := by
  intro σ ρ m H S ws p xs Q sr h1 lv o
  unfold sumQ at o
  cases e : intsW ws with
  | none => rw [e] at o; exact False.elim o
  | some bs =>
    rw [e] at o
    have e2 := ints_ok e lv
    subst e2
    exact ⟨p, bs, rfl, SqL.of h1, out_ok sr o rfl⟩
theorem cs_tup : CallS1 X Wx tupW (fun xs H Q => ∃ p ys, xs = [.ref p] ∧ ((SqL X.K H p ys ∧ ∀ l, H l = none → Q (.ref l) (upd H l (.tup ys))) ∨ (SqT X.K H p ys ∧ Q (.ref p) H))) := by
  intro σ ρ m H S x v Q sr hv o
  unfold tupW at o
  cases e : seqAt S x with
  | none => rw [e] at o; exact False.elim o
  | some ws =>
    rw [e] at o
    obtain ⟨p, xs, rfl, h1, l⟩ := seqAt_ok sr.rel hv e
    rcases h1 with ⟨i, _, _, h1⟩ | h1
    · exact ⟨p, xs, rfl, .inl ⟨SqL.of h1, fun q hq => out_tup sr o l hq⟩⟩
    · exact ⟨p, xs, rfl, .inr ⟨h1, out_ok sr o ⟨p, xs, rfl, h1, l⟩⟩⟩
theorem cs_lst : CallS1 X Wx lstW (fun xs H Q => ∃ p ys, xs = [.ref p] ∧ (SqL X.K H p ys ∨ SqT X.K H p ys) ∧ ∀ l, H l = none → Q (.ref l) (upd H l (.lst ys))) := by
  intro σ ρ m H S x v Q sr hv o
  unfold lstW at o
  cases e : seqAt S x with
  | none => rw [e] at o; exact False.elim o
  | some ws =>
    rw [e] at o
    obtain ⟨p, xs, rfl, h1, l⟩ := seqAt_ok sr.rel hv e
    refine ⟨p, xs, rfl, h1.imp (fun ⟨i, _, _, h⟩ => SqL.of h) (fun h => h), fun q hq => out_new sr o hq fun ex => ⟨xs, upd_same, l.ext ex⟩⟩
theorem tyX_sqT {p : Addr} {xs : List V} (h : SqT G.K H p xs) : TyX G.K H (.ref p) (.type "tuple") := by
  rcases h with (h | ⟨o, h⟩) | ⟨o, its, n, h1, h2, _⟩
  · exact .base (.tup h)
  · exact .fTuple h
  · exact .kTuple h1 h2
theorem tyS_ok {w : W} {v : V} {k : String} (r : Rel G m H S) (hv : Va G m H w v) (h : tyS S w = some k) : TyX G.K H v (.type k) := by
  cases w with
  | non => cases hv; cases h; exact .base .non
  | bl b => cases hv; cases h; exact .base (.bl b)
  | int i => cases hv; cases h; exact .base (.int i)
  | str s => cases hv; cases h; exact .base (.str s)
  | tup ws =>
    obtain ⟨p, xs, rfl, sq, l⟩ := hv
    cases h
    exact tyX_sqT sq
  | ref n =>
    obtain ⟨p, hp, rfl⟩ := hv
    simp only [tyS] at h
    cases e : S[n]? with
    | none => rw [e] at h; cases h
    | some ob =>
      have q := r.at_ n p ob hp e
      rw [e] at h
      cases ob with
      | lst ws => cases h; obtain ⟨xs, h1, _⟩ := q; exact .base (.lst h1)
      | dic kvs => cases h; obtain ⟨xs, h1, _⟩ := q; exact .base (.dK h1)
      | ins c fs => cases h
  | glo x => cases h
  | ty n => cases h
  | fzl ws => cases h
theorem cs_isi : CallS2 X Wx isiW (rIsi X.K) := by
  intro σ ρ m H S x y v w Q sr hv hw o
  cases y <;> first | exact False.elim o | skip
  cases hw
  rename_i n
  dsimp only [isiW] at o
  cases e1 : tyS S x with
  | none => rw [e1] at o; exact False.elim o
  | some k =>
    rw [e1] at o
    dsimp only at o
    cases e2 : kitB k n with
    | none => rw [e2] at o; exact False.elim o
    | some b =>
      rw [e2] at o
      exact ⟨v, .ty n, .type k, .type n, b, rfl, .ty n, tyS_ok sr.rel hv e1, kit_ty e2, out_ok sr o rfl⟩
end
end Ev

/-! ## Own defs, methods, classes, called -/
namespace Ev
open PySem L2 PyProof.Rows
/-- an own def's action -/
abbrev Fn := List W → M W
/-- what a def promises: what its action says -/
def spI (G : Wd) (n : Nat) (f : Fn) : Sp := fun vs H Q E => ∃ m ws S, Rel G m H S ∧ VaL G m H ws vs ∧ ws.length = n ∧ (match f ws S with
  | .ok w S' => ∀ m' v H', Ext G m H m' H' → Rel G m' H' S' → Va G m' H' w v → Q v H'
  | .er x S' => ∀ m' H' cls od, Ext G m H m' H' → Rel G m' H' S' → Xa G m' H' x cls od → E cls od H'
  | .no => False)
/-- what leaves the calls of this context -/
def Px (X : Cx) (Wx : WX) : Prop := ∀ σ, PassesAt (L2.CX X.prog X.w) X σ (fun cls od H => Wx cls od σ H)
theorem px_none {X : Cx} : Px X Wx0 := fun σ pins H s e s' I c => by
  obtain ⟨a, B, H', cls, d, _, _, _, _, _, _, _, h⟩ := c
  exact h.elim
theorem px_takes {X : Cx} {Wx : WX} (tk : Takes X Wx) : Px X Wx := fun σ => passAt tk σ
/-- .. from an outcome of the action -/
theorem spI_of {G : Wd} {Wx : WX} {σ : L2.St} {ρ : Rho} {m : List Addr} {H : Hp} {S : Sto} {Q : VK} {n : Nat} {f : Fn} {ws : List W} {vs : List V} (sr : Sr G m ρ S σ H) (l : VaL G m H ws vs) (hn : ws.length = n) (o : Out G (Va G) Wx σ ρ m H (f ws S) Q) :
    spI G n f vs H Q (fun cls od H => Wx cls od σ H) := by
  refine ⟨m, ws, S, sr.rel, l, hn, ?_⟩
  cases e : f ws S with
  | ok w S' =>
    rw [e] at o
    exact fun m' v H' x r hv => o m' v H' x (sr.carry x r) hv
  | er x S' =>
    rw [e] at o
    exact fun m' H' cls od ex r xa => o m' H' cls od ex (sr.carry ex r) xa
  | no =>
    rw [e] at o
    exact o
/-- a call with n arguments -/
def aCall (n : Nat) (f : Fn) (l : AL) : A := fun ρ => bd (l ρ) fun ws => if ws.length = n then f ws else fail
def aMeth (f : W → Sto → Option (Nat × Fn)) (a : A) (l : AL) : A := fun ρ => bd (a ρ) fun x => fun S => match f x S with
  | some (n, g) => bd (l ρ) (fun ws => if ws.length + 1 = n then g (x :: ws) else fail) S
  | none => .no
def aMake (c : Str) (n : Nat) (f : Fn) (l : AL) : A := fun ρ => bd (l ρ) fun ws => fun S => if ws.length + 1 = n then (match f (.ref S.length :: ws) (S ++ [.ins c []]) with
  | .ok .non S' => .ok (.ref S.length) S'
  | .ok _ _ => .no
  | .er x S' => .er x S'
  | .no => .no) else .no
section
variable {X : Cx} {Wx : WX} {e o : Expr} {es : List Expr} {a : A} {l : AL} {pos p2 apos : Pos} {x mn : Str} {k n : Nat} {f fa C : Addr} {fd : FuncData} {ps : List Str} {fn : Fn}
theorem s_call (F : FnOk X.prog X.w X.K X.mg X.base (L2.CX X.prog X.w) k f fd ps (spI (wd X) n fn)) (hr : Room k X.A) (hg : Gl X x) (hm : X.mg x = some (.ref f)) (hk : PySem.W.keepIn X.K (.ref f) = true) (hb : Binds X.K fd ps []) (hx : Px X Wx)
    (ha : PA X (e :: es) (rdL (wd X) Wx l)) (hdb : (x == ("__debug__" : Str)) = false) (hs : (e :: es).all unstar = true) : PE X (.Call (.Name x p2) (e :: es) [] pos) (rdE (wd X) Wx (aCall n fn l)) := by
  rw [List.all_cons, Bool.and_eq_true] at hs
  refine ⟨fun pins s σ H Q I h => (pe_callS F hr hg hm hk hb hx ha hdb (star_ok hs.1) (star_any hs.2)).run pins s σ H Q I ?_⟩
  obtain ⟨m, ρ, S, sr, o⟩ := h
  refine out_bd sr o fun ws S1 m1 vs H1 e1 s1 v1 o1 => ?_
  split at o1
  · rename_i hn
    exact spI_of s1 v1 hn o1
  · exact False.elim o1
/-! ### methods -/
theorem meth_eq {args : List Expr} {kws : List Keyword} (hb : plainBase o = true) (hf : methodCallForm (args.length + kws.length) (backTo pos (starEach args X.env)) (backToKw pos (keywordEach kws X.env)) = true) (hl : (apos.endLine == pos.line) = true) :
    eval (.Call (.Attribute o mn apos) args kws pos) X.env = (do
      let v ← eval o X.env
      standAt apos.atName
      let (g, first) ← holding [v] (getMethod v mn (do return (← importBound o X.env).getD true))
      callWith pos g first (backTo pos (starEach args X.env)) (backToKw pos (keywordEach kws X.env))) := by
  have e1 : eval (.Call (.Attribute o mn apos) args kws pos) X.env = (do
      let v ← attributeBase o mn X.env (eval o X.env)
      standAt apos.atName
      methodCall o mn apos pos X.env v (args.length + kws.length) (backTo pos (starEach args X.env)) (backToKw pos (keywordEach kws X.env))) := rfl
  rw [e1, plainBase_ok hb]
  unfold methodCall calleeOf methodCallPos
  rw [hf, hl]
  rfl
theorem few_ok (h : es.all unstar = true) (hl : es.length < 30) : methodCallForm (es.length + ([] : List Keyword).length) (backTo pos (starEach es X.env)) (backToKw pos (keywordEach [] X.env)) = true := by
  unfold methodCallForm
  have h1 : (backTo pos (starEach es X.env)).all (fun z => !z.1) = true := by
    have := star_any (X := X) (pos := pos) h
    rw [List.all_eq_true]
    intro z hz
    cases hz1 : z.1 with
    | false => rfl
    | true =>
      have : (backTo pos (starEach es X.env)).any (·.1) = true := List.any_eq_true.mpr ⟨z, hz, hz1⟩
      simp_all
  rw [h1]
  simp [backToKw, keywordEach]
  omega
theorem ins_at {m : List Addr} {H : Hp} {S : Sto} {i : Nat} {c : Str} {fs : List (Str × W)} (h : insAt S i = some (c, fs)) : S[i]? = some (.ins c fs) := by
  unfold insAt at h
  cases e2 : S[i]? with
  | none => rw [e2] at h; cases h
  | some ob =>
    rw [e2] at h
    cases ob <;> cases h
    rfl
/-- which def stands behind a method of a class -/
structure MtOk (X : Cx) (k : Nat) (c mn : Str) (n : Nat) (fn : Fn) : Prop where
  ex : ∃ (C f : Addr) (fd : FuncData) (ps : List Str), X.mg c = some (.ref C) ∧ Cls X.K C ∧ Meth X.K C mn f ∧ FnOk X.prog X.w X.K X.mg X.base (L2.CX X.prog X.w) k f fd ps (spI (wd X) n fn) ∧ Binds X.K fd ps []
theorem run_own {pins : List (Addr × Obj)} {σ : L2.St} {ρ : Rho} {m : List Addr} {H : Hp} {S : Sto} {Q : VK} {s : Shared} {us : List Value} {vs : List V} {ws : List W} (F : FnOk X.prog X.w X.K X.mg X.base (L2.CX X.prog X.w) k f fd ps (spI (wd X) n fn)) (hr : Room k X.A) (hb : Binds X.K fd ps []) (hx : Px X Wx)
    (I : L2.Inv X pins σ H s) (r : Vals vs us) (sr : Sr (wd X) m ρ S σ H) (l : VaL (wd X) m H ws vs) (hn : ws.length = n) (o : Out (wd X) (Va (wd X)) Wx σ ρ m H (fn ws S) Q) : wpAny (model X.prog X.w) X.A (call (.ref f) us) (EP X pins σ Q) X.xe s :=
  run_fnS (E := fun σ cls od H => Wx cls od σ H) F hr hb (hx σ) I r (spI_of sr l hn o)
theorem s_meth {tb : W → Sto → Option (Nat × Fn)} (ht : ∀ w S n fn, tb w S = some (n, fn) → ∃ i c fs, w = .ref i ∧ insAt S i = some (c, fs) ∧ fs.lookup mn = none ∧ MtOk X k c mn n fn) (hr : Room k X.A) (hx : Px X Wx) (he : PE X o (rdE (wd X) Wx a)) (ha : PA X (e :: es) (rdL (wd X) Wx l))
    (hs : (e :: es).all unstar = true) (h30 : (e :: es).length < 30) (hb : plainBase o = true) (hl : (apos.endLine == pos.line) = true) : PE X (.Call (.Attribute o mn apos) (e :: es) [] pos) (rdE (wd X) Wx (aMeth tb a l)) := by
  have few := few_ok (X := X) (pos := pos) hs h30
  rw [List.all_cons, Bool.and_eq_true] at hs
  refine ⟨fun pins s σ H Q I h => ?_⟩
  obtain ⟨m, ρ, S, sr, o1⟩ := h
  refine PySem.W.methodCall_KW (thn (he.run pins s σ H _ I (out_bd (R := fun v H1 => ∃ (w : W) (S1 : Sto) (m1 : List Addr), Sr (wd X) m1 ρ S1 σ H1 ∧ Va (wd X) m1 H1 w v ∧ Out (wd X) (Va (wd X)) Wx σ ρ m1 H1 ((match tb w S1 with
    | some (n, g) => bd (l ρ) (fun ws => if ws.length + 1 = n then g (w :: ws) else fail) S1
    | none => .no)) Q) sr o1 fun w S1 m1 v H1 e1 s1 v1 q => ⟨w, S1, m1, s1, v1, q⟩)) fun u s1 hu => ?_) (meth_eq hb few hl)
  obtain ⟨v, H1, I1, rv, w, S1, m1, sr1, va1, q1⟩ := hu
  cases et : tb w S1 with
  | none => rw [et] at q1; exact False.elim q1
  | some nf =>
    obtain ⟨n, fn⟩ := nf
    rw [et] at q1
    obtain ⟨i, c, fs, rfl, hi, hlk, M⟩ := ht _ _ _ _ et
    obtain ⟨C, f, fd, ps, hC, cC, hM, F, B⟩ := M.ex
    obtain ⟨p, hp, rfl⟩ := va1
    obtain ⟨C', dx, gs, hC', h1, lv⟩ := sr1.rel.at_ i p _ hp (ins_at (m := m1) (H := H1) hi)
    have eC : C' = C := by
      have : X.mg c = some (.ref C') := hC'
      rw [hC] at this
      cases this
      rfl
    subst eC
    obtain rfl : u = Value.ref p := rv
    have hlk2 : gs.lookup mn = none := by
      have := lookup_ok (f := mn) lv
      rw [hlk] at this
      exact this
    refine getmeth_ok I1 h1 cC hM hlk2 ?_
    refine PySem.W.callWith_K (first := [.ref p]) (h₀ := X.base) I.ok.mod.kin hM.kp (thn (ha.run pos pins s1 σ H1 _ I1 (out_bd (R := fun vs H2 => ∃ (ws : List W) (S2 : Sto) (m2 : List Addr), Ext (wd X) m1 H1 m2 H2 ∧ Sr (wd X) m2 ρ S2 σ H2 ∧ VaL (wd X) m2 H2 ws vs ∧ Out (wd X) (Va (wd X)) Wx σ ρ m2 H2 ((if ws.length + 1 = n then fn (.ref i :: ws) else fail) S2) Q) sr1 q1
      fun ws S2 m2 vs H2 e2 s2 v2 q => ⟨ws, S2, m2, e2, s2, v2, q⟩)) fun us s2 hu => ?_) (star_ok hs.1) (star_any hs.2)
    obtain ⟨vs, H2, I2, rvs, ws, S2, m2, e2, sr2, lv2, q2⟩ := hu
    refine ⟨I2.kIn, ?_⟩
    split at q2
    · rename_i hn
      exact run_own (us := .ref p :: us) (vs := .ref p :: vs) (ws := .ref i :: ws) F hr B hx I2 (.cons rfl rvs) sr2 ⟨_, _, rfl, ⟨p, e2.get hp, rfl⟩, lv2⟩ (by rw [List.length_cons]; exact hn) q2
    · exact False.elim q2
theorem s_meth0 {tb : W → Sto → Option (Nat × Fn)} (ht : ∀ w S n fn, tb w S = some (n, fn) → ∃ i c fs, w = .ref i ∧ insAt S i = some (c, fs) ∧ fs.lookup mn = none ∧ MtOk X k c mn n fn) (hr : Room k X.A) (hx : Px X Wx) (he : PE X o (rdE (wd X) Wx a))
    (hb : plainBase o = true) (hl : (apos.endLine == pos.line) = true) : PE X (.Call (.Attribute o mn apos) [] [] pos) (rdE (wd X) Wx (aMeth tb a aNil)) := by
  have few := few_ok (X := X) (pos := pos) (es := []) rfl (by decide)
  refine ⟨fun pins s σ H Q I h => ?_⟩
  obtain ⟨m, ρ, S, sr, o1⟩ := h
  refine PySem.W.methodCall_KW (thn (he.run pins s σ H _ I (out_bd (R := fun v H1 => ∃ (w : W) (S1 : Sto) (m1 : List Addr), Sr (wd X) m1 ρ S1 σ H1 ∧ Va (wd X) m1 H1 w v ∧ Out (wd X) (Va (wd X)) Wx σ ρ m1 H1 ((match tb w S1 with
    | some (n, g) => bd (aNil ρ) (fun ws => if ws.length + 1 = n then g (w :: ws) else fail) S1
    | none => .no)) Q) sr o1 fun w S1 m1 v H1 e1 s1 v1 q => ⟨w, S1, m1, s1, v1, q⟩)) fun u s1 hu => ?_) (meth_eq hb few hl)
  obtain ⟨v, H1, I1, rv, w, S1, m1, sr1, va1, q1⟩ := hu
  cases et : tb w S1 with
  | none => rw [et] at q1; exact False.elim q1
  | some nf =>
    obtain ⟨n, fn⟩ := nf
    rw [et] at q1
    obtain ⟨i, c, fs, rfl, hi, hlk, M⟩ := ht _ _ _ _ et
    obtain ⟨C, f, fd, ps, hC, cC, hM, F, B⟩ := M.ex
    obtain ⟨p, hp, rfl⟩ := va1
    obtain ⟨C', dx, gs, hC', h1, lv⟩ := sr1.rel.at_ i p _ hp (ins_at (m := m1) (H := H1) hi)
    have eC : C' = C := by
      have : X.mg c = some (.ref C') := hC'
      rw [hC] at this
      cases this
      rfl
    subst eC
    obtain rfl : u = Value.ref p := rv
    have hlk2 : gs.lookup mn = none := by
      have := lookup_ok (f := mn) lv
      rw [hlk] at this
      exact this
    refine getmeth_ok I1 h1 cC hM hlk2 ?_
    have q1 : Out (wd X) (Va (wd X)) Wx σ ρ m1 H1 ((if ([] : List W).length + 1 = n then fn (.ref i :: []) else fail) S1) Q := q1
    refine PySem.W.callWith_K0 (first := [.ref p]) I1.kIn hM.kp ?_
    split at q1
    · rename_i hn
      exact run_own (us := [.ref p]) (vs := [.ref p]) (ws := [.ref i]) F hr B hx I1 (.cons rfl .nil) sr1 ⟨_, _, rfl, ⟨p, hp, rfl⟩, rfl⟩ hn q1
    · exact False.elim q1
/-! ### a new instance -/
/-- what is known of a class that is made -/
structure CkOk (X : Cx) (k : Nat) (c : Str) (n : Nat) (fn : Fn) : Prop where
  ex : ∃ (C f : Addr) (fd : FuncData) (ps : List Str), X.mg c = some (.ref C) ∧ Mk X.K C f ∧ FnOk X.prog X.w X.K X.mg X.base (L2.CX X.prog X.w) k f fd ps (spI (wd X) n fn) ∧ Binds X.K fd ps []
theorem mk_run {pins : List (Addr × Obj)} {σ : L2.St} {ρ : Rho} {m : List Addr} {H : Hp} {S : Sto} {Q : VK} {s : Shared} {us : List Value} {vs : List V} {ws : List W} {c : Str} (hC : X.mg c = some (.ref C)) (M : Mk X.K C f)
    (F : FnOk X.prog X.w X.K X.mg X.base (L2.CX X.prog X.w) k f fd ps (spI (wd X) n fn)) (hr : Room (k + 1) X.A) (hb : Binds X.K fd ps []) (hx : Px X Wx) (I : L2.Inv X pins σ H s) (r : Vals vs us) (sr : Sr (wd X) m ρ S σ H) (l : VaL (wd X) m H ws vs)
    (hn : ws.length + 1 = n) (o : Out (wd X) (Va (wd X)) Wx σ ρ m H (match fn (.ref S.length :: ws) (S ++ [.ins c []]) with
      | .ok .non S' => .ok (.ref S.length) S' | .ok _ _ => .no | .er x S' => .er x S' | .no => .no) Q) : wpAny (model X.prog X.w) X.A (call (.ref C) us) (EP X pins σ Q) X.xe s := by
  obtain ⟨x, hx1⟩ : ∃ x, x = s.heap.objs.size + 1 := ⟨_, rfl⟩
  obtain ⟨dx, hd1⟩ : ∃ dx, dx = s.heap.objs.size := ⟨_, rfl⟩
  have nx : H x = none := I.hok.fresh (by omega)
  have nd : H dx = none := I.hok.fresh (by omega)
  have ne : dx ≠ x := by omega
  have I2 := Inv.made (C := C) I
  rw [← hx1, ← hd1] at I2
  -- the new instance in the store
  have s1 : Same H (upd H dx (.own x)) := same_new nd
  have n1 : upd H dx (.own x) x = none := by rw [upd_ne ne.symm]; exact nx
  have r1 : Rel (wd X) m (upd H dx (.own x)) S := sr.rel.same s1
  have r2 : Rel (wd X) (m ++ [x]) (upd (upd H dx (.own x)) x (.ins C dx [])) (S ++ [.ins c []]) := r1.new n1 ⟨C, dx, [], hC, upd_same, .nil⟩
  have e2 : Ext (wd X) m H (m ++ [x]) (upd (upd H dx (.own x)) x (.ins C dx [])) := Ext.trans (.same s1) (.fresh (same_new n1) n1)
  have vx : Va (wd X) (m ++ [x]) (upd (upd H dx (.own x)) x (.ins C dx [])) (.ref S.length) (.ref x) := ⟨x, by
    rw [List.getElem?_append_right (by rw [sr.rel.len]; exact Nat.le_refl _), sr.rel.len, Nat.sub_self]
    rfl, rfl⟩
  have q : spI (wd X) n fn (.ref x :: vs) (upd (upd H dx (.own x)) x (.ins C dx [])) (fun v H2 => v = .non ∧ Q (.ref x) H2) (fun cls od H => Wx cls od σ H) := by
    refine ⟨m ++ [x], .ref S.length :: ws, S ++ [.ins c []], r2, ⟨_, _, rfl, vx, l.ext e2⟩, hn, ?_⟩
    cases ef : fn (.ref S.length :: ws) (S ++ [.ins c []]) with
    | no => rw [ef] at o; exact o
    | er y T =>
      rw [ef] at o
      exact fun m' H' cls od ex r xa => o m' H' cls od (e2.trans ex) (sr.carry (e2.trans ex) r) xa
    | ok w T =>
      rw [ef] at o
      cases w <;> first | exact False.elim o | skip
      exact fun m' v H' ex r hv => ⟨hv, o m' (.ref x) H' (e2.trans ex) (sr.carry (e2.trans ex) r) (vx.ext ex)⟩
  have rr : Vals (V.ref x :: vs) (Value.ref x :: us) := .cons rfl r
  have hl : (Value.ref x :: us).length = ps.length := by
    rw [← rr.length]
    exact F.len _ _ _ _ q
  have bb := hb _ (Value.ref x :: us) I2.kIn (by rw [List.append_nil]; exact hl)
  rw [List.append_nil] at bb
  rw [hx1] at q rr bb I2
  rw [hd1] at q bb I2
  have run := F.run _ X.stack _ _ ⟨Value.ref (s.heap.objs.size + 1) :: us, []⟩ _ _ _ _ (hr.make C us []) (I2.env0.make C us []) bb rr q
  refine wpAny_call (make_map (f := f) I.kIn M.makes M.init (beq_iff_eq.mp M.fn) (codeAny_mono run fun res s' hq => ?_))
  rcases res with e | fl
  · exact hx σ pins _ _ e s' I2 hq
  · rcases fl with _ | _ | _ | u
    · exact False.elim hq
    · exact False.elim hq
    · exact False.elim hq
    · obtain ⟨v, H', I3, rv, ev, q3⟩ := I2.after hq
      subst ev
      exact ⟨rv, .ref _, H', I3, rfl, q3⟩
theorem s_make (hg : Gl X x) (hc : CkOk X k x n fn) (hk : ∀ C, X.mg x = some (.ref C) → PySem.W.keepIn X.K (.ref C) = true) (hr : Room (k + 1) X.A) (hx : Px X Wx) (ha : PA X (e :: es) (rdL (wd X) Wx l)) (hdb : (x == ("__debug__" : Str)) = false) (hs : (e :: es).all unstar = true) :
    PE X (.Call (.Name x p2) (e :: es) [] pos) (rdE (wd X) Wx (aMake x n fn l)) := by
  rw [List.all_cons, Bool.and_eq_true] at hs
  obtain ⟨C, f, fd, ps, hC, M, F, B⟩ := hc.ex
  refine ⟨fun pins s σ H Q I h => ?_⟩
  obtain ⟨m, ρ, S, sr, o1⟩ := h
  refine wpAny_Call_Name_kw (ld_glob I hg hC ?_ hdb)
  refine PySem.W.callWith_K (h₀ := X.base) I.ok.mod.kin (hk C hC) (thn (ha.run pos pins s σ H _ I (out_bd (R := fun vs H1 => ∃ (ws : List W) (S1 : Sto) (m1 : List Addr), Sr (wd X) m1 ρ S1 σ H1 ∧ VaL (wd X) m1 H1 ws vs ∧ Out (wd X) (Va (wd X)) Wx σ ρ m1 H1 ((fun S => if ws.length + 1 = n then (match fn (.ref S.length :: ws) (S ++ [.ins x []]) with
      | .ok .non S' => .ok (.ref S.length) S' | .ok _ _ => .no | .er y S' => .er y S' | .no => .no) else .no) S1) Q) sr o1 fun ws S1 m1 vs H1 e1 s1 v1 q => ⟨ws, S1, m1, s1, v1, q⟩)) fun us s1 hu => ?_) (star_ok hs.1) (star_any hs.2)
  obtain ⟨vs, H1, I1, rv, ws, S1, m1, sr1, lv, q⟩ := hu
  refine ⟨I1.kIn, ?_⟩
  dsimp only at q
  split at q
  · rename_i hn
    exact mk_run hC M F hr B hx I1 rv sr1 lv hn q
  · exact False.elim q
end
end Ev

/-! ## Methods of lists and dicts; statements -/
namespace Ev
open PySem L2 PyProof.Rows
/-! ### methods of built-in values -/
def aBM (ck : W → Sto → Bool) (f : W → List W → M W) (a : A) (l : AL) : A := fun ρ => bd (a ρ) fun x => fun S => if ck x S = true then bd (l ρ) (f x) S else .no
def isLst (w : W) (S : Sto) : Bool := match w with | .ref n => (lstAt S n).isSome | _ => false
def isDic (w : W) (S : Sto) : Bool := match w with | .ref n => (dicAt S n).isSome | _ => false
def appW (x : W) (l : List W) : M W := fun S => match x, l with
  | .ref n, [y] => (match lstAt S n with | some ws => if short (ws.length + 1) = true then .ok .non (S.set n (.lst (ws ++ [y]))) else .no | none => .no)
  | _, _ => .no
def popW (x : W) (l : List W) : M W := fun S => match x, l with
  | .ref n, [] => (match lstAt S n with | some ws => (match ws[ws.length - 1]? with | some y => .ok y (S.set n (.lst ws.dropLast)) | none => .no) | none => .no)
  | _, _ => .no
def extW (x : W) (l : List W) : M W := fun S => match x, l with
  | .ref n, [.ref k] => (match lstAt S n, lstAt S k with | some ws, some us => if short (ws.length + us.length) = true then .ok .non (S.set n (.lst (ws ++ us))) else .no | _, _ => .no)
  | _, _ => .no
def get1W (d k : W) : M W := fun S => match d with
  | .ref n => (match dicAt S n, keyW k with | some kvs, some j => .ok ((valK kvs j).getD .non) S | _, _ => .no)
  | _ => .no
def get2W (d k z : W) : M W := fun S => match d with
  | .ref n => (match dicAt S n, keyW k with | some kvs, some j => .ok ((valK kvs j).getD z) S | _, _ => .no)
  | _ => .no
def aGet1 (a b : A) : A := fun ρ => bd (a ρ) fun d => fun S => if isDic d S = true then bd (b ρ) (fun k => get1W d k) S else .no
def aGet2 (a b c : A) : A := fun ρ => bd (a ρ) fun d => fun S => if isDic d S = true then bd (b ρ) (fun k => bd (c ρ) fun z => get2W d k z) S else .no
/-! ### statements -/
inductive Fl where
  | nx | rt (w : W) | bk | ct
abbrev B := MS Fl
def bNext : B := retS .nx
def bCont : B := retS .ct
def bBreak : B := retS .bk
def bSeq (a b : B) : B := bs a fun f => match f with | .nx => b | f => retS f
def bRet (a : A) : B := bs (up a) fun w => retS (.rt w)
def bRetN : B := retS (.rt .non)
def bExpr (a : A) : B := bs (up a) fun _ => retS .nx
def bAsg (a : A) (g : AG) : B := bs (up a) fun w => bs (g w) fun _ => retS .nx
def bIf (t : AT) (a b : B) : B := bs (up t) fun c => if c = true then a else b
def forN (it : ItE) (g : AG) (b : B) : Nat → Nat → B
  | 0, _ => failS
  | f + 1, i => fun ρ S => match it i S with
    | none => .no
    | some none => .ok .nx ρ S
    | some (some w) => bs (g w) (fun _ => bs b fun fl => match fl with
      | .nx => forN it g b f (i + 1)
      | .ct => forN it g b f (i + 1)
      | .bk => retS .nx
      | .rt w => retS (.rt w)) ρ S
def bFor (it : AI) (g : AG) (b : B) : B := bs (up it) fun j => forN j g b big 0
def whN (t : AT) (b : B) : Nat → B
  | 0 => failS
  | f + 1 => bs (up t) fun c => if c = true then bs b (fun fl => match fl with
      | .nx => whN t b f
      | .ct => whN t b f
      | .bk => retS .nx
      | .rt w => retS (.rt w)) else retS .nx
def bWh (t : AT) (b : B) : B := whN t b big
/-- o.f = v -/
def setF (f : Str) (v : W) : List (Str × W) → List (Str × W)
  | [] => [(f, v)]
  | (g, x) :: r => if g = f then (g, v) :: r else (g, x) :: setF f v r
def fldSet (ok : Str → Bool) (f : Str) (v o : W) : M Unit := fun S => match o with
  | .ref n => (match insAt S n with | some (c, fs) => if ok c = true ∧ fs.length < 1000 then .ok () (S.set n (.ins c (setF f v fs))) else .no | none => .no)
  | _ => .no
def bFld (ok : Str → Bool) (f : Str) (a o : A) : B := bs (up a) fun v => bs (up fun ρ => bd (o ρ) (fldSet ok f v)) fun _ => retS .nx
/-- name op= e -/
def bAug (i : Nat) (f : W → W → M W) (a : A) : B := bs (up (aVar i)) fun x => bs (up a) fun y => bs (up fun _ => f x y) fun z => fun ρ S => .ok .nx (ρ.set i (some z)) S
/-- o.f op= e -/
def clsW (x : W) : M Str := fun S => match x with
  | .ref n => (match insAt S n with | some (c, _) => .ok c S | none => .no)
  | _ => .no
def bFAug (ok : Str → Bool) (f : Str) (g : W → W → M W) (o a : A) : B := bs (up o) fun x => bs (up fun _ => clsW x) fun cl => bs (up fun _ => fldW ok f x) fun v => bs (up a) fun y => bs (up fun _ => g v y) fun z => bs (up fun _ => fldSet (fun c => decide (c = cl) && ok c) f z x) fun _ => retS .nx
def delW (d k : W) : M Unit := fun S => match d with
  | .ref n => (match dicAt S n, keyW k with | some kvs, some j => if (valK kvs j).isSome = true then .ok () (S.set n (.dic (dropKW kvs j))) else .no | _, _ => .no)
  | _ => .no
def bDel (a b : A) : B := bs (up fun ρ => bd (a ρ) fun d => bd (b ρ) fun k => delW d k) fun _ => retS .nx
def fin (G : Wd) (D : Ends) : Fl → List Addr → L2.St → Hp → Prop
  | .nx, _, σ, H => D.nx σ H
  | .rt w, m, _, H => ∀ v, Va G m H w v → D.rt v H
  | .bk, _, σ, H => D.bk σ H
  | .ct, _, σ, H => D.ct σ H
def rdB (G : Wd) (Wx : WX) (b : B) : TS := fun D σ H => ∃ m ρ S, Sr G m ρ S σ H ∧ OutS G Wx m H (b ρ S) (fin G D)
section
variable {X : Cx} {Wx : WX} {G : Wd} {m m' : List Addr} {H H' : Hp} {S : Sto} {e e2 e3 o : Expr} {es : List Expr} {a b c : A} {l : AL} {pos p2 p3 apos : Pos} {x mn : Str} {st : Stmt} {sts body : List Stmt} {u v : B} {t : AT} {g : AG} {it : AI}
theorem lst_some {w : W} (h : isLst w S = true) : ∃ n ws, w = .ref n ∧ lstAt S n = some ws := by
  cases w <;> first | exact (Bool.false_ne_true h).elim | skip
  rename_i n
  obtain ⟨ws, hw⟩ := Option.isSome_iff_exists.mp h
  exact ⟨n, ws, rfl, hw⟩
theorem dic_some {w : W} (h : isDic w S = true) : ∃ n kvs, w = .ref n ∧ S[n]? = some (.dic kvs) := by
  cases w <;> first | exact (Bool.false_ne_true h).elim | skip
  rename_i n
  obtain ⟨ws, hw⟩ := Option.isSome_iff_exists.mp h
  refine ⟨n, ws, rfl, ?_⟩
  unfold dicAt at hw
  cases e2 : S[n]? with
  | none => rw [e2] at hw; cases hw
  | some ob =>
    rw [e2] at hw
    cases ob <;> cases hw
    rfl
/-- a method of a list by its rule -/
def MtS (X : Cx) (Wx : WX) (f : W → List W → M W) (r : V → List V → Hp → VK → Prop) : Prop := ∀ (σ : L2.St) (ρ : Rho) (m : List Addr) (H : Hp) (S : Sto) (x : W) (ws : List W) (v : V) (vs : List V) (Q : VK), Sr (wd X) m ρ S σ H → Va (wd X) m H x v → VaL (wd X) m H ws vs → Out (wd X) (Va (wd X)) Wx σ ρ m H (f x ws S) Q → r v vs H Q
theorem tyV_lst {w : W} {v : V} (r : Rel (wd X) m H S) (hv : Va (wd X) m H w v) (h : isLst w S = true) : tyV X.K "list" v H := by
  obtain ⟨n, ws, rfl, hw⟩ := lst_some h
  obtain ⟨p, hp, rfl⟩ := hv
  obtain ⟨xs, h1, _⟩ := lst_at r hw hp
  exact .inl ⟨rfl, xs, SqL.of h1⟩
theorem s_bm {id : String} {f : W → List W → M W} {r : V → List V → Hp → VK → Prop} (ms : MtS X Wx f r) (slot : Slot "list" mn id) (hty : typeOf (.builtin id) = pure (.type "method_descriptor")) (hm : MtR X id r) (ho : PE X o (rdE (wd X) Wx a)) (ha : PA X (e :: es) (rdL (wd X) Wx l))
    (hs : (e :: es).all unstar = true) (h30 : (e :: es).length < 30) (hb : plainBase o = true) (hl : (apos.endLine == pos.line) = true) : PE X (.Call (.Attribute o mn apos) (e :: es) [] pos) (rdE (wd X) Wx (aBM isLst f a l)) := by
  have few := few_ok (X := X) (pos := pos) hs h30
  rw [List.all_cons, Bool.and_eq_true] at hs
  refine ⟨fun pins s σ H Q I h => (pe_bm PySem.F.plainAttrs_list slot hty hm ho ha (plainBase_ok hb) few hl (star_ok hs.1) (star_any hs.2)).run pins s σ H Q I ?_⟩
  obtain ⟨m, ρ, S, sr, o1⟩ := h
  refine out_bd sr o1 fun w S1 m1 v H1 e1 s1 v1 q => ?_
  split at q
  · rename_i hck
    refine ⟨tyV_lst s1.rel v1 hck, ?_⟩
    exact out_bd s1 q fun ws S2 m2 vs H2 e2 s2 l2 q2 => ms σ ρ m2 H2 S2 w ws v vs Q s2 (v1.ext e2) l2 q2
  · exact False.elim q
theorem s_bm0 {id : String} {f : W → List W → M W} {r : V → List V → Hp → VK → Prop} (ms : MtS X Wx f r) (slot : Slot "list" mn id) (hty : typeOf (.builtin id) = pure (.type "method_descriptor")) (hm : MtR X id r) (ho : PE X o (rdE (wd X) Wx a))
    (hb : plainBase o = true) (hl : (apos.endLine == pos.line) = true) : PE X (.Call (.Attribute o mn apos) [] [] pos) (rdE (wd X) Wx (aBM isLst f a aNil)) := by
  refine ⟨fun pins s σ H Q I h => (pe_bm0 PySem.F.plainAttrs_list slot hty hm ho (plainBase_ok hb) hl).run pins s σ H Q I ?_⟩
  obtain ⟨m, ρ, S, sr, o1⟩ := h
  refine out_bd sr o1 fun w S1 m1 v H1 e1 s1 v1 q => ?_
  split at q
  · rename_i hck
    exact ⟨tyV_lst s1.rel v1 hck, ms σ ρ m1 H1 S1 w [] v [] Q s1 v1 rfl q⟩
  · exact False.elim q
/-- a list changed -/
theorem out_lset {σ : L2.St} {ρ : Rho} {n : Nat} {p : Addr} {xs ys : List V} {ws us : List W} {w : W} {v : V} {Q : VK} (sr : Sr (wd X) m ρ S σ H) (hp : m[n]? = some p) (h1 : H p = some (.lst xs)) (lu : VaL (wd X) m H us ys) (hv : Va (wd X) m H w v) (o1 : Out (wd X) (Va (wd X)) Wx σ ρ m H (.ok w (S.set n (.lst us))) Q) : Q v (upd H p (.lst ys)) := by
  have ex : Ext (wd X) m H m (upd H p (.lst ys)) := Ext.upd (List.mem_of_getElem? hp) h1 (fun _ z => by cases z) (fun _ _ z => by cases z)
  exact o1 m v _ ex (sr.set hp ⟨ys, upd_same, lu.ext ex⟩) (hv.ext ex)
theorem ms_app : MtS X Wx appW rAppend := by
  intro σ ρ m H S x ws v vs Q sr hv l o1
  cases x <;> first | exact False.elim o1 | skip
  rename_i n
  rcases ws with _ | ⟨y, _ | ⟨z, r⟩⟩
  · exact False.elim o1
  · obtain ⟨yv, r, rfl, ty, rfl⟩ := l
    dsimp only [appW] at o1
    cases e1 : lstAt S n with
    | none => rw [e1] at o1; exact False.elim o1
    | some us =>
      rw [e1] at o1
      dsimp only at o1
      split at o1
      · rename_i hsh
        obtain ⟨p, xs, hp, rfl, h1, lx⟩ := seq_lst sr.rel hv e1
        exact ⟨p, xs, yv, rfl, rfl, h1, by rw [lx.len]; exact Nat.lt_of_lt_of_le (Nat.lt_succ_self _) (short_le hsh), out_lset (ws := us) sr hp h1 (lx.app (.one ty)) (show Va (wd X) m H .non .non from rfl) o1⟩
      · exact False.elim o1
  · exact False.elim o1
theorem dropLast_ok : ∀ {ws : List W} {xs : List V}, VaL G m H ws xs → VaL G m H ws.dropLast xs.dropLast := fun {ws xs} l => by
  rw [List.dropLast_eq_take, List.dropLast_eq_take, l.len]
  exact l.take _
theorem ms_pop : MtS X Wx popW rPop := by
  intro σ ρ m H S x ws v vs Q sr hv l o1
  cases x <;> first | exact False.elim o1 | skip
  rename_i n
  rcases ws with _ | ⟨y, r⟩
  · have l : vs = [] := l
    subst l
    dsimp only [popW] at o1
    cases e1 : lstAt S n with
    | none => rw [e1] at o1; exact False.elim o1
    | some us =>
      rw [e1] at o1
      dsimp only at o1
      cases e2 : us[us.length - 1]? with
      | none => rw [e2] at o1; exact False.elim o1
      | some y =>
        rw [e2] at o1
        obtain ⟨p, xs, hp, rfl, h1, lx⟩ := seq_lst sr.rel hv e1
        obtain ⟨yv, h2, h3⟩ := lx.get e2
        exact ⟨p, xs, yv, rfl, rfl, h1, by rw [lx.len]; exact h2, out_lset (ws := us) sr hp h1 (dropLast_ok lx) h3 o1⟩
  · exact False.elim o1
theorem ms_ext : MtS X Wx extW rExtend := by
  intro σ ρ m H S x ws v vs Q sr hv l o1
  cases x <;> first | exact False.elim o1 | skip
  rename_i n
  rcases ws with _ | ⟨y, _ | ⟨z, r⟩⟩
  · exact False.elim o1
  · obtain ⟨yv, r, rfl, ty, rfl⟩ := l
    cases y <;> first | exact False.elim o1 | skip
    rename_i k
    dsimp only [extW] at o1
    cases e1 : lstAt S n with
    | none => rw [e1] at o1; exact False.elim o1
    | some us =>
      cases e2 : lstAt S k with
      | none => rw [e1, e2] at o1; exact False.elim o1
      | some zs =>
        rw [e1, e2] at o1
        dsimp only at o1
        split at o1
        · rename_i hsh
          obtain ⟨p, xs, hp, rfl, h1, lx⟩ := seq_lst sr.rel hv e1
          obtain ⟨q, ys, hq, rfl, h2, ly⟩ := seq_lst sr.rel ty e2
          exact ⟨p, q, xs, ys, rfl, rfl, h1, h2, by rw [lx.len, ly.len]; exact short_le hsh, out_lset (ws := us) sr hp h1 (lx.app ly) (show Va (wd X) m H .non .non from rfl) o1⟩
        · exact False.elim o1
  · cases y <;> exact False.elim o1
/-! ### d.get(k), d.get(k, x) -/
theorem getD_ok {k : Key} {w : W} {v : V} {kvs : List (Key × W)} {ks : List (Key × V)} (h : KvL G m H kvs ks) (hv : Va G m H w v) : Va G m H ((valK kvs k).getD w) ((valV ks k).getD v) := by
  have := valK_ok (k := k) h
  cases e : valK kvs k with
  | none => rw [e] at this; rw [show valV ks k = none from this]; exact hv
  | some z => rw [e] at this; obtain ⟨y, h1, h2⟩ := this; rw [h1]; exact h2
theorem dicAt_of {n : Nat} {kvs : List (Key × W)} (h : dicAt S n = some kvs) : S[n]? = some (.dic kvs) := by
  unfold dicAt at h
  cases e2 : S[n]? with
  | none => rw [e2] at h; cases h
  | some ob =>
    rw [e2] at h
    cases ob <;> cases h
    rfl
theorem s_get1 (hu : X.A.units + 1 < cLine) (ho : PE X o (rdE (wd X) Wx a)) (he : PE X e (rdE (wd X) Wx b)) (hs : unstar e = true) (hb : plainBase o = true) (hl : (apos.endLine == pos.line) = true) : PE X (.Call (.Attribute o "get" apos) [e] [] pos) (rdE (wd X) Wx (aGet1 a b)) := by
  have few := few_ok (X := X) (pos := pos) (es := [e]) (by simp [hs]) (show 1 < 30 by decide)
  refine ⟨fun pins s σ H Q I h => (pe_dget1 hu ho he ⟨plainBase_ok hb, few, hl, by rw [star_ok hs]; rfl⟩).run pins s σ H Q I ?_⟩
  obtain ⟨m, ρ, S, sr, o1⟩ := h
  refine out_bd sr o1 fun w S1 m1 v H1 e1 s1 v1 q => ?_
  split at q
  · rename_i hck
    obtain ⟨n, kvs, rfl, hw⟩ := dic_some hck
    obtain ⟨p, hp, rfl⟩ := v1
    obtain ⟨ks, h1, _⟩ := s1.rel.at_ n p _ hp hw
    refine ⟨p, rfl, .inl ⟨ks, .inl h1⟩, ?_⟩
    refine out_bd s1 q fun k S2 m2 kv H2 e2 s2 t2 q2 => ?_
    dsimp only [get1W] at q2
    cases e3 : dicAt S2 n with
    | none => rw [e3] at q2; exact False.elim q2
    | some kvs2 =>
      cases e4 : keyW k with
      | none => rw [e3, e4] at q2; exact False.elim q2
      | some j =>
        rw [e3, e4] at q2
        obtain ⟨ks2, h2, l2⟩ := s2.rel.at_ n p _ (e2.get hp) (dicAt_of e3)
        have hk := key_ok t2 e4
        subst hk
        exact ⟨_, DGet.k h2, out_ok s2 q2 (getD_ok l2 rfl)⟩
  · exact False.elim q
theorem s_get2 (hu : X.A.units + 1 < cLine) (ho : PE X o (rdE (wd X) Wx a)) (he : PE X e (rdE (wd X) Wx b)) (hf : PE X e2 (rdE (wd X) Wx c)) (hs : unstar e = true) (hs2 : unstar e2 = true) (hb : plainBase o = true) (hl : (apos.endLine == pos.line) = true) : PE X (.Call (.Attribute o "get" apos) [e, e2] [] pos) (rdE (wd X) Wx (aGet2 a b c)) := by
  have few := few_ok (X := X) (pos := pos) (es := [e, e2]) (by simp [hs, hs2]) (show 2 < 30 by decide)
  refine ⟨fun pins s σ H Q I h => (pe_dget2 hu ho he hf ⟨plainBase_ok hb, few, hl, by rw [star_ok hs, star_ok hs2]; rfl⟩).run pins s σ H Q I ?_⟩
  obtain ⟨m, ρ, S, sr, o1⟩ := h
  refine out_bd sr o1 fun w S1 m1 v H1 e1 s1 v1 q => ?_
  split at q
  · rename_i hck
    obtain ⟨n, kvs, rfl, hw⟩ := dic_some hck
    obtain ⟨p, hp, rfl⟩ := v1
    obtain ⟨ks, h1, _⟩ := s1.rel.at_ n p _ hp hw
    refine ⟨p, rfl, .inl ⟨ks, .inl h1⟩, ?_⟩
    refine out_bd s1 q fun k S2 m2 kv H2 e2 s2 t2 q2 => ?_
    refine out_bd s2 q2 fun z S3 m3 zv H3 e3 s3 t3 q3 => ?_
    dsimp only [get2W] at q3
    cases e5 : dicAt S3 n with
    | none => rw [e5] at q3; exact False.elim q3
    | some kvs2 =>
      cases e4 : keyW k with
      | none => rw [e5, e4] at q3; exact False.elim q3
      | some j =>
        rw [e5, e4] at q3
        obtain ⟨ks2, h2, l2⟩ := s3.rel.at_ n p _ (e3.get (e2.get hp)) (dicAt_of e5)
        have hk := key_ok t2 e4
        subst hk
        exact ⟨_, DGet.k h2, out_ok s3 q3 (getD_ok l2 t3)⟩
  · exact False.elim q
/-! ### statements -/
theorem s_next {X : Cx} : PSs X [] (rdB (wd X) Wx bNext) := by
  refine ⟨fun pins s σ H D I h => pss_nil.run pins s σ H D I ?_⟩
  obtain ⟨m, ρ, S, sr, o⟩ := h
  exact o m σ H .refl sr
theorem s_pass : PS X (.Pass pos) (rdB (wd X) Wx bNext) := by
  refine ⟨fun pins s σ H D I h => ps_pass.run pins s σ H D I ?_⟩
  obtain ⟨m, ρ, S, sr, o⟩ := h
  exact o m σ H .refl sr
theorem s_cont : PS X (.Continue pos) (rdB (wd X) Wx bCont) := by
  refine ⟨fun pins s σ H D I h => ps_continue.run pins s σ H D I ?_⟩
  obtain ⟨m, ρ, S, sr, o⟩ := h
  exact o m σ H .refl sr
theorem s_seq (ha : PS X st (rdB (wd X) Wx u)) (hb : PSs X sts (rdB (wd X) Wx v)) : PSs X (st :: sts) (rdB (wd X) Wx (bSeq u v)) := by
  refine ⟨fun pins s σ H D I h => (pss_cons ha hb).run pins s σ H D I ?_⟩
  obtain ⟨m, ρ, S, sr, o⟩ := h
  refine ⟨m, ρ, S, sr, ?_⟩
  unfold bSeq bs at o
  cases e : u ρ S with
  | no => rw [e] at o; exact o
  | er x ρ' T => rw [e] at o; exact o
  | ok f ρ' T =>
    rw [e] at o
    cases f with
    | nx => exact fun m1 σ1 H1 e1 s1 => ⟨m1, ρ', T, s1, o.ext e1⟩
    | rt w => exact fun m1 σ1 H1 e1 s1 => o m1 σ1 H1 e1 s1
    | bk => exact fun m1 σ1 H1 e1 s1 => o m1 σ1 H1 e1 s1
    | ct => exact fun m1 σ1 H1 e1 s1 => o m1 σ1 H1 e1 s1
theorem s_ret (he : PE X e (rdE (wd X) Wx a)) : PS X (.Return (some e) pos) (rdB (wd X) Wx (bRet a)) := by
  refine ⟨fun pins s σ H D I h => (ps_ret he).run pins s σ H D I ?_⟩
  obtain ⟨m, ρ, S, sr, o⟩ := h
  exact outS_up sr o fun w S1 m1 v H1 e1 s1 v1 o1 => o1 m1 σ H1 .refl s1 v v1
theorem s_retN : PS X (.Return none pos) (rdB (wd X) Wx bRetN) := by
  refine ⟨fun pins s σ H D I h => ps_retN.run pins s σ H D I ?_⟩
  obtain ⟨m, ρ, S, sr, o⟩ := h
  exact o m σ H .refl sr .non rfl
/-- no comprehension at the top of what is stored -/
def noComp : Expr → Bool
  | .ListComp _ _ _ _ => false
  | .SetComp _ _ _ _ => false
  | .DictComp _ _ _ _ _ => false
  | _ => true
theorem noComp_ok {tg : Option Expr} {n : Nat} {env : Env} (h : noComp e = true) : swapsWith e tg n env = pure false := by
  cases e <;> first | exact (Bool.false_ne_true h).elim | rfl
theorem s_expr (he : PE X e (rdE (wd X) Wx a)) (hn : noComp e = true) : PS X (.Expr e pos) (rdB (wd X) Wx (bExpr a)) := by
  refine ⟨fun pins s σ H D I h => (ps_expr he (noComp_ok hn)).run pins s σ H D I ?_⟩
  obtain ⟨m, ρ, S, sr, o⟩ := h
  exact outS_up sr o fun w S1 m1 v H1 e1 s1 v1 o1 => o1 m1 σ H1 .refl s1
theorem asg_read {Fr : Fram} {D : Ends} {σ : L2.St} {ρ : Rho} {w : W} {vv : V} (sr : Sr (wd X) m ρ S σ H) (hv : Va (wd X) m H w vv) (o : OutS (wd X) Wx m H (bs (g w) (fun _ => retS Fl.nx) ρ S) (fin (wd X) D)) : rdG (wd X) Wx Fr g vv σ H D.nx := by
  refine ⟨m, ρ, S, w, sr, hv, ?_⟩
  unfold bs at o
  cases e : g w ρ S with
  | no => rw [e] at o; exact o
  | er x ρ' T => rw [e] at o; exact o
  | ok u ρ' T => rw [e] at o; exact fun m' σ' H' e1 s1 _ => o m' σ' H' e1 s1
theorem s_asg {tg : Expr} (he : PE X e (rdE (wd X) Wx a)) (hg : PG X tg (rdG (wd X) Wx frAny g)) (hs : swapsWithSole [tg] e pos.line X.env = pure false) (hw : swappedStores [tg] e X.env = pure none) (hu : unstar tg = true) : PS X (.Assign [tg] e pos) (rdB (wd X) Wx (bAsg a g)) := by
  refine ⟨fun pins s σ H D I h => (ps_asg he hg hs hw (by cases tg <;> first | rfl | exact (Bool.false_ne_true hu).elim)).run pins s σ H D I ?_⟩
  obtain ⟨m, ρ, S, sr, o⟩ := h
  exact outS_up sr o fun w S1 m1 v H1 e1 s1 v1 o1 => asg_read s1 v1 o1
theorem s_ifS {x y : List Stmt} (hc : PT X e (rdT (wd X) Wx t)) (ha : PSs X x (rdB (wd X) Wx u)) (hb : PSs X y (rdB (wd X) Wx v)) : PS X (.If e x y pos) (rdB (wd X) Wx (bIf t u v)) := by
  refine ⟨fun pins s σ H D I h => (ps_if hc ha hb).run pins s σ H D I ?_⟩
  obtain ⟨m, ρ, S, sr, o⟩ := h
  refine outS_up (Vv := Vb) sr o fun c S1 m1 k H1 e1 s1 v1 o1 => ?_
  cases v1
  cases c with
  | true => exact ⟨m1, ρ, S1, s1, o1⟩
  | false => exact ⟨m1, ρ, S1, s1, o1⟩
def noSet : Expr → Bool
  | .Set _ _ _ => false
  | _ => true
theorem noSet_ok {env : Env} (h : noSet e = true) : ∀ x, foldedSetIterable e env x = pure x := fun x => by
  cases e <;> first | exact (Bool.false_ne_true h).elim | rfl
theorem s_for {tg iter : Expr} (hp : PassesOwn (model X.prog X.w) X.A X.env X.xe) (hc : X.calm = true) (hi : PI X tg iter (rd (wd X) (Vi (wd X)) Wx it)) (hg : PG X tg (rdG (wd X) Wx frAny g)) (hb : PSs X body (rdB (wd X) Wx u)) (hn : noSet iter = true) : PS X (.For tg iter body [] pos) (rdB (wd X) Wx (bFor it g u)) := by
  refine ⟨fun pins s σ H D I h => (ps_for hp hc hi hg hb (noSet_ok hn)).run pins s σ H D I ?_⟩
  obtain ⟨m, ρ, S, sr, o⟩ := h
  refine outS_up (Vv := Vi (wd X)) sr o fun j S1 m1 J H1 e1 s1 vi o1 => ?_
  let W0 : Nat → Nat → L2.St → Hp → Prop := fun i f σ' H' => ∃ m5 ρ5 S5, Ext (wd X) m1 H1 m5 H' ∧ Sr (wd X) m5 ρ5 S5 σ' H' ∧ OutS (wd X) Wx m5 H' (forN j g u f i ρ5 S5) (fin (wd X) D)
  refine ⟨W0, ⟨big, m1, ρ, S1, .refl, s1, o1⟩, ?_⟩
  rintro i f σ5 H5 ⟨m5, ρ5, S5, x5, s5, o5⟩
  cases f with
  | zero => exact False.elim o5
  | succ f =>
    have vi5 := vi m5 H5 S5 i x5 s5.rel
    simp only [forN] at o5
    cases hj : j i S5 with
    | none => rw [hj] at o5; exact False.elim o5
    | some z =>
      rw [hj] at o5 vi5
      cases z with
      | none => exact .inl ⟨vi5, o5 m5 σ5 H5 .refl s5⟩
      | some w =>
        dsimp only at o5
        refine .inr ⟨vi5.1, W0 (i + 1) f, fun σ' H' h => ⟨f, Nat.lt_succ_self f, h⟩, fun x H6 hy => ?_⟩
        obtain ⟨sm, v6⟩ := vi5.2 x H6 hy
        have x6 : Ext (wd X) m5 H5 m5 H6 := .same sm
        refine ⟨m5, ρ5, S5, w, s5.same sm, v6, ?_⟩
        have o5 := o5.ext x6
        unfold bs at o5
        cases eg : g w ρ5 S5 with
        | no => rw [eg] at o5; exact o5
        | er y ρ7 T => rw [eg] at o5; exact o5
        | ok uu ρ7 T =>
          rw [eg] at o5
          dsimp only at o5
          intro m7 σ7 H7 x7 s7 _
          refine ⟨m7, ρ7, T, s7, ?_⟩
          have o7 := o5.ext x7
          cases eb : u ρ7 T with
          | no => rw [eb] at o7; exact o7
          | er y ρ8 T8 => rw [eb] at o7; exact o7
          | ok fl ρ8 T8 =>
            rw [eb] at o7
            intro m8 σ8 H8 x8 s8
            have x58 := ((x5.trans x6).trans x7).trans x8
            cases fl with
            | nx => exact ⟨m8, ρ8, T8, x58, s8, o7.ext x8⟩
            | ct => exact ⟨m8, ρ8, T8, x58, s8, o7.ext x8⟩
            | bk => exact o7 m8 σ8 H8 x8 s8
            | rt w => exact o7 m8 σ8 H8 x8 s8
theorem s_while (hp : PassesOwn (model X.prog X.w) X.A X.env X.xe) (hc : PT X e (rdT (wd X) Wx t)) (hb : PSs X body (rdB (wd X) Wx u)) : PS X (.While e body [] pos) (rdB (wd X) Wx (bWh t u)) := by
  refine ⟨fun pins s σ H D I h => (ps_while hp hc hb).run pins s σ H D I ?_⟩
  obtain ⟨m, ρ, S, sr, o⟩ := h
  let W0 : Nat → L2.St → Hp → Prop := fun f σ' H' => ∃ m5 ρ5 S5, Sr (wd X) m5 ρ5 S5 σ' H' ∧ OutS (wd X) Wx m5 H' (whN t u f ρ5 S5) (fin (wd X) D)
  refine ⟨W0, ⟨big, m, ρ, S, sr, o⟩, ?_⟩
  rintro f σ5 H5 ⟨m5, ρ5, S5, s5, o5⟩
  cases f with
  | zero => exact False.elim o5
  | succ f =>
    refine outS_up (Vv := Vb) s5 o5 fun c S6 m6 k H6 x6 s6 v6 o6 => ?_
    cases v6
    cases c with
    | false => exact o6 m6 σ5 H6 .refl s6
    | true =>
      refine ⟨W0 f, fun σ' H' h => ⟨f, Nat.lt_succ_self f, h⟩, ?_⟩
      refine ⟨m6, ρ5, S6, s6, ?_⟩
      have o6 : OutS (wd X) Wx m6 H6 (bs u (fun fl => match fl with | .nx => whN t u f | .ct => whN t u f | .bk => retS .nx | .rt w => retS (.rt w)) ρ5 S6) (fin (wd X) D) := o6
      unfold bs at o6
      cases eb : u ρ5 S6 with
      | no => rw [eb] at o6; exact o6
      | er y ρ8 T8 => rw [eb] at o6; exact o6
      | ok fl ρ8 T8 =>
        rw [eb] at o6
        intro m8 σ8 H8 x8 s8
        cases fl with
        | nx => exact ⟨m8, ρ8, T8, s8, o6.ext x8⟩
        | ct => exact ⟨m8, ρ8, T8, s8, o6.ext x8⟩
        | bk => exact o6 m8 σ8 H8 x8 s8
        | rt w => exact o6 m8 σ8 H8 x8 s8
end
end Ev

/-! ## Stores to attributes, op=, del -/
namespace Ev
open PySem L2 PyProof.Rows
section
variable {X : Cx} {Wx : WX} {G : Wd} {m m' : List Addr} {H H' : Hp} {S : Sto} {e e2 e3 o : Expr} {es : List Expr} {a b c : A} {l : AL} {pos p2 p3 apos : Pos} {x mn f : Str} {st : Stmt} {sts body : List Stmt} {u v : B} {t : AT} {g : AG} {it : AI} {ok : Str → Bool}
theorem setF_ok {w : W} {vv : V} (t : Va G m H w vv) : ∀ {fs : List (Str × W)} {gs : List (Str × V)}, KvL G m H fs gs → KvL G m H (setF f w fs) (putF f vv gs)
  | [], gs, h => by
    have e : gs = [] := by have := h.len; simpa using this
    subst e
    exact KvL.mk t .nil
  | (j, z) :: r, gs, h => by
    obtain ⟨y, r2, rfl, t1, h'⟩ := h.cons
    unfold setF putF
    by_cases c : j = f
    · rw [if_pos c, if_pos c]
      exact KvL.mk t h'
    · rw [if_neg c, if_neg c]
      exact KvL.mk t1 (setF_ok t h')
/-- an attribute stored -/
theorem fldSet_ok {σ : L2.St} {ρ : Rho} {w x : W} {vv xv : V} {P : Unit → List Addr → L2.St → Hp → Prop} (hc : AtOk X ok f) (sr : Sr (wd X) m ρ S σ H) (hv : Va (wd X) m H w vv) (hx : Va (wd X) m H x xv) (o1 : OutS (wd X) Wx m H (up (fun _ => fldSet ok f w x) ρ S) P) :
    ∃ p C dx gs, xv = .ref p ∧ H p = some (.ins C dx gs) ∧ Cls X.K C ∧ NoAttr X.K C f ∧ gs.length < 1000 ∧ ∃ m', P () m' σ (upd H p (.ins C dx (putF f vv gs))) := by
  cases x <;> first | exact False.elim o1 | skip
  rename_i n
  obtain ⟨p, hp, rfl⟩ := hx
  dsimp only [up, fldSet] at o1
  cases e : insAt S n with
  | none => rw [e] at o1; exact False.elim o1
  | some cf =>
    obtain ⟨cl, fs⟩ := cf
    rw [e] at o1
    dsimp only at o1
    by_cases hk : ok cl = true ∧ fs.length < 1000
    · rw [if_pos hk] at o1
      obtain ⟨C, dx, gs, h0, h1, l⟩ := sr.rel.at_ n p _ hp (ins_of e)
      obtain ⟨h4, h5⟩ := hc cl hk.1 C h0
      have ex : Ext (wd X) m H m (upd H p (.ins C dx (putF f vv gs))) := Ext.upd (List.mem_of_getElem? hp) h1 (fun _ z => by cases z) (fun _ _ z => by cases z)
      exact ⟨p, C, dx, gs, rfl, h1, h4, h5, by rw [l.len]; exact hk.2, m, o1 m σ _ ex (sr.set hp ⟨C, dx, _, h0, upd_same, (setF_ok hv l).ext ex⟩)⟩
    · rw [if_neg hk] at o1
      exact False.elim o1
theorem outS_unit {ρ : Rho} {ar : Rho → M Unit} {D : Ends} (o1 : OutS (wd X) Wx m H (bs (up ar) (fun _ => retS Fl.nx) ρ S) (fin (wd X) D)) : OutS (wd X) Wx m H (up ar ρ S) (fun _ _ σ' H' => D.nx σ' H') := by
  unfold bs at o1
  cases e : up ar ρ S with
  | no => rw [e] at o1; exact o1
  | er x ρ' T => rw [e] at o1; exact o1
  | ok u ρ' T => rw [e] at o1; exact fun m' σ' H' e1 s1 => o1 m' σ' H' e1 s1
theorem s_fldS (ho : PE X o (rdE (wd X) Wx b)) (hv : PE X e (rdE (wd X) Wx a)) (hn : noComp e = true) (hc : AtOk X ok f) : PS X (.Assign [.Attribute o f p2] e pos) (rdB (wd X) Wx (bFld ok f a b)) := by
  refine ⟨fun pins s σ H D I h => (ps_fld ho hv (noComp_ok hn)).run pins s σ H D I ?_⟩
  obtain ⟨m, ρ, S, sr, o1⟩ := h
  refine outS_up sr o1 fun w S1 m1 vv H1 e1 s1 v1 o2 => ?_
  have o2 := outS_unit o2
  rw [up_bd (f := fun x _ => fldSet ok f w x)] at o2
  refine outS_up s1 o2 fun x S2 m2 xv H2 e2 s2 v2 o3 => ?_
  obtain ⟨p, C, dx, gs, q1, q2, q3, q4, q5, m', q6⟩ := fldSet_ok hc s2 (v1.ext e2) v2 o3
  exact ⟨p, C, dx, gs, q1, q2, q3, q4, q5, q6⟩
/-! ### op= -/
def PipS (X : Cx) (Wx : WX) (f : W → W → M W) (r : TIp) : Prop := OpS X Wx f r
theorem up_const {α : Type} {σ : L2.St} {ρ : Rho} {am : M α} {P : α → List Addr → L2.St → Hp → Prop} {Vv : Vr α V} {Q : VK} (sr : Sr G m ρ S σ H) (o1 : OutS G Wx m H (up (fun _ => am) ρ S) P) (k : ∀ w S1 m1 vv H1, Ext G m H m1 H1 → Sr G m1 ρ S1 σ H1 → Vv m1 H1 w vv → P w m1 σ H1 → Q vv H1) : Out G Vv Wx σ ρ m H (am S) Q := by
  cases e : am S with
  | ok w T => simp only [up, e] at o1; exact fun m' v H' e1 s1 v1 => k w T m' v H' e1 s1 v1 (o1 m' σ H' e1 s1)
  | er x T => simp only [up, e] at o1; exact fun m' H' cls od e1 s1 x1 => o1 m' σ H' cls od e1 s1 x1
  | no => simp only [up, e] at o1; exact o1
theorem up_bsC {α β : Type} {σ : L2.St} {ρ : Rho} {am : M α} {fm : α → MS β} {P : β → List Addr → L2.St → Hp → Prop} {Vv : Vr α V} {Q : VK} (sr : Sr G m ρ S σ H) (o1 : OutS G Wx m H (bs (up (fun _ => am)) fm ρ S) P) (k : ∀ w S1 m1 vv H1, Ext G m H m1 H1 → Sr G m1 ρ S1 σ H1 → Vv m1 H1 w vv → OutS G Wx m1 H1 (fm w ρ S1) P → Q vv H1) : Out G Vv Wx σ ρ m H (am S) Q := by
  cases e : am S with
  | ok w T => simp only [bs, up, e] at o1; exact fun m' v H' e1 s1 v1 => k w T m' v H' e1 s1 v1 (o1.ext e1)
  | er x T => simp only [bs, up, e] at o1; exact fun m' H' cls od e1 s1 x1 => o1 m' σ H' cls od e1 s1 x1
  | no => simp only [bs, up, e] at o1; exact o1
theorem s_aug {op : Operator} {i : Nat} {fw : W → W → M W} {r : TIp} (hN : X.N.Nodup) (hi : X.N[i]? = some x) (hx : L2.Loc X.env.scope x) (hx2 : X.fn x = true ∨ X.env.scope.names.lookup x = some .local) (he : PE X e (rdE (wd X) Wx a)) (ho : PIp X op r) (os : OpS X Wx fw r) : PS X (.AugAssign (.Name x p2) op e pos) (rdB (wd X) Wx (bAug i fw a)) := by
  refine ⟨fun pins s σ H D I h => (ps_aug hN hi hx he ho hx2).run pins s σ H D I ?_⟩
  obtain ⟨m, ρ, S, sr, o1⟩ := h
  unfold bAug at o1
  have o1' := o1
  unfold bs at o1'
  cases ev : aVar i ρ S with
  | no => simp only [up, ev] at o1'; exact o1'.elim
  | er y T =>
    exfalso
    unfold aVar at ev
    split at ev <;> cases ev
  | ok w T =>
    unfold aVar at ev
    cases ei : ρ[i]? with
    | none => rw [ei] at ev; cases ev
    | some z =>
      cases z with
      | none => rw [ei] at ev; cases ev
      | some w' =>
        rw [ei] at ev
        cases ev
        obtain ⟨xv, h1, h2⟩ := sr.at_ i w ei
        have o2 : OutS (wd X) Wx m H (bs (up a) (fun y => bs (up fun _ => fw w y) fun z => fun ρ S => .ok .nx (ρ.set i (some z)) S) ρ S) (fin (wd X) D) := by
          have e1 : up (aVar i) ρ S = .ok w ρ S := by
            unfold up aVar
            rw [ei]
          unfold bs at o1 ⊢
          rw [e1] at o1
          exact o1
        refine ⟨xv, h1, outS_up sr o2 fun y S1 m1 yv H1 e1 s1 v1 o3 => ?_⟩
        refine os σ ρ m1 H1 S1 w y xv yv _ s1 (h2.ext e1) v1 ?_
        exact up_bsC s1 o3 fun z S2 m2 zv H2 e2 s2 v2 o4 => o4 m2 _ H2 .refl (s2.put v2)
theorem s_faug {op : Operator} {fw : W → W → M W} {r : V → V → Hp → VK → Prop} (ho : PE X o (rdE (wd X) Wx b)) (hv : PE X e (rdE (wd X) Wx a)) (hop : InOp X op r) (os : OpS X Wx fw r) (hc : AtOk X ok f) : PS X (.AugAssign (.Attribute o f p2) op e pos) (rdB (wd X) Wx (bFAug ok f fw b a)) := by
  refine ⟨fun pins s σ H D I h => (ps_fldaug ho hv hop).run pins s σ H D I ?_⟩
  obtain ⟨m, ρ, S, sr, o1⟩ := h
  refine outS_up sr o1 fun x S1 m1 xv H1 e1 s1 v1 o2 => ?_
  cases x <;> first | exact False.elim o2 | skip
  rename_i n
  have v1' := v1
  obtain ⟨p, hp, rfl⟩ := v1
  cases ei : insAt S1 n with
  | none => simp only [bs, up, clsW, ei] at o2; exact False.elim o2
  | some cf =>
    obtain ⟨cl, fs⟩ := cf
    by_cases hk : ok cl = true
    · cases el : fs.lookup f with
      | none => simp only [bs, up, clsW, fldW, ei, hk, if_true, el, opt, fail] at o2; exact False.elim o2
      | some z =>
        have o2 : OutS (wd X) Wx m1 H1 (bs (up a) (fun y => bs (up fun _ => fw z y) fun z2 => bs (up fun _ => fldSet (fun c => decide (c = cl) && ok c) f z2 (.ref n)) fun _ => retS .nx) ρ S1) (fin (wd X) D) := by
          have e1 : up (fun _ => clsW (.ref n)) ρ S1 = .ok cl ρ S1 := by simp only [up, clsW, ei]
          have e2 : up (fun _ => fldW ok f (.ref n)) ρ S1 = .ok z ρ S1 := by simp only [up, fldW, ei, hk, if_true, el, opt, ret]
          have e3 : ∀ {β : Type} (fm : Str → MS β), bs (up fun _ => clsW (.ref n)) fm ρ S1 = fm cl ρ S1 := fun fm => by unfold bs; rw [e1]
          have e4 : ∀ {β : Type} (fm : W → MS β), bs (up fun _ => fldW ok f (.ref n)) fm ρ S1 = fm z ρ S1 := fun fm => by unfold bs; rw [e2]
          rw [e3, e4] at o2
          exact o2
        obtain ⟨C, dx, gs, h0, h1, lg⟩ := s1.rel.at_ n p _ hp (ins_of ei)
        have q := lookup_ok (f := f) lg
        rw [el] at q
        obtain ⟨zv, h2, h3⟩ := q
        obtain ⟨h4, h5⟩ := hc cl hk C h0
        refine ⟨p, C, dx, gs, zv, rfl, h1, h4, h5, h2, ?_⟩
        refine outS_up s1 o2 fun y S2 m2 yv H2 e2 s2 v2 o3 => ?_
        refine os σ ρ m2 H2 S2 z y zv yv _ s2 (h3.ext e2) v2 ?_
        refine up_bsC s2 o3 fun z2 S3 m3 z2v H3 e3 s3 v3 o4 => ?_
        have hc' : AtOk X (fun c => decide (c = cl) && ok c) f := fun c hcc => by
          rw [Bool.and_eq_true] at hcc
          exact hc c hcc.2
        have o4 := outS_unit o4
        have hcl : ∃ fs', insAt S3 n = some (cl, fs') := by
          cases e5 : insAt S3 n with
          | none => simp only [up, fldSet, e5] at o4; exact False.elim o4
          | some cf =>
            obtain ⟨c5, f5⟩ := cf
            by_cases hc5 : c5 = cl
            · exact ⟨f5, by rw [hc5]⟩
            · simp only [up, fldSet, e5, hc5, decide_false, Bool.false_and, Bool.false_eq_true, false_and, if_false] at o4
              exact False.elim o4
        obtain ⟨fs', e5⟩ := hcl
        obtain ⟨p', C', dx', gs', q1, q2, q3, q4, q5, m', q6⟩ := fldSet_ok hc' s3 v3 ((v1'.ext e2).ext e3) o4
        cases q1
        obtain ⟨C5, dx5, gs5, h05, h15, _⟩ := s3.rel.at_ n p _ (e3.get (e2.get hp)) (ins_of e5)
        have eC : C5 = C := by
          have a1 : X.mg cl = some (.ref C5) := h05
          have a2 : X.mg cl = some (.ref C) := h0
          rw [a2] at a1
          cases a1
          rfl
        rw [q2] at h15
        cases h15
        subst eC
        exact ⟨dx', gs', q2, q5, q6⟩
    · simp only [bs, up, clsW, fldW, ei, hk, if_false] at o2
      exact False.elim o2
end
end Ev

/-! ## del, a comprehension stored, two names at once -/
namespace Ev
open PySem L2 PyProof.Rows
section
variable {X : Cx} {Wx : WX} {G : Wd} {m m' : List Addr} {H H' : Hp} {S : Sto} {e e2 e3 o : Expr} {es : List Expr} {a b c te : A} {l : AL} {pos p2 p3 apos : Pos} {x mn f : Str} {st : Stmt} {sts body : List Stmt} {u v : B} {t tt : AT} {g : AG} {it : AI}
theorem dropK_ok {k : Key} : ∀ {kvs : List (Key × W)} {ks : List (Key × V)}, KvL G m H kvs ks → KvL G m H (dropKW kvs k) (dropK ks k)
  | [], ks, h => by
    have e : ks = [] := by have := h.len; simpa using this
    subst e
    exact h
  | (j, w) :: r, ks, h => by
    obtain ⟨v, r2, rfl, t, h'⟩ := h.cons
    unfold dropKW dropK
    rw [List.filter_cons, List.filter_cons]
    by_cases c : j = k
    · simp only [c, decide_true, Bool.not_true, Bool.false_eq_true, if_false, ne_eq, not_true_eq_false, decide_false]
      exact dropK_ok h'
    · simp only [c, decide_false, Bool.not_false, if_true, ne_eq, not_false_eq_true, decide_true]
      exact KvL.mk t (dropK_ok h')
theorem s_del (ho : PE X o (rdE (wd X) Wx a)) (hi : PE X e (rdE (wd X) Wx b)) : PS X (.Delete [.Subscript o e p2] pos) (rdB (wd X) Wx (bDel a b)) := by
  refine ⟨fun pins s σ H D I h => (ps_ddel ho hi).run pins s σ H D I ?_⟩
  obtain ⟨m, ρ, S, sr, o1⟩ := h
  have o1 := outS_unit o1
  rw [up_bd (f := fun d ρ => bd (b ρ) fun k => delW d k)] at o1
  refine outS_up sr o1 fun d S1 m1 dv H1 e1 s1 v1 o2 => ?_
  rw [up_bd (f := fun k _ => delW d k)] at o2
  refine outS_up s1 o2 fun k S2 m2 kv H2 e2 s2 v2 o3 => ?_
  cases d <;> first | exact False.elim o3 | skip
  rename_i n
  obtain ⟨p, hp, rfl⟩ := v1.ext e2
  cases e3 : dicAt S2 n with
  | none => simp only [up, delW, e3] at o3; exact False.elim o3
  | some kvs =>
    cases e4 : keyW k with
    | none => simp only [up, delW, e3, e4] at o3; exact False.elim o3
    | some j =>
      by_cases hk : (valK kvs j).isSome = true
      · simp only [up, delW, e3, e4, hk, if_true] at o3
        obtain ⟨ks, h1, lk⟩ := s2.rel.at_ n p _ hp (dicAt_of e3)
        have hkk := key_ok v2 e4
        subst hkk
        have ex : Ext (wd X) m2 H2 m2 (upd H2 p (.dK (dropK ks j))) := Ext.upd (List.mem_of_getElem? hp) h1 (fun _ z => by cases z) (fun _ _ z => by cases z)
        exact ⟨p, ks, j, rfl, h1, rfl, by rw [valK_some lk]; exact hk, o3 m2 σ _ ex (s2.set hp ⟨_, upd_same, (dropK_ok lk).ext ex⟩)⟩
      · simp only [up, delW, e3, e4, hk, if_false] at o3
        exact False.elim o3
theorem s_setLc {i : Nat} {elt tg iter : Expr} {ifs : List Expr} {scope : Scope} {own : List (Str × Nat)} (hc : X.calm = true) (hN : X.N.Nodup) (hi : X.N[i]? = some x) (hx : X.env.scope.names.lookup x = some .local) (hsw : swapsWith (.ListComp elt [⟨tg, iter, ifs, 0⟩] scope pos) (some (.Name x p2)) p3.line X.env = pure true)
    (ok : BlkOk X.N X.env.scope scope own) (hit : PI X tg iter (rd (wd X) (Vi (wd X)) Wx it))
    (hg : ∀ (s : Shared) (H : Hp) (C : Addr) (cl : List (Str × Addr)) (fp : List Addr), PG (X.blk s H scope (compEnvC scope cl C X.env) fp) tg (rdG (wd X) Wx0 (frOwn (own.map (·.2))) g))
    (ht : ∀ (s : Shared) (H : Hp) (C : Addr) (cl : List (Str × Addr)) (fp : List Addr), PTs (X.blk s H scope (compEnvC scope cl C X.env) fp) ifs (rdT (wd X) Wx0 tt))
    (he : ∀ (s : Shared) (H : Hp) (C : Addr) (cl : List (Str × Addr)) (fp : List Addr), PE (X.blk s H scope (compEnvC scope cl C X.env) fp) elt (rdE (wd X) Wx0 te)) (hs : ∀ z, foldedSetIterable iter X.env z = pure z) :
    PS X (.Assign [.Name x p2] (.ListComp elt [⟨tg, iter, ifs, 0⟩] scope pos) p3) (rdB (wd X) Wx (bAsg (newL (aComp (own.map (·.2)) it g tt te)) (gNm i))) := by
  refine ⟨fun pins s σ H D I h => (ps_setLc hc hN hi hx hsw hit ok hg ht he hs).run pins s σ H D I ?_⟩
  obtain ⟨m, ρ, S, sr, o1⟩ := h
  refine comp_read (newL_read (outS_up sr o1 fun w S1 m1 v H1 e1 s1 v1 o2 => ?_))
  exact o2 m1 _ H1 .refl (s1.put v1)
theorem s_par {i j : Nat} {y : Str} {px py pt : Pos} {kt k2 : Nat} {pt2 : Pos} (hc : X.calm = true) (hN : X.N.Nodup) (hi : X.N[i]? = some x) (hj : X.N[j]? = some y) (hij : i ≠ j) (hx : X.env.scope.names.lookup x = some .local) (hy : X.env.scope.names.lookup y = some .local)
    (ha : PA X [e, e2] (rdL (wd X) Wx l)) (hw : swappedStores [.Tuple [.Name x px, .Name y py] kt pt] (.Tuple [e, e2] k2 pt2) X.env = pure (some [x, y])) : PS X (.Assign [.Tuple [.Name x px, .Name y py] kt pt] (.Tuple [e, e2] k2 pt2) pos) (rdB (wd X) Wx (bAsg (aTup l) (gTu [gNm i, gNm j]))) := by
  refine ⟨fun pins s σ H D I h => (ps_par hc hN hi hj hij hx hy ha hw).run pins s σ H D I ?_⟩
  obtain ⟨m, ρ, S, sr, o1⟩ := h
  unfold bAsg aTup at o1
  rw [up_bd (a := l) (f := fun (ws : List W) (_ : Rho) => Ev.guard (short ws.length) (ret (W.tup ws)))] at o1
  have o2 : OutS (wd X) Wx m H (bs (up l) (fun ws => bs (up fun _ => Ev.guard (short ws.length) (ret (W.tup ws))) fun w => bs (gTu [gNm i, gNm j] w) fun _ => retS Fl.nx) ρ S) (fin (wd X) D) := by
    have e1 : ∀ {α β γ : Type} (p : MS α) (q : α → MS β) (r : β → MS γ), bs (bs p q) r = bs p fun w => bs (q w) r := fun p q r => by
      funext ρ S
      unfold bs
      cases p ρ S <;> rfl
    rw [← e1]
    exact o1
  refine outS_up sr o2 fun ws S1 m1 vs H1 e1 s1 v1 o3 => ?_
  by_cases hsh : short ws.length = true
  · simp only [bs, up, Ev.guard, hsh, if_true, ret, gTu, seqAt] at o3
    rcases ws with _ | ⟨w, _ | ⟨w2, _ | ⟨w3, ws⟩⟩⟩
    · exact False.elim o3
    · exact False.elim o3
    · obtain ⟨xv, r, rfl, t1, yv, r2, rfl, t2, rfl⟩ := v1
      exact ⟨xv, yv, rfl, o3 m1 _ H1 .refl ((s1.put t1).put t2)⟩
    · rw [if_neg (by simp)] at o3
      exact False.elim o3
  · simp only [bs, up, Ev.guard, hsh, if_false, fail] at o3
    exact False.elim o3
end
end Ev

/-! ## Defs; raise, try -/
namespace Ev
open PySem L2 PyProof.Rows
def startR (N : List Str) (ws : List W) : Rho := ws.map some ++ List.replicate (N.length - ws.length) none
/-- a def's action from its body's -/
def fnE (N : List Str) (b : B) : Fn := fun ws S => match b (startR N ws) S with
  | .ok .nx _ S' => .ok .non S'
  | .ok (.rt w) _ S' => .ok w S'
  | .er x _ S' => .er x S'
  | _ => .no
section
variable {P : Program} {w : World} {K : PySem.W.Frag} {mg : Str → Option Value} {base : Heap}
theorem sr_start {m : List Addr} {H : Hp} {S : Sto} {ws : List W} {vs : List V} {N : List Str} (r : Rel ⟨K, mg⟩ m H S) (l : VaL ⟨K, mg⟩ m H ws vs) (hl : ws.length ≤ N.length) : Sr ⟨K, mg⟩ m (startR N ws) S (L2.start N vs) H := by
  refine ⟨r, ?_, fun i u q => ?_⟩
  · unfold startR L2.start
    simp only [List.length_append, List.length_map, List.length_replicate]
    rw [l.len]
  · unfold startR at q
    unfold L2.start
    rw [List.getElem?_append] at q ⊢
    rw [List.length_map] at q ⊢
    rw [l.len]
    split at q
    · rename_i c
      rw [if_pos c]
      rw [List.getElem?_map] at q ⊢
      cases e : ws[i]? with
      | none => rw [e] at q; cases q
      | some u' =>
        rw [e] at q
        cases q
        obtain ⟨x, h1, h2⟩ := l.get e
        exact ⟨x, by rw [h1]; rfl, h2⟩
    · rw [List.getElem?_replicate] at q
      split at q <;> cases q
/-- THE RULE for a def: its body's action -/
theorem ok_fn {x qual : Str} {st : Stmt} {f : Addr} {fd : FuncData} {N ps : List Str} {k : Nat} {b : B} (F : Fun K x qual st f fd) (S : FnScope N ps (defScope st)) (hl : ps.length ≤ N.length)
    (hb : ∀ (cdv : Value) (A : Around) (outer : List Env) (s : Shared) (H : Hp) (E : XK), Room k (A.deeper (envOfC qual (defScope st) s.heap.objs.size f cdv)) →
      PSs (cxOf (L2.CX P w) P w K mg base N qual (defScope st) f cdv A outer s H E) (defBody st) (rdB ⟨K, mg⟩ (fun cls d _ H => E cls d H) b)) :
    FnOk P w K mg base (L2.CX P w) (k + 1) f fd ps (spI ⟨K, mg⟩ ps.length (fnE N b)) := by
  refine F.okX S (fun vs H Q E h => ?_) (fun cdv A outer s H vs Q E hr h => ⟨_, hb cdv A outer s H E hr, ?_⟩)
  · obtain ⟨m, ws, S, _, l, hn, _⟩ := h
    rw [l.len, hn]
  · obtain ⟨m, ws, S, r, l, hn, o⟩ := h
    refine ⟨m, startR N ws, S, sr_start r l (by rw [hn]; exact hl), ?_⟩
    unfold fnE at o
    cases e : b (startR N ws) S with
    | no => rw [e] at o; exact o
    | er y ρ' T =>
      rw [e] at o
      exact fun m' σ' H' cls od e1 s1 xa => o m' H' cls od e1 s1.rel xa
    | ok fl ρ' T =>
      rw [e] at o
      cases fl with
      | nx => exact fun m' σ' H' e1 s1 => o m' .non H' e1 s1.rel rfl
      | rt u => exact fun m' σ' H' e1 s1 v hv => o m' v H' e1 s1.rel hv
      | bk => exact False.elim o
      | ct => exact False.elim o
end
/-! ### raise -/
/-- an own error made: its class, the names of its attributes, which arguments it takes -/
structure MkX (X : Cx) (c : Str) (fs : List Str) (okV : List V → Hp → Prop) : Prop where
  ex : ∃ C, X.mg c = some (.ref C) ∧ ∀ {e : Expr} {es : List Expr} {ta : TA} {p pos : Pos}, PA X (e :: es) ta → (e :: es).all unstar = true → Gl X c → PMk X (.Call (.Name c p) (e :: es) [] pos) (fun σ H Q => ta σ H fun vs H1 => okV vs H1 ∧ ∀ dd H' gs, Same H1 H' → H' dd = some (.xd gs) → gs.map (·.1) = fs.reverse → gs.map (·.2) = vs.reverse → Q (.ref C) (some dd) H')
def bRaise (c : Str) (fs : List Str) (ok : List W → Bool) (l : AL) : B := bs (up l) fun ws => fun ρ S => if (ok ws && decide (ws.length = fs.length)) = true then .er ⟨c, (fs.zip ws).reverse⟩ ρ S else .no
section
variable {X : Cx} {Wx : WX} {G : Wd} {m m' : List Addr} {H H' : Hp} {S : Sto} {e e2 e3 o : Expr} {es : List Expr} {a b c te : A} {l : AL} {pos p2 p3 np : Pos} {x mn f : Str} {st : Stmt} {sts body : List Stmt} {u v : B} {t tt : AT} {g : AG} {it : AI}
theorem zip_kv {fs : List Str} {ws : List W} {gs : List (Str × V)} {vs : List V} (l : VaL G m H ws vs) (h1 : gs.map (·.1) = fs.reverse) (h2 : gs.map (·.2) = vs.reverse) (hl : ws.length = fs.length) : KvL G m H (fs.zip ws).reverse gs := by
  refine ⟨?_, ?_⟩
  · rw [h1, List.map_reverse, List.map_fst_zip (by omega)]
  · rw [h2, List.map_reverse, List.map_snd_zip (by omega)]
    exact l.reverse
theorem s_raise {c : Str} {fs : List Str} {ok : List W → Bool} {okV : List V → Hp → Prop} (hc : X.calm = true) (tk : Takes X Wx) (M : MkX X c fs okV) (hok : ∀ m H ws vs, VaL (wd X) m H ws vs → ok ws = true → okV vs H) (hg : Gl X c) (ha : PA X (e :: es) (rdL (wd X) Wx l)) (hs : (e :: es).all unstar = true) :
    PS X (.Raise (some (.Call (.Name c p2) (e :: es) [] p3)) none pos) (rdB (wd X) Wx (bRaise c fs ok l)) := by
  obtain ⟨C, hC, mk⟩ := M.ex
  refine ⟨fun pins s σ H D I h => (ps_raise hc tk (mk ha hs hg)).run pins s σ H D I ?_⟩
  obtain ⟨m, ρ, S, sr, o⟩ := h
  refine outS_up sr o fun ws S1 m1 vs H1 e1 s1 l1 o1 => ?_
  split at o1
  · rename_i hk
    rw [Bool.and_eq_true, decide_eq_true_eq] at hk
    refine ⟨hok m1 H1 ws vs l1 hk.1, fun dd H' gs sm hd q1 q2 => ?_⟩
    have ex : Ext (wd X) m1 H1 m1 H' := .same sm
    exact o1 m1 σ H' _ _ ex (s1.same sm) ⟨C, hC, rfl, .inr ⟨dd, gs, rfl, hd, zip_kv (l1.ext ex) q1 q2 hk.2⟩⟩
  · exact False.elim o1
/-! ### try -/
def quietB (b : B) : B := fun ρ S => match b ρ S with | .er _ _ _ => .no | r => r
def bTryO (sub : Str → Option Bool) (b h : B) : B := fun ρ S => match b ρ S with
  | .er x ρ' S' => (match sub x.c with | some true => quietB h ρ' S' | some false => .er x ρ' S' | none => .no)
  | r => r
theorem quiet_out {P : Fl → List Addr → L2.St → Hp → Prop} {h : B} {ρ : Rho} (o : OutS G Wx m H (quietB h ρ S) P) : OutS G Wx0 m H (h ρ S) P := by
  unfold quietB at o
  cases e : h ρ S with
  | no => rw [e] at o; exact o
  | er x ρ' T => rw [e] at o; exact False.elim o
  | ok f ρ' T => rw [e] at o; exact o
theorem s_tryO {cv : Value} {sub : Str → Option Bool} {b0 : Stmt} {suite : List Stmt} {hB : B} (hs : X.stack = X.env :: X.outer) (hf : X.env.frame = some X.env.locals) (hc : Names X x cv) (tk : Takes X Wx)
    (hb : ∀ (W : WX) (pn : List (Addr × Obj)) (xe : Value → Shared → Prop), Takes (X.tr pn xe) W → PassesOwn (model X.prog X.w) X.A X.env xe → PSs (X.tr pn xe) body (rdB (wd X) W u))
    (hsu : ∀ (a : Addr) (oe : Obj) (pn : List (Addr × Obj)), PSs (X.suite a ((a, oe) :: pn)) (b0 :: suite) (rdB (wd X) Wx0 hB))
    (hsub : ∀ c C b, X.mg c = some (.ref C) → sub c = some b → PySem.W.exmOne X.K (.ref C) cv = some b) :
    PS X (.Try body [.ExceptHandler (some (.Name x np)) none (b0 :: suite) p2] [] [] pos) (rdB (wd X) Wx (bTryO sub u hB)) := by
  refine ⟨fun pins s σ H D I h => (ps_try_only (tb := fun W => rdB (wd X) W u) (ts := fun _ _ _ => rdB (wd X) Wx0 hB) hs hf hc tk hb (fun a oe cls d pn _ _ => hsu a oe pn)).run pins s σ H D I ?_⟩
  obtain ⟨m, ρ, S, sr, o⟩ := h
  refine ⟨m, ρ, S, sr, ?_⟩
  unfold bTryO at o
  cases e : u ρ S with
  | no => rw [e] at o; exact o
  | ok f ρ' T => rw [e] at o; exact o
  | er y ρ' T =>
    rw [e] at o
    dsimp only at o
    intro m' σ' H' cls od e1 s1 xa
    obtain ⟨C, hC, rfl, xf⟩ := xa
    cases es : sub y.c with
    | none => rw [es] at o; exact False.elim o
    | some bb =>
      rw [es] at o
      refine ⟨bb, hsub _ _ _ hC es, fun hb1 a ha => ?_, fun hb1 => ?_⟩
      · subst hb1
        exact ⟨m', ρ', T, s1, quiet_out (o.ext e1)⟩
      · subst hb1
        exact o m' σ' H' _ _ e1 s1 ⟨C, hC, rfl, xf⟩
end
end Ev

/-! ## repr of nested tuples and lists -/
namespace Rp
open PySem PySem.Spec PyProof.Rows L2
mutual
def Dv (K : PySem.W.Frag) (H : Hp) : PyData → V → Prop
  | .none, v => v = .non
  | .bool b, v => v = .bl b
  | .int i, v => v = .int i
  | .str s, v => v = .str s
  | .tuple ds, v => ∃ a xs, v = .ref a ∧ SqT K H a xs ∧ DvL K H ds xs
  | .list ds, v => ∃ a xs, v = .ref a ∧ SqL K H a xs ∧ DvL K H ds xs
  | .dict _, _ => False
def DvL (K : PySem.W.Frag) (H : Hp) : List PyData → List V → Prop
  | [], vs => vs = []
  | d :: ds, vs => ∃ x xs, vs = x :: xs ∧ Dv K H d x ∧ DvL K H ds xs
end
section
variable {X : Cx} {pins : List (Addr × Obj)} {σ : L2.St} {H : Hp} {s : Shared}
mutual
theorem Dv.reads (I : Inv X pins σ H s) : ∀ (d : PyData) (x : V) (v : Value), Dv X.K H d x → RelV x v → ∃ as, Reads s.heap v d as
  | .none, _, v, h, r => by
    cases h
    cases r
    exact ⟨_, .none⟩
  | .bool b, _, v, h, r => by
    cases h
    cases r
    exact ⟨_, .bool b⟩
  | .int i, _, v, h, r => by
    cases h
    obtain ⟨t, rfl⟩ := r
    exact ⟨_, .int i t⟩
  | .str x, _, v, h, r => by
    cases h
    obtain ⟨t, rfl⟩ := r
    exact ⟨_, .str x t⟩
  | .tuple ds, _, v, h, r => by
    obtain ⟨a, xs, rfl, st, l⟩ := h
    cases r
    obtain ⟨its, rv, ⟨o, ho, hc, n, hd⟩, _⟩ := I.tuple st
    obtain ⟨as, ra⟩ := DvL.reads I ds xs its l rv
    exact ⟨_, .tuple ho hc hd ra⟩
  | .list ds, _, v, h, r => by
    obtain ⟨a, xs, rfl, st, l⟩ := h
    cases r
    obtain ⟨its, rv, ⟨o, n, ho, hc, _, hd⟩, _⟩ := I.list st
    obtain ⟨as, ra⟩ := DvL.reads I ds xs its l rv
    exact ⟨_, .list ho hc hd ra⟩
  | .dict _, _, _, h, _ => False.elim h
theorem DvL.reads (I : Inv X pins σ H s) : ∀ (ds : List PyData) (xs : List V) (us : List Value), DvL X.K H ds xs → Vals xs us → ∃ as, ReadsAll s.heap us ds as
  | [], _, us, h, r => by
    cases h
    cases r
    exact ⟨_, .nil⟩
  | d :: ds, _, us, h, r => by
    obtain ⟨x, xs, rfl, hx, l⟩ := h
    cases r with
    | cons r1 r2 =>
      obtain ⟨as, ra⟩ := Dv.reads I d x _ hx r1
      obtain ⟨bs, rb⟩ := DvL.reads I ds xs _ l r2
      exact ⟨_, .cons ra rb⟩
end
variable {K : PySem.W.Frag}
mutual
theorem Dv.nodict : ∀ (d : PyData) (x : V), Dv K H d x → d.hasDict = false
  | .none, _, _ => by simp [PyData.hasDict]
  | .bool b, _, _ => by simp [PyData.hasDict]
  | .int i, _, _ => by simp [PyData.hasDict]
  | .str x, _, _ => by simp [PyData.hasDict]
  | .tuple ds, _, h => by
    obtain ⟨a, xs, _, _, l⟩ := h
    simp only [PyData.hasDict]
    exact DvL.nodict ds xs l
  | .list ds, _, h => by
    obtain ⟨a, xs, _, _, l⟩ := h
    simp only [PyData.hasDict]
    exact DvL.nodict ds xs l
  | .dict _, _, h => False.elim h
theorem DvL.nodict : ∀ (ds : List PyData) (xs : List V), DvL K H ds xs → PyData.hasDictAll ds = false
  | [], _, _ => by simp [PyData.hasDictAll]
  | d :: ds, _, h => by
    obtain ⟨x, xs, _, hx, l⟩ := h
    simp only [PyData.hasDictAll, Dv.nodict d x hx, DvL.nodict ds xs l, Bool.or_self]
end
/-- repr(x), x a tuple or a list of data, where no repr is under way -/
def spRepr (K : PySem.W.Frag) : List V → Hp → VK → Prop := fun xs H Q => ∃ (a : Addr) (d : PyData), xs = [.ref a] ∧ Dv K H d (.ref a) ∧ d.showable = true ∧ d.shown.length ≤ sizeLine ∧ d.depth ≤ 90 ∧ Q (.str d.shown) H
theorem cr_repr (gd : X.A.guards = some []) (hu : X.A.units + 200 < cLine) : CallR X (.builtin "repr") (spRepr X.K) := by
  intro pins s σ H xs us Q I r h
  obtain ⟨a, d, rfl, hd, sh, fit, dp, q⟩ := h
  obtain ⟨u, rfl, rv⟩ := vals1 r
  cases rv
  obtain ⟨as, ra⟩ := Dv.reads I d _ _ hd rfl
  have nd := Dv.nodict d _ hd
  exact repr_of_reads' ra sh (fun z => by rw [nd] at z; cases z) gd (by omega) (fun _ _ e => e) (fun h' u tk hk => ⟨.str d.shown, H, I.kept hk, ⟨_, rfl⟩, q⟩) fit
end
end Rp

/-! ## A law's own def, called where nothing is being shown: so that repr tells the whole -/
namespace Gd
open PySem PySem.Spec PyProof.Rows L2
section
variable {P : Program} {w : World} {K : PySem.W.Frag} {mg : Str → Option Value}
structure GFn (P : Program) (w : World) (K : PySem.W.Frag) (mg : Str → Option Value) (ground : Heap) (CX : CXT) (k : Nat) (f : Addr) (fd : FuncData) (ps : List Str) (sp : Sp) : Prop where
  count : ∀ vs H Q E, sp vs H Q E → vs.length = ps.length
  does : ∀ (A : Around) (out : List Env) (s : Shared) (H : Hp) (ar : Args) (us : List Value) (vs : List V) (Q : VK) (E : XK), A.guards = some [] → Room k A → Env0 P w K mg ground A out s H → BindsTo s fd ar (ps.zip us) → Vals vs us →
    sp vs H Q E → codeAny (model P w) A (.call (.ref f) ar) (CR CX out P w H s Q E) s
theorem gfn_of {CX : CXT} {ground : Heap} {x qual : Str} {st : Stmt} {f : Addr} {fd : FuncData} {N ps : List Str} {k : Nat} {sp : Sp} (F : Fun K x qual st f fd) (S : FnScope N ps (defScope st)) (len : ∀ vs H Q E, sp vs H Q E → vs.length = ps.length)
    (inner : ∀ (cdv : Value) (A : Around) (out : List Env) (s : Shared) (H : Hp) (vs : List V) (Q : VK) (E : XK), A.guards = some [] → Room k (A.deeper (envOfC qual (defScope st) s.heap.objs.size f cdv)) → sp vs H Q E →
      ∃ t, PSs (cxOf CX P w K mg ground N qual (defScope st) f cdv A out s H E) (defBody st) t ∧ t { rt := Q, nx := fun _ => Q V.non } (start N vs) H) : GFn P w K mg ground CX (k + 1) f fd ps sp := by
  obtain ⟨_, _, _, _, _, _, cdv, _, _, rfl, look, code⟩ := F.ex
  constructor
  · exact len
  intro A out s H ar us vs Q E gd room en bd rel told
  have many := len _ _ _ _ told
  have isK : K.In s.heap := en.mod.kin.keeps (fun b o e => (en.bs b o e).1)
  have nolim : s.heap.NoLimit := en.mod.nolimit.keeps (fun b o e => (en.bs b o e).1)
  refine codeAny_call_function room.depth (isK _ _ look) rfl S.co S.gen rfl (PySem.W.codeRec_of isK code) (bd _ _ _ _ ?_)
  refine wpAny_newFunctionEnv_cells S.kind (fun y hy => ?_) (fun en1 he s1 x => ?_)
  · obtain ⟨n, v⟩ := y
    cases S.par n (List.of_mem_zip hy).1 with
    | inl q => exact Or.inl q
    | inr q => exact Or.inr ⟨q, PySem.W.cellsFrom_some _ _ _ (Or.inl q)⟩
  cases he
  refine ⟨nolim.keeps x.toInCall.keep, codeAny_func ?_⟩
  obtain ⟨t, ht, hq⟩ := inner cdv A out s H vs Q E gd (room.deeper _) told
  have I0 : Inv (cxOf CX P w K mg ground N qual (defScope st) f cdv A out s H E) [] (start N vs) H s1 := inv_start S room.hd en many rel x
  refine wpAny_mono (ht.run [] s1 (start N vs) H _ I0 hq) (fun fl s' hs => ?_) (fun _ _ hs => hs)
  match fl, hs with
  | .ret _, ⟨v, _, H', J, rv, q⟩ => exact ⟨v, H', J.os, J.bare, J.base, J.hok, rv, q⟩
  | .next, ⟨_, H', J, q⟩ => exact ⟨V.non, H', J.os, J.bare, J.base, J.hok, rfl, q⟩
  | .brk, ⟨_, _, _, q⟩ => exact q.elim
  | .cont, ⟨_, _, _, q⟩ => exact q.elim
/-- the same for a def that lets no exception out -/
theorem gfn0 {ground : Heap} {x qual : Str} {st : Stmt} {f : Addr} {fd : FuncData} {N ps : List Str} {k : Nat} {sp : Sp} (F : Fun K x qual st f fd) (S : FnScope N ps (defScope st)) (len : ∀ vs H Q E, sp vs H Q E → vs.length = ps.length)
    (inner : ∀ (cdv : Value) (A : Around) (out : List Env) (s : Shared) (H : Hp) (vs : List V) (Q : VK) (E : XK), A.guards = some [] → Room k (A.deeper (envOfC qual (defScope st) s.heap.objs.size f cdv)) → sp vs H Q E →
      ∃ t, PSs (cxOf CX0 P w K mg ground N qual (defScope st) f cdv A out s H E).nox (defBody st) t ∧ t { rt := Q, nx := fun _ => Q V.non } (start N vs) H) : GFn P w K mg ground CX0 (k + 1) f fd ps sp :=
  gfn_of F S len fun cdv A out s H vs Q E gd room told => by
    obtain ⟨t, h, q⟩ := inner cdv A out s H vs Q E gd room told
    exact ⟨t, h.nox, q⟩
/-- the law's def behind the top -/
theorem enter {mb : Str → Option Value} {CX : CXT} {k : Nat} {fa a : Addr} {fd : FuncData} {x : Str} {sp : Sp} {s₁ : Shared} {vs : List Value} {ns : List Int}
    (isK : K.In s₁.heap) (glo : s₁.heap.Ns mainGlobals mg) (bui : s₁.heap.Ns builtinsNs mb) (boot : ∀ x : Str, x ≠ "__name__" → mb x = bootBuiltins x) (nolim : s₁.heap.NoLimit) (nogen : s₁.gens = #[])
    (at_a : s₁.heap.get? a = some { cls := .type "list", data := .seq vs.toArray }) (are : IntsAre vs ns) (few : ns.length ≤ sizeLine) (room : Room k callerA)
    (G : ∀ ground : Heap, K.In ground → ground.Ns mainGlobals mg → GFn P w K mg ground CX k fa fd [x] sp) (bd : ∀ (s : Shared) (u : Value), BindsTo s fd ⟨[u], []⟩ [(x, u)])
    (told : ∀ H : Hp, Only H → SqL K H a (ns.map V.int) → sp [.ref a] H (fun v _ => v = .bl true) fun _ _ _ => False) (noexc : ∀ H e s', CX [] H s₁ (fun _ _ _ => False) e s' → False) :
    codeAny (model P w) callerA (.call (.ref fa) ⟨[.ref a], []⟩) (fun r s' => (r = .ok (.ret (.bool true)) ∧ OldK s₁.heap s'.heap) ∧ s'.os = s₁.os ∧ AllBare s'.gens) s₁ := by
  have rel := vals_ints are
  have cnt := are.length
  have main : ∀ H : Hp, Only H → SqL K H a (ns.map V.int) → HOk P w H s₁.heap → (∀ b, b ≠ a → H b = none) → (K.lookup a = none ∨ H a = none) →
      codeAny (model P w) callerA (.call (.ref fa) ⟨[.ref a], []⟩) (fun r s' => (r = .ok (.ret (.bool true)) ∧ OldK s₁.heap s'.heap) ∧ s'.os = s₁.os ∧ AllBare s'.gens) s₁ := by
    intro H only sq fine off known
    have off2 : ∀ (b : Addr) (o : Obj), s₁.heap.get? b = some o → (∀ (vs : Array Value) (n : Nat), o.data ≠ .seq vs n) → H b = none := fun b o e n => by
      by_cases z : b = a
      · rw [z, at_a] at e
        cases e
        exact absurd rfl (n _ _)
      · exact off b z
    have space : ∀ {b : Addr} {m : Str → Option Value}, s₁.heap.Ns b m → (hidT s₁.heap H).Ns b m := by
      rintro b m ⟨o, es, ep, e, d, r⟩
      exact ⟨o, es, ep, hidT_get e (off2 b o e fun vs n z => by rw [d] at z; cases z), d, r⟩
    have isK2 : K.In (hidT s₁.heap H) := by
      intro b o e
      refine hidT_get (isK b o e) ?_
      by_cases z : b = a
      · rcases known with q | q
        · rw [z, q] at e
          cases e
        · rw [z]
          exact q
      · exact off b z
    have modu : Mod K mg (hidT s₁.heap H) := by
      obtain ⟨mc, l1, l2⟩ := nolim
      exact ⟨isK2, space glo, ⟨mb, space bui, boot⟩, ⟨mc, space l1, l2⟩⟩
    have start0 : Env0 P w K mg (hidT s₁.heap H) callerA [] s₁ H := by
      refine ⟨rfl, modu, fun b o e => of_hidT e, Nat.le_of_eq (hidT_size _ _), trivial, fun b hb => ?_, fine, .of_eq nogen⟩
      have hb' : b ∈ ([] : List Addr) := hb
      cases hb'
    have ran := (G _ isK2 (space glo)).does callerA [] s₁ H ⟨[.ref a], []⟩ [.ref a] [.ref a] _ _ rfl room start0 (bd s₁ (.ref a)) (.cons rfl .nil) (told H only sq)
    refine codeAny_mono ran ?_
    rintro (e | (_ | _ | _ | u)) s' h
    · exact (noexc H e s' h).elim
    · exact h.elim
    · exact h.elim
    · exact h.elim
    · obtain ⟨v, H', os, bare, un, fine2, r', q⟩ := h
      obtain rfl : v = .bl true := q
      obtain rfl : u = Value.bool true := r'
      refine ⟨⟨rfl, OldK.of_keep fun b o e => ?_⟩, os, bare⟩
      rcases only b with z | ⟨ob, xs, z⟩
      · refine un.keep b o e z (fun hb => ?_) (by simp)
        have hb' : b ∈ ([] : List Addr) := hb
        cases hb'
      · have z2 := un.frzs b ob _ z
        have e1 := (fine b _ z).1
        have e2 := (fine2 b _ z2).1
        rw [e] at e1
        cases e1
        exact e2
  cases inK : K.lookup a with
  | none =>
    have eqa : ∀ u : HO, (fun b => if b = a then some u else none : Hp) a = some u := fun u => if_pos rfl
    refine main (fun b => if b = a then some (.frz { cls := .type "list", data := .seq vs.toArray } (.lst (ns.map V.int))) else none) (fun b => ?_) (.inl (.inr ⟨_, eqa _⟩)) (fun b u z => ?_) (fun b n => if_neg n) (.inl inK)
    · by_cases hb : b = a
      · rw [hb]
        exact .inr ⟨_, _, eqa _⟩
      · exact .inl (if_neg hb)
    · by_cases hb : b = a
      · subst hb
        cases (eqa _).symm.trans z
        exact ⟨at_a, by rw [List.length_map]; exact few, vs, _, rel, at_a⟩
      · cases (if_neg hb).symm.trans z
  | some o =>
    have e := isK a o inK
    rw [at_a] at e
    cases e
    refine main (fun _ => none) (fun _ => .inl rfl) (.inr ⟨_, vs.toArray, _, inK, rfl, rfl, rfl, ?_, by simpa using rel⟩) (fun b u z => ?_) (fun _ _ => rfl) (.inr rfl)
    · rw [List.size_toArray, cnt]
      exact few
    · have z' : (none : Option HO) = some u := z
      cases z'
theorem walk {l : PySem.W.OpenLaw} {n k : Nat} {q : Program} {loose : List Str} {XP : (Str → Option Value) → Heap → Prop} {YP : World → Heap → Prop} {d : DefRec} {K : Params → PySem.W.Frag} {CX : World → CXT} {sp : World → Sp} {x : Str}
    (most : l.most = some n) (fits : n ≤ sizeLine) (plain : d.params.defaults = []) (room : Room k callerA) (isK : ∀ (w : World) (h : Heap), YP w h → (K w.params).In h)
    (G : ∀ (w : World) (mg : Str → Option Value) (fa : Addr) (h : Heap), (K w.params).In h → h.Ns mainGlobals mg → mg d.name = some (.ref fa) →
      ∃ fd : FuncData, (∀ (s : Shared) (u : Value), BindsTo s fd ⟨[u], []⟩ [(x, u)]) ∧ ∀ ground : Heap, (K w.params).In ground → ground.Ns mainGlobals mg → GFn l.prog w (K w.params) mg ground (CX w) k fa fd [x] (sp w))
    (told : ∀ (w : World) (H : Hp) (a : Addr) (ns : List Int), ns.length ≤ n → Only H → SqL (K w.params) H a (ns.map V.int) → sp w [.ref a] H (fun v _ => v = .bl true) fun _ _ _ => False)
    (noexc : ∀ (w : World) (H : Hp) (s : Shared) (e : Value) (s' : Shared), CX w [] H s (fun _ _ _ => False) e s' → False) :
    PySem.W.WalkO q loose XP YP l.row.toRowW d [] (fun f vs => PySem.call f vs) := by
  apply Att.attach_call most plain
  intro w s₀ s₁ mg mb fa o pm cd doc a vs ns gr Y _ _ _ hmg obj are len nogen
  have kin := isK w _ Y
  obtain ⟨fd, bd, hG⟩ := G w mg fa _ kin gr.T.g hmg
  refine codeAny_mono (enter kin gr.T.g gr.T.b gr.T.builtins gr.T.nolimit nogen obj are (Nat.le_trans len fits) room hG bd (fun H only sq => told w H a ns len only sq) (fun H e s' => noexc w H s₁ e s')) ?_
  rintro r s' ⟨⟨h1, h2⟩, h3, h4⟩
  exact ⟨h1, h2, h3, h4⟩
end
end Gd


namespace Hd
open PySem PySem.W PySem.Calls PyProof.Rows HandSHeadRun
/-! ### runs of the real machine, with what stays -/
structure Goes (p : Program) (w : World) (n0 : Nat) (ann : Option Value) (s : Shared) (t : Thread) (s' : Shared) (t' : Thread) : Prop where
  run : ∃ m, PySem.runN (denote table) p w m s t = .running s' t' ∧ ∀ k, k < m → ∃ s₁ t₁, PySem.runN (denote table) p w k s t = .running s₁ t₁ ∧ t₁.calm = true
  life : s'.heap.life = s.heap.life
  os : s'.os = s.os
  frame : ∀ b o, b < n0 → b ≠ mainNs → b ≠ cStatics → ann ≠ some (.ref b) → s.heap.get? b = some o → s'.heap.get? b = some o
section
variable {p : Program} {w : World} {n0 : Nat} {ann : Option Value}
theorem Goes.refl (s : Shared) (t : Thread) : Goes p w n0 ann s t s t := ⟨⟨0, rfl, fun k hk => absurd hk (Nat.not_lt_zero _)⟩, rfl, rfl, fun _ _ _ _ _ _ h => h⟩
theorem Goes.step {s s' s'' : Shared} {t t' t'' : Thread} (k : stepOk n0 ann t = true) (h : PySem.step (denote table) p w s t = .go s' t') (g : Goes p w n0 ann s' t' s'' t'') : Goes p w n0 ann s t s'' t'' := by
  obtain ⟨hc, hk⟩ := Bool.and_eq_true_iff.mp k
  obtain ⟨⟨m, hm, hcs⟩, l, os, fr⟩ := g
  refine ⟨⟨m + 1, ?_, ?_⟩, l.trans (step_life (denote table) p w s s' t t' h), os.trans (step_os_same h ?_), fun b o h1 h2 h3 h4 h5 => fr b o h1 h2 h3 h4 ?_⟩
  · simp only [PySem.runN, h]
    exact hm
  · intro j hj
    cases j with
    | zero => exact ⟨s, t, rfl, hc⟩
    | succ j =>
      simp only [PySem.runN, h]
      exact hcs j (Nat.lt_of_succ_lt_succ hj)
  · revert hk
    cases t.cur <;> simp
  · rw [PySem.step_heap (denote table) p w s s' t t' h]
    revert hk
    cases t.cur <;> intro hk <;> try exact h5
    case update a _ f _ =>
      have ne : b ≠ a := by
        rintro rfl
        simp only [Bool.or_eq_true, Nat.ble_eq, beq_iff_eq] at hk
        rcases hk with ((q | q) | q) | q
        · omega
        · exact h2 q
        · exact h3 q
        · exact h4 q
      exact (Heap.get?_update_ne _ _ _ _ ne).trans h5
    case alloc x _ => exact Heap.get?_push_of_some x h5
theorem runN_add {den : Code → Sem Fin} : ∀ {m k : Nat} {s s' : Shared} {t t' : Thread}, PySem.runN den p w m s t = .running s' t' → PySem.runN den p w (m + k) s t = PySem.runN den p w k s' t'
  | 0, k, s, s', t, t', h => by
    have h' : Run.running s t = .running s' t' := h
    injection h' with h1 h2
    rw [Nat.zero_add, h1, h2]
  | m + 1, k, s, s', t, t', h => by
    rw [Nat.succ_add]
    simp only [PySem.runN] at h ⊢
    cases e : PySem.step den p w s t with
    | go s₁ t₁ =>
      rw [e] at h
      exact runN_add h
    | halt o s₁ =>
      rw [e] at h
      cases h
/-- such a run is the scheduler's -/
theorem Goes.sched {s s' : Shared} {t t' : Thread} (g : Goes p w n0 ann s t s' t') (z : s.asleep) : ∃ m, schedN (denote table) p w m (.single s t) = .running (.single s' t') := by
  obtain ⟨m, hm, hc⟩ := g.run
  refine ⟨m, ?_⟩
  rw [schedN_prefix (denote table) p w m s t z ?_, hm]
  · rfl
  · intro k s₁ t₁ hk h1
    obtain ⟨s₂, t₂, h2, c⟩ := hc k hk
    rw [h1] at h2
    injection h2 with e1 e2
    subst e1 e2
    refine ⟨c, fun e => ?_⟩
    have : PySem.runN (denote table) p w (k + (m - k)) s t = PySem.runN (denote table) p w (m - k) s₁ t₁ := runN_add h1
    rw [show k + (m - k) = m by omega, hm] at this
    obtain ⟨j, hj⟩ : ∃ j, m - k = j + 1 := ⟨m - k - 1, by omega⟩
    rw [hj] at this
    simp only [PySem.runN, e] at this
    cases this
theorem schedN_add {den : Code → Sem Fin} : ∀ {m k : Nat} {c c' : Config}, schedN den p w m c = .running c' → schedN den p w (m + k) c = schedN den p w k c'
  | 0, k, c, c', h => by
    have h' : SRun.running c = .running c' := h
    injection h' with h1
    rw [Nat.zero_add, h1]
  | m + 1, k, c, c', h => by
    rw [Nat.succ_add]
    simp only [schedN] at h ⊢
    cases e : sstep den p w c with
    | go c₁ =>
      rw [e] at h
      exact schedN_add h
    | halt o s₁ =>
      rw [e] at h
      cases h
theorem schedN_add' {den : Code → Sem Fin} {m k : Nat} {c c' : Config} {r : SRun} (h : schedN den p w m c = .running c') (h2 : schedN den p w k c' = r) : ∃ n, schedN den p w n c = r := ⟨m + k, (schedN_add h).trans h2⟩
/-- a thread that is through halts -/
theorem through_halts {den : Code → Sem Fin} {s : Shared} {t : Thread} (h : through t = true) (hl : leftWithCleanup s.gens = false) : ∃ f, PySem.step den p w s t = .halt (.done f) s := by
  obtain ⟨heap, gens, drawn, toks, os⟩ := s
  obtain ⟨cur, code, pos, stack⟩ := t
  unfold through at h
  simp only [Bool.and_eq_true, List.isEmpty_iff] at h
  obtain ⟨rfl, h⟩ := h
  cases cur with
  | pure f =>
    cases f with
    | done f =>
      refine ⟨f, ?_⟩
      have hl' : leftWithCleanup gens = false := hl
      simp only [PySem.step, PySem.finish, hl', Bool.false_eq_true, if_false]
    | again c => cases h
  | _ => cases h
/-- who halts with done was through -/
theorem halt_through {den : Code → Sem Fin} {s s' : Shared} {t : Thread} {f : Flow} (h : PySem.step den p w s t = .halt (.done f) s') : through t = true ∧ s' = s := by
  refine ⟨?_, step_halt_same den p w s s' t _ h⟩
  obtain ⟨heap, gens, drawn, toks, os⟩ := s
  obtain ⟨cur, code, pos, stack⟩ := t
  cases cur <;> simp only [PySem.step, PySem.finish] at h <;> (repeat' split at h) <;> simp_all [through]
theorem halted_last {den : Code → Sem Fin} {f : Flow} {s' : Shared} : ∀ {n : Nat} {s : Shared} {t : Thread}, PySem.runN den p w n s t = .halted (.done f) s' → ∃ m t', m < n ∧ PySem.runN den p w m s t = .running s' t' ∧ through t' = true
  | 0, _, _, h => by cases h
  | n + 1, s, t, h => by
    simp only [PySem.runN] at h
    cases e : PySem.step den p w s t with
    | go s₁ t₁ =>
      rw [e] at h
      obtain ⟨m, t', hm, h1, h2⟩ := halted_last h
      exact ⟨m + 1, t', Nat.succ_lt_succ hm, by simp only [PySem.runN, e]; exact h1, h2⟩
    | halt o s₁ =>
      rw [e] at h
      injection h with h1 h2
      subst h1 h2
      obtain ⟨a, b⟩ := halt_through e
      subst b
      exact ⟨0, t, Nat.succ_pos _, rfl, a⟩
end
end Hd

namespace Hd
open PySem PySem.W PySem.Calls PyProof.Rows HandSHeadRun
section
variable (st : SharedT → Thread → Option (SharedT × Thread)) (n0 : Nat) (ann : Option Value)
/-- to the end, calm there -/
def goE : Nat → SharedT → Thread → Option SharedT
  | 0, _, _ => none
  | m + 1, s, t => match through t && t.calm with
    | true => some s
    | false => match stepOk n0 ann t with
      | false => none
      | true => match st s t with
        | some (s', t') => frS s' fun s' => goE m s' t'
        | none => none
def atBody (t : Thread) : Bool := match t.cur with
  | .call (.body b env) h g l k => t.stack.isEmpty && (t.calm && Nat.blt (Ctx.units ((⟨.body b env, none, none, [], none⟩ : Ctx).over [.ret k h g l t.code t.pos []])) cLine)
  | _ => false
/-- to the call of a body, on no frame -/
def goB : Nat → SharedT → Thread → Option (SharedT × Thread)
  | 0, _, _ => none
  | m + 1, s, t => match atBody t with
    | true => some (s, t)
    | false => match stepOk n0 ann t with
      | false => none
      | true => match st s t with
        | some (s', t') => frS s' fun s' => goB m s' t'
        | none => none
end
section
variable {p : Program} {w : World} {n0 : Nat} {ann : Option Value}
theorem goE_ok : ∀ {m : Nat} {s s' : SharedT} {t : Thread}, goE (stepT (denote table) p w) n0 ann m s t = some s' → ∃ t', Goes p w n0 ann s.abs t s'.abs t' ∧ through t' = true ∧ t'.calm = true
  | 0, _, _, _, h => by cases h
  | m + 1, s, s', t, h => by
    unfold goE at h
    cases e : through t && t.calm with
    | true =>
      rw [e] at h
      cases h
      obtain ⟨e1, e2⟩ := Bool.and_eq_true_iff.mp e
      exact ⟨t, .refl _ _, e1, e2⟩
    | false =>
      rw [e] at h
      cases hk : stepOk n0 ann t with
      | false =>
        rw [hk] at h
        cases h
      | true =>
        rw [hk] at h
        have h2 : (match stepT (denote table) p w s t with
          | some (s', t') => frS s' fun s' => goE (stepT (denote table) p w) n0 ann m s' t'
          | none => none) = some s' := h
        cases hs : stepT (denote table) p w s t with
        | none =>
          rw [hs] at h2
          cases h2
        | some r =>
          obtain ⟨s2, t2⟩ := r
          rw [hs] at h2
          have h3 : (frS s2 fun s' => goE (stepT (denote table) p w) n0 ann m s' t2) = some s' := h2
          rw [frS_eq] at h3
          obtain ⟨t', g, a, b⟩ := goE_ok h3
          exact ⟨t', .step hk (stepT_spec hs) g, a, b⟩
theorem goB_ok : ∀ {m : Nat} {s s' : SharedT} {t t' : Thread}, goB (stepT (denote table) p w) n0 ann m s t = some (s', t') → Goes p w n0 ann s.abs t s'.abs t' ∧ atBody t' = true
  | 0, _, _, _, _, h => by cases h
  | m + 1, s, s', t, t', h => by
    unfold goB at h
    cases e : atBody t with
    | true =>
      rw [e] at h
      cases h
      exact ⟨.refl _ _, e⟩
    | false =>
      rw [e] at h
      cases hk : stepOk n0 ann t with
      | false =>
        rw [hk] at h
        cases h
      | true =>
        rw [hk] at h
        have h2 : (match stepT (denote table) p w s t with
          | some (s', t') => frS s' fun s' => goB (stepT (denote table) p w) n0 ann m s' t'
          | none => none) = some (s', t') := h
        cases hs : stepT (denote table) p w s t with
        | none =>
          rw [hs] at h2
          cases h2
        | some r =>
          obtain ⟨s2, t2⟩ := r
          rw [hs] at h2
          have h3 : (frS s2 fun s' => goB (stepT (denote table) p w) n0 ann m s' t2) = some (s', t') := h2
          rw [frS_eq] at h3
          obtain ⟨g, a⟩ := goB_ok h3
          exact ⟨.step hk (stepT_spec hs) g, a⟩
/-! ### a body exchanged -/
/-- where one body may stand for another: what the one returns the other returns -/
def Stands (p : Program) (w : World) (Γ : Ctx) (pos : Pos) (s : Shared) (x y : Sem Fin) : Prop := ∀ r s', Runs ⟨denote table, p, w⟩ Γ pos x [] s (.ret r) s' → Runs ⟨denote table, p, w⟩ Γ pos y [] s (.ret r) s'
theorem runs_of_goes {s s' : Shared} {cur : Sem Fin} {c : Code} {pos : Pos} {stk : List Frame} {t' : Thread} (g : Goes p w n0 ann s ⟨cur, c, pos, stk⟩ s' t') (th : through t' = true) (hc : t'.calm = true) (hg : s'.gens = #[]) :
    ∃ f, Runs ⟨denote table, p, w⟩ ⟨c, none, none, [], none⟩ pos cur stk s (.ret (.ok f)) s' := by
  have hl : leftWithCleanup s'.gens = false := (Shared.noSusp_of_empty hg).noCleanup
  obtain ⟨m, hm, hcs⟩ := g.run
  obtain ⟨f, hf⟩ := through_halts (den := denote table) (p := p) (w := w) th hl
  have hh : PySem.runN (denote table) p w (m + 1) s ⟨cur, c, pos, stk⟩ = .halted (.done f) s' := by
    rw [runN_add hm]
    simp only [PySem.runN, hf]
  have call : ∀ k s₁ t₁, PySem.runN (denote table) p w k s ⟨cur, c, pos, stk⟩ = .running s₁ t₁ → t₁.calm = true := by
    intro k s₁ t₁ hk
    rcases Nat.lt_trichotomy k m with h | h | h
    · obtain ⟨s₂, t₂, h2, c2⟩ := hcs k h
      rw [hk] at h2
      injection h2 with e1 e2
      rw [e2]
      exact c2
    · subst h
      rw [hk] at hm
      injection hm with e1 e2
      rw [e2]
      exact hc
    · have := runN_mono (denote table) p w (m + 1) (k - (m + 1)) _ _ _ _ hh
      rw [show m + 1 + (k - (m + 1)) = k by omega, hk] at this
      cases this
  obtain ⟨s₂, h2, e2⟩ := runN_calm_runNI (denote table) p w hh call
  have e3 : s₂ = s' := Shared.eq_of_forget_eq e2.symm hg
  subst e3
  refine ⟨f, ?_⟩
  exact (halts_iff (M := ⟨denote table, p, w⟩) (r := .ok f)).mp ⟨m + 1, h2⟩ |>.1
/-- the law of a body exchanged: the top's run from the run with the other body -/
theorem top_of_mod {s0 s1 sE : Shared} {t0 tE : Thread} {b : List Stmt} {env : Env} {h : Option Value} {gd : Bool} {l : List Value} {k : Result → Sem Fin} {code : Code} {pos : Pos} {x : Sem Fin}
    (g1 : Goes p w n0 ann s0 t0 s1 ⟨.call (.body b env) h gd l k, code, pos, []⟩)
    (g2 : Goes p w n0 ann s1 ⟨x, .body b env, pos, [.ret k h gd l code pos []]⟩ sE tE) (th : through tE = true) (hc : tE.calm = true) (hg : sE.gens = #[]) (z : s0.asleep)
    (st : Stands p w ((⟨.body b env, none, none, [], none⟩ : Ctx).over [.ret k h gd l code pos []]) pos s1 x (denote table (.body b env))) :
    ∃ n t, schedN (denote table) p w n (.single s0 t0) = .running (.single sE t) ∧ through t = true := by
  obtain ⟨f, hr⟩ := runs_of_goes g2 th hc hg
  have inv : ∃ r₁ s₂, Runs ⟨denote table, p, w⟩ ((⟨.body b env, none, none, [], none⟩ : Ctx).over [.ret k h gd l code pos []]) pos x [] s1 (.ret r₁) s₂ ∧
      Runs ⟨denote table, p, w⟩ ((⟨.body b env, none, none, [], none⟩ : Ctx).goto code) pos (k r₁) [] s₂ (.ret (.ok f)) sE := by
    cases hr with
    | segRet a b => exact ⟨_, _, a, b⟩
    | segSuspGen a => simp [splitAtGen] at a
  obtain ⟨r₁, s₂, a, bb⟩ := inv
  have a2 := st _ _ a
  have r3 : Runs ⟨denote table, p, w⟩ (⟨code, none, none, [], none⟩ : Ctx) pos (.call (.body b env) h gd l k) [] s1 (.ret (.ok f)) sE := by
    refine Runs.call ?_ bb
    have e : ((⟨.body b env, none, none, [], none⟩ : Ctx).over [.ret k h gd l code pos []]) = (⟨code, none, none, [], none⟩ : Ctx).enter (.body b env) h pos := by
      have := Ctx.over_ret (⟨code, none, none, [], none⟩ : Ctx) (.body b env) k h gd l code pos [] []
      exact this
    rw [← e]
    exact a2
  have hl : leftWithCleanup sE.gens = false := (Shared.noSusp_of_empty hg).noCleanup
  obtain ⟨n, hn⟩ := (halts_iff (M := ⟨denote table, p, w⟩) (r := .ok f)).mpr ⟨r3, hl⟩
  obtain ⟨s₃, h3, e3, hcalm⟩ := runNI_real (denote table) p w hn (outcomeOf_ends (.ok f))
  have e4 : s₃ = sE := Shared.eq_of_forget_eq e3 hg
  subst e4
  obtain ⟨m, t', hm, h4, h5⟩ := halted_last (show PySem.runN (denote table) p w n s1 ⟨.call (.body b env) h gd l k, code, pos, []⟩ = .halted (.done f) s₃ from h3)
  have g3 : Goes p w n0 none s1 ⟨.call (.body b env) h gd l k, code, pos, []⟩ s1 ⟨.call (.body b env) h gd l k, code, pos, []⟩ := .refl _ _
  obtain ⟨m1, hm1⟩ := g1.sched z
  have z1 : s1.asleep := Shared.asleep_of_life g1.life z
  have sc : schedN (denote table) p w m (.single s1 ⟨.call (.body b env) h gd l k, code, pos, []⟩) = .running (.single s₃ t') := by
    rw [schedN_prefix (denote table) p w m _ _ z1 ?_, h4]
    · rfl
    · intro j s₁ t₁ hj h1
      refine ⟨hcalm _ _ _ h1, fun e => ?_⟩
      have : PySem.runN (denote table) p w (j + (m - j)) s1 ⟨.call (.body b env) h gd l k, code, pos, []⟩ = PySem.runN (denote table) p w (m - j) s₁ t₁ := runN_add h1
      rw [show j + (m - j) = m by omega, h4] at this
      obtain ⟨i, hi⟩ : ∃ i, m - j = i + 1 := ⟨m - j - 1, by omega⟩
      rw [hi] at this
      simp only [PySem.runN, e] at this
      cases this
  obtain ⟨n2, hn2⟩ := schedN_add' hm1 sc
  exact ⟨n2, t', hn2, h5⟩
end
end Hd

namespace Hd
open PySem PySem.W PySem.Calls PyProof.Rows
open Sem (wp)
/-! ### a table whose keys are tuples of texts: what evaluating it does to the state -/
abbrev Row := List Str × List Str
def tvals : List Str → Nat → List Value
  | [], _ => []
  | x :: r, k => .str x k :: tvals r (k + 1)
def mkT (ss : List Str) (s : Shared) : Shared := { s with heap := s.heap.push { cls := .type "tuple", data := .seq (tvals ss s.toks).toArray }, toks := s.toks + ss.length }
def tokT (n : Nat) (s : Shared) : Shared := { s with toks := s.toks + n }
def addT (d : Addr) (e : DictEntry) (s : Shared) : Shared := { s with heap := s.heap.update d (Obj.mapDictKeys fun es => es.push e) }
def newT (s : Shared) : Shared := { s with heap := s.heap.push { cls := .type "dict", data := .dict #[] } }
section
variable (p : Program) (w : World)
def hsh (ks : List Str) : Int := tupleKeyHash (strKind p w) ks
def ent (r : Row) (a : Addr) : DictEntry := ⟨hsh p w r.1, .ref a, .ref (a + 1)⟩
def rowT (d : Addr) (s : Shared) (r : Row) : Shared := addT d (ent p w r s.heap.objs.size) (tokT (r.1.length + 1) (mkT r.2 (mkT r.1 s)))
def pairT (s : Shared) (r : Row) : Shared := mkT r.2 (mkT r.1 s)
def setT (c : Addr) : Addr → List Row → Shared → Shared
  | _, [], s => s
  | a, r :: rs, s => setT c (a + 2) rs (addT c (ent p w r a) (tokT (r.1.length + 1) s))
def mrgT (d : Addr) : Addr → List Row → Shared → Shared
  | _, [], s => s
  | a, r :: rs, s => mrgT d (a + 2) rs (addT d (ent p w r a) s)
def XF (l1 l2 : List Row) (s : Shared) : Shared :=
  mrgT p w s.heap.objs.size ((l1.foldl (rowT p w s.heap.objs.size) (newT s)).heap.objs.size + 1) l2
    (setT p w (l1.foldl (rowT p w s.heap.objs.size) (newT s)).heap.objs.size ((l1.foldl (rowT p w s.heap.objs.size) (newT s)).heap.objs.size + 1) l2
      (l2.foldl pairT (newT (l1.foldl (rowT p w s.heap.objs.size) (newT s)))))
/-! ### a text that does just that -/
def xVals : List Str → Sem (List Value)
  | [] => .pure []
  | x :: r => .fresh fun t => (xVals r).bind fun vs => .pure (.str x t :: vs)
def xTup (ss : List Str) : Sem Addr := (xVals ss).bind fun vs => .alloc { cls := .type "tuple", data := .seq vs.toArray } .pure
def xToks : Nat → Sem Unit
  | 0 => .pure ()
  | n + 1 => .fresh fun _ => xToks n
def xAdd (d : Addr) (e : DictEntry) : Sem Unit := .update d none (Obj.mapDictKeys fun es => es.push e) .pure
def xRow (d : Addr) (r : Row) : Sem Unit := (xTup r.1).bind fun a => (xTup r.2).bind fun _ => (xToks (r.1.length + 1)).bind fun _ => xAdd d (ent p w r a)
def xRows (d : Addr) : List Row → Sem Unit
  | [] => .pure ()
  | r :: rs => (xRow p w d r).bind fun _ => xRows d rs
def xPairs : List Row → Sem Unit
  | [] => .pure ()
  | r :: rs => (xTup r.1).bind fun _ => (xTup r.2).bind fun _ => xPairs rs
def xSets (c : Addr) : Addr → List Row → Sem Unit
  | _, [] => .pure ()
  | a, r :: rs => (xToks (r.1.length + 1)).bind fun _ => (xAdd c (ent p w r a)).bind fun _ => xSets c (a + 2) rs
def xMrg (d : Addr) : Addr → List Row → Sem Unit
  | _, [] => .pure ()
  | a, r :: rs => (xAdd d (ent p w r a)).bind fun _ => xMrg d (a + 2) rs
def xDict (l1 l2 : List Row) : Sem Value := .alloc { cls := .type "dict", data := .dict #[] } fun d => (xRows p w d l1).bind fun _ =>
  .alloc { cls := .type "dict", data := .dict #[] } fun c => (xPairs l2).bind fun _ => (xSets p w c (c + 1) l2).bind fun _ => (xMrg p w d (c + 1) l2).bind fun _ => .pure (.ref d)
end
section
variable {p : Program} {w : World} {M : Model} {Γ : Ctx} {E : Value → Pos → Shared → Prop} {q : Pos}
theorem wp_xVals : ∀ (ss : List Str) (s : Shared) (Q : List Value → Pos → Shared → Prop), wp M Γ (xVals ss) Q E q s = Q (tvals ss s.toks) q (tokT ss.length s)
  | [], s, Q => by rw [xVals, Sem.wp_pure]; rfl
  | x :: r, s, Q => by
    rw [xVals, Sem.wp_fresh, Sem.wp_bind, wp_xVals r]
    simp only [Sem.wp_pure, tvals, tokT, List.length_cons]
    rw [Nat.add_assoc, Nat.add_comm 1]
theorem wp_xTup (ss : List Str) (s : Shared) (Q : Addr → Pos → Shared → Prop) : wp M Γ (xTup ss) Q E q s = Q s.heap.objs.size q (mkT ss s) := by
  rw [xTup, Sem.wp_bind, wp_xVals, Sem.wp_alloc, Sem.wp_pure]
  rfl
theorem wp_xToks : ∀ (n : Nat) (s : Shared) (Q : Unit → Pos → Shared → Prop), wp M Γ (xToks n) Q E q s = Q () q (tokT n s)
  | 0, s, Q => by rw [xToks, Sem.wp_pure]; rfl
  | n + 1, s, Q => by
    rw [xToks, Sem.wp_fresh, wp_xToks n]
    simp only [tokT]
    rw [Nat.add_assoc, Nat.add_comm 1]
theorem wp_xAdd {d : Addr} {e : DictEntry} {s : Shared} {Q : Unit → Pos → Shared → Prop} (h : wp M Γ (xAdd d e) Q E q s) : Q () q (addT d e s) := by
  rw [xAdd, Sem.wp_update] at h
  exact h.2
theorem wp_xRow {d : Addr} {r : Row} {s : Shared} {Q : Unit → Pos → Shared → Prop} (h : wp M Γ (xRow p w d r) Q E q s) : Q () q (rowT p w d s r) := by
  rw [xRow, Sem.wp_bind, wp_xTup, Sem.wp_bind, wp_xTup, Sem.wp_bind, wp_xToks] at h
  exact wp_xAdd h
theorem wp_xRows {d : Addr} {Q : Unit → Pos → Shared → Prop} : ∀ {l : List Row} {s : Shared}, wp M Γ (xRows p w d l) Q E q s → Q () q (l.foldl (rowT p w d) s)
  | [], s, h => by
    rw [xRows, Sem.wp_pure] at h
    exact h
  | r :: rs, s, h => by
    rw [xRows, Sem.wp_bind] at h
    exact wp_xRows (l := rs) (s := rowT p w d s r) (wp_xRow h)
theorem wp_xPairs {Q : Unit → Pos → Shared → Prop} : ∀ {l : List Row} {s : Shared}, wp M Γ (xPairs l) Q E q s → Q () q (l.foldl pairT s)
  | [], s, h => by
    rw [xPairs, Sem.wp_pure] at h
    exact h
  | r :: rs, s, h => by
    rw [xPairs, Sem.wp_bind, wp_xTup, Sem.wp_bind, wp_xTup] at h
    exact wp_xPairs (l := rs) (s := pairT s r) h
theorem wp_xSets {c : Addr} {Q : Unit → Pos → Shared → Prop} : ∀ {l : List Row} {a : Addr} {s : Shared}, wp M Γ (xSets p w c a l) Q E q s → Q () q (setT p w c a l s)
  | [], a, s, h => by
    rw [xSets, Sem.wp_pure] at h
    exact h
  | r :: rs, a, s, h => by
    rw [xSets, Sem.wp_bind, wp_xToks, Sem.wp_bind] at h
    exact wp_xSets (l := rs) (a := a + 2) (s := addT c (ent p w r a) (tokT (r.1.length + 1) s)) (wp_xAdd h)
theorem wp_xMrg {d : Addr} {Q : Unit → Pos → Shared → Prop} : ∀ {l : List Row} {a : Addr} {s : Shared}, wp M Γ (xMrg p w d a l) Q E q s → Q () q (mrgT p w d a l s)
  | [], a, s, h => by
    rw [xMrg, Sem.wp_pure] at h
    exact h
  | r :: rs, a, s, h => by
    rw [xMrg, Sem.wp_bind] at h
    exact wp_xMrg (l := rs) (a := a + 2) (s := addT d (ent p w r a) s) (wp_xAdd h)
theorem wp_xDict {l1 l2 : List Row} {s : Shared} {Q : Value → Pos → Shared → Prop} (h : wp M Γ (xDict p w l1 l2) Q E q s) : Q (.ref s.heap.objs.size) q (XF p w l1 l2 s) := by
  rw [xDict, Sem.wp_alloc, Sem.wp_bind] at h
  have h2 := wp_xRows h
  rw [Sem.wp_alloc, Sem.wp_bind] at h2
  have h3 := wp_xPairs h2
  rw [Sem.wp_bind] at h3
  have h4 := wp_xSets h3
  rw [Sem.wp_bind] at h4
  have h5 := wp_xMrg h4
  rw [Sem.wp_pure] at h5
  exact h5
end
end Hd

namespace Hd
open PySem PySem.W PySem.Calls PyProof.Rows
section
variable {p : Program} {w : World} {A : Around} {E : Value → Shared → Prop}
abbrev kT (p : Program) (w : World) : HeapKind p w (List Str) := tupleKind (PySem.strKind p w)
theorem items_tvals : ∀ (ss : List Str) (k : Nat), ItemsAre (PySem.strKind p w) ss (tvals ss k)
  | [], _ => .nil
  | x :: r, k => .cons (PySem.strKind_is p w x k) (items_tvals r (k + 1))
theorem key_mkT (ss : List Str) (s : Shared) : (kT p w).is (mkT ss s).heap ss s.heap.objs.size :=
  ⟨_, (tvals ss s.toks).toArray, _, Heap.get?_push_size _ rfl, rfl, rfl, items_tvals ss s.toks⟩
theorem keep_mkT (ss : List Str) (s : Shared) : ∀ b o, s.heap.get? b = some o → (mkT ss s).heap.get? b = some o := fun _ _ h => Heap.get?_push_of_some _ h
theorem stay {h h' : Heap} {d : Addr} {xs : List (List Str × Addr × Value)} (x : h.DictOfH (kT p w) d xs) (k : ∀ b o, h.get? b = some o → h'.get? b = some o) : h'.DictOfH (kT p w) d xs := by
  obtain ⟨o, es, ep, ho, hc, hd, he, hi, hn⟩ := x
  exact ⟨o, es, ep, k _ _ ho, hc, hd, he, fun y hy => tupleKind_stays.stays (fun b o vs n e _ => k b o e) (hi y hy), hn⟩
theorem key_stay {h h' : Heap} {ks : List Str} {a : Addr} (x : (kT p w).is h ks a) (k : ∀ b o, h.get? b = some o → h'.get? b = some o) : (kT p w).is h' ks a := tupleKind_stays.stays (fun b o vs n e _ => k b o e) x
section
variable {s : Shared} {d a : Addr} {xs : List (List Str × Addr × Value)} {ks : List Str} {v : Value}
theorem add_ok (m : s.heap.DictOfH (kT p w) d xs) (hk : (kT p w).is s.heap ks a) (hn : ks ∉ xs.map (·.1)) : (addT d ⟨hsh p w ks, .ref a, v⟩ s).heap.DictOfH (kT p w) d (xs ++ [(ks, a, v)]) := by
  obtain ⟨o, es, ep, ho, hc, hd, he, hi, hu⟩ := m
  have sb : Heap.SameBut d s.heap (addT d ⟨hsh p w ks, .ref a, v⟩ s).heap := Heap.SameBut.update ..
  have dd := Obj.data_mapDictKeys hd fun es => es.push ⟨hsh p w ks, .ref a, v⟩
  refine ⟨_, _, _, Heap.get?_update_self _ ho (Obj.isFreed_of_dict dd), hc.mapDictKeys _, dd, ?_, ?_, ?_⟩
  · rw [Array.toList_push, he, List.map_append]
    rfl
  · intro y hy
    rcases List.mem_append.mp hy with h | h
    · exact (kT p w).keeps (hi y h) ho hd sb
    · rw [List.mem_singleton] at h
      subst h
      exact (kT p w).keeps hk ho hd sb
  · rw [List.map_append, List.nodup_append]
    refine ⟨hu, by simp, ?_⟩
    intro x hx y hy e
    simp only [List.map_cons, List.map_nil, List.mem_singleton] at hy
    subst hy
    subst e
    exact hn hx
theorem find_new (hu : A.units < cLine) (m : s.heap.DictOfH (kT p w) d xs) (hk : (kT p w).is s.heap ks a) (hn : ks ∉ xs.map (·.1)) {Q : Option Nat → Shared → Prop} (h : Q none s) : wpAny (model p w) A (dictFind d (.ref a) (hsh p w ks)) Q E s := by
  obtain ⟨o, es, ep, ho, hc, hd, he, hi, hu2⟩ := m
  refine wpAny_dictFind_heap (knd := kT p w) (k := ks) hu hk ho hd he hi hu2 (fun _ => h) fun j q hj => ?_
  exact absurd (List.mem_map.mpr ⟨_, List.mem_of_getElem? hj, rfl⟩) hn
theorem upd_new (m : s.heap.DictOfH (kT p w) d xs) (hz : xs.length ≤ sizeLine) {part : Option Value} {Q : Unit → Shared → Prop} (h : Q () (addT d ⟨hsh p w ks, .ref a, v⟩ s)) :
    wpAny (model p w) A (updateDictKeys d (fun es => es.push ⟨hsh p w ks, .ref a, v⟩) part) Q E s := by
  obtain ⟨o, es, ep, ho, hc, hd, he, hi, hu2⟩ := m
  have e := size_of_entries he
  exact wpAny_updateDictKeys (hz := by omega) ho hd h
theorem set_new (hu : A.units < cLine) (m : s.heap.DictOfH (kT p w) d xs) (hk : (kT p w).is s.heap ks a) (hn : ks ∉ xs.map (·.1)) (hz : xs.length ≤ sizeLine) {Q : Unit → Shared → Prop}
    (h : Q () (addT d ⟨hsh p w ks, .ref a, v⟩ (tokT (ks.length + 1) s))) : wpAny (model p w) A (dictSet d (.ref a) v) Q E s := by
  unfold dictSet
  refine wpAny_holding (wpAny_bind ((kT p w).pyHash (k := ks) hu hk ?_))
  have m2 : (tokT (ks.length + 1) s).heap.DictOfH (kT p w) d xs := m
  show wpAny _ _ _ _ _ (tokT (ks.length + 1) s)
  unfold dictSetHashed
  refine wpAny_holding (wpAny_bind (find_new (s := tokT (ks.length + 1) s) hu m hk hn ?_))
  exact wpAny_bind (wpAny_rule (upd_new (s := tokT (ks.length + 1) s) m2 hz h))
theorem put_new (hu : A.units < cLine) (m : s.heap.DictOfH (kT p w) d xs) (hk : (kT p w).is s.heap ks a) (hn : ks ∉ xs.map (·.1)) (hz : xs.length ≤ sizeLine) {Q : Unit → Shared → Prop}
    (h : Q () (addT d ⟨hsh p w ks, .ref a, v⟩ s)) : wpAny (model p w) A (dictPut d (hsh p w ks) (.ref a) v) Q E s := by
  unfold dictPut
  exact wpAny_bind (find_new hu m hk hn (upd_new m hz h))
end
/-! ### a tuple of texts evaluated -/
/-- it makes the tuple, and nothing else -/
def Ev (p : Program) (w : World) (t : Sem Value) (ss : List Str) : Prop := ∀ (A : Around) (E : Value → Shared → Prop) (Q : Value → Shared → Prop) (s : Shared), Q (.ref s.heap.objs.size) (mkT ss s) → wpAny (model p w) A t Q E s
def AreC : List Expr → List Str → Prop
  | [], [] => True
  | .Constant (.str x) _ _ :: es, y :: ss => x = y ∧ AreC es ss
  | _, _ => False
theorem spl_c {env : Env} {pos : Pos} : ∀ {es : List Expr} {ss : List Str}, AreC es ss → ∀ (A : Around) (E : Value → Shared → Prop) (Q : List Value → Shared → Prop) (s : Shared), Q (tvals ss s.toks) (tokT ss.length s) →
    wpAny (model p w) A (spliced (backTo pos (starEach es env))) Q E s
  | [], [], _, A, E, Q, s, h => wpAny_pure h
  | .Constant (.str x) k q :: es, y :: ss, c, A, E, Q, s, h => by
    obtain ⟨rfl, c⟩ := c
    show wpAny _ _ (spliced ((false, eval (.Constant (.str x) k q) env) :: backTo pos (starEach es env))) Q E s
    unfold spliced
    refine wpAny_bind (wpAny_Constant_str ?_)
    refine wpAny_bind (wpAny_pure ?_)
    refine wpAny_bind (wpAny_holding (spl_c c A E _ _ (wpAny_pure ?_)))
    show Q (tvals (x :: ss) s.toks) { s with toks := s.toks + 1 + ss.length }
    rw [Nat.add_assoc, Nat.add_comm 1]
    exact h
  | [], _ :: _, c, _, _, _, _, _ => c.elim
theorem tvals_len : ∀ (ss : List Str) (k : Nat), (tvals ss k).length = ss.length
  | [], _ => rfl
  | x :: r, k => by rw [tvals, List.length_cons, List.length_cons, tvals_len r]
theorem ev_tup {env : Env} {es : List Expr} {x1 : _} {pos : Pos} {ss : List Str} (c : AreC es ss) (hz : ss.length ≤ sizeLine) : Ev p w (eval (.Tuple es x1 pos) env) ss := fun A E Q s h =>
  wpAny_Tuple_spliced (spl_c c A E _ s ⟨by rw [tvals_len]; exact hz, h⟩)
theorem ev_at {t : Sem Value} {ss : List Str} {pos : Pos} (h : Ev p w t ss) : Ev p w (do let x ← t; standAt pos; pure x) ss := fun A E Q s q => wpAny_bind (h A E _ s (wpAny_bind (wpAny_standAt (wpAny_pure q))))
/-- pairs of the table's text and its rows -/
def PM (p : Program) (w : World) : List (Sem Value × Sem Value) → List Row → Prop
  | [], [] => True
  | x :: xs, r :: rs => Ev p w x.1 r.1 ∧ Ev p w x.2 r.2 ∧ PM p w xs rs
  | _, _ => False
theorem PM.length : ∀ {ps : List (Sem Value × Sem Value)} {rs : List Row}, PM p w ps rs → ps.length = rs.length
  | [], [], _ => rfl
  | _ :: _, _ :: _, h => by rw [List.length_cons, List.length_cons, PM.length h.2.2]
  | [], _ :: _, h => h.elim
  | _ :: _, [], h => h.elim
/-- the entries that stand, of these rows -/
def xsOf : Addr → List Row → List (List Str × Addr × Value)
  | _, [] => []
  | a, r :: rs => (r.1, a, .ref (a + 1)) :: xsOf (a + 2) rs
theorem xsOf_keys : ∀ (a : Addr) (rs : List Row), (xsOf a rs).map (·.1) = rs.map (·.1)
  | _, [] => rfl
  | a, r :: rs => by rw [xsOf, List.map_cons, List.map_cons, xsOf_keys (a + 2) rs]
theorem xsOf_len : ∀ (a : Addr) (rs : List Row), (xsOf a rs).length = rs.length
  | _, [] => rfl
  | a, r :: rs => by rw [xsOf, List.length_cons, List.length_cons, xsOf_len (a + 2) rs]
theorem size_mkT (ss : List Str) (s : Shared) : (mkT ss s).heap.objs.size = s.heap.objs.size + 1 := by
  show (s.heap.push _).objs.size = _
  rw [Heap.objs_push, Array.size_push]
theorem size_addT (d : Addr) (e : DictEntry) (s : Shared) : (addT d e s).heap.objs.size = s.heap.objs.size := Heap.size_update _ _ _
theorem size_rowT (d : Addr) (s : Shared) (r : Row) : (rowT p w d s r).heap.objs.size = s.heap.objs.size + 2 := by
  unfold rowT
  rw [size_addT]
  show (mkT r.2 (mkT r.1 s)).heap.objs.size = _
  rw [size_mkT, size_mkT]
theorem size_pairT (s : Shared) (r : Row) : (pairT s r).heap.objs.size = s.heap.objs.size + 2 := by
  unfold pairT
  rw [size_mkT, size_mkT]
end
end Hd

namespace Hd
open PySem
/-- the second part of a long display: made by itself, then merged -/
def sub2 (d : Addr) (l2 : List (Sem Value × Sem Value)) : Sem Value := do
  let sub ← holding [.ref d] (subDict l2)
  (holding [.ref d, .ref sub] (mergeMapping d (.ref sub) false)).onRaise fun x => do let _ ← holding [.ref d, x] (runValue (.builtin "proto.let_go" {}))
  pure (.ref d)
theorem gather {β γ : Type} (m : β) (g : γ × γ → Option γ × γ) (f : (Option γ × γ) → (β × List (γ × γ)) → Sem (ForInStep (β × List (γ × γ)))) (hg : ∀ q, g q = (some q.1, q.2))
    (hf : ∀ (q : γ × γ) (run : List (γ × γ)), run.length < 16 → f (some q.1, q.2) (m, run) = pure (.yield (m, run ++ [q]))) (tl : List (Option γ × γ)) :
    ∀ (l run : List (γ × γ)), run.length + l.length ≤ 16 → forIn (l.map g ++ tl) (m, run) f = forIn tl (m, run ++ l) f
  | [], run, _ => by rw [List.append_nil]; rfl
  | q :: r, run, h => by
    rw [List.length_cons] at h
    rw [List.map_cons, List.cons_append, List.forIn_cons, hg, hf q run (by omega), pure_bind]
    have := gather m g f hg hf tl r (run ++ [q]) (by rw [List.length_append]; simp; omega)
    show forIn (List.map g r ++ tl) (m, run ++ [q]) f = _
    rw [this, List.append_assoc]
    rfl
theorem disp (l1 l2 : List (Sem Value × Sem Value)) (x : Sem Value × Sem Value) (h1 : l1.length = 16) (h2 : l2.length ≤ 16) (h3 : l2 ≠ []) :
    dictDisplay ((l1 ++ x :: l2).map fun q => (some q.1, q.2)) = (do
      let d ← subDict (l1 ++ [x])
      sub2 d l2) := by
  unfold dictDisplay
  dsimp only
  rw [List.map_append]
  rw [gather (none : Option Addr) (fun q => (some q.1, q.2)) _ (fun _ => rfl) ?hf _ l1 [] (by simp; omega)]
  case hf =>
    intro q run hr
    have : ((run ++ [(q.1, q.2)]).length == 17) = false := by simp; omega
    simp only [this, Bool.false_eq_true, if_false]
  rw [List.nil_append, List.map_cons, List.forIn_cons]
  have e17 : ((l1 ++ [(x.1, x.2)]).length == 17) = true := by simp; omega
  have ne : (l1 ++ [(x.1, x.2)]).isEmpty = false := by cases l1 <;> rfl
  simp only [e17, ne, if_true, Bool.false_eq_true, if_false, bind_assoc, pure_bind]
  refine congrArg (subDict (l1 ++ [(x.1, x.2)]) >>= ·) (funext fun d => ?_)
  have g2 := fun f hf => gather (some d : Option Addr) (fun q : Sem Value × Sem Value => (some q.1, q.2)) f (fun _ => rfl) hf [] l2 [] (by simp; omega)
  simp only [List.append_nil, List.nil_append] at g2
  rw [g2 _ ?hf2]
  case hf2 =>
    intro q run hr
    have : ((run ++ [(q.1, q.2)]).length == 17) = false := by simp; omega
    simp only [this, Bool.false_eq_true, if_false]
  have ne2 : l2.isEmpty = false := by cases l2 with | nil => exact absurd rfl h3 | cons _ _ => rfl
  rw [List.forIn_nil, pure_bind]
  simp only [ne2, Bool.false_eq_true, if_false, bind_assoc, pure_bind, sub2]
end Hd

namespace Hd
open PySem PySem.W PySem.Calls PyProof.Rows
section
variable {p : Program} {w : World} {A : Around} {E : Value → Shared → Prop}
theorem notin_of_nodup {xs : List (List Str)} {k : List Str} {r : List (List Str)} (h : (xs ++ k :: r).Nodup) : k ∉ xs := fun q => by
  rw [List.nodup_append] at h
  exact h.2.2 k q k List.mem_cons_self rfl
theorem nodup_shift {xs : List (List Str)} {k : List Str} {r : List (List Str)} (h : (xs ++ k :: r).Nodup) : ((xs ++ [k]) ++ r).Nodup := by
  rw [List.append_assoc]
  exact h
/-! ### the long part: pair by pair -/
theorem long_loop (hu : A.units < cLine) {d : Addr} : ∀ (ps : List (Sem Value × Sem Value)) (rs : List Row) (xs : List (List Str × Addr × Value)) (s : Shared) (Q : PUnit → Shared → Prop), PM p w ps rs → s.heap.DictOfH (kT p w) d xs →
    (xs.map (·.1) ++ rs.map (·.1)).Nodup → xs.length + rs.length ≤ sizeLine →
    (∀ xs', (rs.foldl (rowT p w d) s).heap.DictOfH (kT p w) d xs' → xs'.map (·.1) = xs.map (·.1) ++ rs.map (·.1) → Q PUnit.unit (rs.foldl (rowT p w d) s)) →
    wpAny (model p w) A (forIn ps PUnit.unit fun (x : Sem Value × Sem Value) (_ : PUnit) => (do
      let kv ← x.1
      let vv ← holding [kv] x.2
      holding [kv, vv] (dictSet d kv vv)
      pure (ForInStep.yield PUnit.unit) : Sem (ForInStep PUnit))) Q E s
  | [], [], xs, s, Q, _, m, _, _, h => by
    rw [List.forIn_nil]
    exact wpAny_pure (h xs m (by simp))
  | x :: ps, r :: rs, xs, s, Q, pm, m, nd, hz, h => by
    obtain ⟨p1, p2, pm⟩ := pm
    rw [List.length_cons] at hz
    rw [List.map_cons] at nd
    rw [List.forIn_cons]
    refine wpAny_bind (wpAny_bind (p1 A E _ s ?_))
    refine wpAny_bind (wpAny_holding (p2 A E _ (mkT r.1 s) ?_))
    rw [size_mkT]
    have k1 : (kT p w).is (mkT r.2 (mkT r.1 s)).heap r.1 s.heap.objs.size := key_stay (key_mkT r.1 s) (keep_mkT _ _)
    have m1 : (mkT r.2 (mkT r.1 s)).heap.DictOfH (kT p w) d xs := stay (stay m (keep_mkT _ _)) (keep_mkT _ _)
    refine wpAny_bind (wpAny_holding (set_new hu m1 k1 (notin_of_nodup nd) (by omega) (wpAny_pure ?_)))
    have m2 := add_ok (s := tokT (r.1.length + 1) (mkT r.2 (mkT r.1 s))) (v := .ref (s.heap.objs.size + 1)) m1 k1 (notin_of_nodup nd)
    refine long_loop hu ps rs (xs ++ [(r.1, s.heap.objs.size, Value.ref (s.heap.objs.size + 1))]) (rowT p w d s r) Q pm m2 ?_ (by rw [List.length_append]; simp; omega) ?_
    · rw [List.map_append]
      exact nodup_shift nd
    · intro xs' m' e
      refine h xs' m' ?_
      rw [e, List.map_append, List.map_cons, List.append_assoc]
      rfl
  | [], _ :: _, _, _, _, pm, _, _, _, _ => pm.elim
  | _ :: _, [], _, _, _, pm, _, _, _, _ => pm.elim
/-! ### the short part -/
def vsOf : Addr → List Row → List (Value × Value)
  | _, [] => []
  | a, _ :: rs => (.ref a, .ref (a + 1)) :: vsOf (a + 2) rs
theorem keep_pairs : ∀ (rs : List Row) (s : Shared), ∀ b o, s.heap.get? b = some o → (rs.foldl pairT s).heap.get? b = some o
  | [], _, _, _, h => h
  | r :: rs, s, b, o, h => keep_pairs rs (pairT s r) b o (keep_mkT _ _ _ _ (keep_mkT _ _ _ _ h))
def KeysAt (p : Program) (w : World) (h : Heap) : Addr → List Row → Prop
  | _, [] => True
  | a, r :: rs => (kT p w).is h r.1 a ∧ KeysAt p w h (a + 2) rs
theorem KeysAt.stay {h h' : Heap} (k : ∀ b o, h.get? b = some o → h'.get? b = some o) : ∀ {rs : List Row} {a : Addr}, KeysAt p w h a rs → KeysAt p w h' a rs
  | [], _, _ => trivial
  | _ :: _, _, x => ⟨key_stay x.1 k, KeysAt.stay k x.2⟩
theorem KeysAt.same {s : Shared} {d : Addr} {e : DictEntry} {xs : List (List Str × Addr × Value)} (m : s.heap.DictOfH (kT p w) d xs) : ∀ {rs : List Row} {a : Addr}, KeysAt p w s.heap a rs → KeysAt p w (addT d e s).heap a rs
  | [], _, _ => trivial
  | _ :: _, _, x => by
    obtain ⟨o, es, ep, ho, hc, hd, _⟩ := id m
    exact ⟨(kT p w).keeps x.1 ho hd (Heap.SameBut.update ..), KeysAt.same m x.2⟩
theorem keys_pairs : ∀ (rs : List Row) (s : Shared), KeysAt p w (rs.foldl pairT s).heap s.heap.objs.size rs
  | [], _ => trivial
  | r :: rs, s => by
    refine ⟨key_stay (key_mkT r.1 s) fun b o h => keep_pairs rs (pairT s r) b o (keep_mkT _ _ _ _ h), ?_⟩
    have := keys_pairs rs (pairT s r)
    rw [size_pairT] at this
    exact this
theorem pairs_ev : ∀ (ps : List (Sem Value × Sem Value)) (rs : List Row) (s : Shared) (Q : List (Value × Value) → Shared → Prop), PM p w ps rs → Q (vsOf s.heap.objs.size rs) (rs.foldl pairT s) → wpAny (model p w) A (evalPairs ps) Q E s
  | [], [], s, Q, _, h => wpAny_pure h
  | (k, v) :: ps, r :: rs, s, Q, pm, h => by
    obtain ⟨p1, p2, pm⟩ := pm
    unfold evalPairs
    refine wpAny_bind (p1 A E _ s ?_)
    refine wpAny_bind (wpAny_holding (p2 A E _ (mkT r.1 s) ?_))
    refine wpAny_bind (wpAny_holding (pairs_ev ps rs (pairT s r) _ pm (wpAny_pure ?_)))
    rw [size_pairT, size_mkT]
    exact h
  | [], _ :: _, _, _, pm, _ => pm.elim
  | _ :: _, [], _, _, pm, _ => pm.elim
theorem sets_loop (hu : A.units < cLine) {c : Addr} : ∀ (rs : List Row) (a : Addr) (xs : List (List Str × Addr × Value)) (s : Shared) (Q : PUnit → Shared → Prop), KeysAt p w s.heap a rs → s.heap.DictOfH (kT p w) c xs →
    (xs.map (·.1) ++ rs.map (·.1)).Nodup → xs.length + rs.length ≤ sizeLine → ((setT p w c a rs s).heap.DictOfH (kT p w) c (xs ++ xsOf a rs) → Q PUnit.unit (setT p w c a rs s)) →
    wpAny (model p w) A (forIn (vsOf a rs) PUnit.unit fun (x : Value × Value) (_ : PUnit) => (do dictSet c x.1 x.2; pure (ForInStep.yield PUnit.unit) : Sem (ForInStep PUnit))) Q E s
  | [], a, xs, s, Q, _, m, _, _, h => by
    show wpAny _ _ (forIn [] _ _) _ _ _
    rw [List.forIn_nil]
    exact wpAny_pure (h (by rw [xsOf, List.append_nil]; exact m))
  | r :: rs, a, xs, s, Q, k, m, nd, hz, h => by
    rw [List.length_cons] at hz
    rw [List.map_cons] at nd
    show wpAny _ _ (forIn ((.ref a, .ref (a + 1)) :: vsOf (a + 2) rs) _ _) _ _ _
    rw [List.forIn_cons]
    refine wpAny_bind (wpAny_bind (set_new hu m k.1 (notin_of_nodup nd) (by omega) (wpAny_pure ?_)))
    have m1 : (tokT (r.1.length + 1) s).heap.DictOfH (kT p w) c xs := m
    have m2 := add_ok (s := tokT (r.1.length + 1) s) (v := .ref (a + 1)) m1 k.1 (notin_of_nodup nd)
    refine sets_loop hu rs (a + 2) (xs ++ [(r.1, a, Value.ref (a + 1))]) (addT c (ent p w r a) (tokT (r.1.length + 1) s)) Q (KeysAt.same (s := tokT (r.1.length + 1) s) m1 k.2) m2 ?_ (by rw [List.length_append]; simp; omega) ?_
    · rw [List.map_append]
      exact nodup_shift nd
    · intro m'
      refine h ?_
      rw [List.append_assoc] at m'
      exact m'
/-! ### the merge -/
theorem merge_loop (hu : A.units < cLine) {d c : Addr} {oc : Obj} {es : Array DictEntry} {ep : Nat} (hdc : c ≠ d) (hd : oc.data = .dict es ep) {f : Nat → PUnit → Sem (ForInStep PUnit)}
    (hf : ∀ (i : Nat) (ks : List Str) (a : Addr) (v : Value) (xs : List (List Str × Addr × Value)) (s : Shared) (Q : ForInStep PUnit → Shared → Prop), s.heap.get? c = some oc → es[i]? = some ⟨hsh p w ks, .ref a, v⟩ → s.heap.DictOfH (kT p w) d xs → (kT p w).is s.heap ks a →
      ks ∉ xs.map (·.1) → xs.length ≤ sizeLine → Q (.yield PUnit.unit) (addT d ⟨hsh p w ks, .ref a, v⟩ s) → wpAny (model p w) A (f i PUnit.unit) Q E s) :
    ∀ (rs : List Row) (i : Nat) (a : Addr) (xs : List (List Str × Addr × Value)) (s : Shared) (Q : PUnit → Shared → Prop), (∀ j r, rs[j]? = some r → es[i + j]? = some (ent p w r (a + 2 * j))) → KeysAt p w s.heap a rs → s.heap.get? c = some oc →
    s.heap.DictOfH (kT p w) d xs → (xs.map (·.1) ++ rs.map (·.1)).Nodup → xs.length + rs.length ≤ sizeLine → Q PUnit.unit (mrgT p w d a rs s) →
    wpAny (model p w) A (forIn (List.range' i rs.length) PUnit.unit f) Q E s
  | [], i, a, xs, s, Q, _, _, _, _, _, _, h => by
    show wpAny _ _ (forIn [] _ _) _ _ _
    rw [List.forIn_nil]
    exact wpAny_pure h
  | r :: rs, i, a, xs, s, Q, he, k, hc, m, nd, hz, h => by
    rw [List.length_cons] at hz ⊢
    rw [List.map_cons] at nd
    rw [List.range'_succ, List.forIn_cons]
    have e0 := he 0 r rfl
    rw [Nat.add_zero, Nat.mul_zero, Nat.add_zero] at e0
    refine wpAny_bind (hf i r.1 a (.ref (a + 1)) xs s _ hc e0 m k.1 (notin_of_nodup nd) (by omega) ?_)
    have m2 := add_ok (s := s) (v := .ref (a + 1)) m k.1 (notin_of_nodup nd)
    refine merge_loop hu hdc hd hf rs (i + 1) (a + 2) (xs ++ [(r.1, a, Value.ref (a + 1))]) (addT d (ent p w r a) s) Q ?_ (KeysAt.same m k.2) ?_ m2 ?_ (by rw [List.length_append]; simp; omega) h
    · intro j r' hj
      have := he (j + 1) r' hj
      rw [show i + 1 + j = i + (j + 1) by omega, show a + 2 + 2 * j = a + 2 * (j + 1) by rw [Nat.mul_add, Nat.mul_one, Nat.add_comm (2 * j) 2, ← Nat.add_assoc]]
      exact this
    · exact (Heap.get?_update_ne _ _ _ _ hdc).trans hc
    · rw [List.map_append]
      exact nodup_shift nd
end
end Hd

namespace Hd
open PySem PySem.W PySem.Calls PyProof.Rows
section
variable {p : Program} {w : World} {A : Around} {E : Value → Shared → Prop}
theorem xsOf_at : ∀ {rs : List Row} {a : Addr} {j : Nat} {r : Row}, rs[j]? = some r → (xsOf a rs)[j]? = some (r.1, a + 2 * j, Value.ref (a + 2 * j + 1))
  | [], _, _, _, h => by simp at h
  | x :: rs, a, 0, r, h => by
    simp only [List.getElem?_cons_zero, Option.some.injEq] at h
    subst h
    rfl
  | x :: rs, a, j + 1, r, h => by
    rw [List.getElem?_cons_succ] at h
    have := xsOf_at (a := a + 2) h
    rw [xsOf, List.getElem?_cons_succ, this, Nat.mul_add, Nat.mul_one, Nat.add_comm (2 * j) 2, ← Nat.add_assoc]
theorem keys_of : ∀ {rs : List Row} {a : Addr} {h : Heap}, (∀ x ∈ xsOf a rs, (kT p w).is h x.1 x.2.1) → KeysAt p w h a rs
  | [], _, _, _ => trivial
  | r :: rs, a, h, k => ⟨k (r.1, a, .ref (a + 1)) List.mem_cons_self, keys_of fun x hx => k x (List.mem_cons_of_mem _ hx)⟩
theorem merge_ok (hu : A.units < cLine) {d c a : Addr} {xs : List (List Str × Addr × Value)} {rs : List Row} {s : Shared} {Q : Unit → Shared → Prop} (hdc : c ≠ d) (hcS : (c == sysModules) = false)
    (hd : s.heap.DictOfH (kT p w) d xs) (hne : xs ≠ []) (hc : s.heap.DictOfH (kT p w) c (xsOf a rs)) (nd : (xs.map (·.1) ++ rs.map (·.1)).Nodup) (hz : xs.length + rs.length ≤ sizeLine) (h : Q () (mrgT p w d a rs s)) :
    wpAny (model p w) A (mergeMapping d (.ref c) false) Q E s := by
  obtain ⟨od, esd, epd, hod, hcd, hdd, hed, hid, hnd⟩ := id hd
  obtain ⟨oc, es, ep, hoc, hcc, hdc', hec, hic, hnc⟩ := id hc
  have hsz : es.size = rs.length := (size_of_entries hec).trans (xsOf_len a rs)
  have hent : ∀ j r, rs[j]? = some r → es[0 + j]? = some (ent p w r (a + 2 * j)) := fun j r hj => by
    rw [Nat.zero_add, entry_at hec, xsOf_at hj]
    rfl
  unfold mergeMapping
  refine wpAny_bind (wpAny_isInstance hc.typeIs isSubtype_dict_dict ?_)
  rw [if_pos rfl]
  refine wpAny_bind (wpAny_specialOf hc.typeIs F.slot_dict_iter.lookup ?_)
  refine wpAny_bind (wpAny_pure ?_)
  show wpAny _ _ (if (c == sysModules) = true then _ else _) _ _ _
  rw [if_neg (by rw [hcS]; exact Bool.false_ne_true)]
  refine wpAny_bind (wpAny_dictEntries hod hdd ?_)
  have hn0 : esd.isEmpty = false := by
    have := size_of_entries hed
    cases xs with
    | nil => exact absurd rfl hne
    | cons _ _ =>
      rw [List.length_cons] at this
      rw [Array.isEmpty_eq_false_iff]
      intro e
      rw [e] at this
      simp at this
  rw [if_neg (by rw [hn0]; exact Bool.false_ne_true)]
  refine wpAny_bind (wpAny_dictEntries hoc hdc' ?_)
  refine wpAny_bind (wpAny_dictEpoch hoc hdc' ?_)
  refine wpAny_bind ?_
  rw [hsz, List.range_eq_range']
  refine merge_loop hu hdc hdc' ?_ rs 0 a xs s _ hent (keys_of hic) hoc hd nd hz (wpAny_pure h)
  intro i ks b v ys s' R g1 g2 g3 g4 g5 g6 g7
  refine wpAny_bind (wpAny_dictEntries g1 hdc' ?_)
  rw [g2]
  refine wpAny_bind (wpAny_holding (put_new hu g3 g4 g5 g6 ?_))
  refine wpAny_bind (wpAny_dictEpoch (s := addT d ⟨hsh p w ks, .ref b, v⟩ s') ((Heap.get?_update_ne _ _ _ _ hdc).trans g1) hdc' ?_)
  rw [if_neg (by simp)]
  exact wpAny_pure g7
theorem sub_long (hu : A.units < cLine) {ps : List (Sem Value × Sem Value)} {rs : List Row} {s : Shared} {Q : Addr → Shared → Prop} (pm : PM p w ps rs) (h15 : 15 < ps.length) (nd : (rs.map (·.1)).Nodup) (hz : rs.length ≤ sizeLine)
    (h : ∀ xs, (rs.foldl (rowT p w s.heap.objs.size) (newT s)).heap.DictOfH (kT p w) s.heap.objs.size xs → xs.map (·.1) = rs.map (·.1) → Q s.heap.objs.size (rs.foldl (rowT p w s.heap.objs.size) (newT s))) :
    wpAny (model p w) A (subDict ps) Q E s := by
  unfold subDict
  refine wpAny_bind (wpAny_alloc ?_)
  refine wpAny_bind (wpAny_holding ?_)
  rw [if_neg (by omega)]
  refine wpAny_bind (wpAny_rule ?_)
  refine wpAny_bind (long_loop hu ps rs [] (newT s) _ pm (Heap.DictOfH.new s.heap) (by simpa using nd) (by simpa using hz) fun xs m e => ?_)
  exact wpAny_pure (wpAny_pure (h xs m (by simpa using e)))
theorem sub_short (hu : A.units < cLine) {ps : List (Sem Value × Sem Value)} {rs : List Row} {s : Shared} {Q : Addr → Shared → Prop} (pm : PM p w ps rs) (h15 : ps.length ≤ 15) (nd : (rs.map (·.1)).Nodup) (hz : rs.length ≤ sizeLine)
    (h : (setT p w s.heap.objs.size (s.heap.objs.size + 1) rs (rs.foldl pairT (newT s))).heap.DictOfH (kT p w) s.heap.objs.size (xsOf (s.heap.objs.size + 1) rs) →
      Q s.heap.objs.size (setT p w s.heap.objs.size (s.heap.objs.size + 1) rs (rs.foldl pairT (newT s)))) :
    wpAny (model p w) A (subDict ps) Q E s := by
  have hs : (newT s).heap.objs.size = s.heap.objs.size + 1 := by
    show (s.heap.push _).objs.size = _
    rw [Heap.objs_push, Array.size_push]
  unfold subDict
  refine wpAny_bind (wpAny_alloc ?_)
  refine wpAny_bind (wpAny_holding ?_)
  rw [if_pos h15]
  refine wpAny_bind (pairs_ev ps rs (newT s) _ pm ?_)
  rw [hs]
  refine wpAny_holding ?_
  have k := keys_pairs (p := p) (w := w) rs (newT s)
  rw [hs] at k
  refine wpAny_bind (sets_loop hu rs (s.heap.objs.size + 1) [] (rs.foldl pairT (newT s)) _ k (stay (Heap.DictOfH.new s.heap) (keep_pairs rs (newT s))) (by simpa using nd) (by simpa using hz) fun m => ?_)
  exact wpAny_pure (wpAny_pure (h m))
theorem DictOfH_set {d c : Addr} (hdc : d ≠ c) {xs : List (List Str × Addr × Value)} : ∀ (rs : List Row) (a : Addr) (s : Shared) {ys : List (List Str × Addr × Value)}, s.heap.DictOfH (kT p w) d xs → s.heap.DictOfH (kT p w) c ys → (KeysAt p w s.heap a rs) → (ys.map (·.1) ++ rs.map (·.1)).Nodup →
    (setT p w c a rs s).heap.DictOfH (kT p w) d xs
  | [], _, _, _, m, _, _, _ => m
  | r :: rs, a, s, ys, m, m2, k, nd => by
    have t1 : (tokT (r.1.length + 1) s).heap.DictOfH (kT p w) d xs := m
    have t2 : (tokT (r.1.length + 1) s).heap.DictOfH (kT p w) c ys := m2
    rw [List.map_cons] at nd
    have m3 := add_ok (s := tokT (r.1.length + 1) s) (v := .ref (a + 1)) t2 k.1 (notin_of_nodup nd)
    have m4 : (addT c (ent p w r a) (tokT (r.1.length + 1) s)).heap.DictOfH (kT p w) d xs := Heap.DictOfH.notHere t1 t2 (fun e => hdc e.symm) (Heap.SameBut.update ..)
    refine DictOfH_set hdc rs (a + 2) (addT c (ent p w r a) (tokT (r.1.length + 1) s)) m4 m3 (KeysAt.same (s := tokT (r.1.length + 1) s) t2 k.2) ?_
    rw [List.map_append]
    exact nodup_shift nd
theorem display_ok (hu : A.units < cLine) {l1 l2 : List (Sem Value × Sem Value)} {x : Sem Value × Sem Value} {r1 r2 : List Row} {s : Shared} {Q : Value → Shared → Prop} (h1 : l1.length = 16) (h2 : l2.length ≤ 15) (h3 : l2 ≠ [])
    (p1 : PM p w (l1 ++ [x]) r1) (p2 : PM p w l2 r2) (nd : (r1.map (·.1) ++ r2.map (·.1)).Nodup) (hz : r1.length + r2.length ≤ sizeLine) (hsm : sysModules < s.heap.objs.size) (h : Q (.ref s.heap.objs.size) (XF p w r1 r2 s)) :
    wpAny (model p w) A (dictDisplay ((l1 ++ x :: l2).map fun q => (some q.1, q.2))) Q E s := by
  rw [disp l1 l2 x h1 (by omega) h3]
  have nd1 := (List.nodup_append.mp nd).1
  have nd2 := (List.nodup_append.mp nd).2.1
  refine wpAny_bind (sub_long hu p1 (by rw [List.length_append, h1]; simp) nd1 (by omega) fun xs m e => ?_)
  have hgrow : ∀ (rs : List Row) (d : Addr) (t : Shared), (rs.foldl (rowT p w d) t).heap.objs.size = t.heap.objs.size + 2 * rs.length := by
    intro rs
    induction rs with
    | nil => intro d t; rfl
    | cons r rs ih =>
      intro d t
      rw [List.foldl_cons, ih, size_rowT, List.length_cons]
      omega
  have hs0 : (newT s).heap.objs.size = s.heap.objs.size + 1 := by
    show (s.heap.push _).objs.size = _
    rw [Heap.objs_push, Array.size_push]
  generalize hc : (r1.foldl (rowT p w s.heap.objs.size) (newT s)).heap.objs.size = c at *
  have hcn : c = s.heap.objs.size + 1 + 2 * r1.length := by rw [← hc, hgrow, hs0]
  have hl1 : r1.length = 17 := by
    have := p1.length
    rw [List.length_append, h1] at this
    simpa using this.symm
  unfold sub2
  refine wpAny_bind (wpAny_holding (sub_short hu p2 h2 nd2 (by omega) ?_))
  rw [hc]
  intro mc
  have m0 : (r2.foldl pairT (newT (r1.foldl (rowT p w s.heap.objs.size) (newT s)))).heap.DictOfH (kT p w) s.heap.objs.size xs :=
    stay (h := (newT (r1.foldl (rowT p w s.heap.objs.size) (newT s))).heap) (stay m fun _ _ q => Heap.get?_push_of_some _ q) (keep_pairs r2 (newT (r1.foldl (rowT p w s.heap.objs.size) (newT s))))
  have mc0 : (r2.foldl pairT (newT (r1.foldl (rowT p w s.heap.objs.size) (newT s)))).heap.DictOfH (kT p w) c [] := by
    have := Heap.DictOfH.new (knd := kT p w) (r1.foldl (rowT p w s.heap.objs.size) (newT s)).heap
    rw [hc] at this
    exact stay (h := (newT (r1.foldl (rowT p w s.heap.objs.size) (newT s))).heap) this (keep_pairs r2 (newT (r1.foldl (rowT p w s.heap.objs.size) (newT s))))
  have kk := keys_pairs (p := p) (w := w) r2 (newT (r1.foldl (rowT p w s.heap.objs.size) (newT s)))
  rw [show (newT (r1.foldl (rowT p w s.heap.objs.size) (newT s))).heap.objs.size = c + 1 by
    show ((r1.foldl (rowT p w s.heap.objs.size) (newT s)).heap.push _).objs.size = _
    rw [Heap.objs_push, Array.size_push, hc]] at kk
  have n1 : ¬ ((c : Nat) = s.heap.objs.size) := by omega
  have n2 : ¬ ((c : Nat) = sysModules) := by
    intro q
    have h0 := hsm
    rw [← q, hcn] at h0
    exact absurd h0 (Nat.not_lt.mpr (show s.heap.objs.size ≤ s.heap.objs.size + 1 + 2 * r1.length by omega))
  have md := DictOfH_set (d := s.heap.objs.size) (c := c) (fun q => n1 q.symm) r2 (c + 1) _ m0 mc0 kk (by simpa using nd2)
  refine wpAny_bind (wpAny_onRaise (wpAny_holding (merge_ok hu (fun q => n1 q) (beq_eq_false_iff_ne.mpr n2) md ?_ mc (by rw [e]; exact nd) ?_ (wpAny_pure ?_))))
  · intro z
    rw [z] at e
    have := congrArg List.length e
    rw [List.length_map, List.length_map, hl1] at this
    simp at this
  · have := congrArg List.length e
    rw [List.length_map, List.length_map] at this
    omega
  · have : XF p w r1 r2 s = mrgT p w s.heap.objs.size (c + 1) r2 (setT p w c (c + 1) r2 (r2.foldl pairT (newT (r1.foldl (rowT p w s.heap.objs.size) (newT s))))) := by
      unfold XF
      rw [hc]
    rw [← this]
    exact h
end
end Hd

namespace Hd
open PySem PySem.W PySem.Calls PyProof.Rows
open Sem (wp)
/-! ### the statement that binds such a table -/
def strsC : List Expr → Option (List Str)
  | [] => some []
  | .Constant (.str x) _ _ :: r => match strsC r with
    | some l => some (x :: l)
    | none => none
  | _ => none
def rowsC : List (Option Expr) → List Expr → Option (List Row)
  | [], [] => some []
  | some (.Tuple es _ _) :: ks, .Tuple fs _ _ :: vs => match strsC es, strsC fs, rowsC ks vs with
    | some a, some b, some r => some ((a, b) :: r)
    | _, _, _ => none
  | _, _ => none
theorem areC_of : ∀ {es : List Expr} {ss : List Str}, strsC es = some ss → AreC es ss
  | [], ss, h => by
    cases h
    trivial
  | e :: r, ss, h => by
    unfold strsC at h
    split at h
    · rename_i he
      cases he
    · rename_i x k q r' he
      cases he
      split at h
      · rename_i l hl
        cases h
        exact ⟨rfl, areC_of hl⟩
      · cases h
    · cases h
def shortRows (rows : List Row) : Bool := rows.all fun r => Nat.ble r.1.length 100 && Nat.ble r.2.length 100
def nodB : List (List Str) → Bool
  | [] => true
  | x :: r => (r.all fun y => !decide (x = y)) && nodB r
theorem nodB_ok : ∀ {l : List (List Str)}, nodB l = true → l.Nodup
  | [], _ => List.nodup_nil
  | x :: r, h => by
    unfold nodB at h
    obtain ⟨h1, h2⟩ := Bool.and_eq_true_iff.mp h
    refine List.nodup_cons.mpr ⟨fun q => ?_, nodB_ok h2⟩
    have := List.all_eq_true.mp h1 x q
    simp at this
def okRows (rows : List Row) : Bool := Nat.beq rows.length 22 && (shortRows rows && nodB (rows.map (·.1)))
section
variable (p : Program) (w : World)
def xD (rows : List Row) : Sem Value := .load sysModules none fun _ => xDict p w (rows.take 17) (rows.drop 17)
def xStmt (st : Stmt) (env : Env) : Sem Flow := match st with
  | .Assign [.Name nm np] (.Dict keys values _) ap => match rowsC keys values with
    | some rows => match okRows rows with
      | true => do
        standAt ap
        let v ← xD p w rows
        assign (.Name nm np) env v
        pure .next
      | false => exec st env
    | none => exec st env
  | _ => exec st env
def thenF (x : Sem Flow) (y : Sem Flow) : Sem Flow := x.bind fun f => match f with
  | .next => y
  | f => .pure f
def modB (i : Nat) (st : Stmt) (b : List Stmt) (env : Env) : Sem Fin :=
  (blockStart b env).bind fun _ => ((thenF (execs (b.take i) env) (thenF (xStmt p w st env) (execs (b.drop (i + 1)) env))).onRaise (leaving env)).bind fun f => Sem.pure (Fin.done f)
end
/-- the pairs of a display's text -/
def pairsE (dp : Pos) (env : Env) : List (Option Expr) → List Expr → List (Sem Value × Sem Value)
  | some k :: ks, v :: vs => (eval k env, do let x ← eval v env; standAt dp; pure x) :: pairsE dp env ks vs
  | _, _ => []
section
variable {p : Program} {w : World}
theorem zip_pairs {dp : Pos} {env : Env} : ∀ {ks : List (Option Expr)} {vs : List Expr} {rows : List Row}, rowsC ks vs = some rows →
    (evalEachOpt ks env).zip ((evalEach vs env).map fun v => do let x ← v; standAt dp; pure x) = (pairsE dp env ks vs).map fun q => (some q.1, q.2)
  | [], [], _, _ => rfl
  | [], _ :: _, _, _ => rfl
  | none :: _, _, _, h => by
    unfold rowsC at h
    cases h
  | some e :: ks, [], _, h => by
    unfold rowsC at h
    split at h <;> simp_all
  | some e :: ks, v :: vs, rows, h => by
    unfold rowsC at h
    split at h
    · rename_i h1 _
      cases h1
    · rename_i es _ _ ks' fs _ _ vs' h1 h2
      cases h1
      cases h2
      split at h
      · rename_i a b r e1 e2 e3
        show (some (eval _ env), _) :: ((evalEachOpt ks env).zip ((evalEach vs env).map fun v => do let x ← v; standAt dp; pure x)) = _
        rw [zip_pairs e3]
        rfl
      · cases h
    · cases h
theorem pm_of {dp : Pos} {env : Env} (h100 : 100 ≤ sizeLine) : ∀ {ks : List (Option Expr)} {vs : List Expr} {rows : List Row}, rowsC ks vs = some rows → shortRows rows = true → PM p w (pairsE dp env ks vs) rows
  | [], [], _, h, _ => by
    cases h
    trivial
  | [], _ :: _, _, h, _ => by
    unfold rowsC at h
    cases h
  | none :: _, _, _, h, _ => by
    unfold rowsC at h
    cases h
  | some e :: ks, [], _, h, _ => by
    unfold rowsC at h
    split at h <;> simp_all
  | some e :: ks, v :: vs, rows, h, hs => by
    unfold rowsC at h
    split at h
    · rename_i h1 _
      cases h1
    · rename_i es _ _ ks' fs _ _ vs' h1 h2
      cases h1
      cases h2
      split at h
      · rename_i a b r e1 e2 e3
        cases h
        unfold shortRows at hs
        rw [List.all_cons, Bool.and_eq_true, Bool.and_eq_true] at hs
        refine ⟨?_, ?_, pm_of h100 e3 hs.2⟩
        · exact ev_tup (x1 := 0) (areC_of e1) (Nat.le_trans (Nat.le_of_ble_eq_true hs.1.1) h100)
        · exact ev_at (ev_tup (x1 := 0) (areC_of e2) (Nat.le_trans (Nat.le_of_ble_eq_true hs.1.2) h100))
      · cases h
    · cases h
theorem exec_form (nm : Str) (np : Pos) (keys : List (Option Expr)) (values : List Expr) (dp ap : Pos) (env : Env) : exec (.Assign [.Name nm np] (.Dict keys values dp) ap) env = (do
    standAt ap
    let v ← eval (.Dict keys values dp) env
    assign (.Name nm np) env v
    pure .next) := rfl
theorem execs_app (env : Env) (y : List Stmt) : ∀ x : List Stmt, execs (x ++ y) env = thenF (execs x env) (execs y env)
  | [] => rfl
  | s :: r => by
    show (exec s env).bind _ = ((exec s env).bind _).bind _
    rw [show ∀ {α β γ : Type} (m : Sem α) (f : α → Sem β) (g : β → Sem γ), (m.bind f).bind g = m.bind fun a => (f a).bind g from fun m f g => bind_assoc m f g]
    refine congrArg (fun z => (exec s env).bind z) (funext fun f => ?_)
    cases f with
    | next => exact execs_app env y r
    | _ => rfl
theorem execs_one (st : Stmt) (r : List Stmt) (env : Env) : execs (st :: r) env = thenF (exec st env) (execs r env) := by
  show (exec st env).bind _ = (exec st env).bind _
  refine congrArg (fun z => (exec st env).bind z) (funext fun f => ?_)
  cases f <;> rfl
variable {Γ : Ctx}
theorem wp_thenF {M : Model} {x x' y y' : Sem Flow} {E : Value → Pos → Shared → Prop} {Q : Flow → Pos → Shared → Prop} {q : Pos} {s : Shared}
    (hx : ∀ (Q : Flow → Pos → Shared → Prop), wp M Γ x Q E q s → wp M Γ x' Q E q s) (hy : ∀ q s, wp M Γ y Q E q s → wp M Γ y' Q E q s) (h : wp M Γ (thenF x y) Q E q s) : wp M Γ (thenF x' y') Q E q s := by
  unfold thenF at h ⊢
  rw [Sem.wp_bind] at h ⊢
  refine Sem.wp_mono M Γ x' (fun f p' s' k => ?_) (fun _ _ _ k => k) q s (hx _ h)
  cases f with
  | next => exact hy p' s' k
  | _ => exact k
theorem stmt_ok {nm : Str} {np dp ap : Pos} {keys : List (Option Expr)} {values : List Expr} {rows : List Row} {env : Env} (hu : Γ.units < cLine) (hr : rowsC keys values = some rows) (hok : okRows rows = true) (h100 : 100 ≤ sizeLine)
    {E : Value → Pos → Shared → Prop} {Q : Flow → Pos → Shared → Prop} {q : Pos} {s : Shared} (h : wp (model p w) Γ (xStmt p w (.Assign [.Name nm np] (.Dict keys values dp) ap) env) Q E q s) :
    wp (model p w) Γ (exec (.Assign [.Name nm np] (.Dict keys values dp) ap) env) Q E q s := by
  have e : xStmt p w (.Assign [.Name nm np] (.Dict keys values dp) ap) env = (do
      standAt ap
      let v ← xD p w rows
      assign (.Name nm np) env v
      pure .next) := by
    unfold xStmt
    simp only [hr, hok]
  rw [e] at h
  obtain ⟨h22', hok2⟩ := Bool.and_eq_true_iff.mp hok
  obtain ⟨hs, ndB⟩ := Bool.and_eq_true_iff.mp hok2
  have h22 : rows.length = 22 := Nat.eq_of_beq_eq_true h22'
  have nd := nodB_ok ndB
  rw [exec_form]
  rw [Sem.wp_bind'] at h ⊢
  refine Sem.wp_mono (model p w) Γ (standAt ap) (fun _ p1 s1 k => ?_) (fun _ _ _ k => k) q s h
  rw [Sem.wp_bind'] at k ⊢
  unfold xD at k
  rw [Sem.wp_load] at k
  obtain ⟨o, ho, k⟩ := k
  have k2 := wp_xDict k
  have len := (pm_of (p := p) (w := w) (dp := dp) (env := env) h100 hr hs).length
  rw [h22] at len
  have pm := pm_of (p := p) (w := w) (dp := dp) (env := env) h100 hr hs
  rw [arm_eval_Dict, zip_pairs hr]
  generalize hps : pairsE dp env keys values = ps at pm len
  obtain ⟨x, hx⟩ : ∃ x, ps[16]? = some x := ⟨_, List.getElem?_eq_getElem (by omega)⟩
  have hsplit : ps = ps.take 16 ++ x :: ps.drop 17 := by
    conv => lhs; rw [← List.take_append_drop 16 ps]
    rw [List.drop_eq_getElem_cons (by omega)]
    rw [List.getElem?_eq_getElem (by omega)] at hx
    cases hx
    rfl
  have pm1 : PM p w (ps.take 16 ++ [x]) (rows.take 17) ∧ PM p w (ps.drop 17) (rows.drop 17) := by
    have tk : ∀ (n : Nat) (ps : List (Sem Value × Sem Value)) (rs : List Row), PM p w ps rs → PM p w (ps.take n) (rs.take n) ∧ PM p w (ps.drop n) (rs.drop n) := by
      intro n
      induction n with
      | zero => intro ps rs m; exact ⟨by simp only [List.take_zero]; trivial, by simpa using m⟩
      | succ n ih =>
        intro ps rs m
        cases ps with
        | nil =>
          cases rs with
          | nil => exact ⟨trivial, trivial⟩
          | cons _ _ => exact m.elim
        | cons a ps =>
          cases rs with
          | nil => exact m.elim
          | cons r rs => exact ⟨⟨m.1, m.2.1, (ih ps rs m.2.2).1⟩, (ih ps rs m.2.2).2⟩
    have e17 : ps.take 17 = ps.take 16 ++ [x] := by rw [List.take_add_one, hx]; rfl
    rw [← e17]
    exact tk 17 ps rows pm
  rw [hsplit]
  have hA : Γ.In { handled := Γ.handled, depth := frameCount Γ.below + Γ.code.weight, units := Γ.units } := ⟨rfl, Nat.le_refl _, (fun l hl => by cases hl), (fun g hg => by cases hg), Nat.le_refl _⟩
  rw [Sem.wp_bind']
  have nd' : ((rows.take 17).map (·.1) ++ (rows.drop 17).map (·.1)).Nodup := by rw [← List.map_append, List.take_append_drop]; exact nd
  have disp := display_ok (p := p) (w := w) (A := { handled := Γ.handled, depth := frameCount Γ.below + Γ.code.weight, units := Γ.units }) (E := fun e s' => ∀ p', E e p' s') (s := s1)
    (Q := fun v s' => ∀ p', wp (model p w) Γ (do assign (.Name nm np) env v; pure .next) Q E p' s') hu (by rw [List.length_take]; omega) (by rw [List.length_drop]; omega) (fun z => by have := congrArg List.length z; rw [List.length_drop] at this; simp at this; omega)
    pm1.1 pm1.2 nd' (by rw [List.length_take, List.length_drop]; omega) (Heap.lt_size ho) (fun p' => ?_)
  · show wp (model p w) Γ (dictDisplay _) _ _ dp s1
    exact Sem.wp_mono (model p w) Γ _ (fun v p' s' k => k p') (fun e p' s' k => k p') dp s1 (disp Γ dp hA)
  · have k3 : wp (model p w) Γ (do assign (.Name nm np) env (.ref s1.heap.objs.size); pure .next) Q E p1 (XF p w (rows.take 17) (rows.drop 17) s1) := k2
    rw [arm_assign_Name] at k3 ⊢
    exact k3
theorem xStmt_ok (hu : Γ.units < cLine) {st : Stmt} {env : Env} {E : Value → Pos → Shared → Prop} {Q : Flow → Pos → Shared → Prop} {q : Pos} {s : Shared} (h : wp (model p w) Γ (xStmt p w st env) Q E q s) : wp (model p w) Γ (exec st env) Q E q s := by
  unfold xStmt at h
  split at h
  · rename_i nm np keys values dp ap
    split at h
    · rename_i rows hr
      split at h
      · rename_i hok
        refine stmt_ok hu hr hok (by decide) ?_
        unfold xStmt
        simp only [hr, hok]
        exact h
      · exact h
    · exact h
  · exact h
theorem stands (hu : Γ.units < cLine) {pos : Pos} {s : Shared} {i : Nat} {st : Stmt} {b : List Stmt} {env : Env} (hb : b[i]? = some st) : Stands p w Γ pos s (modB p w i st b env) (denote table (.body b env)) := by
  intro r s' hx
  have hw := (Sem.wp_iff_runs (model p w) Γ (modB p w i st b env) (fun r1 s1 => r1 = r ∧ s1 = s') pos s).mpr ⟨r, s', hx, rfl, rfl⟩
  have hsplit : b = b.take i ++ st :: b.drop (i + 1) := by
    obtain ⟨hi, e⟩ := List.getElem?_eq_some_iff.mp hb
    conv => lhs; rw [← List.take_append_drop i b]
    rw [List.drop_eq_getElem_cons hi, e]
  have hw2 : wp (model p w) Γ (denote table (.body b env)) (Sem.finPost (model p w) Γ fun r1 s1 => r1 = r ∧ s1 = s') (fun e _ s1 => Except.error e = r ∧ s1 = s') pos s := by
    show wp (model p w) Γ ((blockStart b env).bind fun _ => ((execs b env).onRaise (leaving env)).bind fun f => (Sem.pure (Fin.done f) : Sem Fin)) _ _ pos s
    unfold modB at hw
    rw [Sem.wp_bind] at hw ⊢
    refine Sem.wp_mono (model p w) Γ _ (fun _ p1 s1 k => ?_) (fun _ _ _ k => k) _ _ hw
    rw [Sem.wp_bind, Sem.wp_onRaise] at k ⊢
    rw [hsplit, execs_app, execs_one]
    rw [hsplit] at k
    refine wp_thenF (fun _ h => ?_) (fun q s h => wp_thenF (fun Q h => xStmt_ok hu h) (fun _ _ h => ?_) h) k
    · rw [← hsplit] at h
      exact h
    · rw [← hsplit] at h
      exact h
  obtain ⟨r1, s1, hr, e1, e2⟩ := (Sem.wp_iff_runs (model p w) Γ _ (fun r1 s1 => r1 = r ∧ s1 = s') pos s).mp hw2
  subst e1 e2
  exact hr
end
end Hd

namespace Hd
open PySem PySem.W PySem.Calls PyProof.Rows HandSHeadRun
/-- at the call of the top's body: its thread with the i-th statement exchanged -/
def modT (p : Program) (w : World) (i : Nat) (t : Thread) : Option Thread := match t.cur with
  | .call (.body b env) h g l k => match b[i]? with
    | some sm => some ⟨modB p w i sm b env, .body b env, t.pos, [.ret k h g l t.code t.pos []]⟩
    | none => none
  | _ => none
noncomputable def endX (st : SharedT → Thread → Option (SharedT × Thread)) (M : Nat) (p : Program) (w : World) (i : Nat) (os : OsState) : Option SharedT := match putAll (boot_heap w.params).objs.toList .nil 0 with
  | some (t, n) => frNat n fun n0 => match goB st n0 (bootAnn w) M (bootT w os (t, n0)) (topStub p) with
    | some (s1, t1) => match modT p w i t1 with
      | some t2 => goE st n0 (bootAnn w) M s1 t2
      | none => none
    | none => none
  | none => none
noncomputable abbrev bootS (w : World) (os : OsState) : Shared := ⟨boot_heap w.params, #[], boot_drawn, boot_toks, os⟩
section
variable {p : Program} {w : World}
theorem endX_ok {M i : Nat} {os : OsState} {s : SharedT} (h : endX (stepT (denote table) p w) M p w i os = some s) (hg : s.abs.gens = #[]) (z : (bootS w os).asleep) :
    (∃ n t, schedN (denote table) p w n (.single (bootS w os) (topStub p)) = .running (.single s.abs t) ∧ through t = true) ∧ s.abs.heap.life = (boot_heap w.params).life ∧ s.abs.os = os ∧
    ∀ b o, b < (boot_heap w.params).objs.size → b ≠ mainNs → b ≠ cStatics → bootAnn w ≠ some (.ref b) → (boot_heap w.params).get? b = some o → s.abs.heap.get? b = some o := by
  unfold endX at h
  cases e : putAll (boot_heap w.params).objs.toList .nil 0 with
  | none =>
    rw [e] at h
    cases h
  | some r =>
    obtain ⟨t, n⟩ := r
    rw [e] at h
    have h1 : (frNat n fun n0 => match goB (stepT (denote table) p w) n0 (bootAnn w) M (bootT w os (t, n0)) (topStub p) with
      | some (s1, t1) => match modT p w i t1 with
        | some t2 => goE (stepT (denote table) p w) n0 (bootAnn w) M s1 t2
        | none => none
      | none => none) = some s := h
    rw [frNat_eq] at h1
    have eh := putAll_heap e
    have en : (boot_heap w.params).objs.size = n := by
      rw [← eh]
      exact absHeap_size t n _
    have eb : (bootT w os (t, n)).abs = bootS w os := by
      show (⟨absHeap t n (boot_heap w.params).life, #[], boot_drawn, boot_toks, os⟩ : Shared) = _
      rw [eh]
    cases e1 : goB (stepT (denote table) p w) n (bootAnn w) M (bootT w os (t, n)) (topStub p) with
    | none =>
      rw [e1] at h1
      cases h1
    | some r =>
      obtain ⟨s1, t1⟩ := r
      rw [e1] at h1
      have h2 : (match modT p w i t1 with
        | some t2 => goE (stepT (denote table) p w) n (bootAnn w) M s1 t2
        | none => none) = some s := h1
      obtain ⟨g1, ab⟩ := goB_ok e1
      rw [eb] at g1
      obtain ⟨cur, code, pos, stack⟩ := t1
      cases cur with
      | call c hd gd l k =>
        cases c with
        | body b env =>
          have ab2 : (stack.isEmpty && ((⟨.call (.body b env) hd gd l k, code, pos, stack⟩ : Thread).calm && Nat.blt (Ctx.units ((⟨.body b env, none, none, [], none⟩ : Ctx).over [.ret k hd gd l code pos []])) cLine)) = true := ab
          obtain ⟨a1, a2⟩ := Bool.and_eq_true_iff.mp ab2
          obtain ⟨a2, a3⟩ := Bool.and_eq_true_iff.mp a2
          rw [List.isEmpty_iff] at a1
          subst a1
          have h3 : (match (match b[i]? with
            | some sm => some (⟨modB p w i sm b env, .body b env, pos, [.ret k hd gd l code pos []]⟩ : Thread)
            | none => none) with
            | some t2 => goE (stepT (denote table) p w) n (bootAnn w) M s1 t2
            | none => none) = some s := h2
          cases eb2 : b[i]? with
          | none =>
            rw [eb2] at h3
            cases h3
          | some sm =>
            rw [eb2] at h3
            obtain ⟨tE, g2, th, hc⟩ := goE_ok (show goE (stepT (denote table) p w) n (bootAnn w) M s1 ⟨modB p w i sm b env, .body b env, pos, [.ret k hd gd l code pos []]⟩ = some s from h3)
            refine ⟨top_of_mod g1 g2 th hc hg z (stands (Nat.le_of_ble_eq_true a3) eb2), g2.life.trans g1.life, g2.os.trans g1.os, fun b' o h1 h2 h3 h4 h5 => ?_⟩
            rw [en] at h1
            exact g2.frame b' o h1 h2 h3 h4 (g1.frame b' o h1 h2 h3 h4 h5)
        | _ => cases ab
      | _ => cases ab
/-- what stands behind the opening, at a world -/
def BehX (p q : Program) (loose : List Str) (XP : (Str → Option Value) → Heap → Prop) {α : Type} (Yf : Shared → α) (Ya : World → α) (w : World) : Prop :=
  (∃ s, AfterRun (opening p) w s) ∧ ∀ s, AfterRun (opening p) w s → ∃ s₀, fenceModules? p s = some s₀ ∧ s₀.gens = #[] ∧ ∃ s₁, TopRan p w s₀ s₁ ∧ s₁.asleep ∧ (s₁.gens.size == 0) = true ∧ s₁.heap.isNs mainGlobals = true ∧
    Ground q loose [] XP w s₁ (s₁.heap.nsMap mainGlobals) (s₁.heap.nsMap builtinsNs) s₁.heap ∧ Yf s₁ = Ya w
theorem behX {q : Program} {loose : List Str} {Xt : Shared → Bool} {XP : (Str → Option Value) → Heap → Prop} {α : Type} {Yf : Shared → α} {Ya : World → α} {M i : Nat} (e : opening p = plainProg p.main.scope.names) (f : ∀ s, fenceModules? p s = some s)
    (hX : ∀ s, Xt s = true → XP (s.heap.nsMap mainGlobals) s.heap) (hch : chainsOk q = true)
    (run : ∀ os : OsState, (endX (stepT (denote table) p w) M p w i os).map (fun s => (looksF p (boot_heap w.params) s.abs, openSeen q loose (importedModules p.main.body) Xt true s.abs, Yf s.abs)) = some (true, openGood q loose, Ya w)) : BehX p q loose XP Yf Ya w := by
  obtain ⟨s0, hs0, hv⟩ := Option.map_eq_some_iff.mp (boot_open (N := 600) e rfl f w)
  obtain ⟨hp, gs, d, k, os⟩ := s0
  obtain ⟨rfl, rfl, rfl, rfl⟩ : hp = boot_heap w.params ∧ gs = Array.mk [] ∧ d = boot_drawn ∧ k = boot_toks := by simpa using hv
  unfold fencedOpening at hs0
  rw [← table_eq_tree] at hs0
  obtain ⟨sA, h4, h5⟩ := Option.bind_eq_some_iff.mp hs0
  have A := AfterImport.of_importEnds h4
  refine ⟨⟨sA, A⟩, fun s' hs' => ?_⟩
  have eA : s' = sA := AfterImport.unique hs' A
  subst eA
  have z : (bootS w os).asleep := Shared.asleep_of_life (fence_lifeW h5) A.life
  obtain ⟨sE, hsE, hvE⟩ := Option.map_eq_some_iff.mp (run os)
  obtain ⟨l1, l23⟩ := Prod.mk.inj hvE
  obtain ⟨l2, l3⟩ := Prod.mk.inj l23
  obtain ⟨G, g1, g2, g3, g4, g5, g6⟩ := ground_of_open (w := w) hX hch l2
  have hg : sE.abs.gens = #[] := Array.eq_empty_of_size_eq_zero (beq_iff_eq.mp (by simpa using g1))
  obtain ⟨a, l, hos, fr⟩ := endX_ok hsE hg z
  unfold looksF at l1
  obtain ⟨l1, hlk⟩ := Bool.and_eq_true_iff.mp l1
  obtain ⟨l1, hgd⟩ := Bool.and_eq_true_iff.mp l1
  obtain ⟨hst, hnb⟩ := Bool.and_eq_true_iff.mp l1
  have nsB : (bootS w os).heap.isNs mainGlobals = true := boot_ns w.params
  refine ⟨bootS w os, h5, rfl, sE.abs, ?_, Shared.asleep_of_life l z, by simpa using g1, g2, G, l3⟩
  exact ⟨a, l, Shared.rest_eq hos, fun b o hb hn => fr b o (Heap.lt_size hb) (fun q => hn (.inl q)) (fun q => hn (.inr (.inl q))) (fun q => hn (.inr (.inr ((Pin.globalOf_eq nsB _).trans q)))) hb,
    g3, statics_of_ok hst, g4, g5, g6, gens_of_done hgd, names_of_bound hnb, laid_of_kept hlk⟩
end
end Hd

namespace Hd
open PySem PySem.W PySem.Calls PyProof.Rows HandSHeadRun
/-- the tree that a claim's caller runs -/
def callTree (name : Str) (vs : List Value) : Sem Fin := do
  match ← nsGet mainNs name with
  | some f => do ret (← PySem.call f vs)
  | none => unsupported "claim.caller:no-such-global"
section
variable {r : OpenRow} {q : Program} {loose : List Str} {XP : (Str → Option Value) → Heap → Prop} {YP : World → Heap → Prop} {α : Type} {Yf : Shared → α} {Ya : World → α} {d : DefRec} {kwd : List (Str × Expr)}
theorem holdsX (beh : ∀ w, BehX r.prog q loose (fun mg h => XP mg h ∧ RecFacts r.records h) Yf Ya w) (hY : ∀ w s, Yf s = Ya w → YP w s.heap)
    (hYk : ∀ w h h', YP w h → (∀ b o, h.get? b = some o → h'.get? b = some o) → YP w h') (hXk : ∀ mg h h', XP mg h → (∀ b o, h.get? b = some o → h'.get? b = some o) → XP mg h')
    (hdef : defOf q r.name = some (d, kwd)) (hp : r.prog.theDef r.name = some (d.params, d.body, d.scope)) (hk : kwWritten? d.params.kwonlyargs d.params.kw_defaults = some kwd) (hwr : (!r.writes || r.records.isEmpty) = true) (k1 : r.wellSaid = true)
    (ok : (chainsOk q && opensWell r.prog && (frees r.toRowW && r.within.isEmpty)) = true) (hb : r.prog.bare) (hw : r.toRowW.promised) (walk : WalkO q loose XP YP r.toRowW d kwd fun f vs => PySem.call f vs) : r.Holds := by
  obtain ⟨ok1, hfr⟩ := Bool.and_eq_true_iff.mp ok
  have hop := (Bool.and_eq_true_iff.mp ok1).2
  obtain ⟨hfrees, hin0⟩ := Bool.and_eq_true_iff.mp hfr
  obtain ⟨hsame, hu, ha, hap, hm⟩ := frees_parts hfrees
  have hwi : r.toRowW.claim.within = [] := List.isEmpty_iff.mp hin0
  have hi := ident_freeW hu ha hap
  refine ⟨k1, hw, ⟨hb, hop, by show r.toRowW.makers.map _ = []; rw [hm]; rfl⟩, hw.witness, fun w => ⟨(beh w).1, fun s' hs' => ?_⟩⟩
  obtain ⟨s₀, hf, hg0, s, hT, hz, hgens, hg, GX, y⟩ := (beh w).2 s' hs'
  have RF : RecFacts r.records s.heap := GX.X.2
  have G0 : Ground q loose [] XP w s (s.heap.nsMap mainGlobals) (s.heap.nsMap builtinsNs) s.heap :=
    { T := GX.T, B := GX.B, D := GX.D, TE := GX.TE, TD := GX.TD, W := GX.W, X := GX.X.1, cls := GX.cls, has := GX.has, apart := GX.apart, once := GX.once, K := GX.K }
  have G : Ground q loose r.toRowW.records XP w s _ _ s.heap := RF.ground G0
  have hgn : s.gens = #[] := Array.eq_empty_of_size_eq_zero (beq_iff_eq.mp hgens)
  refine ⟨s₀, hf, hg0, s, hT, fun n hn => ?_, RF.1, RF.2.1, ClaimW.callFrom_of_specG (c := r.toRowW.claim) (tree := callTree r.name) hz hgn fun args hpre hlay ord hord => ?_⟩
  · have en : n = r.name := by split at hn <;> simp_all
    subst en
    exact pinned_of_view hg G0 hdef hp hk
  obtain ⟨⟨vs, s₁⟩, hlaid⟩ := Option.isSome_iff_exists.mp (layAllW_isSome (P := w.params) (ord := ord) G.has args r.toRowW.args s (pre_splitW hpre).1)
  have keeps := layAllW_keeps _ _ _ hlaid
  have rest := layAllW_rest _ _ _ hlaid
  obtain ⟨as, hrd, hin, hold⟩ := reads_layAllW hord _ _ _ hlaid hlay s₁.heap (fun _ _ e => e)
  have L : Laid r.toRowW.records w s s₁ args vs as := ⟨⟨ord, hord, hlaid⟩, hrd, hin, hold, keeps, rest.1.trans hgn, rest.2.2.1⟩
  have G₁ := G.keeps hXk keeps
  obtain ⟨a, o, pm, cd, doc, dV, kV, h1, h2, h3, h4, h5⟩ := G₁.fn hdef
  have body := walk w s s₁ _ _ G₁ (hYk _ _ _ (hY w s y) keeps) a o pm cd doc dV kV h2 h3 h4 h5 (defOf_name hdef ▸ h1) L.gens args vs as hpre hlay L.reads L.well (L.low G.low)
  refine ⟨vs, s₁, hlaid, ?_⟩
  unfold callTree
  refine wpAny_bind (wpAny_nsGet G₁.T.g ?_)
  rw [h1]
  refine wpAny_bind (wpAny_mono body (fun v s2 g => ?_) fun e s2 g => ?_)
  · have zz := g.laid (c := r.toRowW.claim) hsame hwi hi L
    exact wpAny_pure ⟨_, rfl, zz.1, zz.2.1, zz.2.2, fun q => ⟨namesKept_of hT hg _ keeps g.2.1.old, noTable hwr q⟩⟩
  · have zz := g.laid (c := r.toRowW.claim) hsame hwi hi L
    exact ⟨zz.1, zz.2.1, zz.2.2, fun q => ⟨namesKept_of hT hg _ keeps g.2.1.old, noTable hwr q⟩⟩
end
end Hd

namespace Hd
open PySem PySem.W PySem.Calls PyProof.Rows HandSHeadRun
/-- the run's equation at a world: q the view of the top, i the place of the table's statement, ob what the Hook looks at, M a bound of the top's steps -/
def RunX (r : OpenRow) (q : Program) (H : Hook) (ob : SharedT → H.α) (M i : Nat) (loose : List PySem.Str) (w : World) : Prop :=
  ∀ os : OsState, (endX (stepQ (denQ tabQ) r.prog w) M r.prog w i os).map (fun s => (looksF r.prog (boot_heap w.params) s.abs, seenQ q loose (importedModules r.prog.main.body) (fun s => xlAt q [] s && recOk r.toRowW.records s) s.abs, ob s)) = some (true, openGood q loose, H.val w)
theorem head_X {r : OpenRow} {q : Program} {H : Hook} {ob : SharedT → H.α} {M i : Nat} {loose : List PySem.Str} {d : DefRec} {kwd : List (PySem.Str × PySem.Expr)} (ho : ∀ s : SharedT, ob s = H.obs s.abs)
    (e : opening r.prog = plainProg r.prog.main.scope.names) (f : ∀ s, fenceModules? r.prog s = some s) (run : ∀ w, RunX r q H ob M i loose w)
    (hdef : defOf q r.name = some (d, kwd)) (hp : r.prog.theDef r.name = some (d.params, d.body, d.scope)) (hk : kwWritten? d.params.kwonlyargs d.params.kw_defaults = some kwd)
    (hwr : (!r.writes || r.records.isEmpty) = true) (k1 : r.wellSaid = true) (ok : (chainsOk q && opensWell r.prog && (frees r.toRowW && r.within.isEmpty)) = true) (hb : r.prog.bare) (hw : r.toRowW.promised)
    (walk : WalkO q loose (XL q []) H.says r.toRowW d kwd fun f vs => PySem.call f vs) : r.Holds := by
  have hch : chainsOk q = true := (Bool.and_eq_true_iff.mp (Bool.and_eq_true_iff.mp ok).1).1
  refine holdsX (XP := XL q []) (YP := H.says) (Yf := H.obs) (Ya := H.val) (fun w => ?_) H.of H.keeps XL.keeps hdef hp hk hwr k1 ok hb hw walk
  refine behX (M := M) (i := i) (Xt := fun s => xlAt q [] s && recOk r.toRowW.records s) e f (fun s z => ⟨xl_of s (Bool.and_eq_true_iff.mp z).1, recFacts_of (Bool.and_eq_true_iff.mp z).2⟩) hch fun os => ?_
  have z := run w os
  have eo : ob = fun s => H.obs s.abs := funext ho
  rw [eo] at z
  rw [table_eq_tree, stepQ_eq, denQ_eq, tabQ_eq]
  simp only [seenQ_eq]
  exact z
end Hd

/-! ### facts of the heap behind the top, looked at by the kernel -/
namespace Hf
open PySem PySem.Spec PyProof.Rows L2
/-- the heap as a part that is written out -/
def heapK (g : Addr → Option Obj) : Nat → PySem.W.Frag → PySem.W.Frag
  | 0, acc => acc
  | n + 1, acc => match g n with
    | some o => heapK g n ((n, o) :: acc)
    | none => heapK g n acc
def heapC {α : Type} (g : Addr → Option Obj) : Nat → PySem.W.Frag → (PySem.W.Frag → α) → α
  | 0, acc, k => k acc
  | n + 1, acc, k => match g n with
    | some o => heapC g n ((n, o) :: acc) k
    | none => heapC g n acc k
theorem heapC_eq {α : Type} (g : Addr → Option Obj) (k : PySem.W.Frag → α) : ∀ (n : Nat) (acc : PySem.W.Frag), heapC g n acc k = k (heapK g n acc)
  | 0, _ => rfl
  | n + 1, acc => by
    unfold heapC heapK
    cases g n with
    | some o => exact heapC_eq g k n _
    | none => exact heapC_eq g k n _
theorem heapK_mem {g : Addr → Option Obj} : ∀ {n : Nat} {acc : PySem.W.Frag}, (∀ q ∈ acc, g q.1 = some q.2) → ∀ q ∈ heapK g n acc, g q.1 = some q.2
  | 0, _, h => h
  | n + 1, acc, h => by
    unfold heapK
    cases e : g n with
    | some o =>
      refine heapK_mem fun q hq => ?_
      rcases List.mem_cons.mp hq with z | z
      · rw [z]
        exact e
      · exact h q z
    | none => exact heapK_mem h
theorem heapK_in {h : Heap} (n : Nat) : PySem.W.Frag.In (heapK h.get? n []) h := fun a o e => heapK_mem (g := h.get?) (acc := []) (fun q hq => by cases hq) (a, o) (He.lookup_mem e)
/-- what is looked at is any datum of that part -/
def hookF {τ : Type} (T : PySem.W.Frag → τ) (tv : World → τ) : PySem.W.Hook where
  α := τ
  obs := fun s => heapC s.heap.get? s.heap.objs.size [] T
  val := tv
  says := fun w h => ∃ K : PySem.W.Frag, K.In h ∧ T K = tv w
  of := fun w s e => ⟨heapK s.heap.get? s.heap.objs.size [], heapK_in _, (heapC_eq _ T _ _).symm.trans e⟩
  keeps := fun _ _ _ ⟨K, hK, c⟩ k => ⟨K, PySem.W.Frag.In.keeps hK k, c⟩
def obF {τ : Type} (T : PySem.W.Frag → τ) (s : PySem.W.SharedT) : τ := heapC (HandSHeadRun.getT s) s.n [] T
theorem obF_eq {τ : Type} (T : PySem.W.Frag → τ) (tv : World → τ) (s : PySem.W.SharedT) : obF T s = (hookF T tv).obs s.abs := by
  have e : HandSHeadRun.getT s = s.abs.heap.get? := funext fun a => HandSHeadRun.getT_eq s a
  have n : s.abs.heap.objs.size = s.n := PySem.W.absHeap_size _ _ _
  show heapC (HandSHeadRun.getT s) s.n [] T = heapC s.abs.heap.get? s.abs.heap.objs.size [] T
  rw [e, n]
/-! ### defs -/
/-- one def: where it stands, its name, qualified name, parameters, body, scope; cl: what it closes over -/
structure FD where
  at_ : PySem.W.Frag → Addr
  name : Str
  qual : Str
  params : Arguments
  body : List Stmt
  scope : Scope
  cl : List Str := []
abbrev FV : Type := Option (Str × Str × Arguments × FuncBody × Scope × Addr × List Str × Value × Addr)
def fnV (K : PySem.W.Frag) (f : Addr) : FV := match K.lookup f with
  | some ⟨_, _, .func fd, _⟩ => some (fd.name, fd.qualname, fd.params, fd.body, fd.scope, fd.globals, fd.closure.map (·.1), fd.defaults, fd.builtins)
  | _ => none
def FD.val (d : FD) : FV := some (d.name, d.qual, d.params, .stmts d.body, d.scope, mainGlobals, d.cl, .none, builtinsNs)
def FD.codeB (d : FD) (K : PySem.W.Frag) : Bool := match K.lookup (d.at_ K) with
  | some ⟨_, _, .func fd, _⟩ => PySem.W.codeIn K fd.code d.qual && PySem.W.keepIn K (.ref (d.at_ K))
  | _ => false
section
variable {K : PySem.W.Frag}
theorem FD.ok {d : FD} (e : fnV K (d.at_ K) = d.val) (c : d.codeB K = true) (hc : d.cl = []) :
    ∃ oc od sl kV dc pm an cd ct, K.lookup (d.at_ K) = some ⟨oc, od, .func (PySem.W.fnOf d.name d.qual d.params d.body d.scope .none kV dc pm an cd ct), sl⟩ ∧ PySem.W.codeIn K cd d.qual = true ∧ PySem.W.keepIn K (.ref (d.at_ K)) = true := by
  unfold FD.codeB at c
  unfold fnV at e
  cases q : K.lookup (d.at_ K) with
  | none =>
    rw [q] at c
    cases c
  | some o =>
    obtain ⟨oc, od, dt, osl⟩ := o
    rw [q] at c e
    cases dt with
    | func fd =>
      obtain ⟨n1, n2, n3, n4, n5, n6, n7, n8, n9, n10, n11, n12, n13, n14, n15⟩ := fd
      have e2 : (some (n1, n2, n3, n4, n5, n6, n7.map (·.1), n8, n15) : FV) = some (d.name, d.qual, d.params, .stmts d.body, d.scope, mainGlobals, d.cl, .none, builtinsNs) := e
      simp only [Option.some.injEq, Prod.mk.injEq] at e2
      obtain ⟨h1, h2, h3, h4, h5, h6, h7, h8, h9⟩ := e2
      rw [hc, List.map_eq_nil_iff] at h7
      subst h1 h2 h3 h4 h5 h6 h7 h8 h9
      obtain ⟨c1, c2⟩ := Bool.and_eq_true_iff.mp c
      exact ⟨oc, od, osl, n9, n10, n11, n12, n13, n14, rfl, c1, c2⟩
    | _ => cases c
def ccOf (K : PySem.W.Frag) (f : Addr) : Addr := match K.lookup f with
  | some ⟨_, _, .func fd, _⟩ => (match fd.closure with
    | (_, c) :: _ => c
    | [] => 0)
  | _ => 0
def cdOf (K : PySem.W.Frag) (f : Addr) : Addr := match K.lookup f with
  | some ⟨_, _, .func fd, _⟩ => (match fd.code with
    | .ref c => c
    | _ => 0)
  | _ => 0
theorem FD.okS {d : FD} (e : fnV K (d.at_ K) = d.val) (c : d.codeB K = true) (hc : d.cl = ([("__class__" : Str)] : List Str)) :
    ∃ oc od sl kV dc pm an ct, K.lookup (d.at_ K) = some ⟨oc, od, .func (PySem.W.ksFn d.name d.qual d.params d.body d.scope .none kV dc pm an (.ref (cdOf K (d.at_ K))) ct (ccOf K (d.at_ K))), sl⟩ ∧ PySem.W.codeIn K (.ref (cdOf K (d.at_ K))) d.qual = true := by
  unfold FD.codeB at c
  unfold fnV at e
  cases q : K.lookup (d.at_ K) with
  | none =>
    rw [q] at c
    cases c
  | some o =>
    obtain ⟨oc, od, dt, osl⟩ := o
    rw [q] at c e
    cases dt with
    | func fd =>
      obtain ⟨n1, n2, n3, n4, n5, n6, n7, n8, n9, n10, n11, n12, n13, n14, n15⟩ := fd
      have e2 : (some (n1, n2, n3, n4, n5, n6, n7.map (·.1), n8, n15) : FV) = some (d.name, d.qual, d.params, .stmts d.body, d.scope, mainGlobals, d.cl, .none, builtinsNs) := e
      simp only [Option.some.injEq, Prod.mk.injEq] at e2
      obtain ⟨h1, h2, h3, h4, h5, h6, h7, h8, h9⟩ := e2
      rw [hc] at h7
      obtain ⟨c1, c2⟩ := Bool.and_eq_true_iff.mp c
      cases n7 with
      | nil => cases h7
      | cons x r =>
        obtain ⟨xn, xa⟩ := x
        cases r with
        | cons _ _ => cases h7
        | nil =>
          have hx : xn = ("__class__" : Str) := by injection h7
          have hcd : n13 = .ref (cdOf K (d.at_ K)) := by
            have c1' : PySem.W.codeIn K n13 d.qual = true := c1
            unfold cdOf
            rw [q]
            cases n13 with
            | ref c0 => rfl
            | _ => cases c1'
          have hcc : xa = ccOf K (d.at_ K) := by
            unfold ccOf
            rw [q]
          subst hx h1 h2 h3 h4 h5 h6 h8 h9
          refine ⟨oc, od, osl, n9, n10, n11, n12, n14, ?_, ?_⟩
          · rw [← hcd, ← hcc]
          · rw [← hcd]
            exact c1
    | _ => cases c
end
end Hf

/-! ## An own error's __init__ that begins with super().__init__(..), as a def of the hand layer -/
namespace Su
open PySem PySem.Spec PyProof.Rows L2
section
variable {P : Program} {w : World} {K : PySem.W.Frag} {mg : Str → Option Value} {base : Heap}
/-- the written part's word on the class at C, whose __init__ at f closes over the cell cc; its code at cda -/
structure Sup (P : Program) (K : PySem.W.Frag) (C cc cda : Addr) : Prop where
  ex : OexC K C
  up : PySem.W.ks_superIn K C C "__init__" = some (some (.builtin "ValueError.__init__"))
  noAny : PySem.W.nsIn K cStatics "thirdparty.any" = some none
  isV : PySem.W.subIn K (.ref C) (.type "ValueError") = some true
  cell : ∃ (cl : Value) (cld : Option Addr) (csl : Array (Option Value)), K.lookup cc = some ⟨cl, cld, .cell (some (.ref C)), csl⟩
  own : PySem.W.mroIn K C (.ref C) = some true
  plain : PySem.W.nsIn K mainGlobals "super" = some none
  code : ∃ (ccl : Value) (cdd : Option Addr) (vs : Array Value) (ccs : Array (Option Value)) (file : Str) (tf : Tok), K.lookup cda = some ⟨ccl, cdd, .fields vs, ccs⟩ ∧ vs[2]? = some (.str file tf) ∧ ((P.main.file : Str) == file) = true
  top : (P.main.scope.names.lookup ("super" : Str)).isSome = false
structure Scp (ps : List Str) (sc : Scope) : Prop where
  kind : sc.kind = .function
  co : sc.isCoroutine = false
  gen : sc.isGenerator = false
  nd : ps.Nodup
  par : ∀ x ∈ ps, sc.names.lookup x = some .local
  free : ∀ y ∈ sc.names, y.2 = .free → y.1 = "__class__"
  nocell : ∀ y ∈ sc.names, y.2 ≠ .cell
  sup : sc.names.lookup ("super" : Str) = some .globalImplicit
  kc : sc.names.lookup ("__class__" : Str) = some .free
def envS (qual : Str) (scope : Scope) (L f cda cc : Addr) : Env := PySem.W.ksEnv qual scope L f (.ref cda) cc
def cxS (P : Program) (w : World) (K : PySem.W.Frag) (mg : Str → Option Value) (base : Heap) (ps : List Str) (qual : Str) (scope : Scope) (f cda cc : Addr) (A : Around) (outer : List Env) (s : Shared) (H : Hp) : Cx where
  prog := P
  w := w
  K := K
  mg := mg
  base := base
  A := A.deeper (envS qual scope s.heap.objs.size f cda cc)
  N := ps
  s_0 := s
  H_0 := H
  env := envS qual scope s.heap.objs.size f cda cc
  outer := outer
  stack := envS qual scope s.heap.objs.size f cda cc :: outer
  ex := []
  fn := fun x => x != "__class__"
  calm := true
  pn := []
  xe := fun e s' => wpAny (model P w) (A.deeper (envS qual scope s.heap.objs.size f cda cc)) (leaving (envS qual scope s.heap.objs.size f cda cc) e) (fun _ _ => False) (fun _ _ => False) s'
theorem look_zip : ∀ {ps : List Str} {us : List Value} {i : Nat} {x : Str} {u : Value}, ps.Nodup → ps[i]? = some x → us[i]? = some u → (ps.zip us).reverse.lookup x = some u := by
  intro ps us i x u nd hp hu
  have key : ∀ (l : List (Str × Value)), (∀ p ∈ l, p.1 = x → p.2 = u) → (x, u) ∈ l → l.lookup x = some u := by
    intro l
    induction l with
    | nil => intro _ h; cases h
    | cons p l ih =>
      intro h1 h2
      obtain ⟨a, b⟩ := p
      by_cases e : x = a
      · subst e
        have := h1 (x, b) List.mem_cons_self rfl
        simp only at this
        rw [this]
        simp [List.lookup]
      · have e' : (x == a) = false := by simpa using e
        rw [show ((a, b) :: l).lookup x = l.lookup x by simp [List.lookup, e']]
        refine ih (fun p hp' => h1 p (List.mem_cons_of_mem _ hp')) ?_
        rcases List.mem_cons.mp h2 with z | z
        · cases z
          exact absurd rfl e
        · exact z
  refine key _ (fun p hp' hx => ?_) ?_
  · have hm := List.mem_reverse.mp hp'
    obtain ⟨j, hj⟩ := List.getElem?_of_mem hm
    obtain ⟨a, b⟩ := p
    have h1 := List.getElem?_zip_eq_some.mp hj
    simp only at h1 hx
    subst hx
    have hi : i < ps.length := (List.getElem?_eq_some_iff.mp hp).1
    have ij : j = i := by
      exact nodup_ix nd h1.1 hp
    subst ij
    rw [hu] at h1
    exact (Option.some.inj h1.2).symm
  · refine List.mem_reverse.mpr (List.mem_of_getElem? (i := i) ?_)
    exact List.getElem?_zip_eq_some.mpr ⟨hp, hu⟩
theorem inv_sup {ps : List Str} {qual : Str} {scope : Scope} {f cda cc C : Addr} {A : Around} {outer : List Env} {s : Shared} {H : Hp} {h1 : Heap} {us : List Value} {vs : List V} {tk : Nat} (S : Scp ps scope) (T : Sup P K C cc cda) (hd : A.handled = none)
    (e0 : Env0 P w K mg base A outer s H) (hl : vs.length = ps.length) (r : Vals vs us) (hns : h1.Ns s.heap.objs.size (fun x => (ps.zip us).reverse.lookup x)) (hk : ∀ b o, s.heap.get? b = some o → h1.get? b = some o) :
    Inv (cxS P w K mg base ps qual scope f cda cc A outer s H) [] (vs.map some) H { s with heap := h1, toks := tk } := by
  have none_in : ∀ b : Addr, b ∉ (cxS P w K mg base ps qual scope f cda cc A outer s H).ex := fun b z => by
    have z' : b ∈ ([] : List Addr) := z
    cases z'
  have one : ∀ {x : Str} {c : Addr}, (envS qual scope s.heap.objs.size f cda cc).cells.lookup x = some c → x = "__class__" ∧ c = cc := by
    intro x c h
    have h' : ([("__class__", cc)] : List (Str × Addr)).lookup x = some c := h
    by_cases e : x = "__class__"
    · subst e
      have : (some cc : Option Addr) = some c := by simpa [List.lookup] using h'
      exact ⟨rfl, (Option.some.inj this).symm⟩
    · have e' : (x == ("__class__" : Str)) = false := by simpa using e
      rw [show ([("__class__", cc)] : List (Str × Addr)).lookup x = none by simp [List.lookup, e']] at h'
      cases h'
  obtain ⟨cl, cld, csl, lcc⟩ := T.cell
  have kcc := e0.mod.kin cc _ lcc
  have hcc := e0.bs cc _ kcc
  have ltc : cc < s.heap.objs.size := Heap.lt_size hcc.1
  refine { ok := ?_, os := rfl, bare := e0.bare, base := Un.kept hk, loc := ⟨_, hns, fun i x v a b c => ?_⟩, cell := fun x c h => ?_, free := e0.hok.fresh (Nat.le_refl _), freeC := fun x c h => ?_, pin := fun p hp => ?_, hok := e0.hok.kept hk, len := ?_ }
  · refine { mod := e0.mod, kind := S.kind, glob := rfl, blt := rfl, above := Nat.le_refl _, inj := fun x y c a b => ?_, has := fun x h => ?_, cab := fun x c a b => ?_, hd := fun _ => hd, frames := Around.frames_deeper e0.frames, stk := .inr ⟨rfl, rfl⟩, exf := fun b z => absurd z (none_in b), bs := e0.bs, bsz := e0.bsz, noex := fun b _ _ => none_in b, exfs := fun b z => absurd z (none_in b), funs := e0.funs, frf := e0.frf }
    · rw [(one a).1, (one b).1]
    · have h' : scope.names.lookup x = some .cell ∨ scope.names.lookup x = some .free := h
      rcases h' with q | q
      · exact absurd rfl (S.nocell _ (PySem.mem_of_lookup q))
      · have : x = "__class__" := S.free _ (PySem.mem_of_lookup q) rfl
        subst this
        exact ⟨cc, by show ([(("__class__" : Str), cc)] : List (Str × Addr)).lookup ("__class__" : Str) = some cc; simp [List.lookup]⟩
    · have a' : (x != "__class__") = true := a
      rw [(one b).1] at a'
      simp at a'
  · have hi : ps[i]? = some x := a
    rw [List.getElem?_map] at b
    cases q : vs[i]? with
    | none => rw [q] at b; cases b
    | some y =>
      rw [q] at b
      cases b
      obtain ⟨u, hu, rv⟩ := r.get q
      exact ⟨u, rv, .inl ⟨S.par x (List.mem_of_getElem? hi), look_zip S.nd hi hu⟩⟩
  · rw [(one h).2]
    exact ⟨some (.ref C), _, hk _ _ hcc.1, rfl⟩
  · rw [(one h).2]
    exact hcc.2
  · have hp' : p ∈ ([] : List (Addr × Obj)) := hp
    cases hp'
  · rw [List.length_map]
    exact hl
/-- ValueError.__init__ bound to an error that is being made -/
theorem init_bound {X : Cx} {pins : List (Addr × Obj)} {σ : L2.St} {H : Hp} {s : Shared} {a u C : Addr} {us : List Value} {Q : Value → Shared → Prop} {E : Value → Shared → Prop} {A : Around} (T : OexC X.K C) (I : Inv X pins σ H s) (ea : H a = some (exo a C none))
    (hu : s.heap.get? u = some (PySem.W.kxs_mw "ValueError.__init__" a)) (fit : us.length ≤ sizeLine) (q : ∀ s', Inv X pins σ H s' → Q .none s') : wpAny (model X.prog X.w) A (call (.ref u) us) Q E s := by
  obtain ⟨nm, qn, N, bs, bm, sn, sub, ab, col, dd, k0, k1, k2, k3, k5, hC, hbm⟩ := T.cls
  have hC' := I.kIn _ _ hC
  obtain ⟨t1, ho⟩ := exo_at I.hok ea
  obtain ⟨hp, g, d, tk, os⟩ := s
  apply wpAny_call
  apply codeAny_of_tree
  change wpAny _ A.in1 (callAny (.ref u) ⟨us, []⟩) _ _ _
  unfold callAny
  apply wpAny_bind
  refine wpAny_load hu ?_
  have is1 : (Value.type "method-wrapper" == Value.type "method" || (Value.type "method-wrapper" == Value.type "builtin_function_or_method" || Value.type "method-wrapper" == Value.type "method-wrapper")) = true := by decide
  simp only [PySem.W.kxs_mw, Bool.or_assoc, is1, if_true]
  refine PySem.W.KFB.if_so (by decide) ?_
  apply wpAny_bind
  refine PySem.W.check_bound_init F.excBase_ValueError.toExcCallFacts hC' ho rfl ?_
  refine wpAny_bind (wpAny_pure (wpAny_pure ⟨plainId_quiet F.excBase_ValueError.init.plain _, codeAny_builtin F.excBase_ValueError.initEntry ?_⟩))
  refine PySem.W.exc_init_tree (cls := .ref C) (t0 := t1) (dv := none) (c2 := .none) (c3 := .none) (b4 := .bool false) ho fit fun h' k e' _ => ?_
  have J := I.write (t' := tk) (x := a) (e := a) (o := exo a C none) (by rw [ea]; exact True.intro) (.inl rfl) k ⟨_, e'⟩ (exo_ok e')
  have same : upd H a (exo a C none) = H := by
    funext b
    by_cases hb : b = a
    · subst hb
      rw [upd_same, ea]
    · exact upd_ne hb
  rw [same] at J
  exact q _ J
/-- super().__init__(..) and what follows -/
theorem fn_sup {ps : List Str} {name qual : Str} {params : Arguments} {scope : Scope} {f cda cc C : Addr} {k : Nat} {sp : Sp} {oc dV kV doc pm ct : Value} {od an : Option Addr} {osl : Array (Option Value)} {p0 p1 p2 p3 p4 : Pos} {e : Expr} {es : List Expr} {rest : List Stmt} {ar : Arg}
    (look : K.lookup f = some ⟨oc, od, .func (PySem.W.ksFn name qual params (.Expr (.Call (.Attribute (.Call (.Name "super" p0) [] [] p1) "__init__" p2) (e :: es) [] p3) p4 :: rest) scope dV kV doc pm an (.ref cda) ct cc), osl⟩)
    (code : PySem.W.codeIn K (.ref cda) qual = true) (S : Scp ps scope) (T : Sup P K C cc cda) (first : (params.posonlyargs ++ params.args).head? = some ar) (first' : ps[0]? = some ar.arg)
    (len : ∀ vs H Q E, sp vs H Q E → vs.length = ps.length)
    (inner : ∀ (A : Around) (outer : List Env) (s : Shared) (H : Hp) (vs : List V) (Q : VK) (E : XK), Room k (A.deeper (envS qual scope s.heap.objs.size f cda cc)) → sp vs H Q E →
      ∃ (a : Addr) (ta : TA) (tb : TS), vs[0]? = some (.ref a) ∧ H a = some (exo a C none) ∧ PA (cxS P w K mg base ps qual scope f cda cc A outer s H) (e :: es) ta ∧ PSs (cxS P w K mg base ps qual scope f cda cc A outer s H) rest tb ∧
        ta (vs.map some) H fun ws H1 => ws.length ≤ 1000 ∧ H1 a = some (exo a C none) ∧ tb { rt := Q, nx := fun _ => Q V.non } (vs.map some) H1)
    (he : ∀ env, starEach (e :: es) env = (false, eval e env) :: starEach es env := by intro; rfl) (hpl : ∀ (pos : Pos) (env : Env), (backTo pos (starEach es env)).any (·.1) = false := by intros; rfl)
    (hev : ∀ env, ∃ pl, eval (.Call (.Attribute (.Call (.Name "super" p0) [] [] p1) "__init__" p2) (e :: es) [] p3) env = (do
      let ov ← attributeBase (.Call (.Name "super" p0) [] [] p1) "__init__" env (eval (.Call (.Name "super" p0) [] [] p1) env)
      standAt p2.atName
      let (f, first) ← holding [ov] (getMethod ov "__init__" pl)
      callWith p3 f first (backTo p3 (starEach (e :: es) env)) []) := by intro; exact ⟨_, rfl⟩)
    (hsw : ∀ env, swapsWith (.Call (.Attribute (.Call (.Name "super" p0) [] [] p1) "__init__" p2) (e :: es) [] p3) none p4.line env = pure false := by intro; rfl) :
    FnOk P w K mg base CX0 (k + 1) f (PySem.W.ksFn name qual params (.Expr (.Call (.Attribute (.Call (.Name "super" p0) [] [] p1) "__init__" p2) (e :: es) [] p3) p4 :: rest) scope dV kV doc pm an (.ref cda) ct cc) ps sp := by
  refine ⟨len, fun A outer s H args us vs Q E room e0 bd rel told => ?_⟩
  have cnt := len _ _ _ _ told
  have isK : K.In s.heap := e0.mod.kin.keeps fun b o q => (e0.bs b o q).1
  refine PySem.ks_codeAny_call_defAt room.depth (isK _ _ look) rfl (e0.mod.nolimit.keeps fun b o q => (e0.bs b o q).1) (PySem.W.codeRec_of isK code) rfl bd S.nocell (fun y hy => ?_) (fun h1 hns hk1 => ?_) S.co S.gen S.kind
  · obtain ⟨n, v⟩ := y
    exact S.par n (List.of_mem_zip hy).1
  have I : Inv (cxS P w K mg base ps qual scope f cda cc A outer s H) [] (vs.map some) H { s with heap := h1, toks := s.toks + (ps.zip us).length } := inv_sup S T room.hd e0 cnt rel hns hk1
  obtain ⟨a, ta, tb, v0, ea, pa, pb, q⟩ := inner A outer s H vs Q E (room.deeper _) told
  have quietX := I.quiet
  obtain ⟨pl, ev⟩ := hev (envS qual scope s.heap.objs.size f cda cc)
  obtain ⟨ccl, cdd, vv, ccs, file, tf, hcode, hvs, hfile⟩ := T.code
  obtain ⟨cl, cld, csl, hcell⟩ := T.cell
  obtain ⟨nm, qn, N, bs, bm, sn, sub, ab, col, dd, k0, k1, k2, k3, k5, hC, hbm⟩ := T.ex.cls
  have isD : PySem.W.clsIn K C = some { name := nm, bases := bs, mro := .ref C :: bm, ns := N, qualname := qn, hasDict := true, slotNames := sn, subclasses := sub, abstract := ab, collection := col, hasDel := false } := by
    unfold PySem.W.clsIn
    rw [hC] <;> rfl
  obtain ⟨t1, ho⟩ := exo_at I.hok ea
  obtain ⟨mb, nsb, boots⟩ := e0.mod.blt
  have kp : ∀ {b : Addr} {o : Obj}, base.get? b = some o → h1.get? b = some o := fun {b o} z => hk1 _ _ (e0.bs _ _ z).1
  have us0 : us[0]? = some (.ref a) := by
    obtain ⟨u, hu, rv⟩ := rel.get v0
    cases rv
    exact hu
  have self := look_zip (us := us) S.nd first' us0
  refine PySem.ks_wpAt_execs_cons (PySem.ks_wpAt_Expr_any (PySem.ks_wpAt_MethodCall (pl := pl) ?_ ev) quietX (hsw _))
  refine PySem.ks_wpAt_super_base (env := envS qual scope s.heap.objs.size f cda cc) S.sup S.kc rfl rfl (hk1 _ _ (isK _ _ look)) rfl first rfl (hk1 _ _ (isK _ _ hcode)) rfl hvs hfile T.top ?_
  refine PySem.W.ks_loadName_global S.kind S.sup (PySem.Calls.loadGlobal_builtin (env := envS qual scope s.heap.objs.size f cda cc) (e0.mod.glob.keeps fun b o z => kp z) (PySem.W.mg_none_of e0.mod.kin e0.mod.glob T.plain) (nsb.keeps fun b o z => kp z) ((boots _ (by decide +kernel)).trans PyProof.Rows.Boot.«super») ⟨rfl, ?_⟩)
  refine wpAny_loadName_free (c := cc) (v := .ref C) S.kind S.kc (by show ([(("__class__" : Str), cc)] : List (Str × Addr)).lookup ("__class__" : Str) = some cc; simp [List.lookup]) ⟨_, hk1 _ _ (isK _ _ hcell), rfl⟩ ?_
  refine wpAny_loadName_local (m := fun x => (ps.zip us).reverse.lookup x) S.kind (S.par _ (List.mem_of_getElem? first')) hns self ?_
  refine PySem.ks_wpAny_isType_cls (hk1 _ _ (isK _ _ hC)) rfl ⟨rfl, ?_⟩
  refine PySem.ks_wpAny_call_super (hk1 _ _ (isK _ _ hC)) rfl ho rfl (fun c z => by cases z) (PySem.W.looks_mroIn (isK.keeps hk1) T.own) (fun h2 e2 kk2 => ?_)
  have I2 := I.kept (h' := h2) (t' := s.toks + (ps.zip us).length) kk2
  obtain ⟨t2, ho2⟩ := exo_at I2.hok ea
  have isK2 : K.In h2 := I2.kIn
  have up := T.up
  unfold PySem.W.ks_superIn at up
  rw [isD] at up
  have aC : a ≠ C := fun z => by
    have h3 := isK2 _ _ hC
    rw [← z, ho2] at h3
    cases h3
  have looksV : PySem.W.Looks (model P w) h2 (isInstance (.ref a) (.type "ValueError")) true :=
    (show PySem.W.InstAt h2 a _ C none from ⟨ho2, rfl, rfl, trivial⟩).type.andThen (PySem.W.looks_subIn isK2 T.isV)
  refine PySem.W.kxs_getMethod PySem.W.kxs_ValueError e2 (PySem.W.looks_opaque isK2 T.noAny) (l₀ := .ref C :: bm) (fun A Q E s k q => wpAny_bind ((PySem.W.looks_clsIn isK2 isD) A _ E s k (wpAny_pure q))) rfl isK2 up looksV aC rfl ?_
  have I3 := I2.kept (h' := h2.push (PySem.W.kxs_mw "ValueError.__init__" a)) (t' := s.toks + (ps.zip us).length + 1) (fun b o z => Heap.get?_push_of_some _ z)
  have eu : (h2.push (PySem.W.kxs_mw "ValueError.__init__" a)).get? h2.objs.size = some (PySem.W.kxs_mw "ValueError.__init__" a) := Heap.get?_push_at rfl rfl
  have I4 : Inv (cxS P w K mg base ps qual scope f cda cc A outer s H) [(h2.objs.size, PySem.W.kxs_mw "ValueError.__init__" a)] (vs.map some) H { s with heap := h2.push (PySem.W.kxs_mw "ValueError.__init__" a), toks := s.toks + (ps.zip us).length + 1 } := by
    refine I3.pins_of fun p hp => ?_
    cases List.mem_singleton.mp hp
    refine ⟨eu, I2.hok.fresh (Nat.le_refl _), fun z => ?_, I2.nofs (Nat.le_refl _), fun v z => by cases z⟩
    have := I2.lt
    rw [← z] at this
    exact absurd this (Nat.lt_irrefl _)
  refine PySem.W.kxs_callWith (i := "ValueError.__init__") (x := a) ?_ ?_
  · rw [he]
    exact hpl _ _
  have args : ∀ (R : Args → Shared → Prop) (Z : Value → Shared → Prop) (s4 : Shared), wpAny (model P w) (A.deeper (envS qual scope s.heap.objs.size f cda cc)) (spliced (backTo p3 (starEach (e :: es) (envS qual scope s.heap.objs.size f cda cc)))) (fun vs s' => R ⟨vs, []⟩ s') Z s4 →
      wpAny (model P w) (A.deeper (envS qual scope s.heap.objs.size f cda cc)) (evalArgs (.ref h2.objs.size) true (backTo p3 (starEach (e :: es) (envS qual scope s.heap.objs.size f cda cc))) []) R Z s4 := by
    intro R Z s4 h4
    rw [he] at h4 ⊢
    exact PySem.Calls.evalArgs_plain h4
  refine args _ _ _ (wpAny_mono (pa.run p3 _ _ _ _ _ I4 q) (fun ws s5 h5 => ?_) (fun _ _ z => z))
  obtain ⟨wv, H1, I5, r5, lw, ea5, q5⟩ := h5
  have pu := I5.pin (h2.objs.size, PySem.W.kxs_mw "ValueError.__init__" a) (List.mem_append_right _ (List.mem_singleton.mpr rfl))
  refine ⟨pu.1, ?_⟩
  refine init_bound T.ex I5 ea5 pu.1 ?_ (fun s6 I6 => ?_)
  · rw [List.nil_append, ← Paired.length r5, sizeLine_eq]
    omega
  have I7 : Inv (cxS P w K mg base ps qual scope f cda cc A outer s H) [] (vs.map some) H1 s6 := I6.pins_of fun p hp => by cases hp
  refine wpAt_of_wpAny (wpAny_mono (pb.run _ _ _ _ _ I7 q5) (fun fl s' hs => ?_) (fun _ _ z => z))
  cases fl with
  | ret u =>
    obtain ⟨v, _, H', J, rv, qq⟩ := hs
    exact ⟨v, H', J.os, J.bare, J.base, J.hok, rv, qq⟩
  | next =>
    obtain ⟨_, H', J, qq⟩ := hs
    exact ⟨V.non, H', J.os, J.bare, J.base, J.hok, rfl, qq⟩
  | brk =>
    obtain ⟨_, _, _, qq⟩ := hs
    exact qq.elim
  | cont =>
    obtain ⟨_, _, _, qq⟩ := hs
    exact qq.elim
end
end Su

namespace Hf
open PySem PySem.Spec PyProof.Rows L2
section
variable {K : PySem.W.Frag}
/-! ### plain globals -/
def intB (x : Str) (i : Int) (K : PySem.W.Frag) : Bool := match PySem.W.nsIn K mainGlobals x with
  | some (some (.int j _)) => decide (j = i)
  | _ => false
theorem intB_ok {x : Str} {i : Int} (h : intB x i K = true) : ∃ t, PySem.W.nsIn K mainGlobals x = some (some (.int i t)) := by
  unfold intB at h
  split at h
  · rename_i j t e
    have : j = i := of_decide_eq_true h
    subst this
    exact ⟨t, e⟩
  · cases h
def strB (x z : Str) (K : PySem.W.Frag) : Bool := match PySem.W.nsIn K mainGlobals x with
  | some (some (.str y _)) => decide (y = z)
  | _ => false
theorem strB_ok {x z : Str} (h : strB x z K = true) : ∃ t, PySem.W.nsIn K mainGlobals x = some (some (.str z t)) := by
  unfold strB at h
  split at h
  · rename_i y t e
    have : y = z := of_decide_eq_true h
    subst this
    exact ⟨t, e⟩
  · cases h
def glo (K : PySem.W.Frag) (x : Str) : Prop := PySem.W.nsIn K mainGlobals x = some (some (.ref (He.ga K x)))
instance (K : PySem.W.Frag) (x : Str) : Decidable (glo K x) := inferInstanceAs (Decidable (_ = _))
def free (K : PySem.W.Frag) (x : Str) : Prop := PySem.W.nsIn K mainGlobals x = some none
instance (K : PySem.W.Frag) (x : Str) : Decidable (free K x) := inferInstanceAs (Decidable (_ = _))
/-! ### tuples and tables of texts -/
def tupT (K : PySem.W.Frag) (a : Addr) (zs : List Str) : Bool := match K.lookup a with
  | some ⟨.type c, none, .seq its _, _⟩ => decide (c = "tuple") && (Nat.ble its.size 1000 && decide (its.toList.map absV = zs.map fun z => some (V.str z)))
  | _ => false
theorem tupT_ok {a : Addr} {zs : List Str} (h : tupT K a zs = true) : ∃ its n sl, K.lookup a = some ⟨.type "tuple", none, .seq its n, sl⟩ ∧ its.size ≤ sizeLine ∧ its.toList.map absV = (zs.map V.str).map some := by
  unfold tupT at h
  split at h
  · rename_i c its n sl e
    obtain ⟨h1, h2⟩ := Bool.and_eq_true_iff.mp h
    obtain ⟨h2, h3⟩ := Bool.and_eq_true_iff.mp h2
    have : c = "tuple" := of_decide_eq_true h1
    subst this
    refine ⟨its, n, sl, e, Nat.le_trans (Nat.le_of_ble_eq_true h2) (by decide), ?_⟩
    rw [List.map_map]
    exact of_decide_eq_true h3
  · cases h
/-- a table of the module with text keys: its keys in order are told by the kernel as (key, hash) -/
def dicT (K : PySem.W.Frag) (a : Addr) : Option (List (Option (Str × Int))) := He.dicW K a
theorem dicT_ok {w : World} {a : Addr} {ks : List Str} (h : dicT K a = some (He.keysIn w.params ks)) : ∃ es n, KDict K w a es n := He.dicW_ok h
/-! ### an own error whose __init__ begins with super().__init__(..) -/
def clsB (K : PySem.W.Frag) (C B : Addr) : Bool := match K.lookup C with
  | some ⟨.type t, _, .cls cd, sl⟩ => decide (t = "type") && (match sl.toList with
    | [_, _, _, _, some (.builtin n), _] => decide (n = "ValueError.__new__") && (!cd.hasDel && (cd.hasDict && decide (cd.mro = [.ref C, .ref B, .type "ValueError", .type "Exception", .type "BaseException", .type "object"])))
    | _ => false)
  | _ => false
theorem clsB_ok {C B : Addr} (h : clsB K C B = true) : ∃ nm q N bs sn sb ab cl dd k0 k1 k2 k3 k5, K.lookup C = some (excClassObj nm q C N bs [.ref B, .type "ValueError", .type "Exception", .type "BaseException", .type "object"] true sn sb ab cl dd k0 k1 k2 k3 k5 "ValueError.__new__") := by
  unfold clsB at h
  split at h
  · rename_i t dd cd sl e
    obtain ⟨h1, h2⟩ := Bool.and_eq_true_iff.mp h
    have : t = "type" := of_decide_eq_true h1
    subst this
    split at h2
    · rename_i k0 k1 k2 k3 n k5 hs
      obtain ⟨h3, g4⟩ := Bool.and_eq_true_iff.mp h2
      obtain ⟨h4, g5⟩ := Bool.and_eq_true_iff.mp g4
      obtain ⟨h5, h6⟩ := Bool.and_eq_true_iff.mp g5
      have hn : n = "ValueError.__new__" := of_decide_eq_true h3
      have hm := of_decide_eq_true h6
      obtain ⟨nm, bs, mro, ns, qn, hd, sn, sub, ab, col, del⟩ := cd
      dsimp only at hm h4 h5
      subst hm h5 hn
      have hdel : del = false := by simpa using h4
      subst hdel
      have hsl : sl = #[k0, k1, k2, k3, some (.builtin "ValueError.__new__"), k5] := by
        obtain ⟨l⟩ := sl
        simp only at hs
        rw [hs]
      subst hsl
      exact ⟨_, _, _, _, _, _, _, _, _, _, _, _, _, _, e⟩
    · cases h2
  · cases h
def cellB (K : PySem.W.Frag) (cc C : Addr) : Bool := match K.lookup cc with
  | some ⟨_, _, .cell (some (.ref D)), _⟩ => decide (D = C)
  | _ => false
theorem cellB_ok {cc C : Addr} (h : cellB K cc C = true) : ∃ (cl : Value) (cld : Option Addr) (csl : Array (Option Value)), K.lookup cc = some ⟨cl, cld, .cell (some (.ref C)), csl⟩ := by
  unfold cellB at h
  split at h
  · rename_i a b D c e
    have : D = C := of_decide_eq_true h
    subst this
    exact ⟨_, _, _, e⟩
  · cases h
def fileB (K : PySem.W.Frag) (P : Program) (cda : Addr) : Bool := match K.lookup cda with
  | some ⟨_, _, .fields vs, _⟩ => (match (vs[2]? : Option Value) with
    | some (.str f _) => (P.main.file : Str) == f
    | _ => false)
  | _ => false
theorem fileB_ok {P : Program} {cda : Addr} (h : fileB K P cda = true) : ∃ (ccl : Value) (cdd : Option Addr) (vs : Array Value) (ccs : Array (Option Value)) (file : Str) (tf : Tok), K.lookup cda = some ⟨ccl, cdd, .fields vs, ccs⟩ ∧ vs[2]? = some (.str file tf) ∧ ((P.main.file : Str) == file) = true := by
  unfold fileB at h
  split at h
  · rename_i a b vs c e
    split at h
    · rename_i f t e2
      exact ⟨_, _, _, _, _, _, e, e2, h⟩
    · cases h
  · cases h
def errB (P : Program) (x y : Str) (flds : List Str) (K : PySem.W.Frag) : Bool :=
  clsB K (He.ga K x) (He.ga K y) && (cellB K (ccOf K (He.ma K (He.ga K x) "__init__")) (He.ga K x) && (fileB K P (cdOf K (He.ma K (He.ga K x) "__init__")) && (PySem.W.keepIn K (.ref (He.ga K x)) && (flds.all (fun f => decide (PySem.W.findIn K (.ref (He.ga K x)) f = some none)) &&
    decide (glo K x ∧ PySem.W.findIn K (.ref (He.ga K x)) "__setattr__" = some (some (.builtin "object.__setattr__")) ∧ PySem.W.subIn K (.ref (He.ga K x)) (.type "BaseException") = some true ∧ PySem.W.typeIn K (.ref (He.ga K x)) = some (.type "type") ∧
      PySem.W.findIn K (.ref (He.ga K x)) "__init__" = some (some (.ref (He.ma K (He.ga K x) "__init__"))) ∧ PySem.W.typeIn K (.ref (He.ma K (He.ga K x) "__init__")) = some (.type "function") ∧ PySem.W.ks_superIn K (He.ga K x) (He.ga K x) "__init__" = some (some (.builtin "ValueError.__init__")) ∧
      PySem.W.nsIn K cStatics "thirdparty.any" = some none ∧ PySem.W.subIn K (.ref (He.ga K x)) (.type "ValueError") = some true ∧ PySem.W.mroIn K (He.ga K x) (.ref (He.ga K x)) = some true ∧ free K "super" ∧ (P.main.scope.names.lookup ("super" : Str)).isSome = false)))))
structure ErrF (P : Program) (K : PySem.W.Frag) (x : Str) (flds : List Str) (C f : Addr) : Prop where
  sup : Su.Sup P K C (ccOf K f) (cdOf K f)
  glo : PySem.W.nsIn K mainGlobals x = some (some (.ref C))
  ini : PySem.W.findIn K (.ref C) "__init__" = some (some (.ref f))
  fn : PySem.W.typeIn K (.ref f) = some (.type "function")
  no : ∀ f ∈ flds, PySem.W.findIn K (.ref C) f = some none
theorem errB_ok {P : Program} {x y : Str} {flds : List Str} (h : errB P x y flds K = true) : ErrF P K x flds (He.ga K x) (He.ma K (He.ga K x) "__init__") := by
  unfold errB at h
  obtain ⟨h1, h⟩ := Bool.and_eq_true_iff.mp h
  obtain ⟨h2, h⟩ := Bool.and_eq_true_iff.mp h
  obtain ⟨h3, h⟩ := Bool.and_eq_true_iff.mp h
  obtain ⟨h4, h⟩ := Bool.and_eq_true_iff.mp h
  obtain ⟨h5, h⟩ := Bool.and_eq_true_iff.mp h
  obtain ⟨q1, q2, q3, q4, q5, q6, q7, q8, q9, q10, q11, q12⟩ := of_decide_eq_true h
  obtain ⟨nm, q, N, bs, sn, sb, ab, cl, dd, k0, k1, k2, k3, k5, e⟩ := clsB_ok h1
  exact ⟨⟨⟨⟨_, _, _, _, _, _, _, _, _, _, _, _, _, _, _, e, rfl⟩, q2, q3, q4, h4⟩, q7, q8, q9, cellB_ok h2, q10, q11, fileB_ok h3, q12⟩, q1, q5, q6, fun f hf => of_decide_eq_true (List.all_eq_true.mp h5 f hf)⟩
end
end Hf

namespace Hf
open PySem PySem.Spec PyProof.Rows L2
/-! ### a table whose keys are tuples of texts, as the kernel tells it -/
def strO : Value → Option Str
  | .str x _ => some x
  | _ => none
def txtT (K : PySem.W.Frag) (a : Addr) : Option (List (Option Str)) := match K.lookup a with
  | some ⟨.type c, none, .seq its _, _⟩ => (match decide (c = "tuple") && Nat.ble its.size 1000 with
    | true => some (its.toList.map strO)
    | false => none)
  | _ => none
def refT (K : PySem.W.Frag) : Value → Option (List (Option Str))
  | .ref a => txtT K a
  | _ => none
abbrev FormV : Type := Option (List (Int × Option (List (Option Str)) × Option (List (Option Str))))
def formT (K : PySem.W.Frag) (d : Addr) : FormV := match K.lookup d with
  | some ⟨.type c, none, .dict es _, sl⟩ => (match decide (c = "dict") && (sl.isEmpty && !(d == sysModules)) with
    | true => some (es.toList.map fun e => (e.hash, refT K e.key, refT K e.val))
    | false => none)
  | _ => none
def formV (P : Program) (w : World) (rows : List Hd.Row) : FormV := some (rows.map fun r => (Hd.hsh P w r.1, some (r.1.map some), some (r.2.map some)))
/-- the table stands in the part: its entries, each key and each worth a tuple of texts there -/
structure KForm (P : Program) (w : World) (K : PySem.W.Frag) (d : Addr) (rows : List Hd.Row) : Prop where
  ex : ∃ (es : Array DictEntry) (n : Nat), K.lookup d = some ⟨.type "dict", none, .dict es n, #[]⟩ ∧ es.toList.map (fun e => (e.hash, refT K e.key, refT K e.val)) = rows.map fun r => (Hd.hsh P w r.1, some (r.1.map some), some (r.2.map some))
  low : (d == sysModules) = false
theorem formT_ok {P : Program} {w : World} {K : PySem.W.Frag} {d : Addr} {rows : List Hd.Row} (h : formT K d = formV P w rows) : KForm P w K d rows := by
  unfold formT formV at h
  split at h
  · rename_i c es n sl e
    split at h
    · rename_i g
      obtain ⟨g1, g2⟩ := Bool.and_eq_true_iff.mp g
      obtain ⟨g2, g3⟩ := Bool.and_eq_true_iff.mp g2
      have : c = "dict" := of_decide_eq_true g1
      subst this
      have : sl = #[] := Array.isEmpty_iff.mp g2
      subst this
      exact ⟨⟨es, n, e, Option.some.inj h⟩, by simpa using g3⟩
    · cases h
  · cases h
end Hf

/-! ### FORMS.get((a, b)) -/
namespace Hf
open PySem PySem.Spec PyProof.Rows L2
section
variable {P : Program} {w : World} {K : PySem.W.Frag}
theorem txtT_at {a : Addr} {ks : List Str} (h : txtT K a = some (ks.map some)) : ∃ its n sl, K.lookup a = some ⟨.type "tuple", none, .seq its n, sl⟩ ∧ its.size ≤ sizeLine ∧ its.toList.map strO = ks.map some := by
  unfold txtT at h
  split at h
  · rename_i c its n sl e
    split at h
    · rename_i g
      obtain ⟨g1, g2⟩ := Bool.and_eq_true_iff.mp g
      have : c = "tuple" := of_decide_eq_true g1
      subst this
      exact ⟨its, n, sl, e, Nat.le_trans (Nat.le_of_ble_eq_true g2) (by decide), Option.some.inj h⟩
    · cases h
  · cases h
theorem strO_vals : ∀ {ks : List Str} {us : List Value}, us.map strO = ks.map some → Vals (ks.map V.str) us
  | [], [], _ => .nil
  | [], u :: us, h => by simp at h
  | k :: ks, [], h => by simp at h
  | k :: ks, u :: us, h => by
    simp only [List.map_cons, List.cons.injEq] at h
    refine .cons ?_ (strO_vals h.2)
    have h1 := h.1
    cases u <;> simp only [strO] at h1 <;> first | (cases h1; exact ⟨_, rfl⟩) | cases h1
theorem items_of : ∀ {ks : List Str} {us : List Value}, Vals (ks.map V.str) us → ItemsAre (PySem.strKind P w) ks us
  | [], us, h => by
    rw [List.map_nil] at h
    cases h
    exact .nil
  | k :: ks, us, h => by
    rw [List.map_cons] at h
    cases h with
    | cons h1 h2 =>
      obtain ⟨t, rfl⟩ := h1
      exact .cons (strKind_is P w k t) (items_of h2)
theorem txt_sq {a : Addr} {ks : List Str} (h : txtT K a = some (ks.map some)) (H : Hp) : SqT K H a (ks.map V.str) := by
  obtain ⟨its, n, sl, l, hs, e⟩ := txtT_at h
  exact .inr ⟨_, its, n, l, rfl, rfl, hs, strO_vals e⟩
/-- the worth of a key -/
def atR (rows : List Hd.Row) (ks : List Str) : Option (List Str) := match rows with
  | [] => none
  | r :: rs => if r.1 = ks then some r.2 else atR rs ks
theorem xs_of : ∀ {es : List DictEntry} {rows : List Hd.Row}, es.map (fun e => (e.hash, refT K e.key, refT K e.val)) = rows.map (fun r => (Hd.hsh P w r.1, some (r.1.map some), some (r.2.map some))) →
    ∃ xs : List (List Str × Addr × Value), es = xs.map (entryOfKey (Hd.kT P w)) ∧ xs.map (·.1) = rows.map (·.1) ∧ (∀ x ∈ xs, txtT K x.2.1 = some (x.1.map some)) ∧
      ∀ ks, match atR rows ks with
        | some vs => ∃ a v, atKey xs ks = some (a, v) ∧ refT K v = some (vs.map some)
        | none => atKey xs ks = none
  | [], [], _ => ⟨[], rfl, rfl, (fun _ h => by cases h), fun _ => rfl⟩
  | [], _ :: _, h => by simp at h
  | _ :: _, [], h => by simp at h
  | e :: es, r :: rows, h => by
    simp only [List.map_cons, List.cons.injEq, Prod.mk.injEq] at h
    obtain ⟨⟨h1, h2, h3⟩, h4⟩ := h
    obtain ⟨xs, e1, e2, e3, e4⟩ := xs_of h4
    obtain ⟨eh, ek, ev⟩ := e
    dsimp only at h1 h2 h3
    cases ek with
    | ref a =>
      refine ⟨(r.1, a, ev) :: xs, ?_, ?_, ?_, ?_⟩
      · rw [List.map_cons, e1, h1]
        rfl
      · rw [List.map_cons, List.map_cons, e2]
      · intro x hx
        rcases List.mem_cons.mp hx with z | z
        · subst z
          exact h2
        · exact e3 x z
      · intro ks
        have q := e4 ks
        unfold atR
        by_cases c : r.1 = ks
        · rw [if_pos c]
          refine ⟨a, ev, ?_, h3⟩
          unfold atKey
          rw [List.find?_cons_of_pos (by simpa using c)]
          rfl
        · rw [if_neg c]
          have : atKey ((r.1, a, ev) :: xs) ks = atKey xs ks := by
            unfold atKey
            rw [List.find?_cons_of_neg (by simpa using c)]
          rw [this]
          exact q
    | _ => cases h2
section
variable {X : Cx} {o e : Expr} {apos cpos : Pos} {ty : TE} {d : Addr} {rows : List Hd.Row}
def tFGet (K : PySem.W.Frag) (rows : List Hd.Row) (ty : TE) : TE := fun σ H Q => ty σ H fun y H2 => ∃ (b : Addr) (ks : List Str), y = .ref b ∧ SqT K H2 b (ks.map V.str) ∧
  match atR rows ks with
  | some vs => ∀ a, (∀ H, SqT K H a (vs.map V.str)) → Q (.ref a) H2
  | none => Q .non H2
theorem pe_fget (hu : X.A.units + 1 < cLine) (kf : KForm X.prog X.w X.K d rows) (nd : (rows.map (·.1)).Nodup) {td : TE} (ho : PE X o td) (htd : ∀ (σ : L2.St) (H : Hp) (Q : VK), Q (.ref d) H → td σ H Q) (he : PE X e ty) (m : M1 X o "get" apos e cpos) :
    PE X (.Call (.Attribute o "get" apos) [e] [] cpos) (tFGet X.K rows ty) := by
  refine ⟨fun pins s σ H Q I h => ?_⟩
  obtain ⟨es, n, hl, hes⟩ := kf.ex
  obtain ⟨xs, e1, e2, e3, e4⟩ := xs_of hes
  have dd : ∀ {s : Shared}, X.K.In s.heap → s.heap.DictOfH (Hd.kT X.prog X.w) d xs := fun {s} ki => by
    refine ⟨_, es, n, ki _ _ hl, ⟨rfl, rfl, rfl⟩, rfl, e1, fun x hx => ?_, by rw [e2]; exact nd⟩
    obtain ⟨its, n2, sl, l2, hs, q⟩ := txtT_at (e3 x hx)
    exact ⟨_, its, n2, ki _ _ l2, rfl, rfl, items_of (strO_vals q)⟩
  refine wpAny_Call_method m.base m.few m.line PySem.F.plainAttrs_dict PySem.F.slot_dict_get PySem.F.type_dict_get (thn (ho.run pins s σ H _ I (htd σ H (fun x H1 => x = .ref d ∧ ty σ H1 (fun y H2 => ∃ (b : Addr) (ks : List Str), y = .ref b ∧ SqT X.K H2 b (ks.map V.str) ∧
    match atR rows ks with
    | some vs => ∀ a, (∀ H, SqT X.K H a (vs.map V.str)) → Q (.ref a) H2
    | none => Q .non H2)) ⟨rfl, h⟩)) fun u s1 ⟨x, H1, I1, rx, ex, q1⟩ => ?_)
  subst ex
  obtain rfl : u = Value.ref d := rx
  refine ⟨(dd I1.kIn).typeIs, fun b q => ?_, ?_⟩
  · cases q
    exact ⟨_, I1.kIn _ _ hl, rfl⟩
  rw [m.trees]
  refine Calls.callWith_builtin rfl (Calls.evalArgs_plain (Calls.spliced_cons (thn (he.run pins s1 σ H1 _ I1 q1) fun iv s2 ⟨y, H2, I2, ry, b, ks, ey, sq, q2⟩ => Calls.spliced_nil ?_)))
  subst ey
  obtain rfl : iv = Value.ref b := ry
  obtain ⟨its, rv, ⟨ob, h1, h2, nb, h3⟩, _⟩ := I2.tuple sq
  have key : (Hd.kT X.prog X.w).is s2.heap ks b := ⟨ob, its.toArray, nb, h1, h2, h3, by simpa using items_of rv⟩
  refine call_meetsIn PySem.F.slot_dict_get (dd I2.kIn).typeIs PySem.F.entry_dict_get (PySem.F.args_dict_get_2 _ _) (meetsH_dict_get (Hd.kT X.prog X.w) d b kf.low) ⟨tupleKind_room_in1 hu, ks, xs, key, dd I2.kIn, ?_⟩
  have q4 := e4 ks
  cases hr : atR rows ks with
  | none =>
    rw [hr] at q4 q2
    rw [q4]
    exact ⟨.non, H2, I2.tok _, rfl, q2⟩
  | some vs =>
    rw [hr] at q4 q2
    obtain ⟨a, v, qa, qv⟩ := q4
    rw [qa]
    cases v with
    | ref c => exact ⟨.ref c, H2, I2.tok _, rfl, q2 c fun H => txt_sq qv H⟩
    | _ => cases qv
end
end
end Hf

/-! ### list(zip(a, b)) of two tuples of one length -/
namespace Lz
open PySem PySem.Spec PyProof.Rows L2
section
variable {prog : Program} {w : World} {A : Around} {E : Value → Shared → Prop} {s : Shared}
/-- the next pair of a zip whose last tuple is still held -/
theorem next_held {z TI TO T i1 i2 l1 l2 : Addr} {f : Bool} {oT : Obj} {k : Nat} {xs ys : Array Value} {x y : Value} {Q : Option Value → Shared → Prop} (ap : ZipApart z TI TO i1 i2 l1 l2)
    (gz : IsZipHeld s.heap z TI TO T f) (gT : s.heap.get? T = some oT) (pI : IsPair s.heap TI (.ref i1) (.ref i2)) (u1 : s.heap.IsTupleIter i1 l1 k) (u2 : s.heap.IsTupleIter i2 l2 k)
    (v1 : s.heap.IsTuple l1 xs) (v2 : s.heap.IsTuple l2 ys) (ex : xs[k]? = some x) (ey : ys[k]? = some y)
    (go : ∀ h', IsZipHeld h' z TI TO T true → h'.IsTupleIter i1 l1 (k + 1) → h'.IsTupleIter i2 l2 (k + 1) → IsPair h' s.heap.objs.size x y → h'.objs.size = s.heap.objs.size + 1 →
      (∀ c o, c ≠ z → c ≠ TO → c ≠ i1 → c ≠ i2 → s.heap.get? c = some o → h'.get? c = some o) → Q (some (.ref s.heap.objs.size)) { s with heap := h' }) :
    wpAny (model prog w) A (pyNext (.ref z)) Q E s := by
  have tz : s.TypeIs (.ref z) "zip" := ⟨_, gz, rfl⟩
  unfold pyNext
  refine wpAny_bind (wpAny_attempt (wpAny_callSpecial?_slot (name := Str.ofString "__next__") tz F.slot_zip_next (wpAny_call_entry F.slot_zip_next tz F.entry_zip_next ?_ (F.args_zip_next_1 _))))
  show wpAny _ _ (field (.ref z) 2 >>= fun _ => _) _ _ s
  refine wpAny_bind (wpAny_field gz rfl (x := .bool false) rfl ?_)
  show wpAny _ _ (field (.ref z) 3 >>= fun _ => _) _ _ s
  refine wpAny_bind (wpAny_field gz rfl (x := .ref TI) rfl ?_)
  refine wpAny_bind (wpAny_seqItems pI rfl ?_)
  show wpAny _ _ (Builtin.SmallTypes.ownedTupleIsFree (.ref z) >>= fun _ => _) _ _ s
  refine wpAny_bind (wpAny_tupleHeld_zip gz gT fun g1 gz1 sb1 => ?_)
  simp only [Bool.false_eq_true, if_false]
  refine wpAny_bind ?_
  rw [← Array.forIn_toList]
  simp only [List.forIn_cons, List.forIn_nil]
  refine wpAny_bind (wpAny_bind (wpAny_holding ?_))
  show wpAny _ _ (Builtin.SmallTypes.nextOf (.ref i1) >>= fun _ => _) _ _ _
  refine wpAny_bind (RZ.nextOf_tuple_item (s := { s with heap := g1 }) (u1.extBut sb1.extBut ap.i1z) (v1.extBut sb1.extBut ap.l1z) ex fun g2 u1' sb2 => wpAny_pure ?_)
  refine wpAny_pure ?_
  refine wpAny_bind (wpAny_bind (wpAny_holding ?_))
  show wpAny _ _ (Builtin.SmallTypes.nextOf (.ref i2) >>= fun _ => _) _ _ _
  refine wpAny_bind (RZ.nextOf_tuple_item (s := { s with heap := g2 }) ((u2.extBut sb1.extBut ap.i2z).extBut sb2.extBut ap.i12.symm) ((v2.extBut sb1.extBut ap.l2z).extBut sb2.extBut ap.l2i1) ey fun g3 u2' sb3 => wpAny_pure ?_)
  refine wpAny_pure (wpAny_pure ?_)
  show wpAny _ _ (newTuple [x, y] >>= fun _ => _) _ _ _
  refine wpAny_bind (wpAny_newTuple ?_)
  have size3 : g3.objs.size = s.heap.objs.size := (sb3.1.trans sb2.1).trans sb1.1
  have stay3 : ∀ c o, c ≠ z → c ≠ i1 → c ≠ i2 → s.heap.get? c = some o → g3.get? c = some o := fun c o n1 n2 n3 e => sb3.extBut _ _ n3 (sb2.extBut _ _ n2 (sb1.extBut _ _ n1 e))
  have gz3 : IsZipHeld g3 z TI TO T true := sb3.extBut _ _ ap.i2z.symm (sb2.extBut _ _ ap.i1z.symm gz1)
  have u13 : g3.IsTupleIter i1 l1 (k + 1) := u1'.extBut sb3.extBut ap.i12
  refine wpAny_pure ⟨_, rfl, wpAny_pure ?_⟩
  have made : IsPair (g3.push { cls := .type "tuple", data := .seq #[x, y] }) g3.objs.size x y := Heap.get?_push_size _ rfl
  have size4 : (g3.push { cls := .type "tuple", data := .seq #[x, y] }).objs.size = g3.objs.size + 1 := Heap.size_push ..
  show Q (some (.ref g3.objs.size)) _
  rw [size3] at made size4 ⊢
  exact go _ (Heap.get?_push_of_some _ gz3) (u13.at fun o e => Heap.get?_push_of_some _ e) (u2'.at fun o e => Heap.get?_push_of_some _ e) made size4 fun c o n1 _ n3 n4 e => Heap.get?_push_of_some _ (stay3 c o n1 n3 n4 e)
/-- its end -/
theorem end_held {z TI TO T i1 i2 l1 l2 : Addr} {f : Bool} {oT : Obj} {k : Nat} {xs ys : Array Value} {Q : Option Value → Shared → Prop} (hh : A.handled = none) (ap : ZipApart z TI TO i1 i2 l1 l2)
    (gz : IsZipHeld s.heap z TI TO T f) (gT : s.heap.get? T = some oT) (pI : IsPair s.heap TI (.ref i1) (.ref i2)) (u1 : s.heap.IsTupleIter i1 l1 k) (v1 : s.heap.IsTuple l1 xs) (ex : xs[k]? = none)
    (go : ∀ h', (∀ c o, c ≠ z → c ≠ TO → c ≠ i1 → c ≠ i2 → s.heap.get? c = some o → h'.get? c = some o) → Q none { s with heap := h' }) : wpAny (model prog w) A (pyNext (.ref z)) Q E s := by
  have tz : s.TypeIs (.ref z) "zip" := ⟨_, gz, rfl⟩
  unfold pyNext
  refine wpAny_bind (wpAny_attempt (wpAny_callSpecial?_slot (name := Str.ofString "__next__") tz F.slot_zip_next (wpAny_call_entry F.slot_zip_next tz F.entry_zip_next ?_ (F.args_zip_next_1 _))))
  show wpAny _ _ (field (.ref z) 2 >>= fun _ => _) _ _ s
  refine wpAny_bind (wpAny_field gz rfl (x := .bool false) rfl ?_)
  show wpAny _ _ (field (.ref z) 3 >>= fun _ => _) _ _ s
  refine wpAny_bind (wpAny_field gz rfl (x := .ref TI) rfl ?_)
  refine wpAny_bind (wpAny_seqItems pI rfl ?_)
  show wpAny _ _ (Builtin.SmallTypes.ownedTupleIsFree (.ref z) >>= fun _ => _) _ _ s
  refine wpAny_bind (wpAny_tupleHeld_zip gz gT fun g1 gz1 sb1 => ?_)
  simp only [Bool.false_eq_true, if_false]
  refine wpAny_bind ?_
  rw [← Array.forIn_toList]
  simp only [List.forIn_cons, List.forIn_nil]
  refine wpAny_bind (wpAny_bind (wpAny_holding ?_))
  show wpAny _ _ (Builtin.SmallTypes.nextOf (.ref i1) >>= fun _ => _) _ _ _
  refine wpAny_bind (RZ.nextOf_tuple_end (s := { s with heap := g1 }) hh (u1.extBut sb1.extBut ap.i1z) (v1.extBut sb1.extBut ap.l1z) ex fun g2 e sb2 he => ?_)
  obtain ⟨o, ho, hc⟩ := he
  refine wpAny_bind (wpAny_isInstance (T := "StopIteration") (b := true) ⟨o, ho, hc⟩ isSubtype_stop ?_)
  exact wpAny_pure (go _ fun c o n1 _ n3 _ q => sb2 _ _ n3 (sb1.extBut _ _ n1 q))
end
end Lz

namespace Lz
open PySem PySem.Spec PyProof.Rows L2
theorem zip_no_len : typeLookup (.type "zip") "__len__" = pure none := am_miss_of_fast (by decide +kernel)
theorem zip_no_hint : typeLookup (.type "zip") "__length_hint__" = pure none := am_miss_of_fast (by decide +kernel)
/-- the addresses that its turns write to -/
def Off (z TO i1 i2 : Addr) (c : Addr) : Prop := c ≠ z ∧ c ≠ TO ∧ c ≠ i1 ∧ c ≠ i2
/-- a zip of two tuples, k pairs on -/
structure ZS (h : Heap) (z TI TO i1 i2 l1 l2 : Addr) (xs ys : Array Value) (k : Nat) : Prop where
  pI : IsPair h TI (.ref i1) (.ref i2)
  u1 : h.IsTupleIter i1 l1 k
  u2 : h.IsTupleIter i2 l2 k
  v1 : h.IsTuple l1 xs
  v2 : h.IsTuple l2 ys
  st : (IsZip h z TI TO .none ∧ ∃ a b, IsPair h TO a b) ∨ ∃ T f oT, IsZipHeld h z TI TO T f ∧ Off z TO i1 i2 T ∧ h.get? T = some oT
section
variable {prog : Program} {w : World} {A : Around} {E : Value → Shared → Prop} {s : Shared} {z TI TO i1 i2 l1 l2 : Addr} {xs ys : Array Value} {k : Nat}
theorem ZS.typeIs (Z : ZS s.heap z TI TO i1 i2 l1 l2 xs ys k) : s.TypeIs (.ref z) "zip" := by
  rcases Z.st with ⟨h, _⟩ | ⟨T, f, oT, h, _⟩
  · exact ⟨_, h, rfl⟩
  · exact ⟨_, h, rfl⟩
/-- it stands where what it looks at stands -/
theorem ZS.stay {h h' : Heap} (Z : ZS h z TI TO i1 i2 l1 l2 xs ys k) {S : Addr} (hS : S ≠ z ∧ S ≠ TI ∧ S ≠ TO ∧ S ≠ i1 ∧ S ≠ i2 ∧ S ≠ l1 ∧ S ≠ l2) (hT : ∀ T oT, h.get? T = some oT → ∃ o2, h'.get? T = some o2) (kp : ∀ c o, c ≠ S → h.get? c = some o → h'.get? c = some o) : ZS h' z TI TO i1 i2 l1 l2 xs ys k := by
  obtain ⟨a1, a2, a3, a4, a5, a6, a7⟩ := hS
  obtain ⟨o1, q1, r1⟩ := Z.v1
  obtain ⟨o2, q2, r2⟩ := Z.v2
  refine ⟨kp _ _ a2.symm Z.pI, Z.u1.at fun o e => kp _ o a4.symm e, Z.u2.at fun o e => kp _ o a5.symm e, ⟨o1, kp _ _ a6.symm q1, r1⟩, ⟨o2, kp _ _ a7.symm q2, r2⟩, ?_⟩
  rcases Z.st with ⟨h1, a, b, h2⟩ | ⟨T, f, oT, h1, hO, h2⟩
  · exact .inl ⟨kp _ _ a1.symm h1, a, b, kp _ _ a3.symm h2⟩
  · obtain ⟨o3, h3⟩ := hT T oT h2
    exact .inr ⟨T, f, o3, kp _ _ a1.symm h1, hO, h3⟩
theorem ZS.next (ap : ZipApart z TI TO i1 i2 l1 l2) (Z : ZS s.heap z TI TO i1 i2 l1 l2 xs ys k) {x y : Value} (ex : xs[k]? = some x) (ey : ys[k]? = some y) {Q : Option Value → Shared → Prop}
    (go : ∀ h', ZS h' z TI TO i1 i2 l1 l2 xs ys (k + 1) → IsPair h' s.heap.objs.size x y → h'.objs.size = s.heap.objs.size + 1 → (∀ c o, Off z TO i1 i2 c → s.heap.get? c = some o → h'.get? c = some o) → Q (some (.ref s.heap.objs.size)) { s with heap := h' }) :
    wpAny (model prog w) A (pyNext (.ref z)) Q E s := by
  have oI : Off z TO i1 i2 TI := ⟨ap.TIz, ap.TITO, ap.TIi1, ap.TIi2⟩
  have o1 : Off z TO i1 i2 l1 := ⟨ap.l1z, ap.l1TO, ap.l1i1, ap.l1i2⟩
  have o2 : Off z TO i1 i2 l2 := ⟨ap.l2z, ap.l2TO, ap.l2i1, ap.l2i2⟩
  obtain ⟨p1, q1, r1⟩ := id Z.v1
  obtain ⟨p2, q2, r2⟩ := id Z.v2
  rcases Z.st with ⟨g, a, b, gO⟩ | ⟨T, f, oT, g, hT, gT⟩
  · refine RZ.pyNext_zipT_item ap g Z.pI gO Z.u1 Z.u2 Z.v1 Z.v2 ex ey fun h' b1 b2 b3 b4 b5 b6 b7 => go h' ?_ b5 b6 fun c o q e => b7 c o q.1 q.2.1 q.2.2.1 q.2.2.2 e
    have kp : ∀ c o, Off z TO i1 i2 c → s.heap.get? c = some o → h'.get? c = some o := fun c o q e => b7 c o q.1 q.2.1 q.2.2.1 q.2.2.2 e
    have nw : Off z TO i1 i2 s.heap.objs.size := by
      obtain ⟨w1, e1, _⟩ := id Z.u1
      obtain ⟨w2, e2, _⟩ := id Z.u2
      exact ⟨Nat.ne_of_gt (Heap.lt_size g), Nat.ne_of_gt (Heap.lt_size gO), Nat.ne_of_gt (Heap.lt_size e1), Nat.ne_of_gt (Heap.lt_size e2)⟩
    exact ⟨kp _ _ oI Z.pI, b3, b4, ⟨p1, kp _ _ o1 q1, r1⟩, ⟨p2, kp _ _ o2 q2, r2⟩, .inr ⟨_, false, _, b1, nw, b5⟩⟩
  · refine next_held ap g gT Z.pI Z.u1 Z.u2 Z.v1 Z.v2 ex ey fun h' b1 b3 b4 b5 b6 b7 => go h' ?_ b5 b6 fun c o q e => b7 c o q.1 q.2.1 q.2.2.1 q.2.2.2 e
    have kp : ∀ c o, Off z TO i1 i2 c → s.heap.get? c = some o → h'.get? c = some o := fun c o q e => b7 c o q.1 q.2.1 q.2.2.1 q.2.2.2 e
    exact ⟨kp _ _ oI Z.pI, b3, b4, ⟨p1, kp _ _ o1 q1, r1⟩, ⟨p2, kp _ _ o2 q2, r2⟩, .inr ⟨_, true, _, b1, hT, kp _ _ hT gT⟩⟩
theorem ZS.done (hh : A.handled = none) (ap : ZipApart z TI TO i1 i2 l1 l2) (Z : ZS s.heap z TI TO i1 i2 l1 l2 xs ys k) (ex : xs[k]? = none) {Q : Option Value → Shared → Prop}
    (go : ∀ h', (∀ c o, Off z TO i1 i2 c → s.heap.get? c = some o → h'.get? c = some o) → Q none { s with heap := h' }) : wpAny (model prog w) A (pyNext (.ref z)) Q E s := by
  rcases Z.st with ⟨g, a, b, gO⟩ | ⟨T, f, oT, g, hT, gT⟩
  · exact RZ.pyNext_zipT_end hh ap g Z.pI gO Z.u1 Z.u2 Z.v1 Z.v2 (.inl ex) fun h' kp => go h' fun c o q e => kp c o q.1 q.2.1 q.2.2.1 q.2.2.2 e
  · exact end_held (ys := ys) hh ap g gT Z.pI Z.u1 Z.v1 ex fun h' kp => go h' fun c o q e => kp c o q.1 q.2.1 q.2.2.1 q.2.2.2 e
end
end Lz
namespace Lz
open PySem PySem.Spec PyProof.Rows L2
/-- the pairs made so far -/
structure Prs (h : Heap) (lo : Addr) (xs ys : Array Value) (as : List Addr) : Prop where
  rise : as.Pairwise (· < ·)
  above : ∀ a ∈ as, lo ≤ a
  pair : ∀ (j : Nat) (a : Addr), as[j]? = some a → ∃ x y, xs[j]? = some x ∧ ys[j]? = some y ∧ IsPair h a x y
abbrev lstO (acc : Array Value) (c : Nat) : Obj := { cls := .type "list", dict := none, data := .seq acc c, slots := #[] }
section
variable {prog : Program} {w : World} {A : Around} {s : Shared} {z TI TO i1 i2 l1 l2 S lo : Addr} {xs ys : Array Value} {R : Result → Shared → Prop}
theorem turns (hh : A.handled = none) (ap : ZipApart z TI TO i1 i2 l1 l2) (hS : S ≠ z ∧ S ≠ TI ∧ S ≠ TO ∧ S ≠ i1 ∧ S ≠ i2 ∧ S ≠ l1 ∧ S ≠ l2) (below : S < lo ∧ z < lo ∧ TO < lo ∧ i1 < lo ∧ i2 < lo) (same : xs.size = ys.size) (few : xs.size ≤ sizeLine) (res : Value) {h₁ : Heap}
    (fin : ∀ h' acc c as, (∀ b o, b ≠ S → Off z TO i1 i2 b → h₁.get? b = some o → h'.get? b = some o) → h'.get? S = some (lstO acc c) → as.length = xs.size → Prs h' lo xs ys as → acc.toList = as.map Value.ref → R (.ok (.ret res)) { s with heap := h' }) :
    ∀ (m k : Nat) (h : Heap) (c : Nat) (acc : Array Value) (as : List Addr), xs.size - k = m → k ≤ xs.size → ZS h z TI TO i1 i2 l1 l2 xs ys k → (∀ b o, b ≠ S → Off z TO i1 i2 b → h₁.get? b = some o → h.get? b = some o) → h.get? S = some (lstO acc c) →
      acc.toList = as.map Value.ref → as.length = k → Prs h lo xs ys as → lo ≤ h.objs.size → codeAny (model prog w) A (.builtin "list.extend.loop" ⟨[.ref S, .ref z, res], []⟩) R { s with heap := h } := by
  intro m
  induction m with
  | zero =>
    intro k h c acc as hm hk Z kp gS eacc elen P hlo
    refine codeAny_builtin PySem.F.entry_extend_loop ?_
    rw [Around.under_plainId PySem.F.plain_extend_loop _]
    show wpAny _ A.in1 (pyNext (.ref z) >>= fun _ => _) _ _ _
    refine wpAny_bind (ZS.done (s := { s with heap := h }) (A := A.in1) hh ap Z (by rw [Array.getElem?_eq_none_iff]; omega) fun h' st => ?_)
    refine wpAny_pure (fin h' acc c as (fun b o n1 n2 e => st b o n2 (kp b o n1 n2 e)) (st S _ ⟨hS.1, hS.2.2.1, hS.2.2.2.1, hS.2.2.2.2.1⟩ gS) (by omega) ⟨P.rise, P.above, fun j a ja => ?_⟩ eacc)
    obtain ⟨x, y, e1, e2, e3⟩ := P.pair j a ja
    have la := P.above a (List.mem_of_getElem? ja)
    exact ⟨x, y, e1, e2, st a _ ⟨Nat.ne_of_gt (Nat.lt_of_lt_of_le below.2.1 la), Nat.ne_of_gt (Nat.lt_of_lt_of_le below.2.2.1 la), Nat.ne_of_gt (Nat.lt_of_lt_of_le below.2.2.2.1 la), Nat.ne_of_gt (Nat.lt_of_lt_of_le below.2.2.2.2 la)⟩ e3⟩
  | succ m ih =>
    intro k h c acc as hm hk Z kp gS eacc elen P hlo
    have kx : k < xs.size := by omega
    have ky : k < ys.size := by omega
    have nacc : acc.size = k := by rw [← Array.length_toList, eacc, List.length_map, elen]
    refine codeAny_builtin PySem.F.entry_extend_loop ?_
    rw [Around.under_plainId PySem.F.plain_extend_loop _]
    show wpAny _ A.in1 (pyNext (.ref z) >>= fun _ => _) _ _ _
    refine wpAny_bind (ZS.next (s := { s with heap := h }) (A := A.in1) ap Z (Array.getElem?_eq_getElem kx) (Array.getElem?_eq_getElem ky) fun h' Z' made sz st => ?_)
    have offS : Off z TO i1 i2 S := ⟨hS.1, hS.2.2.1, hS.2.2.2.1, hS.2.2.2.2.1⟩
    have gS' := st S _ offS gS
    have ltS : S < h.objs.size := Heap.lt_size gS
    have up : ∀ b o, b ≠ S → h'.get? b = some o → (h'.update S (Obj.mapSeq (·.push (Value.ref h.objs.size)))).get? b = some o := fun b o n e => (Heap.get?_update_other _ _ (Ne.symm n)).trans e
    have selfS := Heap.get?_update_self (Obj.mapSeq (·.push (Value.ref h.objs.size))) gS' rfl
    show wpAny _ A.in1 (updateSeq S (·.push (Value.ref h.objs.size)) >>= fun _ => _) _ _ _
    refine wpAny_bind ?_
    refine wpAny_updateSeq gS' rfl (wpAny_pure ⟨plainId_quiet PySem.F.plain_extend_loop _, ih (k + 1) _ _ (acc.push (Value.ref h.objs.size)) (as ++ [h.objs.size]) (by omega) kx (Z'.stay hS (fun T oT e => ?_) up)
      (fun b o n1 n2 e => up b o n1 (st b o n2 (kp b o n1 n2 e))) selfS (by rw [Array.toList_push, eacc, List.map_append]; rfl) (by rw [List.length_append, elen]; rfl) ⟨?_, ?_, ?_⟩ ?_⟩) (by rw [nacc]; omega) (by show (acc.push (Value.ref h.objs.size)).size ≤ sizeLine + 1; rw [Array.size_push, nacc]; omega)
    · by_cases t : T = S
      · rw [t]
        exact ⟨_, selfS⟩
      · exact ⟨_, up T oT t e⟩
    · refine List.pairwise_append.mpr ⟨P.rise, List.pairwise_singleton _ _, fun a ha b hb => ?_⟩
      rw [List.mem_singleton.mp hb]
      obtain ⟨j, ja⟩ := List.mem_iff_getElem?.mp ha
      obtain ⟨x, y, _, _, e3⟩ := P.pair j a ja
      exact Heap.lt_size e3
    · intro a ha
      rcases List.mem_append.mp ha with ha | ha
      · exact P.above a ha
      · rw [List.mem_singleton.mp ha]
        exact hlo
    · intro j b jb
      by_cases j1 : j < as.length
      · rw [List.getElem?_append_left j1] at jb
        obtain ⟨x, y, e1, e2, e3⟩ := P.pair j b jb
        have la := P.above b (List.mem_of_getElem? jb)
        exact ⟨x, y, e1, e2, up b _ (Nat.ne_of_gt (Nat.lt_of_lt_of_le below.1 la)) (st b _ ⟨Nat.ne_of_gt (Nat.lt_of_lt_of_le below.2.1 la), Nat.ne_of_gt (Nat.lt_of_lt_of_le below.2.2.1 la), Nat.ne_of_gt (Nat.lt_of_lt_of_le below.2.2.2.1 la), Nat.ne_of_gt (Nat.lt_of_lt_of_le below.2.2.2.2 la)⟩ e3)⟩
      · by_cases j2 : j = as.length
        · subst j2
          have eb : h.objs.size = b := by simpa using jb
          subst eb
          exact ⟨_, _, by rw [elen]; exact Array.getElem?_eq_getElem kx, by rw [elen]; exact Array.getElem?_eq_getElem ky, up _ _ (Nat.ne_of_gt ltS) made⟩
        · have no : (as ++ [h.objs.size])[j]? = none := List.getElem?_eq_none (by rw [List.length_append, List.length_singleton]; omega)
          rw [no] at jb
          cases jb
    · have e := up _ _ (Nat.ne_of_gt ltS) made
      exact Nat.le_trans hlo (Nat.le_of_lt (Heap.lt_size e))
end
end Lz

namespace Lz
open PySem PySem.Spec PyProof.Rows L2
section
variable {prog : Program} {w : World} {A : Around} {E : Value → Shared → Prop} {s : Shared} {z TI TO i1 i2 l1 l2 : Addr} {xs ys : Array Value}
theorem fill {R : Result → Shared → Prop} {S : Addr} {a b : Value} (hh : A.handled = none) (ap : ZipApart z TI TO i1 i2 l1 l2) (hS : S ≠ z ∧ S ≠ TI ∧ S ≠ TO ∧ S ≠ i1 ∧ S ≠ i2 ∧ S ≠ l1 ∧ S ≠ l2) (same : xs.size = ys.size) (few : xs.size ≤ sizeLine) (res : Value)
    (Z : ZS s.heap z TI TO i1 i2 l1 l2 xs ys 0) (gz : IsZip s.heap z TI TO .none) (gO : IsPair s.heap TO a b) {c₀ : Nat} (gS : s.heap.get? S = some (lstO #[] c₀))
    (fin : ∀ h' acc c as, (∀ b o, b ≠ S → Off z TO i1 i2 b → s.heap.get? b = some o → h'.get? b = some o) → h'.get? S = some (lstO acc c) → as.length = xs.size → Prs h' s.heap.objs.size xs ys as → acc.toList = as.map Value.ref → R (.ok (.ret res)) { s with heap := h' }) :
    wpAny (model prog w) A.in1 (Builtin.List.listExtendWith (.ref S) (.ref z) res)
      (fun fin s' => match fin with | .done f => R (.ok f) s' | .again c' => c'.quiet = true ∧ codeAny (model prog w) A c' R s') (fun e s' => R (.error e) s') s := by
  obtain ⟨w1, e1, _⟩ := id Z.u1
  obtain ⟨w2, e2, _⟩ := id Z.u2
  have tz : s.TypeIs (.ref z) "zip" := Z.typeIs
  unfold Builtin.List.listExtendWith
  refine wpAny_bind (wpAny_typeOf tz ?_)
  have q1 : Builtin.List.listSameRef (.ref S) (.ref z) = false := by simp [Builtin.List.listSameRef, hS.1]
  have q2 : (Value.type "zip" == Value.type "list") = false := by decide
  have q3 : (Value.type "zip" == Value.type "tuple") = false := by decide
  simp only [q1, q2, q3, Bool.or_false, Bool.false_eq_true, if_false]
  refine wpAny_bind (wpAny_pyIter_zip gz ?_)
  refine wpAny_bind (wpAny_holding ?_)
  unfold Builtin.List.listLengthHint
  refine wpAny_bind (wpAny_specialOf tz zip_no_len ?_)
  show wpAny _ A.in1 (specialOf (Value.ref z) (Str.ofString "__length_hint__") >>= fun _ => _) _ _ _
  refine wpAny_bind (wpAny_specialOf tz zip_no_hint ?_)
  refine wpAny_pure ?_
  show wpAny _ A.in1 (rule "list.extend.makes-room" >>= fun _ => Builtin.List.listTouch (.ref S) >>= fun _ => again (.builtin "list.extend.loop" ⟨[.ref S, .ref z, res], []⟩)) _ _ _
  refine wpAny_bind (wpAny_rule (wpAny_bind ?_))
  show wpAny _ A.in1 (updateSeq S (·.push .none) >>= fun _ => updateSeq S (·.pop)) _ _ s
  refine wpAny_bind (wpAny_updateSeq gS rfl ?_)
  have gS2 := Heap.get?_update_self (Obj.mapSeq (·.push Value.none)) gS rfl
  refine wpAny_updateSeq (hz := by seq_fits) gS2 rfl ?_
  have gS3 := Heap.get?_update_self (Obj.mapSeq (·.pop)) gS2 rfl
  have oth : ∀ c o, c ≠ S → s.heap.get? c = some o → ((s.heap.update S (Obj.mapSeq (·.push Value.none))).update S (Obj.mapSeq (·.pop))).get? c = some o :=
    fun c o n e => (Heap.get?_update_other _ _ (Ne.symm n)).trans ((Heap.get?_update_other _ _ (Ne.symm n)).trans e)
  have sz : ((s.heap.update S (Obj.mapSeq (·.push Value.none))).update S (Obj.mapSeq (·.pop))).objs.size = s.heap.objs.size := by rw [Heap.size_update, Heap.size_update]
  refine wpAny_pure ⟨plainId_quiet PySem.F.plain_extend_loop _, ?_⟩
  refine turns (s := s) (lo := s.heap.objs.size) hh ap hS ⟨Heap.lt_size gS, Heap.lt_size gz, Heap.lt_size gO, Heap.lt_size e1, Heap.lt_size e2⟩ same few res (h₁ := s.heap) fin xs.size 0 _ _ #[] [] (Nat.sub_zero _) (Nat.zero_le _) (Z.stay hS (fun T oT e => ?_) oth) (fun b o n1 _ e => oth b o n1 e) gS3 rfl rfl
    ⟨List.Pairwise.nil, (fun _ h => nomatch h), fun j a h => by simp at h⟩ (Nat.le_of_eq sz.symm)
  by_cases t : T = S
  · rw [t]
    exact ⟨_, gS3⟩
  · exact ⟨_, oth T oT t e⟩
/-- list(z) of a new zip of two tuples -/
theorem call_zipped {Q : Value → Shared → Prop} {a b : Value} (hh : A.handled = none) (ap : ZipApart z TI TO i1 i2 l1 l2) (same : xs.size = ys.size) (few : xs.size ≤ sizeLine) (Z : ZS s.heap z TI TO i1 i2 l1 l2 xs ys 0) (gz : IsZip s.heap z TI TO .none) (gO : IsPair s.heap TO a b)
    (fin : ∀ h' acc c as, (∀ b o, Off z TO i1 i2 b → s.heap.get? b = some o → h'.get? b = some o) → h'.get? s.heap.objs.size = some (lstO acc c) → as.length = xs.size → Prs h' (s.heap.objs.size + 1) xs ys as → acc.toList = as.map Value.ref → Q (.ref s.heap.objs.size) { s with heap := h' }) :
    wpAny (model prog w) A (call (.type "list") [.ref z]) Q E s := by
  obtain ⟨w1, e1, _⟩ := id Z.u1
  obtain ⟨w2, e2, _⟩ := id Z.u2
  obtain ⟨w3, e3, _⟩ := id Z.v1
  obtain ⟨w4, e4, _⟩ := id Z.v2
  refine callType_codes (Q₁ := fun obj s₁ => obj = .ref s.heap.objs.size ∧ s₁ = { s with heap := s.heap.push { cls := .type "list", data := .seq #[] } }) PySem.F.called_list (PySem.F.typeCall_list_1 _) PySem.F.entry_list_init (code_list_new _ ⟨rfl, rfl⟩) fun obj s₁ eq => ?_
  obtain ⟨rfl, rfl⟩ := eq
  have gS : (s.heap.push { cls := .type "list", data := .seq #[] }).get? s.heap.objs.size = some (lstO #[] 0) := Heap.get?_push_size _ rfl
  have hS : s.heap.objs.size ≠ z ∧ s.heap.objs.size ≠ TI ∧ s.heap.objs.size ≠ TO ∧ s.heap.objs.size ≠ i1 ∧ s.heap.objs.size ≠ i2 ∧ s.heap.objs.size ≠ l1 ∧ s.heap.objs.size ≠ l2 :=
    ⟨Nat.ne_of_gt (Heap.lt_size gz), Nat.ne_of_gt (Heap.lt_size Z.pI), Nat.ne_of_gt (Heap.lt_size gO), Nat.ne_of_gt (Heap.lt_size e1), Nat.ne_of_gt (Heap.lt_size e2), Nat.ne_of_gt (Heap.lt_size e3), Nat.ne_of_gt (Heap.lt_size e4)⟩
  have pu : ∀ c o, s.heap.get? c = some o → (s.heap.push { cls := .type "list", data := .seq #[] }).get? c = some o := fun c o e => Heap.get?_push_of_some _ e
  refine ⟨⟨_, gS, rfl⟩, PySem.F.args_list_init_2 _ _, ?_⟩
  show wpAny _ A.in1.in1 (do let old ← Builtin.List.listItems (.ref s.heap.objs.size); Builtin.List.listUpdate (.ref s.heap.objs.size) (fun _ => #[]); letGo old.toList.reverse; Builtin.List.listExtendWith (.ref s.heap.objs.size) (.ref z) .none) _ _ _
  refine wpAny_bind ?_
  unfold Builtin.List.listItems
  refine wpAny_bind (wpAny_seqItems gS rfl (wpAny_pure ?_))
  show wpAny _ A.in1.in1 (updateSeq s.heap.objs.size (fun _ => #[]) >>= fun _ => letGo (#[] : Array Value).toList.reverse >>= fun _ => Builtin.List.listExtendWith (.ref s.heap.objs.size) (.ref z) .none) _ _ _
  refine wpAny_bind (wpAny_updateSeq gS rfl ?_)
  have gS2 := Heap.get?_update_self (Obj.mapSeq (fun _ => (#[] : Array Value))) gS rfl
  have oth : ∀ c o, c ≠ s.heap.objs.size → (s.heap.push { cls := .type "list", data := .seq #[] }).get? c = some o → ((s.heap.push { cls := .type "list", data := .seq #[] }).update s.heap.objs.size (Obj.mapSeq (fun _ => (#[] : Array Value)))).get? c = some o :=
    fun c o n e => (Heap.get?_update_other _ _ (Ne.symm n)).trans e
  have sz : ((s.heap.push { cls := .type "list", data := .seq #[] }).update s.heap.objs.size (Obj.mapSeq (fun _ => (#[] : Array Value)))).objs.size = s.heap.objs.size + 1 := by rw [Heap.size_update]; exact Heap.size_push ..
  refine wpAny_bind (wpAny_letGo ?_)
  have Z1 : ZS (s.heap.push { cls := .type "list", data := .seq #[] }) z TI TO i1 i2 l1 l2 xs ys 0 := Z.stay hS (fun T oT e => ⟨_, pu T oT e⟩) fun c o _ e => pu c o e
  have Z2 := Z1.stay hS (fun T oT e => by
    by_cases t : T = s.heap.objs.size
    · rw [t]
      exact ⟨_, gS2⟩
    · exact ⟨_, oth T oT t e⟩) oth
  refine fill (A := A.in1) (s := { s with heap := (s.heap.push { cls := .type "list", data := .seq #[] }).update s.heap.objs.size (Obj.mapSeq (fun _ => (#[] : Array Value))) }) hh ap hS same few .none Z2 (oth _ _ (Ne.symm hS.1) (pu _ _ gz)) (oth _ _ (Ne.symm hS.2.2.1) (pu _ _ gO)) gS2 fun h' acc c as kp g1 g2 g3 g4 => ?_
  refine ⟨rfl, fin h' acc c as (fun b o n e => kp b o (Nat.ne_of_lt (Heap.lt_size e)) n (oth b o (Nat.ne_of_lt (Heap.lt_size e)) (pu b o e))) g1 g2 ?_ g4⟩
  have g3' : Prs h' ((s.heap.push { cls := .type "list", data := .seq #[] }).update s.heap.objs.size (Obj.mapSeq (fun _ => (#[] : Array Value)))).objs.size xs ys as := g3
  rw [sz] at g3'
  exact g3'
end
end Lz

namespace Lz
open PySem PySem.Spec PyProof.Rows L2
/-- pairs tracked at their addresses -/
def putP : Hp → List Addr → List (V × V) → Hp
  | H, a :: as, q :: qs => putP (upd H a (.tup [q.1, q.2])) as qs
  | H, _, _ => H
theorem putP_off {b : Addr} : ∀ (as : List Addr) (qs : List (V × V)) (H : Hp), b ∉ as → putP H as qs b = H b
  | [], _, _, _ => rfl
  | _ :: _, [], _, _ => rfl
  | a :: as, q :: qs, H, h => by
    show putP (upd H a (.tup [q.1, q.2])) as qs b = H b
    rw [putP_off as qs _ (fun z => h (List.mem_cons_of_mem _ z)), upd_ne (fun z => h (by rw [z]; exact List.mem_cons_self))]
theorem putP_at : ∀ (as : List Addr) (qs : List (V × V)) (H : Hp), as.length = qs.length → as.Nodup → Paired (fun (t : Addr) (q : V × V) => putP H as qs t = some (.tup [q.1, q.2])) as qs
  | [], [], _, _, _ => .nil
  | [], _ :: _, _, h, _ => by cases h
  | _ :: _, [], _, h, _ => by cases h
  | a :: as, q :: qs, H, h, n => by
    obtain ⟨n1, n2⟩ := List.nodup_cons.mp n
    refine .cons ?_ (putP_at as qs (upd H a (.tup [q.1, q.2])) (Nat.succ.inj h) n2)
    show putP (upd H a (.tup [q.1, q.2])) as qs a = some (.tup [q.1, q.2])
    rw [putP_off as qs _ n1, upd_same]
section
variable {X : Cx} {pins : List (Addr × Obj)} {σ : L2.St} {H : Hp} {s : Shared}
theorem laid {h' : Heap} {qs : List (V × V)} {S : Addr} {as : List Addr} {acc : Array Value} {c tk : Nat} (I : Inv X pins σ H s) (kp : ∀ b o, s.heap.get? b = some o → h'.get? b = some o) (gS : h'.get? S = some (lstO acc c)) (lowS : s.heap.objs.size ≤ S) (low : ∀ a ∈ as, S < a) (nd : as.Nodup)
    (len : as.length = qs.length) (few : qs.length ≤ sizeLine) (pr : ∀ (j : Nat) (a : Addr) (q : V × V), as[j]? = some a → qs[j]? = some q → ∃ x y, RelV q.1 x ∧ RelV q.2 y ∧ IsPair h' a x y) (eacc : acc.toList = as.map Value.ref) :
    ∃ H' : Hp, (∀ b o, H b = some o → H' b = some o) ∧ H S = none ∧ (∀ t ∈ as, H t = none) ∧ S ∉ as ∧ H' S = some (.lst (as.map V.ref)) ∧ Paired (fun (t : Addr) (q : V × V) => H' t = some (.tup [q.1, q.2])) as qs ∧ Inv X pins σ H' { s with heap := h', toks := tk } := by
  have nS : S ∉ as := fun z => Nat.lt_irrefl _ (low _ z)
  have new : ∀ t ∈ as, H t = none := fun t ht => I.hok.fresh (Nat.le_of_lt (Nat.lt_of_le_of_lt lowS (low t ht)))
  have newS : H S = none := I.hok.fresh lowS
  have atP := putP_at as qs (upd H S (.lst (as.map V.ref))) len nd
  have off : ∀ b, b ∉ as → b ≠ S → putP (upd H S (.lst (as.map V.ref))) as qs b = H b := fun b n1 n2 => by rw [putP_off as qs _ n1, upd_ne n2]
  have old : ∀ b o, s.heap.get? b = some o → b ∉ as ∧ b ≠ S := fun b o e =>
    ⟨fun z => absurd (Heap.lt_size e) (Nat.not_lt.mpr (Nat.le_of_lt (Nat.lt_of_le_of_lt lowS (low b z)))), fun z => absurd (Heap.lt_size e) (Nat.not_lt.mpr (by rw [z]; exact lowS))⟩
  have ke : ∀ b u, H b = some u → (putP (upd H S (.lst (as.map V.ref))) as qs) b = some u := fun b u e => by
    rw [off b (fun z => by rw [new b z] at e; cases e) (fun z => by rw [z, newS] at e; cases e)]
    exact e
  have eS : putP (upd H S (.lst (as.map V.ref))) as qs S = some (.lst (as.map V.ref)) := by rw [putP_off as qs _ nS, upd_same]
  refine ⟨_, ke, newS, new, nS, eS, atP, ?_⟩
  refine I.call' (ch := []) rfl ⟨fun b o q _ _ _ => kp b o q, fun b o q _ _ _ => ⟨o.slots, kp b o q⟩, fun b o q n _ => ?_, fun b o q _ => ⟨o, kp b o q⟩, fun b xs q => ke b _ q, fun b o u q => ke b _ q, fun b ps q => ⟨#[], by rw [ke b _ q]; simp⟩⟩ (fun b u q => ?_) I.bare fun b z => by simp at z
  · obtain ⟨z1, z2⟩ := old b o q
    rw [off b z1 z2]
    exact n
  · by_cases hb : b ∈ as
    · obtain ⟨j, pk, e1, e2, e3⟩ := LiI.paired_ix atP hb
      rw [e3] at q
      cases q
      obtain ⟨x, y, r1, r2, g⟩ := pr j b pk e1 e2
      exact ⟨by show 2 ≤ sizeLine; decide, [x, y], .cons r1 (.cons r2 .nil), ⟨_, g, rfl, _, rfl⟩⟩
    · by_cases hb2 : b = S
      · rw [hb2] at q ⊢
        rw [eS] at q
        cases q
        refine ⟨by rw [List.length_map]; omega, acc.toList, c, by rw [eacc]; exact LiI.vals_refs as, ?_⟩
        rw [Array.toArray_toList]
        exact gS
      · rw [off b hb hb2] at q
        exact (I.hok b u q).stay (fun d v _ y => kp d v y) (fun d y => ke d _ y) fun d xs y => ke d _ y
def tLZip (K : PySem.W.Frag) (ta : TA) : TE := fun σ H Q => ta σ H fun vs H1 => ∃ a b xs ys, vs = [.ref a, .ref b] ∧ SqT K H1 a xs ∧ SqT K H1 b ys ∧ xs.length = ys.length ∧
  ∀ (H' : Hp) (p : Addr) (ts : List Addr), (∀ c o, H1 c = some o → H' c = some o) → H1 p = none → (∀ t ∈ ts, H1 t = none) → p ∉ ts → H' p = some (.lst (ts.map V.ref)) → Paired (fun (t : Addr) (q : V × V) => H' t = some (.tup [q.1, q.2])) ts (xs.zip ys) → Q (.ref p) H'
theorem pe_lzip {e1 e2 : Expr} {ta : TA} {p p2 pos2 pos : Pos} (hc : X.calm = true) (hg : Gl X "list") (hm : X.mg "list" = none) (hgz : Gl X "zip") (hmz : X.mg "zip" = none) (ha : PA X [e1, e2] ta)
    (hs : starEach [.Call (.Name "zip" p2) [e1, e2] [] pos2] X.env = (false, eval (.Call (.Name "zip" p2) [e1, e2] [] pos2) X.env) :: starEach [] X.env := by rfl)
    (hs2 : starEach [e1, e2] X.env = (false, eval e1 X.env) :: starEach [e2] X.env := by rfl) (hpl : (backTo pos2 (starEach [e2] X.env)).any (·.1) = false := by rfl) :
    PE X (.Call (.Name "list" p) [.Call (.Name "zip" p2) [e1, e2] [] pos2] [] pos) (tLZip X.K ta) := by
  refine ⟨fun pins s σ H Q I hq => ?_⟩
  refine wpAny_Call_Name_kw (ld_blt I hg hm PyProof.Rows.boot_list ?_)
  refine PyProof.Rows.callWith_type1 ?_ hs rfl
  rw [hs]
  show wpAny _ _ (spliced ((false, eval (.Call (.Name "zip" p2) [e1, e2] [] pos2) X.env) :: backTo pos (starEach [] X.env))) _ _ s
  refine Calls.spliced_cons ?_
  refine Call_ (ld_blt I hgz hmz PyProof.Rows.boot_zip (PyProof.Rows.callWith_type1 (thn (ha.run pos2 pins s σ H _ I hq) fun us s1 ⟨vs, H1, I1, r1, q1⟩ => ?_) hs2 hpl))
  obtain ⟨a, b, xs, ys, ev, sa, sb, len, q⟩ := q1
  subst ev
  cases r1 with
  | cons r rr =>
    cases rr with
    | cons r' rr =>
      cases rr
      cases r
      cases r'
      obtain ⟨its, rv, p1, f1⟩ := I1.tuple sa
      obtain ⟨its2, rv2, pp2, f2⟩ := I1.tuple sb
      obtain ⟨o1, ho1, _⟩ := id p1
      obtain ⟨o2, ho2, _⟩ := id pp2
      refine RZ.call_zipT (show s1.heap.IsTuple a its.toArray from p1) (show s1.heap.IsTuple b its2.toArray from pp2) fun h' gz pI pO u1 u2 sz kp => ?_
      refine Calls.spliced_nil ?_
      have ap : ZipApart (s1.heap.objs.size + 4) (s1.heap.objs.size + 2) (s1.heap.objs.size + 3) s1.heap.objs.size (s1.heap.objs.size + 1) a b := PySem.W.ktu_apart s1.heap.objs.size a b (Heap.lt_size ho1) (Heap.lt_size ho2)
      have l1 : its.length = xs.length := (Vals.length rv).symm
      have l2 : its2.length = ys.length := (Vals.length rv2).symm
      obtain ⟨w1, g1, z1⟩ := id p1
      obtain ⟨w2, g2, z2⟩ := id pp2
      refine call_zipped (s := { s1 with heap := h' }) (xs := its.toArray) (ys := its2.toArray) (I1.ok.hd hc) ap (by rw [List.size_toArray, List.size_toArray, l1, l2, len]) (by rw [List.size_toArray, l1]; exact f1)
        ⟨pI, u1, u2, ⟨w1, kp _ _ g1, z1⟩, ⟨w2, kp _ _ g2, z2⟩, .inl ⟨gz, _, _, pO⟩⟩ gz pO fun h2 acc c as st gS la P eacc => ?_
      have zlen : (xs.zip ys).length = xs.length := by rw [List.length_zip, len, Nat.min_self]
      rw [List.size_toArray, l1] at la
      have sz' : h'.objs.size = s1.heap.objs.size + 5 := sz
      have pr : ∀ (j : Nat) (t : Addr) (qq : V × V), as[j]? = some t → (xs.zip ys)[j]? = some qq → ∃ x y, RelV qq.1 x ∧ RelV qq.2 y ∧ IsPair h2 t x y := by
        intro j t qq jt jq
        obtain ⟨x, y, ex, ey, ip⟩ := P.pair j t jt
        rw [List.getElem?_toArray] at ex ey
        obtain ⟨vx, vy⟩ := qq
        obtain ⟨jx, jy⟩ := List.getElem?_zip_eq_some.mp jq
        obtain ⟨ux, hx, rx⟩ := Vals.get rv jx
        obtain ⟨uy, hy, ry⟩ := Vals.get rv2 jy
        rw [hx] at ex
        rw [hy] at ey
        cases ex
        cases ey
        exact ⟨_, _, rx, ry, ip⟩
      obtain ⟨H', k1, k2, k3, k4, k5, k6, J⟩ := laid (tk := s1.toks) (qs := xs.zip ys) (S := h'.objs.size) (as := as) I1 (fun c o e => st c o ⟨Nat.ne_of_lt (Nat.lt_of_lt_of_le (Heap.lt_size e) (Nat.le_add_right _ _)), Nat.ne_of_lt (Nat.lt_of_lt_of_le (Heap.lt_size e) (Nat.le_add_right _ _)), Nat.ne_of_lt (Heap.lt_size e), Nat.ne_of_lt (Nat.lt_of_lt_of_le (Heap.lt_size e) (Nat.le_add_right _ _))⟩ (kp c o e)) gS (by rw [sz']; exact Nat.le_add_right _ _)
        (fun t ht => Nat.lt_of_lt_of_le (Nat.lt_succ_self _) (P.above t ht)) (List.Pairwise.imp (fun {a b} (h : a < b) => Nat.ne_of_lt h) P.rise) (by rw [la, zlen]) (by rw [zlen]; exact f1) pr eacc
      exact ⟨.ref h'.objs.size, H', J, rfl, q H' _ as k1 k2 k3 k4 k5 k6⟩
end
end Lz

namespace Ls
open PySem PySem.Spec PyProof.Rows L2 SS
/-- how many unlike texts stand among the first i -/
def cnt (xs : List Str) : Nat → Nat
  | 0 => 0
  | i + 1 => if (xs.take i).any (· == xs.getD i Str.empty) then cnt xs i else cnt xs i + 1
theorem cnt_le (xs : List Str) : ∀ i, cnt xs i ≤ i
  | 0 => Nat.le_refl 0
  | i + 1 => by
    have := cnt_le xs i
    unfold cnt
    split <;> omega
def inFirst (xs : List Str) (i : Nat) : Str → Bool := fun k => (xs.take i).any (· == k)
theorem inFirst_succ {xs : List Str} {i : Nat} (h : i < xs.length) (k : Str) : (inFirst xs i k || decide (k = xs.getD i Str.empty)) = inFirst xs (i + 1) k := by
  unfold inFirst
  rw [List.take_add_one, List.any_append, List.getElem?_eq_getElem h]
  have e : xs.getD i Str.empty = xs[i] := by rw [List.getD_eq_getElem?_getD, List.getElem?_eq_getElem h]; rfl
  rw [e]
  congr 1
  by_cases c : k = xs[i]
  · simp [c]
  · have : ¬ xs[i] = k := fun h => c h.symm
    simp [c, this]
section
variable {prog : Program} {w : World} {A : Around} {R : Result → Shared → Prop} {it : Addr} {fp wr : List Addr} {G : Array GenState → Array GenState → Prop} {n : Nat} {P : Nat → Value → Prop} {St : Nat → Shared → Prop}
theorem setOf_kept {S : Addr} {k : Str → Bool} {c : Nat} {s s' : Shared} (hS : s.heap.SetOf (PySem.strKind prog w) S k c) (hk : ∀ o, s.heap.get? S = some o → s'.heap.get? S = some o) : s'.heap.SetOf (PySem.strKind prog w) S k c := by
  obtain ⟨o, es, ep, t, ho, rest⟩ := hS
  exact ⟨o, es, ep, t, hk o ho, rest⟩
/-- the walk that fills a set with texts: behind i turns it holds the first i, unlike ones once -/
theorem loopN (W : WalksS prog w A.in1 it fp wr G n P St) (S : Addr) (hSf : S ∉ fp) (xs : List Str) (hsz : xs.length = n) (hb : n + 1 < scanBound)
    (hval : ∀ i v, P i v → ∃ t, v = .str (xs.getD i Str.empty) t) :
    ∀ (k i : Nat) (s : Shared), i + k = n → St i s → s.heap.SetOf (PySem.strKind prog w) S (inFirst xs i) (cnt xs i) →
      (∀ s', Moved (S :: wr) G s s' → s'.heap.SetOf (PySem.strKind prog w) S (inFirst xs n) (cnt xs n) → R (.ok (.ret .none)) s') →
      codeAny (model prog w) A (.builtin "set.update.loop" ⟨[.ref S, .ref it], []⟩) R s := by
  have hSw : S ∉ wr := fun h => hSf (W.sub _ h)
  intro k
  induction k with
  | zero =>
    rintro i s rfl hst hS hR
    refine codeAny_builtin PyProof.Rows.F.entry_set_update_loop ?_
    rw [Around.under_plainId PyProof.Rows.F.plain_set_update_loop _]
    show wpAny _ A.in1 (pyNext (.ref it) >>= _) _ _ s
    refine wpAny_bind (W.done s _ _ hst fun s' hm => ?_)
    show wpAny _ A.in1 (ret Value.none) _ _ s'
    exact wpAny_pure (hR s' (hm.mono fun b hb => List.mem_cons_of_mem _ hb) (setOf_kept hS fun o ho => hm.heap S _ hSw ho))
  | succ k ih =>
    intro i s hk hst hS hR
    have lt : i < n := by omega
    refine codeAny_builtin PyProof.Rows.F.entry_set_update_loop ?_
    rw [Around.under_plainId PyProof.Rows.F.plain_set_update_loop _]
    show wpAny _ A.in1 (pyNext (.ref it) >>= _) _ _ s
    refine wpAny_bind (W.item i s _ _ lt hst fun v s' hP hst' hm => ?_)
    obtain ⟨t, rfl⟩ := hval i v hP
    have hS' := setOf_kept (s' := s') hS fun o ho => hm.heap S _ hSw ho
    show wpAny _ A.in1 (holding [Value.str (xs.getD i Str.empty) t] (setAdd S (.str (xs.getD i Str.empty) t)) >>= _) _ _ s'
    refine wpAny_bind (wpAny_holding ?_)
    unfold setAdd
    refine wpAny_holding ?_
    refine wpAny_bind ((PySem.strKind prog w).pyHash (k := xs.getD i Str.empty) (strKind_is _ _ _ _) ?_)
    have room : cnt xs i + 1 < scanBound := by
      have := cnt_le xs i
      omega
    refine wpAny_setAddHashed_of (knd := PySem.strKind prog w) (s := { s' with toks := s'.toks + 1 }) (strKind_is _ _ _ _) rfl hS' room fun h' hsb hS2 => ?_
    have hS3 : h'.SetOf (PySem.strKind prog w) S (inFirst xs (i + 1)) (cnt xs (i + 1)) := SetOf_congr hS2 (fun k' => inFirst_succ (by omega) k') rfl
    refine wpAny_pure ⟨plainId_quiet PyProof.Rows.F.plain_set_update_loop _, ih (i + 1) _ (by omega) (W.frame _ s' _ _ hst' (Nat.le_succ _) fun b hb o e => ?_) hS3 fun s'' hm'' hS'' => ?_⟩
    · rw [hsb.2 b (fun h : b = S => hSf (by rw [← h]; exact hb))]
      exact e
    · refine hR s'' (Moved.trans W.gtrans ((hm.mono fun b hb => List.mem_cons_of_mem _ hb).then_heap (Nat.le_succ _) fun b o hb e => ?_) hm'') hS''
      rw [hsb.2 b (fun h : b = S => hb (by rw [h]; exact List.mem_cons_self))]
      exact e
end
def emptySet (led : Bool) : Obj := { cls := .type "set", dict := none, data := .set #[] 0 (.fresh 0 0 led) }
section
variable {prog : Program} {w : World} {A : Around} {E : Value → Shared → Prop} {s : Shared}
set_option maxRecDepth 100000 in
set_option maxHeartbeats 3200000 in
/-- set(a), as its __init__ goes -/
theorem call_set1 {a : Value} {Q : Value → Shared → Prop}
    {Z : Shared → Prop} (hi : ∀ led : Bool, wpAny (model prog w) A.in1.in1 (Builtin.«set.__init__» ⟨[.ref s.heap.objs.size, a], []⟩) (fun fin s' => match fin with
      | .done f => wants (fun r s₂ => r = .none ∧ Z s₂) E (.ok f) s'
      | .again c' => c'.quiet = true ∧ codeAny (model prog w) A.in1 c' (wants (fun r s₂ => r = .none ∧ Z s₂) E) s') (fun e s' => wants (fun r s₂ => r = .none ∧ Z s₂) E (.error e) s') { s with heap := s.heap.push (emptySet led) })
    (hQ : ∀ s₂, Z s₂ → Q (.ref s.heap.objs.size) s₂) (hh : A.handled = none) : wpAny (model prog w) A (call (.type "set") [a]) Q E s := by
  obtain ⟨c, tl, hmro⟩ := PySem.F.called_set.mro
  have hmade := PySem.F.called_set.made
  have hsub := PySem.F.called_set.sub
  refine wpAny_call (codeAny_of_tree ?_)
  show wpAny _ _ (callAny (.type "set") _) _ _ _
  refine wpAny_pure ⟨Code.quiet_builtin _ (by decide +kernel), codeAny_builtin PySem.F.entry_type_call ?_⟩
  rw [Around.under_plain (weight_type_call_type "set" [a] []) rfl]
  have h1 := PySem.F.called_set.notType
  have h2 := PySem.F.called_set.canCreate
  have hct := PySem.F.typeCall_set_1 a
  repeat (any_goals (first | assumption | wp_step))
  refine codeAny_mono (code_set_new_1 a (E := E) (Q₁ := fun obj s₁ => ∃ led : Bool, obj = .ref s.heap.objs.size ∧ s₁ = { s with heap := s.heap.push (emptySet led) }) fun led => ⟨led, rfl, rfl⟩) fun r s₁ hr => ?_
  cases r with
  | error e => exact hr
  | ok fl =>
    cases fl with
    | ret obj =>
      obtain ⟨led, rfl, rfl⟩ := hr
      have hT : Shared.TypeIs { s with heap := s.heap.push (emptySet led) } (.ref s.heap.objs.size) "set" := ⟨_, Heap.get?_push_size _ rfl, rfl⟩
      have hli := PySem.F.called_set.init.lookup
      have hbi := PySem.F.called_set.init.bind (.ref s.heap.objs.size)
      repeat (any_goals (first | assumption | wp_step))
      refine codeAny_mono (codeAny_call_builtin (R := wants (fun r s₂ => r = .none ∧ Z s₂) E) PySem.F.called_set.init.plain PySem.F.entry_set_init (check_set_init_1 hT ?_)) fun r₂ s₂ hr₂ => ?_
      · exact hi led
      · cases r₂ with
        | error e => exact hr₂
        | ok fl₂ =>
          cases fl₂ with
          | ret r =>
            obtain ⟨rfl, hz⟩ := hr₂
            repeat (any_goals (first | assumption | wp_step))
            exact hQ _ hz
          | _ => exact hr₂.elim
    | _ => exact hr.elim
set_option maxRecDepth 100000 in
set_option maxHeartbeats 3200000 in
/-- set(xs), xs a list of texts -/
theorem set_list {l : Addr} {items : Array Value} {xs : List Str} {Q : Value → Shared → Prop} (hh : A.handled = none) (hl : s.heap.IsList l items) (hx : PyProof.Rows.StrsAre items.toList xs) (hb : xs.length + 1 < scanBound)
    (h : ∀ (h' : Heap) (tk : Nat), h'.SetOf (PySem.strKind prog w) s.heap.objs.size (inFirst xs xs.length) (cnt xs xs.length) → (∀ b o, s.heap.get? b = some o → h'.get? b = some o) → Q (.ref s.heap.objs.size) { s with heap := h', toks := tk }) :
    wpAny (model prog w) A (call (.type "set") [.ref l]) Q E s := by
  refine call_set1 (Z := fun s₂ => ∃ h' tk, s₂ = { s with heap := h', toks := tk } ∧ h'.SetOf (PySem.strKind prog w) s.heap.objs.size (inFirst xs xs.length) (cnt xs xs.length) ∧ ∀ b o, s.heap.get? b = some o → h'.get? b = some o) (fun led => ?_) (fun s₂ ⟨h', tk, e, hS, hk⟩ => by rw [e]; exact h h' tk hS hk) hh
  obtain ⟨⟨oc, od, ob, os⟩, hol, hcl, nl, hdl⟩ := hl
  simp only at hcl hdl
  subst hcl hdl
  have hS : (s.heap.push (emptySet led)).get? s.heap.objs.size = some (emptySet led) := Heap.get?_push_size _ rfl
  have hol' : (s.heap.push (emptySet led)).get? l = some { cls := .type "list", dict := od, data := .seq items nl, slots := os } := Heap.get?_push_of_some _ hol
  have hsls := PySem.F.sub_list_set
  have hslf := PySem.F.sub_list_frozenset
  have hne : (Value.type "list" == Value.type "dict") = false := by decide
  have hl1 : (s.heap.push (emptySet led)).IsList l items := ⟨_, hol', rfl, nl, rfl⟩
  unfold Builtin.«set.__init__» noKeywords Builtin.Frozenset.updateFrom
  generalize hPI : pyIter = PI
  wp_walk
  subst hPI
  refine wpAny_pyIter_list hl1 ?_
  refine wpAny_bind (wpAny_runValue ?_)
  have lS : l < s.heap.objs.size := Heap.lt_size hol
  have z1 : (s.heap.push (emptySet led)).objs.size = s.heap.objs.size + 1 := Heap.size_push ..
  have hneI : l ≠ (s.heap.push (emptySet led)).objs.size := Nat.ne_of_lt (by rw [z1]; exact Nat.lt_succ_of_lt lS)
  have hSf : s.heap.objs.size ∉ [(s.heap.push (emptySet led)).objs.size, l] := by
    intro hm
    rcases List.mem_cons.mp hm with hm | hm
    · exact absurd (hm.trans z1) (Nat.ne_of_lt (Nat.lt_succ_self _))
    · exact absurd (List.mem_singleton.mp hm) (Nat.ne_of_gt lS)
  have hsz : xs.length = items.size := by rw [← StrsAre.len_eq hx, Array.length_toList]
  have hget : ((s.heap.push (emptySet led)).push { cls := .type "list_iterator", data := .fields #[.ref l, .int 0 0] }).get? s.heap.objs.size = some (emptySet led) := Heap.get?_push_of_some _ hS
  refine loopN ((Walks.list (show A.in1.in1.in1.handled = none by simp [hh]) _ l hneI items).toS) s.heap.objs.size hSf xs hsz (by omega) (fun i v hv => strs_at hx i v (by rw [Array.getElem?_toList]; exact hv)) items.size 0 _ (by omega)
    ⟨⟨_, Heap.get?_push_size _ rfl, rfl, rfl⟩, (hl1.push _)⟩ (PyProof.Rows.SetOf_congr ((PyProof.Rows.setObjOf_fresh (knd := PySem.strKind prog w) led).setOf hget (by unfold scanBound; omega)) (fun _ => rfl) rfl) fun s' hm hS' => ?_
  obtain ⟨h', g', d', tk', os'⟩ := s'
  have eg : g' = s.gens := hm.gens
  have ed : d' = s.drawn := hm.drawn
  have eo : os' = s.os := hm.os
  subst eg ed eo
  refine wpAny_pure ?_
  show wpAny _ _ (ret Value.none) _ _ _
  refine wpAny_pure ⟨rfl, h', tk', rfl, by rw [hsz]; exact hS', fun b o e => hm.heap b o ?_ (Heap.get?_push_of_some _ (Heap.get?_push_of_some _ e))⟩
  have lb := Heap.lt_size e
  intro hm
  rcases List.mem_cons.mp hm with hm | hm
  · exact absurd hm (Nat.ne_of_lt lb)
  · rcases List.mem_cons.mp hm with hm | hm
    · exact absurd (hm.trans z1) (Nat.ne_of_lt (Nat.lt_succ_of_lt lb))
    · cases hm
set_option maxRecDepth 100000 in
set_option maxHeartbeats 3200000 in
/-- set(xs), xs a tuple of texts -/
theorem set_tuple {l : Addr} {items : Array Value} {xs : List Str} {Q : Value → Shared → Prop} (hh : A.handled = none) (hl : s.heap.IsTuple l items) (hx : PyProof.Rows.StrsAre items.toList xs) (hb : xs.length + 1 < scanBound)
    (h : ∀ (h' : Heap) (tk : Nat), h'.SetOf (PySem.strKind prog w) s.heap.objs.size (inFirst xs xs.length) (cnt xs xs.length) → (∀ b o, s.heap.get? b = some o → h'.get? b = some o) → Q (.ref s.heap.objs.size) { s with heap := h', toks := tk }) :
    wpAny (model prog w) A (call (.type "set") [.ref l]) Q E s := by
  refine call_set1 (Z := fun s₂ => ∃ h' tk, s₂ = { s with heap := h', toks := tk } ∧ h'.SetOf (PySem.strKind prog w) s.heap.objs.size (inFirst xs xs.length) (cnt xs xs.length) ∧ ∀ b o, s.heap.get? b = some o → h'.get? b = some o) (fun led => ?_) (fun s₂ ⟨h', tk, e, hS, hk⟩ => by rw [e]; exact h h' tk hS hk) hh
  obtain ⟨⟨oc, od, ob, os⟩, hol, hcl, nl, hdl⟩ := hl
  simp only at hcl hdl
  subst hcl hdl
  have hS : (s.heap.push (emptySet led)).get? s.heap.objs.size = some (emptySet led) := Heap.get?_push_size _ rfl
  have hol' : (s.heap.push (emptySet led)).get? l = some { cls := .type "tuple", dict := od, data := .seq items nl, slots := os } := Heap.get?_push_of_some _ hol
  have hsls := PySem.F.sub_tuple_set
  have hslf := PySem.F.sub_tuple_frozenset
  have hne : (Value.type "tuple" == Value.type "dict") = false := by decide
  have hl1 : (s.heap.push (emptySet led)).IsTuple l items := ⟨_, hol', rfl, nl, rfl⟩
  unfold Builtin.«set.__init__» noKeywords Builtin.Frozenset.updateFrom
  generalize hPI : pyIter = PI
  wp_walk
  subst hPI
  refine wpAny_pyIter_tuple hl1 ?_
  refine wpAny_bind (wpAny_runValue ?_)
  have lS : l < s.heap.objs.size := Heap.lt_size hol
  have z1 : (s.heap.push (emptySet led)).objs.size = s.heap.objs.size + 1 := Heap.size_push ..
  have hneI : l ≠ (s.heap.push (emptySet led)).objs.size := Nat.ne_of_lt (by rw [z1]; exact Nat.lt_succ_of_lt lS)
  have hSf : s.heap.objs.size ∉ [(s.heap.push (emptySet led)).objs.size, l] := by
    intro hm
    rcases List.mem_cons.mp hm with hm | hm
    · exact absurd (hm.trans z1) (Nat.ne_of_lt (Nat.lt_succ_self _))
    · exact absurd (List.mem_singleton.mp hm) (Nat.ne_of_gt lS)
  have hsz : xs.length = items.size := by rw [← StrsAre.len_eq hx, Array.length_toList]
  have hget : ((s.heap.push (emptySet led)).push { cls := .type "tuple_iterator", data := .fields #[.ref l, .int 0 0] }).get? s.heap.objs.size = some (emptySet led) := Heap.get?_push_of_some _ hS
  refine loopN ((Walks.tuple (show A.in1.in1.in1.handled = none by simp [hh]) _ l hneI items).toS) s.heap.objs.size hSf xs hsz (by omega) (fun i v hv => strs_at hx i v (by rw [Array.getElem?_toList]; exact hv)) items.size 0 _ (by omega)
    ⟨⟨_, Heap.get?_push_size _ rfl, rfl, rfl⟩, (hl1.push _)⟩ (PyProof.Rows.SetOf_congr ((PyProof.Rows.setObjOf_fresh (knd := PySem.strKind prog w) led).setOf hget (by unfold scanBound; omega)) (fun _ => rfl) rfl) fun s' hm hS' => ?_
  obtain ⟨h', g', d', tk', os'⟩ := s'
  have eg : g' = s.gens := hm.gens
  have ed : d' = s.drawn := hm.drawn
  have eo : os' = s.os := hm.os
  subst eg ed eo
  refine wpAny_pure ?_
  show wpAny _ _ (ret Value.none) _ _ _
  refine wpAny_pure ⟨rfl, h', tk', rfl, by rw [hsz]; exact hS', fun b o e => hm.heap b o ?_ (Heap.get?_push_of_some _ (Heap.get?_push_of_some _ e))⟩
  have lb := Heap.lt_size e
  intro hm
  rcases List.mem_cons.mp hm with hm | hm
  · exact absurd hm (Nat.ne_of_lt lb)
  · rcases List.mem_cons.mp hm with hm | hm
    · exact absurd (hm.trans z1) (Nat.ne_of_lt (Nat.lt_succ_of_lt lb))
    · cases hm
end
end Ls
namespace Ls
open PySem PySem.Spec PyProof.Rows L2 SS
/-- len(set(xs)) of texts: how many unlike ones -/
def tLenS (K : PySem.W.Frag) (ta : TE) : TE := fun σ H Q => ta σ H fun x H1 => ∃ l, ∃ xs : List Str, x = .ref l ∧ (SqL K H1 l (xs.map V.str) ∨ SqT K H1 l (xs.map V.str)) ∧ xs.length ≤ 4000 ∧ Q (.int (cnt xs xs.length)) H1
section
variable {X : Cx}
theorem pe_lenS {a : Expr} {ta : TE} {p p2 q pos : Pos} (hc : X.calm = true) (hg : Gl X "len") (hm : X.mg "len" = none) (hg2 : Gl X "set") (hm2 : X.mg "set" = none) (ha : PE X a ta)
    (na : starEach [a] X.env = (false, eval a X.env) :: starEach [] X.env := by rfl) : PE X (.Call (.Name "len" p) [.Call (.Name "set" p2) [a] [] q] [] pos) (tLenS X.K ta) := by
  refine ⟨fun pins s σ H Q I h => Call_ (ld_blt I hg hm boot_len (PyProof.Rows.callWith_builtin1 (PyProof.Rows.args_cons (Call_ (ld_blt I hg2 hm2 boot_set (PyProof.Rows.callWith_type1 (PyProof.Rows.args_cons (thn (ha.run pins s σ H _ I h) fun v s1 ⟨x, H1, I1, r1, q1⟩ => PyProof.Rows.args_nil ?_) na) na rfl))) rfl) rfl rfl))⟩
  obtain ⟨l, xs, rfl, hq, few, q1⟩ := q1
  cases r1
  have few' : xs.length + 1 < scanBound := by
    show xs.length + 1 < 4096
    omega
  have fin : ∀ (h' : Heap) (tk : Nat), h'.SetOf (PySem.strKind X.prog X.w) s1.heap.objs.size (inFirst xs xs.length) (cnt xs xs.length) → (∀ b o, s1.heap.get? b = some o → h'.get? b = some o) →
      wpAny (model X.prog X.w) X.A (spliced (backTo pos (starEach [] X.env))) (fun vs s₂ => wpAny (model X.prog X.w) X.A (call (.builtin "len") (Value.ref s1.heap.objs.size :: vs)) (EP X pins σ Q) X.xe s₂) X.xe { s1 with heap := h', toks := tk } := fun h' tk hS hk => by
    refine PyProof.Rows.args_nil ?_
    obtain ⟨o, es, ep, t, ho, hex, hd, _, _, _, hf, hn⟩ := hS
    have I2 : Inv X pins σ H1 { s1 with heap := h', toks := tk } := I1.kept fun b o e => hk b o e
    have le := cnt_le xs xs.length
    exact call_len_set ho hex hd hf (by rw [hn]; omega) ⟨.int (cnt xs xs.length), H1, I2.tok _, ⟨_, by rw [hn]⟩, q1⟩
  rcases hq with hq | hq
  · obtain ⟨its, r, pl, hz⟩ := I1.list hq
    exact set_list (I1.ok.hd hc) pl.isList (by simpa using strsAre_of r) few' fin
  · obtain ⟨its, r, pl, hz⟩ := I1.tuple hq
    exact set_tuple (I1.ok.hd hc) pl (by simpa using strsAre_of r) few' fin
end
end Ls

/-! ## More actions: chains, op=, tables, texts, dict comprehensions -/
namespace Ev
open PySem L2 PyProof.Rows
def aChain (f g : W → W → M W) (a b c : A) : A := fun ρ => bd (a ρ) fun x => bd (b ρ) fun y => bd (f x y) fun z => bd (boolM z) fun k => if k = true then bd (c ρ) (fun w => g y w) else ret (.bl false)
/-- x += y, of numbers and lists -/
def augAdd : W → W → M W
  | .int i, .int j => ret (.int (i + j))
  | .ref n, .ref k => fun S => match lstAt S n, lstAt S k with
    | some ws, some us => if short (ws.length + us.length) = true then .ok (.ref n) (S.set n (.lst (ws ++ us))) else .no
    | _, _ => .no
  | _, _ => fail
/-- a table of the text's top: a key's worth, or that it is not there -/
abbrev Tab := List (Str × Option W)
def tabW (es : Tab) : W → M W
  | .str z => (match es.lookup z with | some (some u) => ret u | _ => fail)
  | _ => fail
def tabIn (es : Tab) : W → M W
  | .str z => (match es.lookup z with | some r => ret (.bl r.isSome) | none => fail)
  | _ => fail
def tabNin (es : Tab) : W → M W
  | .str z => (match es.lookup z with | some r => ret (.bl (!r.isSome)) | none => fail)
  | _ => fail
def strsW : List W → Option (List Str)
  | [] => some []
  | .str z :: r => (strsW r).map (z :: ·)
  | _ => none
def lenSW (x : W) : M W := fun S => match seqAt S x with
  | some ws => (match strsW ws with | some xs => if xs.length ≤ 4000 then .ok (.int (Ls.cnt xs xs.length)) S else .no | none => .no)
  | none => .no
def lzipW : W → W → M W
  | .tup a, .tup b => if a.length = b.length then new (.lst ((a.zip b).map fun p => .tup [p.1, p.2])) else fail
  | _, _ => fail
def fmtW : W → M W
  | .str z => guard (short z.length) (ret (.str z))
  | .int i => guard (decide (i.natAbs.log2 < 1920)) (ret (.str (toString i)))
  | _ => fail
def joinN : List A → Str → Rho → M W
  | [], out, _ => ret (.str out)
  | a :: r, out, ρ => bd (a ρ) fun w => match w with | .str z => guard (short (out ++ z).length) (joinN r (out ++ z) ρ) | _ => fail
def aJoin (l : List A) : A := fun ρ => joinN l Str.empty ρ
/-- a dict comprehension's pairs -/
def dcN (it : ItE) (g : AG) (tt : AT) (tk tv : A) (ρ0 : Rho) : Nat → Nat → List (Key × W) → M (List (Key × W))
  | 0, _, _ => fail
  | f + 1, i, acc => fun S => match it i S with
    | none => .no
    | some none => .ok acc S
    | some (some w) => (match g w ρ0 S with
      | .ok _ ρ1 S1 => (match tt ρ1 S1 with
        | .ok true S2 => (match tk ρ1 S2 with
          | .ok y S3 => (match tv ρ1 S3 with
            | .ok z S4 => (match keyW y with
              | some k => if short (acc.length + 1) = true then dcN it g tt tk tv ρ0 f (i + 1) (putKW acc k z) S4 else .no
              | none => .no)
            | _ => .no)
          | _ => .no)
        | .ok false S2 => dcN it g tt tk tv ρ0 f (i + 1) acc S2
        | _ => .no)
      | _ => .no)
def aDc (own : List Nat) (it : AI) (g : AG) (tt : AT) (tk tv : A) : A := fun ρ => bd (it ρ) fun j => bd (dcN j g tt tk tv (wipeR ρ own) big 0 []) fun kvs => new (.dic kvs)
section
variable {X : Cx} {Wx : WX} {G : Wd} {m m' : List Addr} {H H' : Hp} {S : Sto} {e e2 e3 o : Expr} {es : List Expr} {a b c te tk tv : A} {l : AL} {pos p2 p3 apos : Pos} {x mn f : Str} {tt : AT} {it : AI} {g : AG}
theorem out_bdI {α β γ δ : Type} {Vv : Vr α β} {V' : Vr γ δ} {σ : L2.St} {ρ : Rho} {Q : β → Hp → Prop} {R : δ → Hp → Prop} {am : M γ} {fm : γ → M α} (o : Out G Vv Wx σ ρ m H (bd am fm S) Q)
    (k : ∀ w S1 m1 v H1, Ext G m H m1 H1 → Sr G m1 ρ S1 σ H1 → V' m1 H1 w v → Out G Vv Wx σ ρ m1 H1 (fm w S1) Q → R v H1) : Out G V' Wx σ ρ m H (am S) R := by
  unfold bd at o
  cases e : am S with
  | ok w T => rw [e] at o; exact fun m' v H' e1 s1 v1 => k w T m' v H' e1 s1 v1 (o.ext e1)
  | er x T => rw [e] at o; exact fun m' H' cls od e1 s1 x1 => o m' H' cls od e1 s1 x1
  | no => rw [e] at o; exact o
theorem s_bad : PE X e (rdE (wd X) Wx fun _ => fail) := ⟨fun pins s σ H Q I h => by
  obtain ⟨m, ρ, S, sr, o⟩ := h
  exact False.elim o⟩
theorem s_badT : PT X e (rdT (wd X) Wx fun _ => fail) := ⟨fun pins s σ H Q I h => by
  obtain ⟨m, ρ, S, sr, o⟩ := h
  exact False.elim o⟩
theorem s_badL : PA X es (rdL (wd X) Wx fun _ => fail) := ⟨fun pos pins s σ H Q I h => by
  obtain ⟨m, ρ, S, sr, o⟩ := h
  exact False.elim o⟩
theorem s_badI : PI X e e2 (rd (wd X) (Vi (wd X)) Wx fun _ => fail) := ⟨fun pins s σ H Q I h => by
  obtain ⟨m, ρ, S, sr, o⟩ := h
  exact False.elim o⟩
theorem s_badO {x : Option Expr} : PO X x (rd (wd X) Vo Wx fun _ => fail) := ⟨fun pins s σ H Q I h => by
  obtain ⟨m, ρ, S, sr, o⟩ := h
  exact False.elim o⟩
theorem s_badG {Fr : Fram} : PG X e (rdG (wd X) Wx Fr fun _ => failS) := ⟨fun pins s σ H v u Q I r h => by
  obtain ⟨m, ρ, S, w, sr, hv, o⟩ := h
  exact False.elim o⟩
theorem s_badS {st : Stmt} : PS X st (rdB (wd X) Wx failS) := ⟨fun pins s σ H D I h => by
  obtain ⟨m, ρ, S, sr, o⟩ := h
  exact False.elim o⟩
theorem s_badSs {st : List Stmt} : PSs X st (rdB (wd X) Wx failS) := ⟨fun pins s σ H D I h => by
  obtain ⟨m, ρ, S, sr, o⟩ := h
  exact False.elim o⟩
theorem s_break : PS X (.Break pos) (rdB (wd X) Wx bBreak) := by
  refine ⟨fun pins s σ H D I h => ps_break.run pins s σ H D I ?_⟩
  obtain ⟨m, ρ, S, sr, o⟩ := h
  exact o m σ H .refl sr
theorem s_neg (h : PE X e (rdE (wd X) Wx a)) : PE X (.UnaryOp .USub e pos) (rdE (wd X) Wx (aUn negW a)) := by
  refine ⟨fun pins s σ H Q I h' => (pe_un un_neg h).run pins s σ H Q I ?_⟩
  obtain ⟨m, ρ, S, sr, o⟩ := h'
  refine out_bd sr o fun w S1 m1 v H1 e1 s1 v1 o1 => ?_
  cases w <;> first | exact False.elim o1 | skip
  cases v1
  exact ⟨_, rfl, out_ok s1 o1 rfl⟩
theorem chain_read {f1 f2 : W → W → M W} {r r' : R2} (os : OpS X Wx f1 r) (os2 : OpS X Wx f2 r') {σ : L2.St} {H : Hp} {Q : VK} (h : rdE (wd X) Wx (aChain f1 f2 a b c) σ H Q) : tChain r r' (rdE (wd X) Wx a) (rdE (wd X) Wx b) (rdE (wd X) Wx c) σ H Q := by
  obtain ⟨m, ρ, S, sr, o⟩ := h
  refine out_bd sr o fun x S1 m1 v H1 e1 s1 v1 o1 => ?_
  refine out_bd s1 o1 fun y S2 m2 w H2 e2 s2 v2 o2 => ?_
  refine os σ ρ m2 H2 S2 x y v w _ s2 (v1.ext e2) v2 ?_
  refine out_bdI o2 fun z S3 m3 zv H3 e3 s3 v3 o3 => ?_
  cases z <;> first | exact False.elim o3 | skip
  rename_i k
  cases v3
  refine ⟨k, rfl, ?_⟩
  cases k with
  | false => exact out_ok s3 o3 rfl
  | true =>
    have o3 : Out (wd X) (Va (wd X)) Wx σ ρ m3 H3 (bd (c ρ) (fun w => f2 y w) S3) Q := o3
    rw [if_pos rfl]
    exact out_bd s3 o3 fun u S4 m4 uv H4 e4 s4 v4 o4 => os2 σ ρ m4 H4 S4 y u w uv Q s4 ((v2.ext e3).ext e4) v4 o4
theorem s_chain {op op' : CmpOp} {f1 f2 : W → W → M W} {r r' : R2} (ho : OpR X (compareOp op) r) (ho2 : OpR X (compareOp op') r') (os : OpS X Wx f1 r) (os2 : OpS X Wx f2 r') (ha : PE X e (rdE (wd X) Wx a)) (hb : PE X e2 (rdE (wd X) Wx b)) (hc : PE X e3 (rdE (wd X) Wx c))
    (hm : lastMarks [op, op'] [e2, e3] = false) : PE X (.Compare e [op, op'] [e2, e3] pos) (rdE (wd X) Wx (aChain f1 f2 a b c)) :=
  ⟨fun pins s σ H Q I h => (pe_chain ho ho2 ha hb hc hm).run pins s σ H Q I (chain_read os os2 h)⟩
theorem s_chainT {op op' : CmpOp} {f1 f2 : W → W → M W} {r r' : R2} (ho : OpR X (compareOp op) r) (ho2 : OpR X (compareOp op') r') (os : OpS X Wx f1 r) (os2 : OpS X Wx f2 r') (ha : PE X e (rdE (wd X) Wx a)) (hb : PE X e2 (rdE (wd X) Wx b)) (hc : PE X e3 (rdE (wd X) Wx c))
    (hm : lastMarks [op, op'] [e2, e3] = false) : PT X (.Compare e [op, op'] [e2, e3] pos) (rdT (wd X) Wx (tBool (aChain f1 f2 a b c))) := by
  refine ⟨fun pins s σ H Q I h => (pt_chain ho ho2 ha hb hc hm).run pins s σ H Q I ?_⟩
  obtain ⟨m, ρ, S, sr, o⟩ := h
  have := out_bd (V' := Va (wd X)) (R := fun (x : V) (H' : Hp) => ∃ k, x = .bl k ∧ Q k H') sr o fun w S1 m1 v H1 e1 s1 v1 o1 => out_bool s1 v1 o1
  exact chain_read os os2 this
/-! ### op= -/
def rAugA : R2 := fun x y H Q => ipI (fun i j => i + j) x y H Q ∨ rExt2 x y H Q
theorem ip_augA : PIp X .Add rAugA := fun pins s σ H x y v u Q I r1 r2 h => h.elim (ip_add pins s σ H x y v u Q I r1 r2) (iop_ext pins s σ H x y v u Q I r1 r2)
theorem os_augA : OpS X Wx augAdd rAugA := by
  intro σ ρ m H S x y v w Q sr hv hw o1
  cases x <;> cases y <;> first | exact False.elim o1 | skip
  · cases hv
    cases hw
    exact .inl ⟨_, _, rfl, rfl, out_ok sr o1 rfl⟩
  · rename_i n k
    dsimp only [augAdd] at o1
    cases e1 : lstAt S n with
    | none => rw [e1] at o1; exact False.elim o1
    | some us =>
      cases e2 : lstAt S k with
      | none => rw [e1, e2] at o1; exact False.elim o1
      | some zs =>
        rw [e1, e2] at o1
        dsimp only at o1
        split at o1
        · rename_i hsh
          obtain ⟨p, xs, hp, rfl, h1, lx⟩ := seq_lst sr.rel hv e1
          obtain ⟨q, ys, hq, rfl, h2, ly⟩ := seq_lst sr.rel hw e2
          exact .inr ⟨p, q, xs, ys, rfl, rfl, h1, h2, by rw [lx.len, ly.len]; exact short_le hsh, out_lset (ws := us) sr hp h1 (lx.app ly) (show Va (wd X) m H (.ref n) (.ref p) from ⟨p, hp, rfl⟩) o1⟩
        · exact False.elim o1
theorem os_augS : OpS X Wx subW (ipI fun i j => i - j) := by
  intro σ ρ m H S x y v w Q sr hv hw o
  cases x <;> cases y <;> first | exact False.elim o | skip
  cases hv
  cases hw
  exact ⟨_, _, rfl, rfl, out_ok sr o rfl⟩
/-! ### o.f = v of anything -/
theorem s_fldS2 {ok : Str → Bool} (ho : PE X o (rdE (wd X) Wx b)) (hv : PE X e (rdE (wd X) Wx a)) (hc : AtOk X ok f) : PS X (.Assign [.Attribute o f p2] e pos) (rdB (wd X) Wx (bFld ok f a b)) := by
  refine ⟨fun pins s σ H D I h => (ps_fld ho hv (by cases e <;> rfl)).run pins s σ H D I ?_⟩
  obtain ⟨m, ρ, S, sr, o1⟩ := h
  refine outS_up sr o1 fun w S1 m1 vv H1 e1 s1 v1 o2 => ?_
  have o2 := outS_unit o2
  rw [up_bd (f := fun x _ => fldSet ok f w x)] at o2
  refine outS_up s1 o2 fun x S2 m2 xv H2 e2 s2 v2 o3 => ?_
  obtain ⟨p, C, dx, gs, q1, q2, q3, q4, q5, m', q6⟩ := fldSet_ok hc s2 (v1.ext e2) v2 o3
  exact ⟨p, C, dx, gs, q1, q2, q3, q4, q5, q6⟩
/-! ### tables -/
structure TabOk (w : World) (K : PySem.W.Frag) (mg : Str → Option Value) (t : Str) (es : Tab) : Prop where
  ex : ∃ d en n, mg t = some (.ref d) ∧ KDict K w d en n ∧ ∀ z r, es.lookup z = some r → (match r with
    | some wv => ∃ u v, PySem.W.nsIn K d z = some (some u) ∧ RelV v u ∧ ∀ m H, Va ⟨K, mg⟩ m H wv v
    | none => PySem.W.nsIn K d z = some none)
theorem s_tab {es : Tab} {t : Str} (T : TabOk X.w X.K X.mg t es) (hg : Gl X t) (hdb : (t == ("__debug__" : Str)) = false) (he : PE X e (rdE (wd X) Wx a)) (hp : plainIx e = true) : PE X (.Subscript (.Name t p2) e pos) (rdE (wd X) Wx (aUn (tabW es) a)) := by
  obtain ⟨d, en, n, hm, kd, h0⟩ := T.ex
  refine ⟨fun pins s σ H Q I h => (pe_ix ix_kdict (pe_glob (v := .ref d) hg hm rfl hdb) he (plainIx_ok hp)).run pins s σ H Q I ?_⟩
  obtain ⟨m, ρ, S, sr, o⟩ := h
  refine out_bd sr o fun w S1 m1 v H1 e1 s1 v1 o1 => ?_
  cases w <;> first | exact False.elim o1 | skip
  rename_i z
  cases v1
  dsimp only [tabW] at o1
  cases el : es.lookup z with
  | none => rw [el] at o1; exact False.elim o1
  | some r =>
    rw [el] at o1
    cases r with
    | none => exact False.elim o1
    | some wv =>
      obtain ⟨u, v, q1, q2, q3⟩ := h0 z _ el
      exact ⟨d, z, v, rfl, rfl, ⟨en, n, u, kd.at_, kd.lit, q1, q2⟩, out_ok s1 o1 (q3 m1 H1)⟩
theorem op_nin_kd {d : Addr} {es : Array DictEntry} {n : Nat} (D : KDict X.K X.w d es n) : OpR X (compareOp .NotIn) fun x y H Q => ∃ z r, x = .str z ∧ y = .ref d ∧ PySem.W.nsIn X.K d z = some r ∧ Q (.bl (!r.isSome)) H := op_notIn_kd D
theorem s_tabIn {es : Tab} {t : Str} (T : TabOk X.w X.K X.mg t es) (hg : Gl X t) (hdb : (t == ("__debug__" : Str)) = false) (he : PE X e (rdE (wd X) Wx a)) : PE X (.Compare e [.In] [.Name t p2] pos) (rdE (wd X) Wx (aUn (tabIn es) a)) ∧ PT X (.Compare e [.In] [.Name t p2] pos) (rdT (wd X) Wx (tBool (aUn (tabIn es) a))) := by
  obtain ⟨d, en, n, hm, kd, h0⟩ := T.ex
  have key : ∀ {σ : L2.St} {H : Hp} {Q : VK}, rdE (wd X) Wx (aUn (tabIn es) a) σ H Q → tOp (fun x y H Q => ∃ z r, x = .str z ∧ y = .ref d ∧ PySem.W.nsIn X.K d z = some r ∧ Q (.bl r.isSome) H) (rdE (wd X) Wx a) (tC (.ref d)) σ H Q := fun h => by
    obtain ⟨m, ρ, S, sr, o⟩ := h
    refine out_bd sr o fun w S1 m1 v H1 e1 s1 v1 o1 => ?_
    cases w <;> first | exact False.elim o1 | skip
    rename_i z
    cases v1
    dsimp only [tabIn] at o1
    cases el : es.lookup z with
    | none => rw [el] at o1; exact False.elim o1
    | some r =>
      rw [el] at o1
      cases r with
      | none => exact ⟨z, none, rfl, rfl, h0 z _ el, out_ok s1 o1 rfl⟩
      | some wv =>
        obtain ⟨u, v, q1, q2, q3⟩ := h0 z _ el
        exact ⟨z, some u, rfl, rfl, q1, out_ok s1 o1 rfl⟩
  refine ⟨⟨fun pins s σ H Q I h => (pe_cmpR (op_in_kd kd) he (pe_glob (v := .ref d) hg hm rfl hdb) rfl).run pins s σ H Q I (key h)⟩, ⟨fun pins s σ H Q I h => (pt_cmpR (op_in_kd kd) he (pe_glob (v := .ref d) hg hm rfl hdb) rfl).run pins s σ H Q I ?_⟩⟩
  obtain ⟨m, ρ, S, sr, o⟩ := h
  exact key (out_bd (V' := Va (wd X)) (R := fun (x : V) (H' : Hp) => ∃ k, x = .bl k ∧ Q k H') sr o fun w S1 m1 v H1 e1 s1 v1 o1 => out_bool s1 v1 o1)
/-! ### a table of tuple keys -/
theorem strs_ok : ∀ {ws : List W} {ns : List Str} {xs : List V}, strsW ws = some ns → VaL G m H ws xs → xs = ns.map V.str
  | [], _, _, h, l => by cases h; exact l
  | w :: ws, ns, _, h, l => by
    obtain ⟨x, xs, rfl, t, l⟩ := l
    cases w <;> first | cases h | skip
    simp only [strsW] at h
    cases e : strsW ws with
    | none => rw [e] at h; cases h
    | some r => rw [e] at h; cases h; cases t; rw [List.map_cons, strs_ok e l]
theorem strs_va : ∀ ns : List Str, VaL G m H (ns.map W.str) (ns.map V.str)
  | [] => rfl
  | n :: ns => ⟨_, _, rfl, rfl, strs_va ns⟩
def fgetW (rows : List Hd.Row) : W → M W
  | .tup ws => (match strsW ws with | some ks => ret (match Hf.atR rows ks with | some vs => .tup (vs.map W.str) | none => .non) | none => fail)
  | _ => fail
theorem s_fget {rows : List Hd.Row} {t : Str} {d : Addr} (hu : X.A.units + 1 < cLine) (kf : Hf.KForm X.prog X.w X.K d rows) (nd : (rows.map (·.1)).Nodup) (hm : X.mg t = some (.ref d)) (hg : Gl X t) (hdb : (t == ("__debug__" : Str)) = false) (he : PE X e (rdE (wd X) Wx a)) (hs : unstar e = true) (hl : (apos.endLine == pos.line) = true) : PE X (.Call (.Attribute (.Name t p2) "get" apos) [e] [] pos) (rdE (wd X) Wx (aUn (fgetW rows) a)) := by
  have few := few_ok (X := X) (pos := pos) (es := [e]) (by simp [hs]) (show 1 < 30 by decide)
  refine ⟨fun pins s σ H Q I h => (Hf.pe_fget hu kf nd (pe_glob (v := .ref d) hg hm rfl hdb) (fun σ H Q q => q) he ⟨plainBase_ok rfl, few, hl, by rw [star_ok hs]; rfl⟩).run pins s σ H Q I ?_⟩
  obtain ⟨m, ρ, S, sr, o⟩ := h
  refine out_bd sr o fun w S1 m1 v H1 e1 s1 v1 o1 => ?_
  cases w <;> first | exact False.elim o1 | skip
  rename_i ws
  obtain ⟨p, xs, rfl, sq, lv⟩ := v1
  dsimp only [fgetW] at o1
  cases es : strsW ws with
  | none => rw [es] at o1; exact False.elim o1
  | some ks =>
    rw [es] at o1
    dsimp only at o1
    have ex := strs_ok es lv
    subst ex
    refine ⟨p, ks, rfl, sq, ?_⟩
    cases er : Hf.atR rows ks with
    | none => rw [er] at o1; exact out_ok s1 o1 rfl
    | some vs => rw [er] at o1; exact fun q hq => out_ok s1 o1 ⟨q, _, rfl, hq H1, strs_va vs⟩
/-! ### len(set(x)), list(zip(x, y)) -/
theorem s_lenS (hc : X.calm = true) (hg : Gl X "len") (hm : X.mg "len" = none) (hg2 : Gl X "set") (hm2 : X.mg "set" = none) (he : PE X e (rdE (wd X) Wx a)) (hs : unstar e = true) {q p0 : Pos} : PE X (.Call (.Name "len" p0) [.Call (.Name "set" p2) [e] [] q] [] pos) (rdE (wd X) Wx (aUn lenSW a)) := by
  refine ⟨fun pins s σ H Q I h => (Ls.pe_lenS hc hg hm hg2 hm2 he (star_ok hs)).run pins s σ H Q I ?_⟩
  obtain ⟨m, ρ, S, sr, o⟩ := h
  refine out_bd sr o fun w S1 m1 v H1 e1 s1 v1 o1 => ?_
  unfold lenSW at o1
  cases es : seqAt S1 w with
  | none => rw [es] at o1; exact False.elim o1
  | some ws =>
    rw [es] at o1
    dsimp only at o1
    cases et : strsW ws with
    | none => rw [et] at o1; exact False.elim o1
    | some xs =>
      rw [et] at o1
      dsimp only at o1
      split at o1
      · rename_i hle
        obtain ⟨p, ys, rfl, h1, lv⟩ := seqAt_ok s1.rel v1 es
        have ex := strs_ok et lv
        subst ex
        exact ⟨p, xs, rfl, h1.imp (fun ⟨_, _, _, h⟩ => SqL.of h) id, hle, out_ok s1 o1 rfl⟩
      · exact False.elim o1
theorem zip_va {H1 H2 : Hp} {ts : List Addr} : ∀ {as bs : List W} {xs ys : List V} {ts : List Addr}, VaL G m H as xs → VaL G m H bs ys → Same H H2 → as.length = bs.length → Paired (fun (t : Addr) (q : V × V) => H2 t = some (.tup [q.1, q.2])) ts (xs.zip ys) → VaL G m H2 ((as.zip bs).map fun p => W.tup [p.1, p.2]) (ts.map V.ref)
  | [], [], _, _, ts, l1, l2, _, _, pr => by
    cases l1
    cases l2
    cases pr
    rfl
  | a :: as, b :: bs, _, _, ts, l1, l2, sm, hl, pr => by
    obtain ⟨x, xs, rfl, t1, l1⟩ := l1
    obtain ⟨y, ys, rfl, t2, l2⟩ := l2
    cases pr with
    | cons h1 h2 => exact ⟨_, _, rfl, ⟨_, _, rfl, SqT.of h1, x, [y], rfl, t1.ext (.same sm), y, [], rfl, t2.ext (.same sm), rfl⟩, zip_va (H1 := H1) (ts := []) l1 l2 sm (by simpa using hl) h2⟩
  | [], b :: bs, _, _, _, _, _, _, hl, _ => by cases hl
  | a :: as, [], _, _, _, _, _, _, hl, _ => by cases hl
theorem s_lzip {q p0 : Pos} (hc : X.calm = true) (hg : Gl X "list") (hm : X.mg "list" = none) (hgz : Gl X "zip") (hmz : X.mg "zip" = none) (ha : PE X e (rdE (wd X) Wx a)) (hb : PE X e2 (rdE (wd X) Wx b)) (hs : unstar e = true) (hs2 : unstar e2 = true) : PE X (.Call (.Name "list" p0) [.Call (.Name "zip" p2) [e, e2] [] q] [] pos) (rdE (wd X) Wx (aOp lzipW a b)) := by
  refine ⟨fun pins s σ H Q I h => (Lz.pe_lzip hc hg hm hgz hmz (pa2 ha hb hs hs2) (by rfl) (star_ok hs) (star_any (by simp [hs2]))).run pins s σ H Q I ?_⟩
  obtain ⟨m, ρ, S, sr, o⟩ := h
  refine out_bd sr o fun w S1 m1 v H1 e1 s1 v1 o1 => ?_
  refine out_bd s1 o1 fun w2 S2 m2 v2 H2 e2 s2 t2 o2 => ?_
  have t1 := v1.ext e2
  cases w <;> cases w2 <;> first | exact False.elim o2 | skip
  obtain ⟨p, xs, rfl, sa, la⟩ := t1
  obtain ⟨q, ys, rfl, sb, lb⟩ := t2
  dsimp only [lzipW] at o2
  split at o2
  · rename_i hl
    refine ⟨p, q, xs, ys, rfl, sa, sb, by rw [la.len, lb.len, hl], fun H' r ts sm hr hts hp h1 pr => ?_⟩
    have ex : Ext (wd X) m2 H2 (m2 ++ [r]) H' := Ext.fresh sm hr
    have np : r ∉ m2 := fun z => by
      obtain ⟨u, hu, _⟩ := s2.rel.mem z
      rw [hr] at hu
      cases hu
    have ex0 : Ex0 (wd X) m2 H' (m2 ++ [r]) H' := ⟨⟨[r], rfl⟩, fun _ _ q => q, fun _ _ q => q⟩
    refine o2 (m2 ++ [r]) (.ref r) H' ex ⟨(s2.rel.same sm).track np ⟨_, h1, (zip_va (H1 := H2) (ts := []) la lb sm hl pr).ex0 ex0⟩, s2.len, fun i w q => ?_⟩ ⟨r, ?_, rfl⟩
    · obtain ⟨u, q1, q2⟩ := s2.at_ i w q
      exact ⟨u, q1, q2.ext ex⟩
    · rw [List.getElem?_append_right (by rw [s2.rel.len]; exact Nat.le_refl _), s2.rel.len, Nat.sub_self]
      rfl
  · exact False.elim o2
/-! ### texts put together -/
theorem s_fmt (he : PE X e (rdE (wd X) Wx a)) : PE X (.FormattedValue e (-1) none pos) (rdE (wd X) Wx (aUn fmtW a)) := by
  refine ⟨fun pins s σ H Q I h => (pe_fmt he).run pins s σ H Q I ?_⟩
  obtain ⟨m, ρ, S, sr, o⟩ := h
  refine out_bd sr o fun w S1 m1 v H1 e1 s1 v1 o1 => ?_
  cases w <;> first | exact False.elim o1 | skip
  · cases v1
    obtain ⟨h1, o1⟩ := out_guard o1
    exact .inr ⟨_, rfl, of_decide_eq_true h1, out_ok s1 o1 rfl⟩
  · cases v1
    obtain ⟨h1, o1⟩ := out_guard o1
    exact .inl ⟨_, rfl, short_le h1, out_ok s1 o1 rfl⟩
theorem tJs_cons {t : TE} {ts : List TE} {out : Str} {σ : L2.St} {H : Hp} {Q : Str → Hp → Prop} (h : t σ H fun x H1 => ∃ y, x = .str y ∧ (out ++ y).length ≤ sizeLine ∧ tJs ts (out ++ y) σ H1 Q) : tJs (t :: ts) out σ H Q := by
  unfold tJs
  exact h
theorem join_read {σ : L2.St} {ρ : Rho} {Q : VK} : ∀ {l : List A} {out : Str} {m : List Addr} {S : Sto} {H : Hp}, Sr (wd X) m ρ S σ H → Out (wd X) (Va (wd X)) Wx σ ρ m H (joinN l out ρ S) Q → tJs (l.map fun a => rdE (wd X) Wx a) out σ H fun z H1 => Q (.str z) H1
  | [], out, m, S, H, sr, o => by
    show tJs [] out σ H _
    unfold tJs
    exact out_ok sr o rfl
  | a :: l, out, m, S, H, sr, o => by
    show tJs (_ :: _) out σ H _
    refine tJs_cons (out_bd sr o fun w S1 m1 v H1 e1 s1 v1 o1 => ?_)
    cases w <;> first | exact False.elim o1 | skip
    cases v1
    obtain ⟨h1, o1⟩ := out_guard o1
    exact ⟨_, rfl, short_le h1, join_read s1 o1⟩
theorem s_join {v1 v2 : Expr} {rest : List Expr} {l : List A} (h : PJ X (v1 :: v2 :: rest) (l.map fun a => rdE (wd X) Wx a)) : PE X (.JoinedStr (v1 :: v2 :: rest) pos) (rdE (wd X) Wx (aJoin l)) := by
  refine ⟨fun pins s σ H Q I h' => (pe_joined h).run pins s σ H Q I ?_⟩
  obtain ⟨m, ρ, S, sr, o⟩ := h'
  exact join_read sr o
/-! ### dict comprehensions -/
theorem Ext.otherD {m1 : List Addr} {H1 : Hp} {D : Addr} {xs ys : List (Key × V)} (e : Ext G m H m1 H1) (hD : H D = none) (h1 : H1 D = some (.dK xs)) : Ext G m H m1 (L2.upd H1 D (.dK ys)) := ⟨⟨e.pre, fun a zs q => by
  rcases e.tup a zs q with (q | ⟨o, q⟩) | q
  · exact .inl (.inl (by rw [upd_ne (fun z => by subst z; rw [h1] at q; cases q)]; exact q))
  · exact .inl (.inr ⟨o, by rw [upd_ne (fun z => by subst z; rw [h1] at q; cases q)]; exact q⟩)
  · exact .inr q, fun a zs q => by
  rcases e.fz a zs q with ⟨o, q⟩ | q
  · exact .inl ⟨o, by rw [upd_ne (fun z => by subst z; rw [h1] at q; cases q)]; exact q⟩
  · exact .inr q⟩, fun a u h n => by
    rw [upd_ne (fun z => by subst z; rw [hD] at h; cases h)]
    exact e.frame a u h n, e.new⟩
theorem ex0_otherD {D : Addr} {xs ys : List (Key × V)} (h1 : H D = some (.dK xs)) : Ex0 G m H m (L2.upd H D (.dK ys)) := ⟨⟨[], by simp⟩, fun a zs q => by
  rcases q with (q | ⟨o, q⟩) | q
  · exact .inl (.inl (by rw [upd_ne (fun z => by subst z; rw [h1] at q; cases q)]; exact q))
  · exact .inl (.inr ⟨o, by rw [upd_ne (fun z => by subst z; rw [h1] at q; cases q)]; exact q⟩)
  · exact .inr q, fun a zs q => q.imp (fun ⟨o, q⟩ => ⟨o, by rw [upd_ne (fun z => by subst z; rw [h1] at q; cases q)]; exact q⟩) id⟩
theorem Rel.otherD {D : Addr} {xs ys : List (Key × V)} (r : Rel G m H S) (nD : D ∉ m) (h1 : H D = some (.dK xs)) : Rel G m (upd H D (.dK ys)) S := ⟨r.len, r.nd, fun i a o g1 g2 =>
  (r.at_ i a o g1 g2).ex0 (ex0_otherD h1) (upd_ne fun z => nD (by rw [← z]; exact List.mem_of_getElem? g1))⟩
theorem dc_read {vs : List Nat} {σ : L2.St} {H : Hp} {Q : VK} (h : rdE (wd X) Wx (aDc vs it g tt tk tv) σ H Q) : tDc (rd (wd X) (Vi (wd X)) Wx it) (rdG (wd X) Wx0 (frOwn vs) g) (rdT (wd X) Wx0 tt) (rdE (wd X) Wx0 tk) (rdE (wd X) Wx0 tv) vs σ H Q := by
  obtain ⟨m, ρ, S, sr, o⟩ := h
  refine out_bd sr o fun j S1 m1 J H1 e1 s1 vi o1 => ?_
  intro D hD
  have sD : Same H1 (upd H1 D (.dK [])) := same_new hD
  have nD : D ∉ m1 := fun z => by
    obtain ⟨u, hu, _⟩ := s1.rel.mem z
    rw [hD] at hu
    cases hu
  let W0 : Nat → Nat → Hp → Prop := fun i f H5 => ∃ (acc : List (Key × W)) (m5 : List Addr) (S5 : Sto) (xs : List (Key × V)), Ext (wd X) m1 H1 m5 H5 ∧ Rel (wd X) m5 H5 S5 ∧ D ∉ m5 ∧ H5 D = some (.dK xs) ∧ KvL (wd X) m5 H5 acc xs ∧
    Out (wd X) (Va (wd X)) Wx σ ρ m1 H1 (bd (dcN j g tt tk tv (wipeR ρ vs) f i acc) (fun kvs => new (.dic kvs)) S5) Q
  refine ⟨W0, ⟨big, [], m1, S1, [], .same sD, s1.rel.same sD, nD, upd_same, .nil, o1⟩, ?_⟩
  rintro i f H5 ⟨acc, m5, S5, xs, x5, r5, n5, h5, l5, o5⟩
  cases f with
  | zero => exact False.elim o5
  | succ f =>
    have vi5 := vi m5 H5 S5 i x5 r5
    simp only [dcN, bd] at o5
    cases hj : j i S5 with
    | none => rw [hj] at o5; exact False.elim o5
    | some z =>
      rw [hj] at o5 vi5
      cases z with
      | none =>
        refine .inl ⟨vi5, ?_⟩
        have ex : Ex0 (wd X) m5 H5 (m5 ++ [D]) H5 := ⟨⟨[D], rfl⟩, fun _ _ q => q, fun _ _ q => q⟩
        have s5 := s1.carry x5 r5
        refine o5 (m5 ++ [D]) (.ref D) H5 (x5.track hD) ⟨s5.rel.track n5 ⟨xs, h5, l5.ex0 ex⟩, s5.len, fun i w q => ?_⟩ ⟨D, ?_, rfl⟩
        · obtain ⟨u, q1, q2⟩ := s5.at_ i w q
          exact ⟨u, q1, q2.ex0 ex⟩
        · rw [List.getElem?_append_right (by rw [s5.rel.len]; exact Nat.le_refl _), s5.rel.len, Nat.sub_self]
          rfl
      | some w =>
        dsimp only at o5
        refine .inr ⟨vi5.1, W0 (i + 1) f, fun H' h => ⟨f, Nat.lt_succ_self f, h⟩, fun x H6 hy => ?_⟩
        obtain ⟨s6, v6⟩ := vi5.2 x H6 hy
        have x6 : Ext (wd X) m5 H5 m5 H6 := .same s6
        have sr6 : Sr (wd X) m5 (wipeR ρ vs) S5 (wipe σ vs) H6 := (sr_wipe s1 vs).carry (x5.trans x6) (r5.same s6)
        refine ⟨m5, wipeR ρ vs, S5, w, sr6, v6, ?_⟩
        cases eg : g w (wipeR ρ vs) S5 with
        | no => rw [eg] at o5; exact False.elim o5
        | er y ρ1 T => rw [eg] at o5; exact False.elim o5
        | ok u ρ1 T =>
          rw [eg] at o5
          dsimp only at o5
          intro m7 σ7 H7 x7 s7 hf
          have hf' : wipe σ7 vs = wipe (wipe σ vs) vs := hf
          refine ⟨hf'.trans (wipe_self σ vs), m7, ρ1, T, s7, ?_⟩
          cases et : tt ρ1 T with
          | no => rw [et] at o5; exact False.elim o5
          | er y T2 => rw [et] at o5; exact False.elim o5
          | ok b T2 =>
            rw [et] at o5
            intro m8 b' H8 x8 s8 hb
            cases hb
            obtain ⟨n6, h6⟩ := x6.keepD h5 n5
            obtain ⟨n7, h7⟩ := x7.keepD h6 n6
            obtain ⟨n8, h8⟩ := x8.keepD h7 n7
            have x58 := (x6.trans x7).trans x8
            cases b with
            | false => exact ⟨acc, m8, T2, xs, x5.trans x58, s8.rel, n8, h8, l5.ext x58, o5⟩
            | true =>
              dsimp only at o5
              refine ⟨m8, ρ1, T2, s8, ?_⟩
              cases ee : tk ρ1 T2 with
              | no => rw [ee] at o5; exact False.elim o5
              | er y T3 => rw [ee] at o5; exact False.elim o5
              | ok y T3 =>
                rw [ee] at o5
                intro m9 v9 H9 x9 s9 t9
                obtain ⟨n9, h9⟩ := x9.keepD h8 n8
                dsimp only at o5
                refine ⟨m9, ρ1, T3, s9, ?_⟩
                cases ez : tv ρ1 T3 with
                | no => rw [ez] at o5; exact False.elim o5
                | er y T4 => rw [ez] at o5; exact False.elim o5
                | ok z T4 =>
                  rw [ez] at o5
                  intro ma va Ha xa sa ta
                  obtain ⟨na, ha⟩ := xa.keepD h9 n9
                  dsimp only at o5
                  cases ek : keyW y with
                  | none => rw [ek] at o5; exact False.elim o5
                  | some k =>
                    rw [ek] at o5
                    dsimp only at o5
                    by_cases hsh : short (acc.length + 1) = true
                    · rw [if_pos hsh] at o5
                      have lx : xs.length = acc.length := l5.len
                      have hk := key_ok t9 ek
                      have x5a := (x58.trans x9).trans xa
                      refine ⟨xs, k, hk, ha, by rw [lx]; exact Nat.lt_of_lt_of_le (Nat.lt_succ_self _) (short_le hsh), putKW acc k z, ma, T4, putK xs k va, (x5.trans x5a).otherD hD ha, sa.rel.otherD na ha, na, upd_same, ?_, o5⟩
                      exact (putKW_ok (κ := Key) ta (l5.ext x5a)).ex0 (ex0_otherD ha)
                    · rw [if_neg hsh] at o5
                      exact False.elim o5
theorem s_dc {kx vx tg iter : Expr} {ifs : List Expr} {scope : Scope} {own : List (Str × Nat)} (hc : X.calm = true) (hN : X.N.Nodup) (ok : BlkOk X.N X.env.scope scope own) (hi : PI X tg iter (rd (wd X) (Vi (wd X)) Wx it))
    (hg : ∀ (s : Shared) (H : Hp) (C : Addr) (cl : List (Str × Addr)) (fp : List Addr), PG (X.blk s H scope (compEnvC scope cl C X.env) fp) tg (rdG (wd X) Wx0 (frOwn (own.map (·.2))) g))
    (ht : ∀ (s : Shared) (H : Hp) (C : Addr) (cl : List (Str × Addr)) (fp : List Addr), PTs (X.blk s H scope (compEnvC scope cl C X.env) fp) ifs (rdT (wd X) Wx0 tt))
    (hk : ∀ (s : Shared) (H : Hp) (C : Addr) (cl : List (Str × Addr)) (fp : List Addr), PE (X.blk s H scope (compEnvC scope cl C X.env) fp) kx (rdE (wd X) Wx0 tk))
    (hv : ∀ (s : Shared) (H : Hp) (C : Addr) (cl : List (Str × Addr)) (fp : List Addr), PE (X.blk s H scope (compEnvC scope cl C X.env) fp) vx (rdE (wd X) Wx0 tv)) (hs : ∀ x, foldedSetIterable iter X.env x = pure x) :
    PE X (.DictComp kx vx [⟨tg, iter, ifs, 0⟩] scope pos) (rdE (wd X) Wx (aDc (own.map (·.2)) it g tt tk tv)) :=
  ⟨fun pins s σ H Q I h => (pe_dc hc hN hi ok hg ht hk hv hs).run pins s σ H Q I (dc_read h)⟩
end
end Ev

/-! ## More actions: repr of data, dict displays -/
namespace Ev
open PySem L2 PyProof.Rows
def isSeqW : W → Bool
  | .tup _ => true
  | .ref _ => true
  | _ => false
def reprW (w : W) : M W := fun S => if isSeqW w = true then (match dat S w with
  | some d => if (d.showable && decide (d.shown.length ≤ lim)) = true then .ok (.str d.shown) S else .no
  | none => .no) else .no
/-- the pairs of a display, its keys texts -/
def dspN : List (Str × A) → Rho → M (List (Key × W))
  | [], _ => ret []
  | (z, a) :: r, ρ => bd (a ρ) fun w => bd (dspN r ρ) fun kvs => ret ((.inr z, w) :: kvs)
def mergeKW (kvs more : List (Key × W)) : List (Key × W) := more.foldl (fun acc kv => putKW acc kv.1 kv.2) kvs
def dspEnd (n : Nat) (kvs : List (Key × W)) : M W := fun S => match dicAt S n with | some [] => .ok (.ref n) (S.set n (.dic (mergeKW [] kvs))) | _ => .no
/-- a display: the new dict stands empty while the values are made -/
def aDsp (l : List (Str × A)) : A := fun ρ S => bd (dspN l ρ) (dspEnd S.length) (S ++ [.dic []])
section
variable {X : Cx} {Wx : WX} {m m1 : List Addr} {H H1 : Hp} {S : Sto} {σ : L2.St} {ρ : Rho} {Q : VK} {pos : Pos} {G : Wd}
theorem mapM_depth {n : Nat} (ih : ∀ (w : W) (d : PyData), datN n S w = some d → d.depth ≤ n) : ∀ (ws : List W) (ds : List PyData), ws.mapM (datN n S) = some ds → PyData.depthAll ds ≤ n
  | [], ds, h => by
    have e : ds = [] := by simpa using h.symm
    subst e
    exact Nat.zero_le _
  | w :: ws, ds, h => by
    rw [List.mapM_cons] at h
    cases e : datN n S w with
    | none => rw [e] at h; cases h
    | some d =>
      rw [e] at h
      cases e2 : ws.mapM (datN n S) with
      | none => rw [e2] at h; cases h
      | some r =>
        rw [e2] at h
        cases h
        exact Nat.max_le.mpr ⟨ih w d e, mapM_depth ih ws r e2⟩
theorem datN_depth : ∀ (n : Nat) (w : W) (d : PyData), datN n S w = some d → d.depth ≤ n
  | 0, w, d, h => by cases h
  | n + 1, w, d, h => by
    cases w with
    | non => cases h; exact Nat.zero_le _
    | bl b => cases h; exact Nat.zero_le _
    | int i => cases h; exact Nat.zero_le _
    | str s => cases h; exact Nat.zero_le _
    | tup ws =>
      simp only [datN] at h
      cases e : ws.mapM (datN n S) with
      | none => rw [e] at h; cases h
      | some ds =>
        rw [e] at h
        cases h
        exact Nat.succ_le_succ (mapM_depth (datN_depth n) ws ds e)
    | ref i =>
      simp only [datN] at h
      cases e0 : lstAt S i with
      | none => rw [e0] at h; cases h
      | some ws =>
        rw [e0] at h
        have h : (ws.mapM (datN n S)).map PyData.list = some d := h
        cases e : ws.mapM (datN n S) with
        | none => rw [e] at h; cases h
        | some ds =>
          rw [e] at h
          cases h
          exact Nat.succ_le_succ (mapM_depth (datN_depth n) ws ds e)
    | glo x => cases h
    | ty x => cases h
    | fzl x => cases h
theorem mapM_dv {n : Nat} (ih : ∀ (w : W) (d : PyData) (v : V), datN n S w = some d → Va G m H w v → Rp.Dv G.K H d v) : ∀ (ws : List W) (ds : List PyData) (vs : List V), ws.mapM (datN n S) = some ds → VaL G m H ws vs → Rp.DvL G.K H ds vs
  | [], ds, vs, h, l => by
    have e : ds = [] := by simpa using h.symm
    have e2 : vs = [] := l
    subst e e2
    rfl
  | w :: ws, ds, vs, h, l => by
    obtain ⟨x, xs, rfl, t, l⟩ := l
    rw [List.mapM_cons] at h
    cases e : datN n S w with
    | none => rw [e] at h; cases h
    | some d =>
      rw [e] at h
      cases e2 : ws.mapM (datN n S) with
      | none => rw [e2] at h; cases h
      | some r =>
        rw [e2] at h
        cases h
        exact ⟨x, xs, rfl, ih w d x e t, mapM_dv ih ws r xs e2 l⟩
theorem datN_dv (r : Rel G m H S) : ∀ (n : Nat) (w : W) (d : PyData) (v : V), datN n S w = some d → Va G m H w v → Rp.Dv G.K H d v
  | 0, w, d, v, h, hv => by cases h
  | n + 1, w, d, v, h, hv => by
    cases w with
    | non => cases hv; cases h; rfl
    | bl b => cases hv; cases h; rfl
    | int i => cases hv; cases h; rfl
    | str s => cases hv; cases h; rfl
    | tup ws =>
      obtain ⟨a, xs, rfl, sq, l⟩ := hv
      simp only [datN] at h
      cases e : ws.mapM (datN n S) with
      | none => rw [e] at h; cases h
      | some ds =>
        rw [e] at h
        cases h
        exact ⟨a, xs, rfl, sq, mapM_dv (datN_dv r n) ws ds xs e l⟩
    | ref i =>
      simp only [datN] at h
      cases e0 : lstAt S i with
      | none => rw [e0] at h; cases h
      | some ws =>
        rw [e0] at h
        have h : (ws.mapM (datN n S)).map PyData.list = some d := h
        obtain ⟨a, xs, ha, rfl, ea, l⟩ := seq_lst r hv e0
        cases e : ws.mapM (datN n S) with
        | none => rw [e] at h; cases h
        | some ds =>
          rw [e] at h
          cases h
          exact ⟨a, xs, rfl, SqL.of ea, mapM_dv (datN_dv r n) ws ds xs e l⟩
    | glo x => cases h
    | ty x => cases h
    | fzl x => cases h
theorem dat_at {w : W} {d : PyData} (h : dat S w = some d) : datN 70 S w = some d := by
  unfold dat at h
  cases e : datN 70 S w with
  | none => rw [e] at h; cases h
  | some d' =>
    rw [e] at h
    dsimp only at h
    split at h
    · cases h; rfl
    · cases h
theorem seqW_ref {w : W} {v : V} (hs : isSeqW w = true) (hv : Va G m H w v) : ∃ a, v = .ref a := by
  cases w <;> first | exact (Bool.false_ne_true hs).elim | skip
  · obtain ⟨a, xs, e, _⟩ := hv
    exact ⟨a, e⟩
  · obtain ⟨a, _, e⟩ := hv
    exact ⟨a, e⟩
theorem cs_repr : CallS1 X Wx reprW (Rp.spRepr X.K) := by
  intro σ ρ m H S x v Q sr hv o
  unfold reprW at o
  split at o
  · rename_i hs
    cases e : dat S x with
    | none => rw [e] at o; exact False.elim o
    | some d =>
      rw [e] at o
      dsimp only at o
      split at o
      · rename_i hc
        rw [Bool.and_eq_true, decide_eq_true_eq] at hc
        obtain ⟨a, rfl⟩ := seqW_ref hs hv
        have h70 := dat_at e
        exact ⟨a, d, rfl, datN_dv sr.rel 70 x d _ h70 hv, hc.1, Nat.le_trans hc.2 lim_le, Nat.le_trans (datN_depth 70 x d h70) (by decide), out_ok sr o rfl⟩
      · exact False.elim o
  · exact False.elim o
/-! ### dict displays -/
theorem dsp_cons {α : Type} {z : Str} {a : A} {l : List (Str × A)} {f : List (Key × W) → M α} : bd (dspN ((z, a) :: l) ρ) f S = bd (a ρ) (fun w => bd (dspN l ρ) fun kvs => f ((.inr z, w) :: kvs)) S := by
  simp only [dspN, bd]
  cases a ρ S with
  | no => rfl
  | er x T => rfl
  | ok w T =>
    dsimp only
    cases dspN l ρ T <;> rfl
theorem pairs_read {R : List (V × V) → Hp → Prop} : ∀ (l : List (Str × A)) {f : List (Key × W) → M W} {m : List Addr} {S : Sto} {H : Hp}, Sr (wd X) m ρ S σ H → Out (wd X) (Va (wd X)) Wx σ ρ m H (bd (dspN l ρ) f S) Q →
    (∀ kvs S1 m1 gs H1, Ext (wd X) m H m1 H1 → Sr (wd X) m1 ρ S1 σ H1 → KvL (wd X) m1 H1 kvs gs → gs.length = l.length → Out (wd X) (Va (wd X)) Wx σ ρ m1 H1 (f kvs S1) Q → R (gs.map fun kv => (kV kv.1, kv.2)) H1) →
    tPairs (l.map fun q => ((tC (.str q.1) : TE), (rdE (wd X) Wx q.2 : TE))) σ H R
  | [], f, m, S, H, s, o, k => k [] S m [] H .refl s .nil rfl o
  | (z, a) :: l, f, m, S, H, s, o, k => by
    rw [dsp_cons] at o
    show rdE (wd X) Wx a σ H _
    refine out_bd s o fun w S1 m1 v H1 e1 s1 v1 o1 => ?_
    exact pairs_read l s1 o1 fun kvs S2 m2 gs H2 e2 s2 kv hl o2 => k ((.inr z, w) :: kvs) S2 m2 ((.inr z, v) :: gs) H2 (e1.trans e2) s2 (.mk (v1.ext e2) kv) (by rw [List.length_cons, List.length_cons, hl]) o2
theorem merge_kv : ∀ {kvs : List (Key × W)} {gs : List (Key × V)} {acc : List (Key × W)} {ac2 : List (Key × V)}, KvL (wd X) m H kvs gs → KvL (wd X) m H acc ac2 → KvL (wd X) m H (mergeKW acc kvs) (mergeK ac2 gs)
  | [], gs, acc, ac2, h, g => by
    have : gs = [] := List.length_eq_zero_iff.mp h.len
    subst this
    exact g
  | (k, w) :: kvs, gs, acc, ac2, h, g => by
    obtain ⟨v, r, rfl, hv, hr⟩ := h.cons
    exact merge_kv (acc := putKW acc k w) (ac2 := putK ac2 k v) hr (putKW_ok (κ := Nat) hv g)
inductive DspOk (X : Cx) (Wx : WX) : List (Option Expr) → List Expr → List (Str × A) → Prop
  | nil : DspOk X Wx [] [] []
  | cons {z : Str} {j : Nat} {p : Pos} {v : Expr} {a : A} {ks : List (Option Expr)} {vs : List Expr} {l : List (Str × A)} : PE X v (rdE (wd X) Wx a) → DspOk X Wx ks vs l → DspOk X Wx (some (.Constant (.str z) j p) :: ks) (v :: vs) ((z, a) :: l)
theorem DspOk.pps {ks : List (Option Expr)} {vs : List Expr} {l : List (Str × A)} (h : DspOk X Wx ks vs l) : PPs X pos ks vs (l.map fun q => ((tC (.str q.1) : TE), (rdE (wd X) Wx q.2 : TE))) := by
  induction h with
  | nil => exact pps_nil
  | cons h _ ih => exact pps_cons pe_str h ih
theorem DspOk.len {ks : List (Option Expr)} {vs : List Expr} {l : List (Str × A)} (h : DspOk X Wx ks vs l) : ks.length = l.length ∧ vs.length = l.length ∧ ks.all (·.isSome) = true := by
  induction h with
  | nil => exact ⟨rfl, rfl, rfl⟩
  | cons h _ ih => exact ⟨by simp [ih.1], by simp [ih.2.1], by simpa using ih.2.2⟩
theorem dicAt_some {n : Nat} {kvs : List (Key × W)} (h : dicAt S n = some kvs) : S[n]? = some (.dic kvs) := by
  unfold dicAt at h
  split at h
  · cases h; assumption
  · cases h
theorem s_dsp {ks : List (Option Expr)} {vs : List Expr} {l : List (Str × A)} (h : DspOk X Wx ks vs l) (h0 : l ≠ []) (h15 : l.length ≤ 15) : PE X (.Dict ks vs pos) (rdE (wd X) Wx (aDsp l)) := by
  obtain ⟨l1, l2, al⟩ := h.len
  have hk0 : ks ≠ [] := fun e => by
    rw [e] at l1
    exact h0 (List.length_eq_zero_iff.mp l1.symm)
  refine ⟨fun pins s σ H Q I h' => (pe_disp h.pps al (l1.trans l2.symm) hk0 (by omega)).run pins s σ H Q I ?_⟩
  obtain ⟨m, ρ, S, sr, o⟩ := h'
  intro p hp
  have ex : Ext (wd X) m H (m ++ [p]) (upd H p (.dK [])) := Ext.fresh (same_new hp) hp
  have s1 := sr.new (u := .dK []) (o := .dic []) hp ⟨[], upd_same, .nil⟩
  have o1 := o.ext ex
  have hpi : (m ++ [p])[S.length]? = some p := by
    rw [List.getElem?_append_right (by rw [sr.rel.len]; exact Nat.le_refl _), sr.rel.len, Nat.sub_self]
    rfl
  refine pairs_read l s1 o1 fun kvs S1 m1 gs H1 e1 s2 kv hlen o2 => ?_
  unfold dspEnd at o2
  cases e : dicAt S1 S.length with
  | none => rw [e] at o2; exact False.elim o2
  | some k0 =>
    rw [e] at o2
    cases k0 with
    | cons _ _ => exact False.elim o2
    | nil =>
      have hm : m1[S.length]? = some p := e1.toEx0.get hpi
      obtain ⟨k1, q1, q2⟩ := s2.rel.at_ _ _ _ hm (dicAt_some e)
      have : k1 = [] := List.length_eq_zero_iff.mp q2.len
      subst this
      refine ⟨q1, gs, rfl, by omega, ?_⟩
      have ex2 : Ext (wd X) m1 H1 m1 (upd H1 p (.dK (mergeK [] gs))) := Ext.upd (List.mem_of_getElem? hm) q1 (fun _ z => nomatch z) (fun _ _ z => nomatch z)
      exact o2 m1 (.ref p) _ ex2 (s2.set hm ⟨_, upd_same, (merge_kv kv .nil).ext ex2⟩) ⟨p, hm, rfl⟩
end
end Ev

/-! ## t[c::2] of a tuple, c a number from 1 on -/
namespace Stp
open PySem PySem.Spec PyProof.Rows L2 HT
def every2 {α : Type} : List α → List α
  | [] => []
  | [a] => [a]
  | a :: _ :: r => a :: every2 r
theorem every2_len {α : Type} : ∀ l : List α, (every2 l).length ≤ l.length
  | [] => Nat.le_refl _
  | [_] => Nat.le_refl _
  | a :: b :: r => by
    have := every2_len r
    simp only [every2, List.length_cons]
    omega
theorem every2_pick {α : Type} : ∀ l : List α, (List.range ((l.length + 1) / 2)).filterMap (fun m => l[2 * m]?) = every2 l
  | [] => by simp [every2]
  | [a] => by simp [every2, List.range_succ]
  | a :: b :: r => by
    have e : ((a :: b :: r).length + 1) / 2 = (r.length + 1) / 2 + 1 := by simp only [List.length_cons]; omega
    rw [e, List.range_succ_eq_map, List.filterMap_cons, List.filterMap_map]
    have e2 : (fun m => (a :: b :: r)[2 * m]?) ∘ Nat.succ = fun m => r[2 * m]? := by
      funext m
      show (a :: b :: r)[2 * (m + 1)]? = _
      rw [show 2 * (m + 1) = 2 * m + 1 + 1 by omega, List.getElem?_cons_succ, List.getElem?_cons_succ]
    rw [e2, every2_pick r]
    simp [every2]
section
variable {prog : Program} {w : World} {A : Around} {E : Value → Shared → Prop} {s : Shared}
theorem adj2 (c n : Nat) : Builtin.Slice.sliceAdjust (some (c : Int)) none 2 (n : Int) = (((min c n : Nat) : Int), (n : Int)) := by
  unfold Builtin.Slice.sliceAdjust
  have h1 : ¬ ((2 : Int) < 0) := by omega
  have h2 : ¬ ((c : Int) < 0) := by omega
  simp only [h1, h2, if_false]
  refine Prod.ext ?_ rfl
  show min (c : Int) (n : Int) = ((min c n : Nat) : Int)
  omega
theorem plc2 (i n : Nat) (h : i ≤ n) : Builtin.Slice.slicePlaces (i : Int) (n : Int) 2 = (n - i + 1) / 2 := by
  unfold Builtin.Slice.slicePlaces
  have h1 : (2 : Int) > 0 := by omega
  simp only [h1, if_true]
  split <;> omega
theorem applied2 {sl : Addr} {vl vu vs : Value} {c n : Nat} {Q : Int × Int × Nat → Shared → Prop} (hs : s.heap.IsSliceOf sl vl vu vs) (pl : IsPart vl (some (c : Int))) (pu : IsPart vu none) (ps : IsPart vs (some (2 : Int)))
    (h : Q (((min c n : Nat) : Int), 2, (n - min c n + 1) / 2) s) : wpAny (model prog w) A (Builtin.Slice.sliceApplied (.ref sl) (pure (n : Int))) Q E s := by
  obtain ⟨os, hos, hcs, hds⟩ := id hs
  unfold Builtin.Slice.sliceApplied Builtin.Slice.sliceFields
  refine wpAny_bind (wpAny_bind (wpAny_field hos hds (x := vl) rfl (wpAny_bind (wpAny_field hos hds (x := vu) rfl (wpAny_bind (wpAny_field hos hds (x := vs) rfl (wpAny_pure ?_)))))))
  refine wpAny_bind (slicePart_ ps ?_)
  show wpAny _ _ (if ((2 : Int) == 0) = true then _ else _) _ _ s
  rw [if_neg (by decide)]
  refine wpAny_bind (slicePart_ pl (wpAny_bind (slicePart_ pu (wpAny_bind (wpAny_pure ?_)))))
  show wpAny _ _ (match Builtin.Slice.sliceAdjust (some (c : Int)) none 2 (n : Int) with | (lo, hi) => pure (lo, (2 : Int), Builtin.Slice.slicePlaces lo hi 2)) _ _ s
  rw [adj2 c n]
  show wpAny _ _ (pure (((min c n : Nat) : Int), (2 : Int), Builtin.Slice.slicePlaces ((min c n : Nat) : Int) (n : Int) 2)) _ _ s
  rw [plc2 _ _ (Nat.min_le_right _ _)]
  exact wpAny_pure h
theorem pick2 (xs : List Value) (c : Nat) : ((List.range ((xs.length - min c xs.length + 1) / 2)).filterMap fun (m : Nat) => xs.toArray[(((min c xs.length : Nat) : Int) + (m : Int) * 2).toNat]?).toArray = (every2 (xs.drop c)).toArray := by
  have e : (fun (m : Nat) => xs.toArray[(((min c xs.length : Nat) : Int) + (m : Int) * 2).toNat]?) = fun m => (xs.drop (min c xs.length))[2 * m]? := by
    funext m
    rw [List.getElem?_drop, show (((min c xs.length : Nat) : Int) + (m : Int) * 2).toNat = min c xs.length + 2 * m by omega]
    simp
  have e2 : xs.drop (min c xs.length) = xs.drop c := by
    by_cases h : c ≤ xs.length
    · rw [Nat.min_eq_left h]
    · rw [Nat.min_eq_right (by omega), List.drop_eq_nil_of_le (Nat.le_refl _), List.drop_eq_nil_of_le (by omega)]
  rw [e, show xs.length - min c xs.length = (xs.drop (min c xs.length)).length by rw [List.length_drop], every2_pick, e2]
theorem getItem_tuple_step {t sl : Addr} {xs : List Value} {vl vu vs : Value} {c : Nat} {Q : Value → Shared → Prop} (hc1 : 1 ≤ c) (ht : IsTup s.heap t xs.toArray) (hs : s.heap.IsSliceOf sl vl vu vs) (pl : IsPart vl (some (c : Int))) (pu : IsPart vu none) (ps : IsPart vs (some (2 : Int)))
    (h : Q (.ref s.heap.objs.size) { s with heap := s.heap.push { cls := .type "tuple", data := .seq (every2 (xs.drop c)).toArray } })
    (hsz : xs.length ≤ sizeLine) : wpAny (model prog w) A (getItem (.ref t) (.ref sl)) Q E s := by
  have htake : sizeOk (.seq (every2 (xs.drop c)).toArray) := by
    show (every2 (xs.drop c)).toArray.size ≤ sizeLine
    have := every2_len (xs.drop c)
    rw [List.length_drop] at this
    rw [List.size_toArray]
    omega
  obtain ⟨os, hos, hcs, hds⟩ := id hs
  have hTs : s.TypeIs (.ref sl) "slice" := ⟨os, hos, hcs⟩
  unfold getItem
  try with_reducible refine wpAny_holding ?_
  first | refine wpAny_bind (wpAny_pure ?_) | skip
  refine wpAny_bind (wpAny_sequenceKey ht.typeIs (by decide) ?_)
  refine wpAny_bind (wpAny_callSpecial?_slot (name := Str.ofString "__getitem__") ht.typeIs PyProof.Rows.slot_tuple_getitem
    (wpAny_call_entry PyProof.Rows.slot_tuple_getitem ht.typeIs entry_tuple_getitem ?_ (args_tuple_getitem _ _)))
  show wpAny _ _ (Builtin.Tuple.tupleItemsOf (.ref t) >>= _) _ _ s
  refine wpAny_bind (tupleItemsOf_ ht ?_)
  refine wpAny_bind (wpAny_typeOf hTs ?_)
  rw [if_pos (by decide)]
  rw [List.size_toArray]
  refine wpAny_bind (applied2 hs pl pu ps ?_)
  have hno : ¬ ((((min c xs.length : Nat) : Int) == 0 && (2 : Int) == 1 && ((xs.length - min c xs.length + 1) / 2) == xs.length) = true) := by
    intro q
    rw [Bool.and_eq_true, Bool.and_eq_true] at q
    exact absurd q.1.2 (by decide)
  show wpAny _ _ (if (((min c xs.length : Nat) : Int) == 0 && (2 : Int) == 1 && ((xs.length - min c xs.length + 1) / 2) == xs.length) = true then _ else _) _ _ s
  rw [if_neg hno, pick2]
  first
    | exact wpAny_bind (m := Builtin.Tuple.tupleExact _) (wpAny_newObj_type (wpAny_pure ⟨_, rfl, wpAny_pure h⟩) htake)
    | exact wpAny_bind (m := Builtin.Tuple.tupleExact _) (wpAny_newObj_type (wpAny_bind (wpAny_pure (wpAny_pure ⟨_, rfl, wpAny_pure h⟩))) htake)
    | exact wpAny_bind (wpAny_bind (m := Builtin.Tuple.tupleExact _) (wpAny_newObj_type (wpAny_pure (wpAny_pure ⟨_, rfl, wpAny_pure h⟩)) htake))
    | exact wpAny_bind (wpAny_bind (m := Builtin.Tuple.tupleExact _) (wpAny_newObj_type (wpAny_pure ⟨_, rfl, wpAny_pure h⟩) htake))
end
section
variable {X : Cx}
theorem vals_every2 : ∀ {xs : List V} {us : List Value}, Vals xs us → Vals (every2 xs) (every2 us)
  | [], _, r => by cases r; exact .nil
  | [x], _, r => by
    cases r with
    | cons h t => cases t; exact .cons h .nil
  | x :: y :: xs, _, r => by
    cases r with
    | cons h t =>
      cases t with
      | cons h2 t2 => exact .cons h (vals_every2 t2)
theorem vals_drop : ∀ {xs : List V} {us : List Value} (n : Nat), Vals xs us → Vals (xs.drop n) (us.drop n)
  | _, _, 0, r => r
  | [], _, n + 1, r => by cases r; exact .nil
  | x :: xs, _, n + 1, r => by
    cases r with
    | cons h t => exact vals_drop n t
def tStep (K : PySem.W.Frag) (c : Nat) (te : TE) : TE := fun σ H Q => te σ H fun x H1 => ∃ a xs, x = .ref a ∧ SqT K H1 a xs ∧ ∀ p, H1 p = none → Q (.ref p) (upd H1 p (.tup (every2 (xs.drop c))))
theorem pe_step {e : Expr} {te : TE} {k k2 c : Nat} {p1 p2 p3 pos : Pos} (hc : 1 ≤ c) (he : PE X e te) : PE X (.Subscript e (.Slice (some (.Constant (.int (c : Int)) k p1)) none (some (.Constant (.int 2) k2 p2)) p3) pos) (tStep X.K c te) := by
  refine ⟨fun pins s σ H Q I h => ?_⟩
  refine Subscript_ (thn (he.run pins s σ H _ I h) fun v s1 ⟨x, H1, I1, r1, q1⟩ => ?_)
  obtain ⟨a, xs, ex, hx, q⟩ := q1
  subst ex
  cases r1
  have hl : PO X (some (.Constant (.int (c : Int)) k p1)) (tPart (tC (.int (c : Int)))) := po_some pe_int
  have hst : PO X (some (.Constant (.int 2) k2 p2)) (tPart (tC (.int 2))) := po_some pe_int
  refine wpAny_Slice (thn (hl.run pins s1 σ H1 (fun o H2 => o = some (c : Int) ∧ H2 = H1) I1 ⟨(c : Int), rfl, rfl, rfl⟩) fun vl s2 ⟨l, H2, I2, pl, el, e2⟩ => ?_)
  subst el e2
  refine thn (po_none.run pins s2 σ H2 (fun o H3 => o = none ∧ H3 = H2) I2 ⟨rfl, rfl⟩) fun vu s3 ⟨u, H3, I3, pu, eu, e3⟩ => ?_
  subst eu e3
  refine thn (hst.run pins s3 σ H3 (fun o H4 => o = some 2 ∧ H4 = H3) I3 ⟨2, rfl, rfl, rfl⟩) fun vs s4 ⟨o, H4, I4, ps, eo, e4⟩ => ?_
  subst eo e4
  have I5 : Inv X pins σ H4 { s4 with heap := s4.heap.push { cls := .type "slice", data := .fields #[vl, vu, vs] } } := I4.kept (t' := s4.toks) fun b ob q => Heap.get?_push_of_some _ q
  obtain ⟨its, r, ht, hz⟩ := I5.tuple hx
  have hlen := r.length
  show wpAny (model X.prog X.w) X.A (subscriptTail e (.Slice (some (.Constant (.int (c : Int)) k p1)) none (some (.Constant (.int 2) k2 p2)) p3) (.ref a) (.ref s4.heap.objs.size)) (EP X pins σ Q) X.xe { s4 with heap := s4.heap.push { cls := .type "slice", data := .fields #[vl, vu, vs] } }
  refine tail_any (ops := [.ref a, .ref s4.heap.objs.size]) ht.typeIs (PyProof.Rows.slot_tuple_getitem.lookup) ?_ (by with_unfolding_all rfl)
  refine getItem_tuple_step hc ht (Heap.IsSliceOf.new _ vl vu vs) pl pu ps ?_ (by omega)
  refine ⟨.ref _, _, I5.laid (t' := s4.toks) (o := .tup (every2 (xs.drop c))) (fun b ob q => Heap.get?_push_of_some _ q) (Nat.le_refl _) ?_, rfl, q _ (I5.hok.fresh (Nat.le_refl _))⟩
  refine ⟨?_, _, vals_every2 (vals_drop c r), ⟨_, Heap.get?_push_size _ rfl, rfl, 0, rfl⟩⟩
  have := every2_len (xs.drop c)
  rw [List.length_drop] at this
  omega
end
end Stp

/-! ## More actions: list.index, t[c::2] -/
namespace Ev
open PySem L2 PyProof.Rows
def idxW (x : W) (l : List W) : M W := fun S => match x, l with
  | .ref n, [y] => (match lstAt S n with
    | some ws => if (flat y && ws.all flat) = true then (match ws.findIdx? (fun z => eqF z y) with | some j => .ok (.int (j : Nat)) S | none => .no) else .no
    | none => .no)
  | _, _ => .no
def stepW (c : Nat) : W → M W
  | .tup ws => ret (.tup (Stp.every2 (ws.drop c)))
  | _ => fail
section
variable {X : Cx} {Wx : WX} {m : List Addr} {H : Hp} {S : Sto} {σ : L2.St} {ρ : Rho} {Q : VK} {pos p1 p2 p3 : Pos} {G : Wd} {e : Expr} {a : A}
theorem ms_idx : MtS X Wx idxW (rIndex X.K) := by
  intro σ ρ m H S x ws v vs Q sr hv l o
  cases x <;> first | exact False.elim o | skip
  rename_i n
  unfold idxW at o
  match ws, l, o with
  | [], _, o => exact False.elim o
  | _ :: _ :: _, _, o => exact False.elim o
  | [y], l, o =>
    obtain ⟨yv, r, rfl, hy, hr⟩ := l
    cases hr
    dsimp only at o
    cases e : lstAt S n with
    | none => rw [e] at o; exact False.elim o
    | some us =>
      rw [e] at o
      dsimp only at o
      split at o
      · rename_i hf
        rw [Bool.and_eq_true] at hf
        obtain ⟨p, xs, hp, rfl, h1, lx⟩ := seq_lst sr.rel hv e
        cases e2 : us.findIdx? (fun z => eqF z y) with
        | none => rw [e2] at o; exact False.elim o
        | some j =>
          rw [e2] at o
          dsimp only at o
          obtain ⟨hj, hz, hno⟩ := List.findIdx?_eq_some_iff_getElem.mp e2
          have gz : us[j]? = some us[j] := List.getElem?_eq_getElem hj
          obtain ⟨z, q1, q2⟩ := lx.get gz
          have fu : ∀ {i : Nat} {w : W}, us[i]? = some w → flat w = true := fun h => List.all_eq_true.mp hf.2 _ (List.mem_of_getElem? h)
          refine ⟨p, xs, yv, j, z, rfl, rfl, SqL.of h1, flat_ok hy hf.1, flats_ok lx hf.2, q1, ?_, fun i z' hi hz' => ?_, out_ok sr o rfl⟩
          · rw [eqF_ok q2 hy (fu gz) hf.1]
            exact hz
          · have hil : i < us.length := by omega
            have gi : us[i]? = some us[i] := List.getElem?_eq_getElem hil
            obtain ⟨z2, r1, r2⟩ := lx.get gi
            rw [hz'] at r1
            cases r1
            rw [eqF_ok r2 hy (fu gi) hf.1]
            have := hno i hi
            simpa using this
      · exact False.elim o
theorem VaL.every2 : ∀ {ws : List W} {xs : List V}, VaL G m H ws xs → VaL G m H (Stp.every2 ws) (Stp.every2 xs)
  | [], _, h => by cases h; simp only [Stp.every2]; rfl
  | [w], _, h => by
    obtain ⟨x, r, rfl, t, l⟩ := h
    cases l
    simp only [Stp.every2]
    exact ⟨x, [], rfl, t, rfl⟩
  | w :: u :: ws, _, h => by
    obtain ⟨x, r, rfl, t, l⟩ := h
    obtain ⟨y, r2, rfl, _, l2⟩ := l
    simp only [Stp.every2]
    exact ⟨x, _, rfl, t, VaL.every2 l2⟩
theorem s_step {k k2 c : Nat} (hc : 1 ≤ c) (he : PE X e (rdE (wd X) Wx a)) : PE X (.Subscript e (.Slice (some (.Constant (.int (c : Int)) k p1)) none (some (.Constant (.int 2) k2 p2)) p3) pos) (rdE (wd X) Wx (aUn (stepW c) a)) := by
  refine ⟨fun pins s σ H Q I h => (Stp.pe_step hc he).run pins s σ H Q I ?_⟩
  obtain ⟨m, ρ, S, sr, o⟩ := h
  refine out_bd sr o fun w S1 m1 v H1 e1 s1 v1 o1 => ?_
  cases w <;> first | exact False.elim o1 | skip
  rename_i ws
  obtain ⟨p, xs, rfl, sq, l⟩ := v1
  exact ⟨p, xs, rfl, sq, fun q hq => out_tup s1 o1 (l.drop c).every2 hq⟩
end
end Ev

/-! ## The evaluator -/
namespace Ev
open PySem L2 PyProof.Rows
/-- a def: its parameters, its slots, its scope, its body -/
structure Fd where
  ps : List Str
  N : List Str
  sc : Scope
  body : List Stmt
/-- the text's top -/
structure Tb where
  fn : List (Str × Nat) := []
  mt : List (Str × List (Str × Nat × Str)) := []
  ck : List (Str × Nat × Str) := []
  at_ : List (Str × List Str) := []
  con : List (Str × W) := []
  blt : List Str := []
  exn : List (Str × List Str × (List W → Bool)) := []
  sub : List (Str × List (Str × Bool)) := []
  tab : List (Str × Tab) := []
  tq : List (Str × List Hd.Row) := []
  df : List (Str × Fd) := []
/-- where a piece of text stands -/
structure Sx where
  N : List Str
  sc : Scope
  cl : Bool
  own : Option (List Nat)
  cs : Option Scope
  gd : Bool
structure EvR where
  e : Sx → Expr → A
  t : Sx → Expr → AT
  g : Sx → Expr → AG
def bad : A := fun _ => fail
def badT : AT := fun _ => fail
def badL : AL := fun _ => fail
def badI : AI := fun _ => fail
def badG : AG := fun _ => failS
/-! ### names -/
def ixOf (N : List Str) (x : Str) : Option Nat := match N.findIdx? (fun y => y == x) with
  | some i => if N[i]? = some x then some i else none
  | none => none
def spec (x : Str) : Bool := x == ("__debug__" : Str) || x == ("__classdict__" : Str) || x == ("__name__" : Str)
def visK (o : Option NameKind) : Bool := match o with | some .local => true | some .cell => true | some .free => true | _ => false
def gloK (o : Option NameKind) : Bool := match o with | some .globalImplicit => true | _ => false
def locK (o : Option NameKind) : Bool := match o with | some .local => true | _ => false
def visI (c : Sx) (x : Str) : Option Nat := if (visK (c.sc.names.lookup x) && !spec x) = true then ixOf c.N x else none
def ownB (o : Option (List Nat)) (i : Nat) : Bool := match o with | some vs => decide (i ∈ vs) | none => true
def celB (c : Sx) (x : Str) : Bool := (match c.cs with | none => true | some sc => sc.names.lookup x == some NameKind.cell) && (match c.sc.names.lookup x with | some .cell => true | _ => false)
/-- a name that may be stored: of its own, or read by a part within -/
def storI (c : Sx) (x : Str) : Option Nat := if (locK (c.sc.names.lookup x) || celB c x) = true then (match ixOf c.N x with | some i => if ownB c.own i = true then some i else none | none => none) else none
def locI (c : Sx) (x : Str) : Option Nat := if locK (c.sc.names.lookup x) = true then (match ixOf c.N x with | some i => if ownB c.own i = true then some i else none | none => none) else none
def glB (c : Sx) (x : Str) : Bool := gloK (c.sc.names.lookup x) && !spec x
def bltB (T : Tb) (c : Sx) (x : Str) : Bool := glB c x && T.blt.contains x
def tyB (x : Str) : Option String := if x = "int" then some "int" else if x = "str" then some "str" else if x = "bool" then some "bool" else if x = "tuple" then some "tuple" else if x = "list" then some "list" else none
def evN (T : Tb) (c : Sx) (x : Str) : A := match visI c x with
  | some i => aVar i
  | none => if glB c x = true then (match T.con.lookup x with
    | some w => aC w
    | none => if T.blt.contains x = true then (match tyB x with | some n => aC (.ty n) | none => bad) else bad) else bad
/-! ### pieces -/
def evK : Const → A
  | .none => aC .non
  | .bool b => aC (.bl b)
  | .int i => aC (.int i)
  | .str s => aC (.str s)
  | _ => bad
def evL (r : EvR) (c : Sx) : List Expr → AL
  | [] => aNil
  | e :: es => if unstar e = true then aCons (r.e c e) (evL r c es) else badL
def evO (r : EvR) (c : Sx) : Option Expr → AO
  | none => oNone
  | some e => oSome (r.e c e)
def binF : Operator → Option (W → W → M W)
  | .Add => some addW
  | .Sub => some subW
  | .Mult => some mulW
  | .FloorDiv => some divW
  | .Mod => some modW
  | .Pow => some powW
  | _ => none
def cmpF : CmpOp → Option (W → W → M W)
  | .Eq => some eqO
  | .NotEq => some neO
  | .Lt => some (cmpI fun i j => decide (i < j))
  | .LtE => some (cmpI fun i j => decide (i ≤ j))
  | .Gt => some (cmpI fun i j => decide (i > j))
  | .GtE => some (cmpI fun i j => decide (i ≥ j))
  | .Is => some isW
  | .IsNot => some isnW
  | .In => some inO
  | .NotIn => some ninO
def evBo (r : EvR) (c : Sx) (op : BoolOp) : List Expr → A
  | [] => bad
  | [a] => r.e c a
  | a :: b :: es => match op with
    | .And => aAnd (r.e c a) (evBo r c op (b :: es))
    | .Or => aOr (r.e c a) (evBo r c op (b :: es))
def tvBo (r : EvR) (c : Sx) (op : BoolOp) : List Expr → AT
  | [] => badT
  | [a] => r.t c a
  | a :: b :: es => match op with
    | .And => tAnd (r.t c a) (tvBo r c op (b :: es))
    | .Or => tOr (r.t c a) (tvBo r c op (b :: es))
/-- a table's name -/
def tabN (T : Tb) (c : Sx) : Expr → Option Tab
  | .Name t _ => if glB c t = true then T.tab.lookup t else none
  | _ => none
def inOp : CmpOp → Bool
  | .In => true
  | _ => false
def evCm1 (T : Tb) (r : EvR) (c : Sx) (a : Expr) (op : CmpOp) (b : Expr) : A := match (if inOp op = true then tabN T c b else none) with
  | some es => aUn (tabIn es) (r.e c a)
  | none => if behindInMarks op b = true then bad else (match cmpF op with | some f => aOp f (r.e c a) (r.e c b) | none => bad)
def evCm2 (r : EvR) (c : Sx) (a : Expr) (op op' : CmpOp) (b d : Expr) : A := if lastMarks [op, op'] [b, d] = true then bad else match cmpF op, cmpF op' with
  | some f, some g => aChain f g (r.e c a) (r.e c b) (r.e c d)
  | _, _ => bad
def evCm (T : Tb) (r : EvR) (c : Sx) (a : Expr) (ops : List CmpOp) (bs : List Expr) : A := match ops, bs with
  | [op], [b] => evCm1 T r c a op b
  | [op, op'], [b, d] => evCm2 r c a op op' b d
  | _, _ => bad
/-! ### iterators, comprehensions -/
def isTup : Expr → Bool
  | .Tuple _ _ _ => true
  | _ => false
def evI1 (x : Str) (tup : Bool) (a : A) (d : AI) : AI := if x = "range" then aRng1 a else if x = "reversed" then aRev a else if x = "enumerate" then (if tup = true then aEnu a else d) else d
def evI2 (x : Str) (tup : Bool) (a b : A) (d : AI) : AI := if x = "range" then aRng2 a b else if x = "zip" then (if tup = true then aZip a b else d) else d
def evIN (T : Tb) (r : EvR) (c : Sx) (tup : Bool) (x : Str) (args : List Expr) (d : AI) : AI := if bltB T c x = true then (match args with
    | [a] => if unstar a = true then evI1 x tup (r.e c a) d else d
    | [a, b] => if unstar a = true then (if unstar b = true then evI2 x tup (r.e c a) (r.e c b) d else d) else d
    | _ => d) else d
def evI (T : Tb) (r : EvR) (c : Sx) (tup : Bool) (e : Expr) : AI := match e with
  | .Call (.Name x _) args [] _ => evIN T r c tup x args (aIt (r.e c e))
  | _ => aIt (r.e c e)
def ownS (N : List Str) (scope : Scope) : List (Str × Nat) := scope.names.filterMap fun p => match p.2 with
  | .local => (ixOf N p.1).map (p.1, ·)
  | .cell => (ixOf N p.1).map (p.1, ·)
  | _ => none
def inS (c : Sx) (scope : Scope) : Sx := ⟨c.N, relS scope c.sc, c.cl, some ((ownS c.N scope).map (·.2)), some scope, c.gd⟩
def evTs (r : EvR) (c : Sx) : List Expr → AT
  | [] => tYes
  | [x] => r.t c x
  | _ => badT
def cmpB (c : Sx) (iter : Expr) (scope : Scope) : Bool := c.cl && blkC c.N c.sc scope (ownS c.N scope) && noSet iter
def evC (T : Tb) (r : EvR) (c : Sx) (elt tg iter : Expr) (ifs : List Expr) (scope : Scope) : AL := if cmpB c iter scope = true then
    aComp ((ownS c.N scope).map (·.2)) (evI T r c (isTup tg) iter) (r.g (inS c scope) tg) (evTs r (inS c scope) ifs) (r.e (inS c scope) elt)
  else badL
def evD (T : Tb) (r : EvR) (c : Sx) (k v tg iter : Expr) (ifs : List Expr) (scope : Scope) : A := if cmpB c iter scope = true then
    aDc ((ownS c.N scope).map (·.2)) (evI T r c (isTup tg) iter) (r.g (inS c scope) tg) (evTs r (inS c scope) ifs) (r.e (inS c scope) k) (r.e (inS c scope) v)
  else bad
/-! ### calls -/
def setOf (T : Tb) (c : Sx) : Expr → Option Expr
  | .Call (.Name x _) [b] [] _ => if x = "set" then (if (unstar b && bltB T c x) = true then some b else none) else none
  | _ => none
def zipOf (T : Tb) (c : Sx) : Expr → Option (Expr × Expr)
  | .Call (.Name x _) [a, b] [] _ => if x = "zip" then (if (unstar a && unstar b && bltB T c x) = true then some (a, b) else none) else none
  | _ => none
def lcOf (T : Tb) (r : EvR) (c : Sx) : Expr → Option AL
  | .ListComp elt [⟨tg, iter, ifs, as⟩] scope _ => if as = 0 then some (evC T r c elt tg iter ifs scope) else none
  | _ => none
def evB1b (T : Tb) (r : EvR) (c : Sx) (x : Str) (a : Expr) : A :=
  if x = "repr" then (if c.gd = true then aUn reprW (r.e c a) else bad)
  else if c.cl = true then (match lcOf T r c a with
    | some l => if x = "all" then aQ allQ l else if x = "any" then aQ anyQ l else if x = "sum" then aQ sumQ l else bad
    | none => bad)
  else bad
def evB1 (T : Tb) (r : EvR) (c : Sx) (x : Str) (a : Expr) : A :=
  if x = "len" then (match setOf T c a with | some b => if c.cl = true then aUn lenSW (r.e c b) else bad | none => aUn lenW (r.e c a))
  else if x = "abs" then aUn absW (r.e c a)
  else if x = "int" then aUn intW (r.e c a)
  else if x = "str" then aUn strW (r.e c a)
  else if x = "ord" then aUn ordW (r.e c a)
  else if x = "tuple" then aUn tupW (r.e c a)
  else if x = "list" then (match zipOf T c a with | some p => if c.cl = true then aOp lzipW (r.e c p.1) (r.e c p.2) else bad | none => aUn lstW (r.e c a))
  else evB1b T r c x a
def evB2 (r : EvR) (c : Sx) (x : Str) (a b : Expr) : A :=
  if x = "isinstance" then aOp isiW (r.e c a) (r.e c b)
  else if c.cl = true then (if x = "max" then aOp max2 (r.e c a) (r.e c b) else if x = "min" then aOp min2 (r.e c a) (r.e c b) else bad)
  else bad
def evB (T : Tb) (r : EvR) (c : Sx) (x : Str) (args : List Expr) : A := match args with
  | [a] => if unstar a = true then evB1 T r c x a else bad
  | [a, b] => if unstar a = true then (if unstar b = true then evB2 r c x a b else bad) else bad
  | _ => bad
def evF (T : Tb) (cal mak : Str → Fn) (r : EvR) (c : Sx) (x : Str) (a : Expr) (as : List Expr) : A := match T.fn.lookup x with
  | some n => aCall n (cal x) (evL r c (a :: as))
  | none => (match T.ck.lookup x with
    | some p => aMake x p.1 (mak p.2) (evL r c (a :: as))
    | none => bad)
def evCN (T : Tb) (cal mak : Str → Fn) (r : EvR) (c : Sx) (x : Str) (args : List Expr) : A :=
  if glB c x = true then (if T.blt.contains x = true then evB T r c x args else match args with
    | [] => bad
    | a :: as => if (c.cl && (a :: as).all unstar) = true then evF T cal mak r c x a as else bad)
  else bad
/-- a table of tuple keys -/
def fgetOf (T : Tb) (c : Sx) : Expr → Option (List Hd.Row)
  | .Name t _ => if glB c t = true then T.tq.lookup t else none
  | _ => none
def mtF (T : Tb) (cal : Str → Fn) (mn : Str) : W → Sto → Option (Nat × Fn) := fun w S => match w with
  | .ref n => (match insAt S n with
    | some (c, fs) => (match fs.lookup mn with
      | some _ => none
      | none => (match T.mt.lookup c with
        | some l => (match l.lookup mn with | some p => some (p.1, cal p.2) | none => none)
        | none => none))
    | none => none)
  | _ => none
def evOwn (T : Tb) (cal : Str → Fn) (r : EvR) (c : Sx) (o : Expr) (mn : Str) (args : List Expr) : A := if c.cl = true then aMeth (mtF T cal mn) (r.e c o) (evL r c args) else bad
def evM (T : Tb) (cal : Str → Fn) (r : EvR) (c : Sx) (o : Expr) (mn : Str) (args : List Expr) : A :=
  if mn = "append" then (match args with | [] => bad | a :: as => aBM isLst appW (r.e c o) (evL r c (a :: as)))
  else if mn = "extend" then (match args with | [] => bad | a :: as => aBM isLst extW (r.e c o) (evL r c (a :: as)))
  else if mn = "pop" then (match args with | [] => aBM isLst popW (r.e c o) aNil | _ => bad)
  else if mn = "get" then (match args with
    | [a] => (match fgetOf T c o with | some rows => aUn (fgetW rows) (r.e c a) | none => aGet1 (r.e c o) (r.e c a))
    | [a, b] => aGet2 (r.e c o) (r.e c a) (r.e c b)
    | _ => bad)
  else if mn = "index" then (match args with | [a] => aBM isLst idxW (r.e c o) (evL r c [a]) | _ => bad)
  else evOwn T cal r c o mn args
def evCall (T : Tb) (cal mak : Str → Fn) (r : EvR) (c : Sx) (f : Expr) (args : List Expr) (kws : List Keyword) (pos : Pos) : A := match kws with
  | [] => (match f with
    | .Name x _ => evCN T cal mak r c x args
    | .Attribute o mn apos => if (plainBase o && (apos.endLine == pos.line) && args.all unstar && decide (args.length < 30)) = true then evM T cal r c o mn args else bad
    | _ => bad)
  | _ => bad
def atB (T : Tb) (f : Str) : Str → Bool := fun c => match T.at_.lookup c with | some l => decide (f ∈ l) | none => false
def isRev (l h : Option Expr) (s : Expr) : Bool := match l, h, s with
  | none, none, .UnaryOp .USub (.Constant (.int i) _ _) _ => i == 1
  | _, _, _ => false
def stpOf (l h : Option Expr) (s : Expr) : Option Nat := match l, h, s with
  | some (.Constant (.int c) _ _), none, .Constant (.int i) _ _ => if (decide (1 ≤ c) && i == 2) = true then some c.toNat else none
  | _, _, _ => none
def evSub (T : Tb) (r : EvR) (c : Sx) (o i : Expr) : A := match i with
  | .Slice l h st _ => (match st with
    | none => aSl (r.e c o) (evO r c l) (evO r c h)
    | some s => if isRev l h s = true then aUn revW (r.e c o) else (match stpOf l h s with | some n => aUn (stepW n) (r.e c o) | none => bad))
  | _ => (match tabN T c o with
    | some es => aUn (tabW es) (r.e c i)
    | none => aOp ixW (r.e c o) (r.e c i))
/-- the parts of a text -/
def evFm (r : EvR) (c : Sx) : List Expr → Option (List A)
  | [] => some []
  | e :: es => (match e with
    | .Constant k _ _ => (evFm r c es).map (evK k :: ·)
    | .FormattedValue v i none _ => if i = -1 then (evFm r c es).map (aUn fmtW (r.e c v) :: ·) else none
    | _ => none)
def evJ (r : EvR) (c : Sx) (vs : List Expr) : A := match vs with
  | v1 :: v2 :: rest => (match evFm r c (v1 :: v2 :: rest) with | some l => aJoin l | none => bad)
  | _ => bad
/-- a display's pairs -/
def evDs (r : EvR) (c : Sx) : List (Option Expr) → List Expr → Option (List (Str × A))
  | [], [] => some []
  | some k :: ks, v :: vs => (match k with
    | .Constant (.str z) _ _ => (evDs r c ks vs).map ((z, r.e c v) :: ·)
    | _ => none)
  | _, _ => none
def evDi (r : EvR) (c : Sx) (ks : List (Option Expr)) (vs : List Expr) : A := match evDs r c ks vs with
  | some (q :: l) => if (q :: l).length ≤ 15 then aDsp (q :: l) else bad
  | _ => bad
def stepE (T : Tb) (cal mak : Str → Fn) (r : EvR) (c : Sx) (e : Expr) : A := match e with
  | .Constant k _ _ => evK k
  | .Name x _ => evN T c x
  | .Tuple es _ _ => aTup (evL r c es)
  | .List es _ => aLst (evL r c es)
  | .BinOp a op b _ => (match binF op with | some f => aOp f (r.e c a) (r.e c b) | none => bad)
  | .UnaryOp op a _ => (match op with | .Not => aNot (r.e c a) | .USub => aUn negW (r.e c a) | _ => bad)
  | .BoolOp op es _ => evBo r c op es
  | .Compare a ops bs _ => evCm T r c a ops bs
  | .IfExp t a b _ => aIf (r.t c t) (r.e c a) (r.e c b)
  | .Call f args kws pos => evCall T cal mak r c f args kws pos
  | .Attribute o f _ => if plainBase o = true then aUn (fldW (atB T f) f) (r.e c o) else bad
  | .Subscript o i _ => evSub T r c o i
  | .ListComp _ _ _ _ => (match lcOf T r c e with | some l => newL l | none => bad)
  | .DictComp k v [⟨tg, iter, ifs, as⟩] scope _ => if as = 0 then evD T r c k v tg iter ifs scope else bad
  | .JoinedStr vs _ => evJ r c vs
  | .Dict ks vs _ => evDi r c ks vs
  | _ => bad
def plainT : Expr → Bool
  | .Name _ _ => true
  | .Call _ _ _ _ => true
  | .Attribute _ _ _ => true
  | .Subscript _ _ _ => true
  | .BinOp _ _ _ _ => true
  | _ => false
def stepT (T : Tb) (cal mak : Str → Fn) (r : EvR) (c : Sx) (e : Expr) : AT := match e with
  | .UnaryOp op a _ => (match op with | .Not => tNot (r.t c a) | _ => badT)
  | .BoolOp op es _ => tvBo r c op es
  | .Compare a ops bs _ => tBool (evCm T r c a ops bs)
  | _ => if plainT e = true then tOf (stepE T cal mak r c e) else badT
def stepG (r : EvR) (c : Sx) (e : Expr) : AG := match e with
  | .Name x _ => (match storI c x with | some i => gNm i | none => badG)
  | .Tuple es _ _ => if (c.cl && es.all unstar) = true then gTu (es.map (r.g c)) else badG
  | .Subscript o i _ => if plainIx i = true then gSb (r.e c o) (r.e c i) else badG
  | _ => badG
def evR (T : Tb) (cal mak : Str → Fn) : Nat → EvR
  | 0 => ⟨fun _ _ => bad, fun _ _ => badT, fun _ _ => badG⟩
  | n + 1 => ⟨stepE T cal mak (evR T cal mak n), stepT T cal mak (evR T cal mak n), stepG (evR T cal mak n)⟩
/-! ### statements -/
/-- a comprehension stored in place -/
def bkS (sc : Scope) : ScopeKind := if sc.kind.isAnnotationScope = true then .function else sc.kind
def swB (sc : Scope) (x : Str) (scope : Scope) (l1 l2 : Nat) : Bool := bkS sc == ScopeKind.function && sc.names.lookup x == some NameKind.local && l1 == l2 && !(scope.names.any fun (n, k) => n == x && (k == NameKind.local || k == NameKind.cell))
def evLc (T : Tb) (r : EvR) (c : Sx) (x : Str) (p : Pos) (elt tg iter : Expr) (ifs : List Expr) (as : Int) (scope : Scope) (ep : Pos) : B :=
  if as = 0 then (if (swB c.sc x scope p.line ep.line && cmpB c iter scope) = true then (match locI c x with
    | some i => bAsg (newL (evC T r c elt tg iter ifs scope)) (gNm i)
    | none => failS)
  else (match swB c.sc x scope p.line ep.line with
    | true => failS
    | false => bAsg (newL (evC T r c elt tg iter ifs scope)) (r.g c (.Name x p)))) else failS
/-- two names at once -/
def parB (sc : Scope) (x y : Str) (px py : Pos) (e1 e2 : Expr) : Bool := (bkS sc == ScopeKind.function) && unstar e1 && unstar e2 && (py.line == px.line) && !(x == y) && !(foldedForSure 8 e1 && foldedForSure 8 e2) && !(constantsAlone 8 e1 && constantsAlone 8 e2) && (sc.names.lookup x == some NameKind.local) && (sc.names.lookup y == some NameKind.local)
def parI (c : Sx) (ts vs : List Expr) : Option (Nat × Nat) := match ts, vs with
  | [.Name x px, .Name y py], [e1, e2] =>
    if (c.cl && parB c.sc x y px py e1 e2) = true then
      (match locI c x, locI c y with | some i, some j => if i = j then none else some (i, j) | _, _ => none)
    else none
  | _, _ => none
def evAs (T : Tb) (r : EvR) (c : Sx) (tg e : Expr) : B := match tg with
  | .Attribute o f _ => bFld (atB T f) f (r.e c e) (r.e c o)
  | .Name x np => (match e with
    | .ListComp elt [⟨t, iter, ifs, as⟩] scope ep => evLc T r c x np elt t iter ifs as scope ep
    | _ => if noComp e = true then bAsg (r.e c e) (r.g c tg) else failS)
  | .Tuple ts _ _ => (match e with
    | .Tuple vs _ _ => (match parI c ts vs with | some p => bAsg (aTup (evL r c vs)) (gTu [gNm p.1, gNm p.2]) | none => failS)
    | _ => bAsg (r.e c e) (r.g c tg))
  | .Subscript _ _ _ => bAsg (r.e c e) (r.g c tg)
  | _ => failS
def augF : Operator → Option (W → W → M W)
  | .Add => some augAdd
  | .Sub => some subW
  | _ => none
def evAu (T : Tb) (r : EvR) (c : Sx) (tg : Expr) (op : Operator) (e : Expr) : B := match augF op with
  | none => failS
  | some f => (match tg with
    | .Name x _ => (match storI c x with | some i => bAug i f (r.e c e) | none => failS)
    | .Attribute o fl _ => bFAug (atB T fl) fl f (r.e c o) (r.e c e)
    | _ => failS)
def evRa (T : Tb) (r : EvR) (c : Sx) : Option Expr → B
  | some (.Call (.Name x _) (a :: as) [] _) => if (c.cl && (a :: as).all unstar && glB c x) = true then (match T.exn.lookup x with
    | some p => bRaise x p.1 p.2 (evL r c (a :: as))
    | none => failS) else failS
  | _ => failS
def evTr (T : Tb) (rs : Sx → List Stmt → B) (c : Sx) (body : List Stmt) : List ExceptHandler → B
  | [.ExceptHandler (some (.Name x _)) none (b0 :: suite) _] => if glB c x = true then (match T.sub.lookup x with
    | some l => bTryO (fun y => l.lookup y) (rs c body) (rs { c with cl := false, gd := false } (b0 :: suite))
    | none => failS) else failS
  | _ => failS
def evDe (r : EvR) (c : Sx) : List Expr → B
  | [.Subscript o i _] => bDel (r.e c o) (r.e c i)
  | _ => failS
def stepS (T : Tb) (r : EvR) (rs : Sx → List Stmt → B) (c : Sx) (st : Stmt) : B := match st with
  | .Pass _ => bNext
  | .Continue _ => bCont
  | .Break _ => bBreak
  | .Return o _ => (match o with | none => bRetN | some e => bRet (r.e c e))
  | .Expr e _ => if noComp e = true then bExpr (r.e c e) else failS
  | .Assign tgs e _ => (match tgs with | [tg] => evAs T r c tg e | _ => failS)
  | .AugAssign tg op e _ => evAu T r c tg op e
  | .If e x y _ => bIf (r.t c e) (rs c x) (rs c y)
  | .For tg iter body orelse _ => (match orelse with | [] => if (c.cl && noSet iter) = true then bFor (evI T r c (isTup tg) iter) (r.g c tg) (rs c body) else failS | _ => failS)
  | .While e body orelse _ => (match orelse with | [] => bWh (r.t c e) (rs c body) | _ => failS)
  | .Delete ts _ => evDe r c ts
  | .Raise o f _ => (match f with | none => evRa T r c o | some _ => failS)
  | .Try body hs orelse fin _ => (match orelse, fin with | [], [] => evTr T rs c body hs | _, _ => failS)
  | _ => failS
def evBl (T : Tb) (r : EvR) (rs : Sx → List Stmt → B) (c : Sx) : List Stmt → B
  | [] => bNext
  | st :: sts => bSeq (stepS T r rs c st) (evBl T r rs c sts)
def evSs (T : Tb) (r : EvR) : Nat → Sx → List Stmt → B
  | 0 => fun _ _ => failS
  | n + 1 => evBl T r (evSs T r n)
/-- a def's body -/
def fdB (T : Tb) (cal mak : Str → Fn) (d : Fd) : B := evSs T (evR T cal mak 40) 20 ⟨d.N, d.sc, true, none, none, false⟩ d.body
/-- what stands behind a name, at a level -/
def callI (T : Tb) : Nat → Str → Fn
  | 0 => fun _ _ => fail
  | 1 => fun _ _ => fail
  | k + 2 => fun x => match T.df.lookup x with
    | some d => fnE d.N (fdB T (callI T (k + 1)) (callI T k) d)
    | none => fun _ => fail
/-- the law's def, called where no repr is under way -/
def lawE (T : Tb) (k : Nat) (x : Str) : Fn := match T.df.lookup x with
  | some d => fnE d.N (evSs T (evR T (callI T (k + 1)) (callI T k) 40) 20 ⟨d.N, d.sc, true, none, none, true⟩ d.body)
  | none => fun _ => fail
end Ev

/-! ## The evaluator is sound: expressions -/
namespace Ev
open PySem L2 PyProof.Rows
structure TbOk (T : Tb) (k : Nat) (cal mak : Str → Fn) (P : Program) (w : World) (K : PySem.W.Frag) (mg : Str → Option Value) (base : Heap) : Prop where
  fn : ∀ x n, T.fn.lookup x = some n → ∃ f fd ps, mg x = some (.ref f) ∧ PySem.W.keepIn K (.ref f) = true ∧ L2.Binds K fd ps [] ∧ FnOk P w K mg base (L2.CX P w) (k + 1) f fd ps (spI ⟨K, mg⟩ n (cal x))
  mt : ∀ c l mn p, T.mt.lookup c = some l → l.lookup mn = some p → ∃ C f fd ps, mg c = some (.ref C) ∧ Cls K C ∧ Meth K C mn f ∧ FnOk P w K mg base (L2.CX P w) (k + 1) f fd ps (spI ⟨K, mg⟩ p.1 (cal p.2)) ∧ L2.Binds K fd ps []
  ck : ∀ c p, T.ck.lookup c = some p → ∃ C f fd ps, mg c = some (.ref C) ∧ Mk K C f ∧ FnOk P w K mg base (L2.CX P w) k f fd ps (spI ⟨K, mg⟩ p.1 (mak p.2)) ∧ L2.Binds K fd ps []
  at_ : ∀ f c, atB T f c = true → ∀ C, mg c = some (.ref C) → Cls K C ∧ NoAttr K C f
  con : ∀ x wv, T.con.lookup x = some wv → ∃ v u, mg x = some u ∧ RelV v u ∧ ∀ m H, Va ⟨K, mg⟩ m H wv v
  blt : ∀ x, T.blt.contains x = true → mg x = none
  exn : ∀ c p, T.exn.lookup c = some p → ∀ X : Cx, X.prog = P → X.w = w → X.K = K → X.mg = mg → Room (k + 1) X.A → X.calm = true → ∃ okV, MkX X c p.1 okV ∧ ∀ m H ws vs, VaL (wd X) m H ws vs → p.2 ws = true → okV vs H
  sub : ∀ x l, T.sub.lookup x = some l → ∃ cv, mg x = some cv ∧ ∀ c C b, mg c = some (.ref C) → l.lookup c = some b → PySem.W.exmOne K (.ref C) cv = some b
  tab : ∀ t es, T.tab.lookup t = some es → TabOk w K mg t es
  tq : ∀ t rows, T.tq.lookup t = some rows → ∃ d, mg t = some (.ref d) ∧ Hf.KForm P w K d rows ∧ (rows.map (·.1)).Nodup
structure Gd (T : Tb) (k : Nat) (cal mak : Str → Fn) (c : Sx) (X : Cx) (Wx : WX) : Prop where
  N : X.N = c.N
  nd : X.N.Nodup
  sc : X.env.scope = c.sc
  hu : X.A.units + 65 < cLine
  cl : c.cl = true → X.calm = true ∧ Room (k + 1) X.A ∧ Px X Wx
  fn : ∀ x, celB c x = true → X.fn x = true
  tb : TbOk T k cal mak X.prog X.w X.K X.mg X.base
  rp : c.gd = true → X.A.guards = some [] ∧ X.A.units + 200 < cLine
def FrOk (o : Option (List Nat)) (Fr : Fram) : Prop := ∀ i, ownB o i = true → ∀ σ v, Fr.rel σ (σ.set i (some v))
theorem frOk_any {o : Option (List Nat)} : FrOk o frAny := fun _ _ _ _ => trivial
theorem frOk_own {vs : List Nat} : FrOk (some vs) (frOwn vs) := fun _ h _ _ => wipe_put (of_decide_eq_true h)
structure ROk (T : Tb) (k : Nat) (cal mak : Str → Fn) (r : EvR) : Prop where
  e : ∀ {c X Wx}, Gd T k cal mak c X Wx → ∀ e, PE X e (rdE (wd X) Wx (r.e c e))
  t : ∀ {c X Wx}, Gd T k cal mak c X Wx → ∀ e, PT X e (rdT (wd X) Wx (r.t c e))
  g : ∀ {c X Wx}, Gd T k cal mak c X Wx → ∀ {Fr}, FrOk c.own Fr → ∀ e, PG X e (rdG (wd X) Wx Fr (r.g c e))
section
variable {T : Tb} {k : Nat} {cal mak : Str → Fn} {c : Sx} {X : Cx} {Wx : WX} {r : EvR} {x t mn : Str} {pos p2 apos : Pos}
theorem ix_ok {N : List Str} {i : Nat} (h : ixOf N x = some i) : N[i]? = some x := by
  unfold ixOf at h
  split at h
  · split at h
    · cases h
      assumption
    · cases h
  · cases h
theorem spec_ok (h : spec x = false) : (x == ("__debug__" : Str)) = false ∧ (x == ("__classdict__" : Str)) = false ∧ x ≠ "__name__" := by
  unfold spec at h
  rw [Bool.or_eq_false_iff, Bool.or_eq_false_iff] at h
  exact ⟨h.1.1, h.1.2, beq_eq_false_iff_ne.mp h.2⟩
theorem locK_ok {o : Option NameKind} (h : locK o = true) : o = some .local := by
  unfold locK at h
  split at h
  · rfl
  · exact (Bool.false_ne_true h).elim
theorem gloK_ok {o : Option NameKind} (h : gloK o = true) : o = some .globalImplicit := by
  unfold gloK at h
  split at h
  · rfl
  · exact (Bool.false_ne_true h).elim
theorem visK_ok {o : Option NameKind} (h : visK o = true) : o = some .local ∨ o = some .cell ∨ o = some .free := by
  unfold visK at h
  split at h
  · exact .inl rfl
  · exact .inr (.inl rfl)
  · exact .inr (.inr rfl)
  · exact (Bool.false_ne_true h).elim
theorem Gd.vis {i : Nat} (G : Gd T k cal mak c X Wx) (h : visI c x = some i) : X.N[i]? = some x ∧ Vis X.env.scope x ∧ (x == ("__debug__" : Str)) = false ∧ (x == ("__classdict__" : Str)) = false := by
  unfold visI at h
  split at h
  · rename_i hv
    rw [Bool.and_eq_true, Bool.not_eq_true'] at hv
    obtain ⟨h1, h2, _⟩ := spec_ok hv.2
    refine ⟨by rw [G.N]; exact ix_ok h, ?_, h1, h2⟩
    rw [G.sc]
    exact visK_ok hv.1
  · cases h
theorem Gd.loc {i : Nat} (G : Gd T k cal mak c X Wx) (h : locI c x = some i) : X.N[i]? = some x ∧ X.env.scope.names.lookup x = some .local ∧ ownB c.own i = true := by
  unfold locI at h
  split at h
  · rename_i hv
    cases e : ixOf c.N x with
    | none => rw [e] at h; cases h
    | some j =>
      rw [e] at h
      dsimp only at h
      split at h
      · cases h
        refine ⟨by rw [G.N]; exact ix_ok e, ?_, by assumption⟩
        rw [G.sc]
        exact locK_ok hv
      · cases h
  · cases h
theorem Gd.stor {i : Nat} (G : Gd T k cal mak c X Wx) (h : storI c x = some i) : X.N[i]? = some x ∧ L2.Loc X.env.scope x ∧ (X.fn x = true ∨ X.env.scope.names.lookup x = some .local) ∧ ownB c.own i = true := by
  unfold storI at h
  split at h
  · rename_i hv
    cases e : ixOf c.N x with
    | none => rw [e] at h; cases h
    | some j =>
      rw [e] at h
      dsimp only at h
      split at h
      · cases h
        rw [Bool.or_eq_true] at hv
        rw [G.N, G.sc]
        rcases hv with hv | hv
        · exact ⟨ix_ok e, .inl (locK_ok hv), .inr (locK_ok hv), by assumption⟩
        · refine ⟨ix_ok e, .inr ?_, .inl (G.fn x hv), by assumption⟩
          unfold celB at hv
          rw [Bool.and_eq_true] at hv
          have := hv.2
          split at this
          · assumption
          · exact (Bool.false_ne_true this).elim
      · cases h
  · cases h
theorem Gd.gl (G : Gd T k cal mak c X Wx) (h : glB c x = true) : Gl X x ∧ (x == ("__debug__" : Str)) = false ∧ x ≠ "__name__" := by
  unfold glB at h
  rw [Bool.and_eq_true, Bool.not_eq_true'] at h
  obtain ⟨h1, _, h2⟩ := spec_ok h.2
  refine ⟨?_, h1, h2⟩
  show X.env.scope.names.lookup x = some .globalImplicit
  rw [G.sc]
  exact gloK_ok h.1
theorem Gd.blt (G : Gd T k cal mak c X Wx) (h : bltB T c x = true) : Gl X x ∧ X.mg x = none ∧ (x == ("__debug__" : Str)) = false ∧ x ≠ "__name__" := by
  unfold bltB at h
  rw [Bool.and_eq_true] at h
  obtain ⟨h1, h2, h3⟩ := G.gl h.1
  exact ⟨h1, G.tb.blt x h.2, h2, h3⟩
theorem ty_boot {n : String} (h : tyB x = some n) : bootBuiltins x = some (.type n) := by
  unfold tyB at h
  split at h
  · cases h; rename_i e; rw [e]; rfl
  split at h
  · cases h; rename_i e; rw [e]; rfl
  split at h
  · cases h; rename_i e; rw [e]; rfl
  split at h
  · cases h; rename_i e; rw [e]; rfl
  split at h
  · cases h; rename_i e; rw [e]; rfl
  · cases h
theorem evN_ok (G : Gd T k cal mak c X Wx) : PE X (.Name x pos) (rdE (wd X) Wx (evN T c x)) := by
  unfold evN
  split
  · rename_i i h
    obtain ⟨h1, h2, h3, h4⟩ := G.vis h
    exact s_var h1 h2 h3 h4
  · split
    · rename_i hg
      obtain ⟨g1, g2, g3⟩ := G.gl hg
      split
      · rename_i wv hw
        obtain ⟨v, u, h1, h2, h3⟩ := G.tb.con x wv hw
        exact s_c (pe_glob g1 h1 h2 g2) h3
      · split
        · rename_i hb
          split
          · rename_i n hn
            exact s_c (pe_bltn (v := .ty n) g1 (G.tb.blt x hb) (ty_boot hn) rfl g3 g2) fun _ _ => rfl
          · exact s_bad
        · exact s_bad
    · exact s_bad
theorem evK_ok {ki : Const} {j : Nat} : PE X (.Constant ki j pos) (rdE (wd X) Wx (evK ki)) := by
  cases ki <;> first | exact s_bad | skip
  · exact s_c pe_non fun _ _ => rfl
  · exact s_c pe_bl fun _ _ => rfl
  · exact s_c pe_int fun _ _ => rfl
  · exact s_c pe_str fun _ _ => rfl
theorem evL_ok (R : ROk T k cal mak r) (G : Gd T k cal mak c X Wx) : ∀ es : List Expr, PA X es (rdL (wd X) Wx (evL r c es))
  | [] => s_nil
  | e :: es => by
    unfold evL
    split
    · exact s_cons (R.e G e) (evL_ok R G es) (by assumption)
    · exact s_badL
theorem evO_ok (R : ROk T k cal mak r) (G : Gd T k cal mak c X Wx) : ∀ o : Option Expr, PO X o (rd (wd X) Vo Wx (evO r c o))
  | none => s_oNone
  | some e => s_oSome (R.e G e)
theorem bin_ok {op : Operator} {f : W → W → M W} (h : binF op = some f) : ∃ r, OpR X (binaryOp op) r ∧ OpS X Wx f r := by
  cases op <;> first | (cases h; done) | skip
  · cases h; exact ⟨_, op_addA, os_add⟩
  · cases h; exact ⟨_, op_sub, os_sub⟩
  · cases h; exact ⟨_, op_mul, os_mul⟩
  · cases h; exact ⟨_, op_mod, os_mod⟩
  · cases h; exact ⟨_, op_pow, os_pow⟩
  · cases h; exact ⟨_, op_fdiv, os_div⟩
theorem cmp_ok {op : CmpOp} {f : W → W → M W} (hu : X.A.units + 65 < cLine) (h : cmpF op = some f) : ∃ r, OpR X (compareOp op) r ∧ OpS X Wx f r := by
  cases op <;> cases h
  · exact ⟨_, op_eqA (by omega), os_eq⟩
  · exact ⟨_, op_neA (by omega), os_ne⟩
  · exact ⟨_, op_lt, os_cmpI⟩
  · exact ⟨_, op_le, os_cmpI⟩
  · exact ⟨_, op_gt, os_cmpI⟩
  · exact ⟨_, op_ge, os_cmpI⟩
  · exact ⟨_, op_isN, os_is⟩
  · exact ⟨_, op_notN, os_isn⟩
  · exact ⟨_, op_inA hu, os_in⟩
  · exact ⟨_, op_ninA hu, os_nin⟩
theorem evBo_ok (R : ROk T k cal mak r) (G : Gd T k cal mak c X Wx) {op : BoolOp} : ∀ es : List Expr, PE X (.BoolOp op es pos) (rdE (wd X) Wx (evBo r c op es))
  | [] => s_bad
  | [a] => pe_one (R.e G a)
  | a :: b :: es => by
    cases op
    · exact s_andV (R.e G a) (evBo_ok R G (b :: es))
    · exact s_orV (R.e G a) (evBo_ok R G (b :: es))
theorem s_badW {e : Expr} : PW X e (rdT (wd X) Wx fun _ => fail) := ⟨fun wh pins s σ H Q I h => by
  obtain ⟨m, ρ, S, sr, o⟩ := h
  exact False.elim o⟩
theorem tvBo_ok (R : ROk T k cal mak r) (G : Gd T k cal mak c X Wx) {op : BoolOp} : ∀ es : List Expr, PW X (.BoolOp op es pos) (rdT (wd X) Wx (tvBo r c op es))
  | [] => s_badW
  | [a] => by
    cases op
    · exact pw_and1 (R.t G a)
    · exact pw_or1 (R.t G a)
  | a :: b :: es => by
    cases op
    · exact s_and (R.t G a) (tvBo_ok R G (b :: es))
    · exact s_or (R.t G a) (tvBo_ok R G (b :: es))
theorem tabN_ok {o : Expr} {es : Tab} (G : Gd T k cal mak c X Wx) (h : tabN T c o = some es) : ∃ t p, o = .Name t p ∧ TabOk X.w X.K X.mg t es ∧ Gl X t ∧ (t == ("__debug__" : Str)) = false := by
  unfold tabN at h
  split at h
  · split at h
    · rename_i t p hg
      obtain ⟨g1, g2, _⟩ := G.gl hg
      exact ⟨t, p, rfl, G.tb.tab t es h, g1, g2⟩
    · cases h
  · cases h
theorem t_bad {e : Expr} : PT X e (rdT (wd X) Wx (tBool bad)) := ⟨fun pins s σ H Q I h => by
  obtain ⟨m, ρ, S, sr, o⟩ := h
  exact False.elim o⟩
theorem evCm_ok (R : ROk T k cal mak r) (G : Gd T k cal mak c X Wx) {a : Expr} {ops : List CmpOp} {bs : List Expr} : PE X (.Compare a ops bs pos) (rdE (wd X) Wx (evCm T r c a ops bs)) ∧ PT X (.Compare a ops bs pos) (rdT (wd X) Wx (tBool (evCm T r c a ops bs))) := by
  unfold evCm
  split
  · rename_i op b
    unfold evCm1
    split
    · rename_i es h
      split at h
      · rename_i hop
        have : op = .In := by cases op <;> first | rfl | exact (Bool.false_ne_true hop).elim
        subst this
        obtain ⟨t, p, rfl, T1, g1, g2⟩ := tabN_ok G h
        exact s_tabIn T1 g1 g2 (R.e G a)
      · cases h
    · split
      · exact ⟨s_bad, t_bad⟩
      · rename_i hm
        have hm : behindInMarks op b = false := by simpa using hm
        split
        · rename_i f hf
          obtain ⟨q, h1, h2⟩ := cmp_ok (Wx := Wx) G.hu hf
          exact ⟨s_cmp h1 h2 (R.e G a) (R.e G b) hm, s_cmpT h1 h2 (R.e G a) (R.e G b) hm⟩
        · exact ⟨s_bad, t_bad⟩
  · rename_i op op' b d
    unfold evCm2
    split
    · exact ⟨s_bad, t_bad⟩
    · rename_i hm
      have hm : lastMarks [op, op'] [b, d] = false := by simpa using hm
      split
      · rename_i f g hf hg
        obtain ⟨q, h1, h2⟩ := cmp_ok (Wx := Wx) G.hu hf
        obtain ⟨q', h3, h4⟩ := cmp_ok (Wx := Wx) G.hu hg
        exact ⟨s_chain h1 h3 h2 h4 (R.e G a) (R.e G b) (R.e G d) hm, s_chainT h1 h3 h2 h4 (R.e G a) (R.e G b) (R.e G d) hm⟩
      · exact ⟨s_bad, t_bad⟩
  · exact ⟨s_bad, t_bad⟩
/-! ### iterators, comprehensions -/
theorem isTup_ok {tg : Expr} (h : isTup tg = true) : ∃ es n p, tg = .Tuple es n p := by
  cases tg <;> first | exact (Bool.false_ne_true h).elim | exact ⟨_, _, _, rfl⟩
theorem evI1_ok {tg e : Expr} {a : A} {d : AI} (G : Gd T k cal mak c X Wx) (hb : bltB T c x = true) (ha : PE X e (rdE (wd X) Wx a)) (hs : unstar e = true) (hd : PI X tg (.Call (.Name x p2) [e] [] pos) (rd (wd X) (Vi (wd X)) Wx d)) : PI X tg (.Call (.Name x p2) [e] [] pos) (rd (wd X) (Vi (wd X)) Wx (evI1 x (isTup tg) a d)) := by
  obtain ⟨g1, g2, g3, g4⟩ := G.blt hb
  unfold evI1
  split
  · rename_i h; subst h; exact s_rng1 g1 g2 ha hs
  split
  · rename_i h; subst h; exact s_revI g1 g2 ha hs
  split
  · rename_i h
    subst h
    split
    · rename_i ht
      obtain ⟨es, n, p, rfl⟩ := isTup_ok ht
      exact s_enu g1 g2 ha hs
    · exact hd
  · exact hd
theorem evI2_ok {tg e e2 : Expr} {a b : A} {d : AI} (G : Gd T k cal mak c X Wx) (hb : bltB T c x = true) (ha : PE X e (rdE (wd X) Wx a)) (hb2 : PE X e2 (rdE (wd X) Wx b)) (hs : unstar e = true) (hs2 : unstar e2 = true) (hd : PI X tg (.Call (.Name x p2) [e, e2] [] pos) (rd (wd X) (Vi (wd X)) Wx d)) : PI X tg (.Call (.Name x p2) [e, e2] [] pos) (rd (wd X) (Vi (wd X)) Wx (evI2 x (isTup tg) a b d)) := by
  obtain ⟨g1, g2, g3, g4⟩ := G.blt hb
  unfold evI2
  split
  · rename_i h; subst h; exact s_rng2 g1 g2 ha hb2 hs hs2
  split
  · rename_i h
    subst h
    split
    · rename_i ht
      obtain ⟨es, n, p, rfl⟩ := isTup_ok ht
      exact s_zip g1 g2 ha hb2 hs hs2
    · exact hd
  · exact hd
theorem evI_ok (R : ROk T k cal mak r) (G : Gd T k cal mak c X Wx) {tg e : Expr} : PI X tg e (rd (wd X) (Vi (wd X)) Wx (evI T r c (isTup tg) e)) := by
  have hd : ∀ e, PI X tg e (rd (wd X) (Vi (wd X)) Wx (aIt (r.e c e))) := fun e => s_it (R.e G e)
  unfold evI
  split
  · rename_i x p2 args pos
    unfold evIN
    split
    · rename_i hb
      split
      · rename_i a
        split
        · rename_i hs
          exact evI1_ok G hb (R.e G a) hs (hd _)
        · exact hd _
      · rename_i a b
        split
        · rename_i hs
          split
          · rename_i hs2
            exact evI2_ok G hb (R.e G a) (R.e G b) hs hs2 (hd _)
          · exact hd _
        · exact hd _
      · exact hd _
    · exact hd _
  · exact hd _
theorem Gd.blk (G : Gd T k cal mak c X Wx) {scope : Scope} (s : Shared) (H : Hp) (C : Addr) (cl : List (Str × Addr)) (fp : List Addr) : Gd T k cal mak (inS c scope) (X.blk s H scope (compEnvC scope cl C X.env) fp) Wx0 where
  N := G.N
  nd := G.nd
  sc := by
    show relabel scope X.env = relS scope c.sc
    rw [← G.sc]
    rfl
  hu := G.hu
  cl := fun h => ⟨(G.cl h).1, (G.cl h).2.1, px_none⟩
  fn := fun x h => by
    unfold celB at h
    rw [Bool.and_eq_true] at h
    exact h.1
  tb := G.tb
  rp := G.rp
theorem yes_ok : PTs X [] (rdT (wd X) Wx tYes) := by
  refine ⟨fun pins s σ H Q I h => pts_nil.run pins s σ H Q I ?_⟩
  obtain ⟨m, ρ, S, sr, o⟩ := h
  exact out_ok sr o rfl
theorem pts_bad {es : List Expr} : PTs X es (rdT (wd X) Wx badT) := ⟨fun pins s σ H Q I h => by
  obtain ⟨m, ρ, S, sr, o⟩ := h
  exact False.elim o⟩
theorem evTs_ok (R : ROk T k cal mak r) (G : Gd T k cal mak c X Wx) {es : List Expr} : PTs X es (rdT (wd X) Wx (evTs r c es)) := by
  unfold evTs
  split
  · exact yes_ok
  · exact pts_one (R.t G _)
  · exact pts_bad
theorem cmpB_ok {iter : Expr} {scope : Scope} (G : Gd T k cal mak c X Wx) (h : cmpB c iter scope = true) : X.calm = true ∧ BlkOk X.N X.env.scope scope (ownS c.N scope) ∧ noSet iter = true := by
  unfold cmpB at h
  rw [Bool.and_eq_true, Bool.and_eq_true] at h
  refine ⟨(G.cl h.1.1).1, ?_, h.2⟩
  rw [G.N, G.sc]
  exact blkOk_by h.1.2
theorem rdQ_bad {e : Expr} : PE X e (rdQ (wd X) Wx badL) := ⟨fun pins s σ H Q I h => by
  obtain ⟨m, ρ, S, sr, o⟩ := h
  exact False.elim o⟩
theorem lcOf_ok (R : ROk T k cal mak r) (G : Gd T k cal mak c X Wx) {e : Expr} {l : AL} (h : lcOf T r c e = some l) : PE X e (rdQ (wd X) Wx l) ∧ unstar e = true := by
  unfold lcOf at h
  split at h
  · rename_i elt tg iter ifs as scope pos
    split at h
    · rename_i has
      subst has
      cases h
      refine ⟨?_, rfl⟩
      unfold evC
      split
      · rename_i hc
        obtain ⟨h1, h2, h3⟩ := cmpB_ok G hc
        exact s_comp h1 G.nd h2 (evI_ok R G) (fun s H C cl fp => R.g (G.blk s H C cl fp) frOk_own tg) (fun s H C cl fp => evTs_ok R (G.blk s H C cl fp)) (fun s H C cl fp => R.e (G.blk s H C cl fp) elt) (noSet_ok h3)
      · exact rdQ_bad
    · cases h
  · cases h
theorem evD_ok (R : ROk T k cal mak r) (G : Gd T k cal mak c X Wx) {ki v tg iter : Expr} {ifs : List Expr} {scope : Scope} : PE X (.DictComp ki v [⟨tg, iter, ifs, 0⟩] scope pos) (rdE (wd X) Wx (evD T r c ki v tg iter ifs scope)) := by
  unfold evD
  split
  · rename_i hc
    obtain ⟨h1, h2, h3⟩ := cmpB_ok G hc
    exact s_dc h1 G.nd h2 (evI_ok R G) (fun s H C cl fp => R.g (G.blk s H C cl fp) frOk_own tg) (fun s H C cl fp => evTs_ok R (G.blk s H C cl fp)) (fun s H C cl fp => R.e (G.blk s H C cl fp) ki) (fun s H C cl fp => R.e (G.blk s H C cl fp) v) (noSet_ok h3)
  · exact s_bad
end
end Ev

/-! ## The evaluator is sound: calls, the steps -/
namespace Ev
open PySem L2 PyProof.Rows
section
variable {T : Tb} {k : Nat} {cal mak : Str → Fn} {c : Sx} {X : Cx} {Wx : WX} {r : EvR} {x t mn : Str} {pos p2 apos : Pos}
theorem setOf_ok {e b : Expr} (G : Gd T k cal mak c X Wx) (h : setOf T c e = some b) : ∃ p q, e = .Call (.Name "set" p) [b] [] q ∧ unstar b = true ∧ Gl X "set" ∧ X.mg "set" = none := by
  unfold setOf at h
  split at h
  · split at h
    · rename_i hx
      subst hx
      split at h
      · rename_i hc
        cases h
        rw [Bool.and_eq_true] at hc
        obtain ⟨g1, g2, _⟩ := G.blt hc.2
        exact ⟨_, _, rfl, hc.1, g1, g2⟩
      · cases h
    · cases h
  · cases h
theorem zipOf_ok {e : Expr} {ab : Expr × Expr} (G : Gd T k cal mak c X Wx) (h : zipOf T c e = some ab) : ∃ p q, e = .Call (.Name "zip" p) [ab.1, ab.2] [] q ∧ unstar ab.1 = true ∧ unstar ab.2 = true ∧ Gl X "zip" ∧ X.mg "zip" = none := by
  unfold zipOf at h
  split at h
  · split at h
    · rename_i hx
      subst hx
      split at h
      · rename_i hc
        cases h
        rw [Bool.and_eq_true, Bool.and_eq_true] at hc
        obtain ⟨g1, g2, _⟩ := G.blt hc.2
        exact ⟨_, _, rfl, hc.1.1, hc.1.2, g1, g2⟩
      · cases h
    · cases h
  · cases h
theorem evB1b_ok (R : ROk T k cal mak r) (G : Gd T k cal mak c X Wx) (hb : bltB T c x = true) {a : Expr} (hs : unstar a = true) : PE X (.Call (.Name x p2) [a] [] pos) (rdE (wd X) Wx (evB1b T r c x a)) := by
  obtain ⟨g1, g2, g3, g4⟩ := G.blt hb
  unfold evB1b
  by_cases hrep : x = ("repr" : Str)
  · rw [if_pos hrep]
    subst hrep
    split
    · rename_i hgd
      exact s_callB1 cs_repr (Rp.cr_repr (G.rp hgd).1 (G.rp hgd).2) g1 g2 rfl (R.e G a) hs g4 g3
    · exact s_bad
  rw [if_neg hrep]
  split
  · rename_i hc
    split
    · rename_i l hl
      obtain ⟨q1, q2⟩ := lcOf_ok R G hl
      split
      · rename_i h; subst h; exact s_callQB cq_all (cr_all (G.cl hc).1) g1 g2 rfl q1 q2 g4 g3
      split
      · rename_i h; subst h; exact s_callQB cq_any (cr_any (G.cl hc).1) g1 g2 rfl q1 q2 g4 g3
      split
      · rename_i h; subst h; exact s_callQB cq_sum (cr_sum (G.cl hc).1) g1 g2 rfl q1 q2 g4 g3
      · exact s_bad
    · exact s_bad
  · exact s_bad
theorem evB1_ok (R : ROk T k cal mak r) (G : Gd T k cal mak c X Wx) (hb : bltB T c x = true) {a : Expr} (hs : unstar a = true) : PE X (.Call (.Name x p2) [a] [] pos) (rdE (wd X) Wx (evB1 T r c x a)) := by
  obtain ⟨g1, g2, g3, g4⟩ := G.blt hb
  unfold evB1
  split
  · rename_i h
    subst h
    split
    · rename_i b hset
      obtain ⟨p, q, rfl, hsb, q1, q2⟩ := setOf_ok G hset
      split
      · rename_i hc
        exact s_lenS (G.cl hc).1 g1 g2 q1 q2 (R.e G b) hsb
      · exact s_bad
    · exact s_callB1 cs_len call_len g1 g2 rfl (R.e G a) hs g4 g3
  split
  · rename_i h; subst h; exact s_callB1 cs_abs call_abs g1 g2 rfl (R.e G a) hs g4 g3
  split
  · rename_i h; subst h; exact s_callT1 cs_int call_int1 g1 g2 rfl (R.e G a) hs g4 g3
  split
  · rename_i h; subst h; exact s_callT1 cs_str call_str_int g1 g2 rfl (R.e G a) hs g4 g3
  split
  · rename_i h; subst h; exact s_callB1 cs_ord call_ord g1 g2 rfl (R.e G a) hs g4 g3
  split
  · rename_i h; subst h; exact s_callT1 cs_tup call_tuple_of g1 g2 rfl (R.e G a) hs g4 g3
  split
  · rename_i h
    subst h
    split
    · rename_i ab hz
      obtain ⟨p, q, rfl, h1, h2, q1, q2⟩ := zipOf_ok G hz
      split
      · rename_i hc
        exact s_lzip (G.cl hc).1 g1 g2 q1 q2 (R.e G _) (R.e G _) h1 h2
      · exact s_bad
    · exact s_callT1 cs_lst call_list_of g1 g2 rfl (R.e G a) hs g4 g3
  · exact evB1b_ok R G hb hs
theorem evB2_ok (R : ROk T k cal mak r) (G : Gd T k cal mak c X Wx) (hb : bltB T c x = true) {a b : Expr} (hs : unstar a = true) (hs2 : unstar b = true) : PE X (.Call (.Name x p2) [a, b] [] pos) (rdE (wd X) Wx (evB2 r c x a b)) := by
  obtain ⟨g1, g2, g3, g4⟩ := G.blt hb
  unfold evB2
  split
  · rename_i h; subst h; exact s_callB2 cs_isi call_isi g1 g2 rfl (R.e G a) (R.e G b) hs hs2 g4 g3
  split
  · rename_i hc
    split
    · rename_i h; subst h; exact s_callB2 cs_max2 (call_max2 (G.cl hc).1) g1 g2 rfl (R.e G a) (R.e G b) hs hs2 g4 g3
    split
    · rename_i h; subst h; exact s_callB2 cs_min2 (call_min2 (G.cl hc).1) g1 g2 rfl (R.e G a) (R.e G b) hs hs2 g4 g3
    · exact s_bad
  · exact s_bad
theorem evB_ok (R : ROk T k cal mak r) (G : Gd T k cal mak c X Wx) (hb : bltB T c x = true) {args : List Expr} : PE X (.Call (.Name x p2) args [] pos) (rdE (wd X) Wx (evB T r c x args)) := by
  unfold evB
  split
  · split
    · exact evB1_ok R G hb (by assumption)
    · exact s_bad
  · split
    · split
      · exact evB2_ok R G hb (by assumption) (by assumption)
      · exact s_bad
    · exact s_bad
  · exact s_bad
theorem evF_ok (R : ROk T k cal mak r) (G : Gd T k cal mak c X Wx) {a : Expr} {as : List Expr} (hc : c.cl = true) (hs : (a :: as).all unstar = true) (hg : glB c x = true) : PE X (.Call (.Name x p2) (a :: as) [] pos) (rdE (wd X) Wx (evF T cal mak r c x a as)) := by
  obtain ⟨g1, g2, g3⟩ := G.gl hg
  obtain ⟨c1, c2, c3⟩ := G.cl hc
  unfold evF
  split
  · rename_i n hn
    obtain ⟨f, fd, ps, hm, hk, hb, F⟩ := G.tb.fn x n hn
    exact s_call F c2 g1 hm hk hb c3 (evL_ok R G _) g2 hs
  · split
    · rename_i p hp
      obtain ⟨C, f, fd, ps, hm, hk, F, hb⟩ := G.tb.ck x p hp
      refine s_make g1 ⟨C, f, fd, ps, hm, hk, F, hb⟩ (fun C' e => ?_) c2 c3 (evL_ok R G _) g2 hs
      rw [hm] at e
      cases e
      exact hk.kp
    · exact s_bad
theorem evCN_ok (R : ROk T k cal mak r) (G : Gd T k cal mak c X Wx) {args : List Expr} : PE X (.Call (.Name x p2) args [] pos) (rdE (wd X) Wx (evCN T cal mak r c x args)) := by
  unfold evCN
  split
  · rename_i hg
    split
    · rename_i hb
      exact evB_ok R G (by unfold bltB; rw [hg, hb]; rfl)
    · split
      · exact s_bad
      · split
        · rename_i h
          rw [Bool.and_eq_true] at h
          exact evF_ok R G h.1 h.2 hg
        · exact s_bad
  · exact s_bad
theorem fgetOf_ok {o : Expr} {rows : List Hd.Row} (G : Gd T k cal mak c X Wx) (h : fgetOf T c o = some rows) : ∃ t p d, o = .Name t p ∧ X.mg t = some (.ref d) ∧ Hf.KForm X.prog X.w X.K d rows ∧ (rows.map (·.1)).Nodup ∧ Gl X t ∧ (t == ("__debug__" : Str)) = false := by
  unfold fgetOf at h
  split at h
  · split at h
    · rename_i t p hg
      obtain ⟨g1, g2, _⟩ := G.gl hg
      obtain ⟨d, q1, q2, q3⟩ := G.tb.tq t rows h
      exact ⟨t, p, d, rfl, q1, q2, q3, g1, g2⟩
    · cases h
  · cases h
theorem mtF_ok (G : Gd T k cal mak c X Wx) : ∀ w S n fn, mtF T cal mn w S = some (n, fn) → ∃ i c fs, w = .ref i ∧ insAt S i = some (c, fs) ∧ fs.lookup mn = none ∧ MtOk X (k + 1) c mn n fn := by
  intro w S n fn h
  unfold mtF at h
  split at h
  · rename_i i
    split at h
    · rename_i c fs hi
      split at h
      · cases h
      · rename_i hl
        split at h
        · rename_i l hm
          split at h
          · rename_i p hp
            cases h
            obtain ⟨C, f, fd, ps, q1, q2, q3, q4, q5⟩ := G.tb.mt c l mn p hm hp
            exact ⟨i, c, fs, rfl, hi, hl, ⟨C, f, fd, ps, q1, q2, q3, q4, q5⟩⟩
          · cases h
        · cases h
    · cases h
  · cases h
theorem evOwn_ok (R : ROk T k cal mak r) (G : Gd T k cal mak c X Wx) {o : Expr} {args : List Expr} (hb : plainBase o = true) (hl : (apos.endLine == pos.line) = true) (hs : args.all unstar = true) (h30 : args.length < 30) : PE X (.Call (.Attribute o mn apos) args [] pos) (rdE (wd X) Wx (evOwn T cal r c o mn args)) := by
  unfold evOwn
  split
  · rename_i hc
    obtain ⟨c1, c2, c3⟩ := G.cl hc
    cases args with
    | nil => exact s_meth0 (mtF_ok G) c2 c3 (R.e G o) hb hl
    | cons a as => exact s_meth (mtF_ok G) c2 c3 (R.e G o) (evL_ok R G _) hs h30 hb hl
  · exact s_bad
theorem evM_ok (R : ROk T k cal mak r) (G : Gd T k cal mak c X Wx) {o : Expr} {args : List Expr} (hb : plainBase o = true) (hl : (apos.endLine == pos.line) = true) (hs : args.all unstar = true) (h30 : args.length < 30) : PE X (.Call (.Attribute o mn apos) args [] pos) (rdE (wd X) Wx (evM T cal r c o mn args)) := by
  unfold evM
  split
  · rename_i h
    subst h
    split
    · exact s_bad
    · exact s_bm ms_app PySem.F.slot_list_append rfl mt_append (R.e G o) (evL_ok R G _) hs h30 hb hl
  split
  · rename_i h
    subst h
    split
    · exact s_bad
    · exact s_bm ms_ext PySem.F.slot_list_extend rfl mt_extend (R.e G o) (evL_ok R G _) hs h30 hb hl
  split
  · rename_i h
    subst h
    split
    · exact s_bm0 ms_pop PySem.F.slot_list_pop rfl mt_pop (R.e G o) hb hl
    · exact s_bad
  split
  · rename_i h
    subst h
    have hu := G.hu
    split
    · rename_i a
      have hsa : unstar a = true := by simpa using hs
      split
      · rename_i rows hf
        obtain ⟨t, p, d, rfl, q1, q2, q3, q4, q5⟩ := fgetOf_ok G hf
        exact s_fget (by omega) q2 q3 q1 q4 q5 (R.e G a) hsa hl
      · exact s_get1 (by omega) (R.e G o) (R.e G a) hsa hb hl
    · rename_i a b
      rw [List.all_cons, List.all_cons, Bool.and_eq_true, Bool.and_eq_true] at hs
      exact s_get2 (by omega) (R.e G o) (R.e G a) (R.e G b) hs.1 hs.2.1 hb hl
    · exact s_bad
  split
  · rename_i h
    subst h
    split
    · exact s_bm ms_idx PySem.F.slot_list_index rfl mt_index (R.e G o) (evL_ok R G _) hs h30 hb hl
    · exact s_bad
  · exact evOwn_ok R G hb hl hs h30
theorem evCall_ok (R : ROk T k cal mak r) (G : Gd T k cal mak c X Wx) {f : Expr} {args : List Expr} {kws : List Keyword} : PE X (.Call f args kws pos) (rdE (wd X) Wx (evCall T cal mak r c f args kws pos)) := by
  unfold evCall
  split
  · split
    · exact evCN_ok R G
    · split
      · rename_i h
        rw [Bool.and_eq_true, Bool.and_eq_true, Bool.and_eq_true] at h
        exact evM_ok R G h.1.1.1 h.1.1.2 h.1.2 (of_decide_eq_true h.2)
      · exact s_bad
    · exact s_bad
  · exact s_bad
theorem at_ok2 (G : Gd T k cal mak c X Wx) {f : Str} : AtOk X (atB T f) f := fun c h C e => G.tb.at_ f c h C e
theorem isRev_ok {l h : Option Expr} {s : Expr} (e : isRev l h s = true) : l = none ∧ h = none ∧ ∃ j p1 p2, s = .UnaryOp .USub (.Constant (.int 1) j p1) p2 := by
  unfold isRev at e
  split at e
  · have := eq_of_beq e
    subst this
    exact ⟨rfl, rfl, _, _, _, rfl⟩
  · exact (Bool.false_ne_true e).elim
theorem stpOf_ok {l h : Option Expr} {s : Expr} {n : Nat} (e : stpOf l h s = some n) : ∃ j j2 p1 p2, 1 ≤ n ∧ l = some (.Constant (.int (n : Int)) j p1) ∧ h = none ∧ s = .Constant (.int 2) j2 p2 := by
  unfold stpOf at e
  split at e
  · rename_i c j p1 i j2 p2
    split at e
    · rename_i hc
      rw [Bool.and_eq_true, decide_eq_true_eq] at hc
      have h2 := eq_of_beq hc.2
      subst h2
      cases e
      have : ((c.toNat : Nat) : Int) = c := Int.toNat_of_nonneg (by omega)
      exact ⟨j, j2, p1, p2, by omega, by rw [this], rfl, rfl⟩
    · cases e
  · cases e
theorem evSub_ok (R : ROk T k cal mak r) (G : Gd T k cal mak c X Wx) {o i : Expr} : PE X (.Subscript o i pos) (rdE (wd X) Wx (evSub T r c o i)) := by
  have hu := G.hu
  unfold evSub
  split
  · split
    · exact s_sl (R.e G o) (evO_ok R G _) (evO_ok R G _)
    · split
      · rename_i h
        obtain ⟨rfl, rfl, j, p1, p2, rfl⟩ := isRev_ok h
        exact s_rev (R.e G o)
      · split
        · rename_i n hn
          obtain ⟨j, j2, p1, p2, h1, rfl, rfl, rfl⟩ := stpOf_ok hn
          exact s_step h1 (R.e G o)
        · exact s_bad
  · rename_i hn
    have hp : plainIx i = true := by
      cases i <;> first | rfl | exact (hn _ _ _ _ rfl).elim
    split
    · rename_i es h
      obtain ⟨t, p, rfl, T1, g1, g2⟩ := tabN_ok G h
      exact s_tab T1 g1 g2 (R.e G i) hp
    · exact s_ix (by omega) (R.e G o) (R.e G i) hp
theorem cval_ok {ki : Const} {j : Nat} : PE X (.Constant ki j pos) (rdE (wd X) Wx (evK ki)) := evK_ok
theorem evFm_ok (R : ROk T k cal mak r) (G : Gd T k cal mak c X Wx) : ∀ {es : List Expr} {l : List A}, evFm r c es = some l → PJ X es (l.map fun a => rdE (wd X) Wx a)
  | [], l, h => by
    cases h
    exact .nil
  | e :: es, l, h => by
    unfold evFm at h
    split at h
    · cases e2 : evFm r c es with
      | none => rw [e2] at h; cases h
      | some l2 => rw [e2] at h; cases h; exact .cons evK_ok (evFm_ok R G e2)
    · split at h
      · rename_i hi
        subst hi
        cases e2 : evFm r c es with
        | none => rw [e2] at h; cases h
        | some l2 => rw [e2] at h; cases h; exact .cons (s_fmt (R.e G _)) (evFm_ok R G e2)
      · cases h
    · cases h
theorem evJ_ok (R : ROk T k cal mak r) (G : Gd T k cal mak c X Wx) {vs : List Expr} : PE X (.JoinedStr vs pos) (rdE (wd X) Wx (evJ r c vs)) := by
  unfold evJ
  split
  · split
    · rename_i l h
      exact s_join (evFm_ok R G h)
    · exact s_bad
  · exact s_bad
theorem evDs_ok (R : ROk T k cal mak r) (G : Gd T k cal mak c X Wx) : ∀ {ks : List (Option Expr)} {vs : List Expr} {l : List (Str × A)}, evDs r c ks vs = some l → DspOk X Wx ks vs l
  | [], [], l, h => by
    cases h
    exact .nil
  | some k :: ks, v :: vs, l, h => by
    unfold evDs at h
    split at h
    · cases e : evDs r c ks vs with
      | none => rw [e] at h; cases h
      | some l2 => rw [e] at h; cases h; exact .cons (R.e G v) (evDs_ok R G e)
    · cases h
  | none :: _, _ :: _, l, h => by cases h
  | none :: _, [], l, h => by cases h
  | some _ :: _, [], l, h => by cases h
  | [], _ :: _, l, h => by cases h
theorem evDi_ok (R : ROk T k cal mak r) (G : Gd T k cal mak c X Wx) {ks : List (Option Expr)} {vs : List Expr} : PE X (.Dict ks vs pos) (rdE (wd X) Wx (evDi r c ks vs)) := by
  unfold evDi
  split
  · rename_i q l h
    split
    · rename_i h15
      exact s_dsp (evDs_ok R G h) (fun e => nomatch e) h15
    · exact s_bad
  · exact s_bad
theorem stepE_ok (R : ROk T k cal mak r) (G : Gd T k cal mak c X Wx) (e : Expr) : PE X e (rdE (wd X) Wx (stepE T cal mak r c e)) := by
  unfold stepE
  split
  · exact evK_ok
  · exact evN_ok G
  · exact s_tup (evL_ok R G _)
  · exact s_lst (evL_ok R G _)
  · split
    · rename_i f hf
      obtain ⟨q, h1, h2⟩ := bin_ok (X := X) (Wx := Wx) hf
      exact s_bin h1 h2 (R.e G _) (R.e G _)
    · exact s_bad
  · split
    · exact s_notV (R.e G _)
    · exact s_neg (R.e G _)
    · exact s_bad
  · exact evBo_ok R G _
  · exact (evCm_ok R G).1
  · exact s_if (R.t G _) (R.e G _) (R.e G _)
  · exact evCall_ok R G
  · split
    · exact s_fld (R.e G _) (by assumption) (at_ok2 G)
    · exact s_bad
  · exact evSub_ok R G
  · split
    · rename_i l hl
      exact s_newL (lcOf_ok R G hl).1
    · exact s_bad
  · split
    · rename_i h
      subst h
      exact evD_ok R G
    · exact s_bad
  · exact evJ_ok R G
  · exact evDi_ok R G
  · exact s_bad
theorem stepT_ok (R : ROk T k cal mak r) (G : Gd T k cal mak c X Wx) (e : Expr) : PT X e (rdT (wd X) Wx (stepT T cal mak r c e)) := by
  unfold stepT
  split
  · split
    · exact s_not (R.t G _)
    · exact s_badT
  · exact (tvBo_ok R G _).pt
  · exact (evCm_ok R G).2
  · split
    · rename_i h
      refine s_truth (stepE_ok R G e) fun whole => ?_
      cases e <;> first | rfl | exact (Bool.false_ne_true h).elim
    · exact s_badT
theorem gs_ok (R : ROk T k cal mak r) (G : Gd T k cal mak c X Wx) {Fr : Fram} (hf : FrOk c.own Fr) : ∀ {es : List Expr}, es.all unstar = true → PGs X es (rdGs (wd X) Wx Fr (es.map (r.g c)))
  | [], _ => s_gnil
  | e :: es, h => by
    rw [List.all_cons, Bool.and_eq_true] at h
    exact s_gcons (R.g G hf e) (gs_ok R G hf h.2) h.1
theorem stepG_ok (R : ROk T k cal mak r) (G : Gd T k cal mak c X Wx) {Fr : Fram} (hf : FrOk c.own Fr) (e : Expr) : PG X e (rdG (wd X) Wx Fr (stepG r c e)) := by
  have hu := G.hu
  unfold stepG
  split
  · split
    · rename_i i h
      obtain ⟨h1, h2, h3, h4⟩ := G.stor h
      exact s_gname2 G.nd h1 h2 h3 (hf i h4)
    · exact s_badG
  · split
    · rename_i h
      rw [Bool.and_eq_true] at h
      exact s_gtup (G.cl h.1).1 (gs_ok R G hf h.2) h.2 (by rw [List.length_map])
    · exact s_badG
  · split
    · exact s_gsub (by omega) (by assumption) (R.e G _) (R.e G _)
    · exact s_badG
  · exact s_badG
theorem evR_ok : ∀ n : Nat, ROk T k cal mak (evR T cal mak n)
  | 0 => { e := fun _ _ => s_bad, t := fun _ _ => s_badT, g := fun _ _ _ _ => s_badG }
  | n + 1 => { e := fun G e => stepE_ok (evR_ok n) G e, t := fun G e => stepT_ok (evR_ok n) G e, g := fun G _ hf e => stepG_ok (evR_ok n) G hf e }
end
end Ev

/-! ## The evaluator is sound: statements, defs -/
namespace Ev
open PySem L2 PyProof.Rows
structure Gs (T : Tb) (k : Nat) (cal mak : Str → Fn) (c : Sx) (X : Cx) (Wx : WX) : Prop extends Gd T k cal mak c X Wx where
  st : X.stack = X.env :: X.outer
  fr : X.env.frame = some X.env.locals
  tk : Takes X Wx
  hp : PassesOwn (model X.prog X.w) X.A X.env X.xe
def SOk (T : Tb) (k : Nat) (cal mak : Str → Fn) (rs : Sx → List Stmt → B) : Prop := ∀ {c X Wx}, Gs T k cal mak c X Wx → ∀ l, PSs X l (rdB (wd X) Wx (rs c l))
section
variable {T : Tb} {k : Nat} {cal mak : Str → Fn} {c : Sx} {X : Cx} {Wx : WX} {r : EvR} {rs : Sx → List Stmt → B} {x t mn : Str} {pos p2 apos : Pos}
theorem evLc_ok (R : ROk T k cal mak r) (G : Gs T k cal mak c X Wx) {elt tg iter : Expr} {ifs : List Expr} {as : Int} {scope : Scope} {np ep : Pos} : PS X (.Assign [.Name x np] (.ListComp elt [⟨tg, iter, ifs, as⟩] scope ep) pos) (rdB (wd X) Wx (evLc T r c x np elt tg iter ifs as scope ep)) := by
  unfold evLc
  split
  · rename_i has
    subst has
    split
    · rename_i h
      rw [Bool.and_eq_true] at h
      split
      · rename_i i hi
        obtain ⟨h1, h2, h3⟩ := cmpB_ok G.toGd h.2
        obtain ⟨l1, l2, _⟩ := G.loc hi
        unfold evC
        rw [if_pos h.2]
        refine s_setLc h1 G.nd l1 l2 ?_ h2 (evI_ok R G.toGd) (fun s H C cl fp => R.g (G.blk s H C cl fp) frOk_own tg) (fun s H C cl fp => evTs_ok R (G.blk s H C cl fp)) (fun s H C cl fp => R.e (G.blk s H C cl fp) elt) (noSet_ok h3)
        have e : swapsWith (.ListComp elt [⟨tg, iter, ifs, 0⟩] scope ep) (some (.Name x np)) pos.line X.env = pure (swB X.env.scope x scope np.line ep.line) := rfl
        rw [e, G.sc, h.1]
      · exact s_badS
    · split
      · exact s_badS
      · rename_i hsw
        refine s_asg (s_newL ?_) (R.g G.toGd frOk_any _) ?_ rfl rfl
        · exact (lcOf_ok R G.toGd (l := evC T r c elt tg iter ifs scope) rfl).1
        · have e : swapsWithSole [.Name x np] (.ListComp elt [⟨tg, iter, ifs, 0⟩] scope ep) pos.line X.env = pure (swB X.env.scope x scope np.line ep.line) := rfl
          rw [e, G.sc, hsw]
  · exact s_badS
def stB : Expr → Bool
  | .Starred _ _ => true
  | _ => false
def nmF (env : Env) (l : Nat) : Expr → Option Str
  | .Name id p => if (env.kindOf id == some NameKind.local && p.line == l) = true then some id else none
  | _ => none
theorem swapped_eq {y : Str} {px py pt pt2 : Pos} {kt k2 : Nat} {e1 e2 : Expr} {env : Env} : ∃ z, swappedStores [.Tuple [.Name x px, .Name y py] kt pt] (.Tuple [e1, e2] k2 pt2) env = (if (!((2 : Nat) == 2 || (2 : Nat) == 3) || (2 : Nat) != 2 || env.blockKind != .function) = true then pure none
    else if ([e1, e2].any stB) = true then pure none
    else if ((List.filterMap (nmF env px.line) [.Name x px, .Name y py]).length != 2 || (List.filterMap (nmF env px.line) [.Name x px, .Name y py]).eraseDups.length != (List.filterMap (nmF env px.line) [.Name x px, .Name y py]).length) = true then pure none
    else if [e1, e2].all (foldedForSure 8) = true then pure none
    else if [e1, e2].all (constantsAlone 8) = true then z else pure (some (List.filterMap (nmF env px.line) [.Name x px, .Name y py]))) := ⟨_, rfl⟩
theorem stB_ok {e : Expr} (h : unstar e = true) : stB e = false := by cases e <;> first | rfl | exact (Bool.false_ne_true h).elim
theorem swapped_ok {y : Str} {px py pt pt2 : Pos} {kt k2 : Nat} {e1 e2 : Expr} {env : Env} (h : parB env.scope x y px py e1 e2 = true) : swappedStores [.Tuple [.Name x px, .Name y py] kt pt] (.Tuple [e1, e2] k2 pt2) env = pure (some [x, y]) := by
  unfold parB at h
  simp only [Bool.and_eq_true] at h
  obtain ⟨⟨⟨⟨⟨⟨⟨⟨h1, h2⟩, h3⟩, h4⟩, h5⟩, h6⟩, h7⟩, h8⟩, h9⟩ := h
  have b1 : env.blockKind = .function := by
    have : bkS env.scope = .function := by
      revert h1
      cases bkS env.scope <;> decide
    exact this
  have b8 : (env.kindOf x == some NameKind.local) = true := h8
  have b9 : (env.kindOf y == some NameKind.local) = true := h9
  have h6 : (foldedForSure 8 e1 && foldedForSure 8 e2) = false := Bool.not_eq_true' _ |>.mp h6
  have h7 : (constantsAlone 8 e1 && constantsAlone 8 e2) = false := Bool.not_eq_true' _ |>.mp h7
  have h5 : (x == y) = false := by simpa using h5
  have h5' : (y == x) = false := by rw [beq_eq_false_iff_ne] at h5 ⊢; exact fun z => h5 z.symm
  have nm : List.filterMap (nmF env px.line) [.Name x px, .Name y py] = [x, y] := by
    simp only [List.filterMap_cons, nmF, b8, b9, h4, beq_self_eq_true, Bool.true_and, if_true, List.filterMap_nil]
  have ed : [x, y].eraseDups = [x, y] := by
    simp [List.eraseDups_cons, h5']
  obtain ⟨z, key⟩ := swapped_eq (x := x) (y := y) (px := px) (py := py) (pt := pt) (pt2 := pt2) (kt := kt) (k2 := k2) (e1 := e1) (e2 := e2) (env := env)
  rw [key, b1, nm, ed]
  rw [if_neg (by decide), if_neg (by rw [List.any_cons, List.any_cons, List.any_nil, stB_ok h2, stB_ok h3]; decide), if_neg (by simp)]
  rw [if_neg (by rw [List.all_cons, List.all_cons, List.all_nil, Bool.and_true, h6]; exact Bool.false_ne_true), if_neg (by rw [List.all_cons, List.all_cons, List.all_nil, Bool.and_true, h7]; exact Bool.false_ne_true)]
theorem parI_ok (R : ROk T k cal mak r) (G : Gs T k cal mak c X Wx) {ts vs : List Expr} {kt k2 : Nat} {pt pt2 : Pos} {p : Nat × Nat} (h : parI c ts vs = some p) : PS X (.Assign [.Tuple ts kt pt] (.Tuple vs k2 pt2) pos) (rdB (wd X) Wx (bAsg (aTup (evL r c vs)) (gTu [gNm p.1, gNm p.2]))) := by
  unfold parI at h
  split at h
  · rename_i x px y py e1 e2
    split at h
    · rename_i hc
      rw [Bool.and_eq_true] at hc
      split at h
      · rename_i i j hi hj
        split at h
        · cases h
        · rename_i hij
          cases h
          obtain ⟨l1, l2, _⟩ := G.loc hi
          obtain ⟨l3, l4, _⟩ := G.loc hj
          exact s_par (G.cl hc.1).1 G.nd l1 l3 hij l2 l4 (evL_ok R G.toGd _) (swapped_ok (by rw [G.sc]; exact hc.2))
      · cases h
    · cases h
  · cases h
theorem evAs_ok (R : ROk T k cal mak r) (G : Gs T k cal mak c X Wx) {tg e : Expr} : PS X (.Assign [tg] e pos) (rdB (wd X) Wx (evAs T r c tg e)) := by
  unfold evAs
  split
  · exact s_fldS2 (R.e G.toGd _) (R.e G.toGd _) (at_ok2 G.toGd)
  · split
    · exact evLc_ok R G
    · split
      · rename_i hn
        exact s_asg (R.e G.toGd _) (R.g G.toGd frOk_any _) (by cases e <;> first | rfl | exact (Bool.false_ne_true hn).elim) rfl rfl
      · exact s_badS
  · split
    · split
      · rename_i p h
        exact parI_ok R G h
      · exact s_badS
    · rename_i hn
      refine s_asg (R.e G.toGd _) (R.g G.toGd frOk_any _) (by cases e <;> rfl) ?_ rfl
      cases e <;> first | rfl | exact (hn _ _ _ rfl).elim
  · exact s_asg (R.e G.toGd _) (R.g G.toGd frOk_any _) (by cases e <;> rfl) rfl rfl
  · exact s_badS
theorem aug_ok {op : Operator} {f : W → W → M W} (h : augF op = some f) : ∃ r, PIp X op r ∧ OpS X Wx f r := by
  cases op <;> first | (cases h; done) | skip
  · cases h; exact ⟨_, ip_augA, os_augA⟩
  · cases h; exact ⟨_, ip_sub, os_augS⟩
theorem evAu_ok (R : ROk T k cal mak r) (G : Gs T k cal mak c X Wx) {tg e : Expr} {op : Operator} : PS X (.AugAssign tg op e pos) (rdB (wd X) Wx (evAu T r c tg op e)) := by
  unfold evAu
  split
  · exact s_badS
  · rename_i f hf
    obtain ⟨q, h1, h2⟩ := aug_ok (X := X) (Wx := Wx) hf
    split
    · split
      · rename_i i hi
        obtain ⟨l1, l2, l3, _⟩ := G.stor hi
        exact s_aug G.nd l1 l2 l3 (R.e G.toGd _) h1 h2
      · exact s_badS
    · exact s_faug (R.e G.toGd _) (R.e G.toGd _) h1 h2 (at_ok2 G.toGd)
    · exact s_badS
theorem evRa_ok (R : ROk T k cal mak r) (G : Gs T k cal mak c X Wx) {o : Option Expr} : PS X (.Raise o none pos) (rdB (wd X) Wx (evRa T r c o)) := by
  unfold evRa
  split
  · split
    · rename_i hc
      rw [Bool.and_eq_true, Bool.and_eq_true] at hc
      split
      · rename_i p hp
        obtain ⟨c1, c2, c3⟩ := G.cl hc.1.1
        obtain ⟨okV, M, hok⟩ := G.tb.exn _ p hp X rfl rfl rfl rfl c2 c1
        exact s_raise c1 G.tk M hok (G.gl hc.2).1 (evL_ok R G.toGd _) hc.1.2
      · exact s_badS
    · exact s_badS
  · exact s_badS
theorem evTr_ok (B1 : SOk T k cal mak rs) (G : Gs T k cal mak c X Wx) {body : List Stmt} {hs : List ExceptHandler} : PS X (.Try body hs [] [] pos) (rdB (wd X) Wx (evTr T rs c body hs)) := by
  unfold evTr
  split
  · split
    · rename_i hg
      split
      · rename_i l hl
        obtain ⟨cv, h1, h2⟩ := G.tb.sub _ l hl
        obtain ⟨g1, g2, _⟩ := G.gl hg
        refine s_tryO G.st G.fr ⟨g1, g2, .inl h1⟩ G.tk (fun W pn xe tk hp => B1 (c := c) (X := X.tr pn xe) (Wx := W) ⟨⟨G.N, G.nd, G.sc, G.hu, fun h => ⟨(G.cl h).1, (G.cl h).2.1, px_takes tk⟩, G.fn, G.tb, G.rp⟩, G.st, G.fr, tk, hp⟩ body) (fun a oe pn => ?_) h2
        exact B1 (c := { c with cl := false, gd := false }) (X := X.suite a ((a, oe) :: pn)) (Wx := Wx0) ⟨⟨G.N, G.nd, G.sc, G.hu, fun h => (Bool.false_ne_true h).elim, G.fn, G.tb, fun h => (Bool.false_ne_true h).elim⟩, G.st, G.fr, takes0, PassesOwn.never⟩ _
      · exact s_badS
    · exact s_badS
  · exact s_badS
theorem evDe_ok (R : ROk T k cal mak r) (G : Gs T k cal mak c X Wx) {ts : List Expr} : PS X (.Delete ts pos) (rdB (wd X) Wx (evDe r c ts)) := by
  unfold evDe
  split
  · exact s_del (R.e G.toGd _) (R.e G.toGd _)
  · exact s_badS
theorem stepS_ok (R : ROk T k cal mak r) (B1 : SOk T k cal mak rs) (G : Gs T k cal mak c X Wx) (st : Stmt) : PS X st (rdB (wd X) Wx (stepS T r rs c st)) := by
  unfold stepS
  split
  · exact s_pass
  · exact s_cont
  · exact s_break
  · split
    · exact s_retN
    · exact s_ret (R.e G.toGd _)
  · split
    · exact s_expr (R.e G.toGd _) (by assumption)
    · exact s_badS
  · split
    · exact evAs_ok R G
    · exact s_badS
  · exact evAu_ok R G
  · exact s_ifS (R.t G.toGd _) (B1 G _) (B1 G _)
  · split
    · split
      · rename_i h
        rw [Bool.and_eq_true] at h
        exact s_for G.hp (G.cl h.1).1 (evI_ok R G.toGd) (R.g G.toGd frOk_any _) (B1 G _) h.2
      · exact s_badS
    · exact s_badS
  · split
    · exact s_while G.hp (R.t G.toGd _) (B1 G _)
    · exact s_badS
  · exact evDe_ok R G
  · split
    · exact evRa_ok R G
    · exact s_badS
  · split
    · exact evTr_ok B1 G
    · exact s_badS
  · exact s_badS
theorem evBl_ok (R : ROk T k cal mak r) (B1 : SOk T k cal mak rs) (G : Gs T k cal mak c X Wx) : ∀ l : List Stmt, PSs X l (rdB (wd X) Wx (evBl T r rs c l))
  | [] => s_next
  | st :: sts => s_seq (stepS_ok R B1 G st) (evBl_ok R B1 G sts)
theorem evSs_ok (R : ROk T k cal mak r) : ∀ n : Nat, SOk T k cal mak (evSs T r n)
  | 0 => fun _ _ => s_badSs
  | n + 1 => fun G l => evBl_ok R (evSs_ok R n) G l
end
/-! ### defs -/
def scB (d : Fd) : Bool := (match d.sc.kind with | .function => true | _ => false) && !d.sc.isCoroutine && !d.sc.isGenerator && decide d.N.Nodup && decide (d.N.take d.ps.length = d.ps) && decide (d.ps.length ≤ d.N.length) &&
  d.ps.all (fun x => match d.sc.names.lookup x with | some .local => true | some .cell => true | _ => false) && d.sc.names.all (fun y => match y.2 with | .free => false | _ => true)
theorem scB_ok {d : Fd} (h : scB d = true) : FnScope d.N d.ps d.sc ∧ d.ps.length ≤ d.N.length := by
  unfold scB at h
  simp only [Bool.and_eq_true, decide_eq_true_eq, Bool.not_eq_true'] at h
  obtain ⟨⟨⟨⟨⟨⟨⟨h1, h2⟩, h3⟩, h4⟩, h5⟩, h6⟩, h7⟩, h8⟩ := h
  refine ⟨⟨?_, h2, h3, h4, h5, fun x hx => ?_, fun y hy => ?_⟩, h6⟩
  · split at h1
    · assumption
    · exact (Bool.false_ne_true h1).elim
  · have := List.all_eq_true.mp h7 x hx
    split at this
    · exact .inl (by assumption)
    · exact .inr (by assumption)
    · exact (Bool.false_ne_true this).elim
  · have := List.all_eq_true.mp h8 y hy
    intro e
    rw [e] at this
    exact Bool.false_ne_true this
/-- a def of the table stands at f -/
structure DefAt (K : PySem.W.Frag) (d : Fd) (f : Addr) (fd : FuncData) : Prop where
  ex : ∃ x qual st, Fun K x qual st f fd ∧ defBody st = d.body ∧ defScope st = d.sc
  bi : L2.Binds K fd d.ps []
  sc : scB d = true
/-- the facts of a text's top -/
structure TbF (T : Tb) (P : Program) (w : World) (K : PySem.W.Frag) (mg : Str → Option Value) : Prop where
  fn : ∀ x n, T.fn.lookup x = some n → ∃ d f fd, T.df.lookup x = some d ∧ d.ps.length = n ∧ DefAt K d f fd ∧ mg x = some (.ref f)
  mt : ∀ c l mn p, T.mt.lookup c = some l → l.lookup mn = some p → ∃ d C f fd, T.df.lookup p.2 = some d ∧ d.ps.length = p.1 ∧ DefAt K d f fd ∧ mg c = some (.ref C) ∧ Cls K C ∧ Meth K C mn f
  ck : ∀ c p, T.ck.lookup c = some p → ∃ d C f fd, T.df.lookup p.2 = some d ∧ d.ps.length = p.1 ∧ DefAt K d f fd ∧ mg c = some (.ref C) ∧ Mk K C f
  at_ : ∀ f c, atB T f c = true → ∀ C, mg c = some (.ref C) → Cls K C ∧ NoAttr K C f
  con : ∀ x wv, T.con.lookup x = some wv → ∃ v u, mg x = some u ∧ RelV v u ∧ ∀ m H, Va ⟨K, mg⟩ m H wv v
  blt : ∀ x, T.blt.contains x = true → mg x = none
  exn : ∀ c p, T.exn.lookup c = some p → ∀ X : Cx, X.prog = P → X.w = w → X.K = K → X.mg = mg → Room 2 X.A → X.calm = true → ∃ okV, MkX X c p.1 okV ∧ ∀ m H ws vs, VaL (wd X) m H ws vs → p.2 ws = true → okV vs H
  sub : ∀ x l, T.sub.lookup x = some l → ∃ cv, mg x = some cv ∧ ∀ c C b, mg c = some (.ref C) → l.lookup c = some b → PySem.W.exmOne K (.ref C) cv = some b
  tab : ∀ t es, T.tab.lookup t = some es → TabOk w K mg t es
  tq : ∀ t rows, T.tq.lookup t = some rows → ∃ d, mg t = some (.ref d) ∧ Hf.KForm P w K d rows ∧ (rows.map (·.1)).Nodup
section
variable {T : Tb} {P : Program} {w : World} {K : PySem.W.Frag} {mg : Str → Option Value} {base : Heap} {k : Nat}
theorem bad_fn {f : Addr} {fd : FuncData} {ps : List Str} {n : Nat} : FnOk P w K mg base (L2.CX P w) k f fd ps (spI ⟨K, mg⟩ n (fun _ => fail)) := ⟨fun _ _ _ _ ⟨_, _, _, _, _, _, h⟩ => h.elim, fun _ _ _ _ _ _ _ _ _ _ _ _ _ ⟨_, _, _, _, _, _, h⟩ => h.elim⟩
theorem room2 {A : Around} (h : Room (k + 2) A) : Room 2 A := ⟨h.hd, by have := h.dp; omega, by have := h.un; omega⟩
theorem step_ok {cal mak : Str → Fn} {x : Str} {d : Fd} {f : Addr} {fd : FuncData} (O : TbOk T k cal mak P w K mg base) (D : DefAt K d f fd) : FnOk P w K mg base (L2.CX P w) (k + 2) f fd d.ps (spI ⟨K, mg⟩ d.ps.length (fnE d.N (fdB T cal mak d))) := by
  obtain ⟨nm, qual, st, F, e1, e2⟩ := D.ex
  obtain ⟨sc, hl⟩ := scB_ok D.sc
  rw [← e2] at sc
  refine ok_fn F sc hl fun cdv A outer s H E hr => ?_
  rw [e1]
  refine evSs_ok (evR_ok 40) 20 (T := T) (k := k) (cal := cal) (mak := mak) (c := ⟨d.N, d.sc, true, none, none, false⟩) ⟨⟨rfl, sc.nd, e2, ?_, fun _ => ⟨rfl, hr, px_takes (takes_of rfl rfl rfl rfl)⟩, fun _ _ => rfl, O, fun h => (Bool.false_ne_true h).elim⟩, rfl, rfl, takes_of rfl rfl rfl rfl, passes_of rfl⟩ d.body
  have := hr.un
  show (A.deeper _).units + 65 < cLine
  omega
theorem lvl (F : TbF T P w K mg) : ∀ (k : Nat) {x : Str} {d : Fd} {f : Addr} {fd : FuncData}, T.df.lookup x = some d → DefAt K d f fd → FnOk P w K mg base (L2.CX P w) (k + 1) f fd d.ps (spI ⟨K, mg⟩ d.ps.length (callI T k x))
  | 0, _, _, _, _, _, _ => bad_fn
  | 1, _, _, _, _, _, _ => bad_fn
  | k + 2, x, d, f, fd, hx, D => by
    have O : TbOk T (k + 1) (callI T (k + 1)) (callI T k) P w K mg base := {
      fn := fun x n h => by
        obtain ⟨d, f, fd, h1, rfl, D, h3⟩ := F.fn x n h
        obtain ⟨_, _, _, F1, _⟩ := D.ex
        exact ⟨f, fd, d.ps, h3, F1.kp, D.bi, lvl F (k + 1) h1 D⟩
      mt := fun c l mn p h1 h2 => by
        obtain ⟨d, C, f, fd, q1, q2, D, q3, q4, q5⟩ := F.mt c l mn p h1 h2
        rw [← q2]
        exact ⟨C, f, fd, d.ps, q3, q4, q5, lvl F (k + 1) q1 D, D.bi⟩
      ck := fun c p h => by
        obtain ⟨d, C, f, fd, q1, q2, D, q3, q4⟩ := F.ck c p h
        rw [← q2]
        exact ⟨C, f, fd, d.ps, q3, q4, lvl F k q1 D, D.bi⟩
      at_ := F.at_
      con := F.con
      blt := F.blt
      exn := fun c p h X h1 h2 h3 h4 h5 h6 => F.exn c p h X h1 h2 h3 h4 (room2 h5) h6
      sub := F.sub
      tab := F.tab
      tq := F.tq }
    have e : callI T (k + 2) x = fnE d.N (fdB T (callI T (k + 1)) (callI T k) d) := by
      simp only [callI, hx]
    rw [e]
    exact step_ok (x := x) O D
theorem tbOk (F : TbF T P w K mg) (k : Nat) : TbOk T (k + 1) (callI T (k + 1)) (callI T k) P w K mg base := {
    fn := fun x n h => by
      obtain ⟨d, f, fd, h1, rfl, D, h3⟩ := F.fn x n h
      obtain ⟨_, _, _, F1, _⟩ := D.ex
      exact ⟨f, fd, d.ps, h3, F1.kp, D.bi, lvl F (k + 1) h1 D⟩
    mt := fun c l mn p h1 h2 => by
      obtain ⟨d, C, f, fd, q1, q2, D, q3, q4, q5⟩ := F.mt c l mn p h1 h2
      rw [← q2]
      exact ⟨C, f, fd, d.ps, q3, q4, q5, lvl F (k + 1) q1 D, D.bi⟩
    ck := fun c p h => by
      obtain ⟨d, C, f, fd, q1, q2, D, q3, q4⟩ := F.ck c p h
      rw [← q2]
      exact ⟨C, f, fd, d.ps, q3, q4, lvl F k q1 D, D.bi⟩
    at_ := F.at_
    con := F.con
    blt := F.blt
    exn := fun c p h X h1 h2 h3 h4 h5 h6 => F.exn c p h X h1 h2 h3 h4 (room2 h5) h6
    sub := F.sub
    tab := F.tab
    tq := F.tq }
/-- the law's def -/
theorem law_ok (F : TbF T P w K mg) (k : Nat) {x : Str} {d : Fd} {f : Addr} {fd : FuncData} (hx : T.df.lookup x = some d) (D : DefAt K d f fd) : _root_.Gd.GFn P w K mg base (L2.CX P w) (k + 3) f fd d.ps (spI ⟨K, mg⟩ d.ps.length (lawE T k x)) := by
  obtain ⟨nm, qual, st, F1, e1, e2⟩ := D.ex
  obtain ⟨sc, hl⟩ := scB_ok D.sc
  rw [← e2] at sc
  have e : lawE T k x = fnE d.N (evSs T (evR T (callI T (k + 1)) (callI T k) 40) 20 ⟨d.N, d.sc, true, none, none, true⟩ d.body) := by
    simp only [lawE, hx]
  rw [e]
  refine _root_.Gd.gfn_of F1 sc (fun vs H Q E h => ?_) (fun cdv A outer s H vs Q E hg hr h => ?_)
  · obtain ⟨m, ws, S, _, l, hn, _⟩ := h
    rw [l.len, hn]
  · refine ⟨rdB ⟨K, mg⟩ (fun cls d _ H => E cls d H) (evSs T (evR T (callI T (k + 1)) (callI T k) 40) 20 ⟨d.N, d.sc, true, none, none, true⟩ d.body), ?_, ?_⟩
    · rw [e1]
      refine evSs_ok (evR_ok 40) 20 (T := T) (k := k + 1) (cal := callI T (k + 1)) (mak := callI T k) (c := ⟨d.N, d.sc, true, none, none, true⟩) ⟨⟨rfl, sc.nd, e2, ?_, fun _ => ⟨rfl, hr, px_takes (takes_of rfl rfl rfl rfl)⟩, fun _ _ => rfl, tbOk F k, fun _ => ⟨hg, ?_⟩⟩, rfl, rfl, takes_of rfl rfl rfl rfl, passes_of rfl⟩ d.body
      · have := hr.un
        show (A.deeper _).units + 65 < cLine
        omega
      · have := hr.un
        show (A.deeper _).units + 200 < cLine
        omega
    · obtain ⟨m, ws, S, r, l, hn, o⟩ := h
      refine ⟨m, startR d.N ws, S, sr_start r l (by rw [hn]; exact hl), ?_⟩
      unfold fnE at o
      generalize hb : evSs T (evR T (callI T (k + 1)) (callI T k) 40) 20 ⟨d.N, d.sc, true, none, none, true⟩ d.body (startR d.N ws) S = bb at o ⊢
      cases bb with
      | no => exact o
      | er y ρ' T => exact fun m' σ' H' cls od e1 s1 xa => o m' H' cls od e1 s1.rel xa
      | ok fl ρ' T =>
        cases fl with
        | nx => exact fun m' σ' H' e1 s1 => o m' .non H' e1 s1.rel rfl
        | rt u => exact fun m' σ' H' e1 s1 v hv => o m' v H' e1 s1.rel hv
        | bk => exact False.elim o
        | ct => exact False.elim o
end
end Ev

/-! ## What an action leads to -/
namespace Ev
open PySem
def Wp {α : Type} (r : Res α) (P : α → Sto → Prop) (E : Xn → Sto → Prop) : Prop := match r with | .ok a S => P a S | .er x S => E x S | .no => False
def WpS {α : Type} (r : RS α) (P : α → Rho → Sto → Prop) (E : Xn → Rho → Sto → Prop) : Prop := match r with | .ok a ρ S => P a ρ S | .er x ρ S => E x ρ S | .no => False
section
variable {α β : Type} {P : α → Sto → Prop} {Q : β → Sto → Prop} {R R' : W → Sto → Prop} {E E' : Xn → Sto → Prop} {ρ : Rho} {S : Sto}
theorem Wp.imp {r : Res α} {P' : α → Sto → Prop} (h : Wp r P E) (hp : ∀ a T, P a T → P' a T) (he : ∀ x T, E x T → E' x T) : Wp r P' E' := by
  cases r with
  | ok a T => exact hp a T h
  | er x T => exact he x T h
  | no => exact h
theorem Wp.imp' {r : Res α} {P' : α → Sto → Prop} (h : Wp r P E) (hp : ∀ a T, P a T → P' a T) : Wp r P' E := h.imp hp fun _ _ h => h
theorem WpS.imp {r : RS α} {P P' : α → Rho → Sto → Prop} {E E' : Xn → Rho → Sto → Prop} (h : WpS r P E) (hp : ∀ a ρ T, P a ρ T → P' a ρ T) (he : ∀ x ρ T, E x ρ T → E' x ρ T) : WpS r P' E' := by
  cases r with
  | ok a ρ T => exact hp a ρ T h
  | er x ρ T => exact he x ρ T h
  | no => exact h
@[simp] theorem wp_ok {a : α} : Wp (.ok a S) P E = P a S := rfl
@[simp] theorem wp_er {x : Xn} : Wp (.er x S) P E = E x S := rfl
@[simp] theorem wp_no : Wp (.no) P E = False := rfl
@[simp] theorem wp_ret {a : α} : Wp (ret a S) P E = P a S := rfl
@[simp] theorem wp_fail : Wp (fail S) P E = False := rfl
@[simp] theorem wp_bd {a : M α} {f : α → M β} : Wp (bd a f S) Q E = Wp (a S) (fun x T => Wp (f x T) Q E) E := by
  unfold bd
  cases a S <;> rfl
@[simp] theorem wp_opt {o : Option α} : Wp (opt o S) P E = ∃ a, o = some a ∧ P a S := by
  cases o with
  | none => simp [opt]
  | some a => simp [opt]
@[simp] theorem wp_guard {b : Bool} {a : M α} : Wp (guard b a S) P E = (b = true ∧ Wp (a S) P E) := by
  cases b <;> simp [guard]
@[simp] theorem wp_new {o : SO} : Wp (new o S) R E = R (.ref S.length) (S ++ [o]) := rfl
@[simp] theorem wp_aC {w : W} : Wp (aC w ρ S) R E = R w S := rfl
@[simp] theorem wp_aVar {i : Nat} : Wp (aVar i ρ S) R E = ∃ w, ρ[i]? = some (some w) ∧ R w S := by
  unfold aVar
  cases e : ρ[i]? with
  | none => simp
  | some z => cases z <;> simp
@[simp] theorem wp_aNil {P : List W → Sto → Prop} : Wp (aNil ρ S) P E = P [] S := rfl
@[simp] theorem wp_aCons {a : A} {l : AL} {P : List W → Sto → Prop} : Wp (aCons a l ρ S) P E = Wp (a ρ S) (fun w T => Wp (l ρ T) (fun ws U => P (w :: ws) U) E) E := by
  unfold aCons
  simp
@[simp] theorem wp_aTup {l : AL} : Wp (aTup l ρ S) R E = Wp (l ρ S) (fun ws T => short ws.length = true ∧ R (.tup ws) T) E := by
  unfold aTup
  simp
@[simp] theorem wp_aLst {l : AL} : Wp (aLst l ρ S) R E = Wp (l ρ S) (fun ws T => short ws.length = true ∧ R (.ref T.length) (T ++ [.lst ws])) E := by
  unfold aLst
  simp
@[simp] theorem wp_newL {l : AL} : Wp (newL l ρ S) R E = Wp (l ρ S) (fun ws T => R (.ref T.length) (T ++ [.lst ws])) E := by
  unfold newL
  simp
@[simp] theorem wp_aOp {f : W → W → M W} {a b : A} : Wp (aOp f a b ρ S) R E = Wp (a ρ S) (fun x T => Wp (b ρ T) (fun y U => Wp (f x y U) R E) E) E := by
  unfold aOp
  simp
@[simp] theorem wp_aUn {f : W → M W} {a : A} : Wp (aUn f a ρ S) R E = Wp (a ρ S) (fun x T => Wp (f x T) R E) E := by
  unfold aUn
  simp
@[simp] theorem wp_aIf {t : AT} {a b : A} : Wp (aIf t a b ρ S) R E = Wp (t ρ S) (fun c T => if c = true then Wp (a ρ T) R E else Wp (b ρ T) R E) E := by
  unfold aIf
  simp only [wp_bd]
  congr
  funext c T
  cases c <;> rfl
@[simp] theorem wp_tOf {a : A} {P : Bool → Sto → Prop} : Wp (tOf a ρ S) P E = Wp (a ρ S) (fun w T => ∃ b, truth T w = some b ∧ P b T) E := by
  unfold tOf truthM
  simp
@[simp] theorem wp_tBool {a : A} {P : Bool → Sto → Prop} : Wp (tBool a ρ S) P E = Wp (a ρ S) (fun w T => ∃ b, w = .bl b ∧ P b T) E := by
  unfold tBool
  simp only [wp_bd]
  congr
  funext w T
  cases w <;> simp [boolM]
@[simp] theorem wp_tNot {t : AT} {P : Bool → Sto → Prop} : Wp (tNot t ρ S) P E = Wp (t ρ S) (fun b T => P (!b) T) E := by
  unfold tNot
  simp
@[simp] theorem wp_tYes {P : Bool → Sto → Prop} : Wp (tYes ρ S) P E = P true S := rfl
@[simp] theorem wp_tAnd {t u : AT} {P : Bool → Sto → Prop} : Wp (tAnd t u ρ S) P E = Wp (t ρ S) (fun c T => if c = true then Wp (u ρ T) P E else P false T) E := by
  unfold tAnd
  simp only [wp_bd]
  congr
  funext c T
  cases c <;> rfl
@[simp] theorem wp_tOr {t u : AT} {P : Bool → Sto → Prop} : Wp (tOr t u ρ S) P E = Wp (t ρ S) (fun c T => if c = true then P true T else Wp (u ρ T) P E) E := by
  unfold tOr
  simp only [wp_bd]
  congr
  funext c T
  cases c <;> rfl
@[simp] theorem wp_aNot {a : A} : Wp (aNot a ρ S) R E = Wp (a ρ S) (fun w T => ∃ b, truth T w = some b ∧ R (.bl (!b)) T) E := by
  unfold aNot truthM
  simp
@[simp] theorem wp_aAnd {a b : A} : Wp (aAnd a b ρ S) R E = Wp (a ρ S) (fun w T => ∃ c, truth T w = some c ∧ if c = true then Wp (b ρ T) R E else R w T) E := by
  unfold aAnd truthM
  simp only [wp_bd, wp_opt]
  congr
  funext w T
  refine propext ⟨fun ⟨c, h, g⟩ => ⟨c, h, ?_⟩, fun ⟨c, h, g⟩ => ⟨c, h, ?_⟩⟩ <;> cases c <;> exact g
@[simp] theorem wp_aOr {a b : A} : Wp (aOr a b ρ S) R E = Wp (a ρ S) (fun w T => ∃ c, truth T w = some c ∧ if c = true then R w T else Wp (b ρ T) R E) E := by
  unfold aOr truthM
  simp only [wp_bd, wp_opt]
  congr
  funext w T
  refine propext ⟨fun ⟨c, h, g⟩ => ⟨c, h, ?_⟩, fun ⟨c, h, g⟩ => ⟨c, h, ?_⟩⟩ <;> cases c <;> exact g
@[simp] theorem wp_aChain {f g : W → W → M W} {a b c : A} : Wp (aChain f g a b c ρ S) R E = Wp (a ρ S) (fun x T => Wp (b ρ T) (fun y U => Wp (f x y U) (fun z V => ∃ k, z = .bl k ∧ if k = true then Wp (c ρ V) (fun w X => Wp (g y w X) R E) E else R (.bl false) V) E) E) E := by
  unfold aChain
  simp only [wp_bd]
  congr
  funext x T
  congr
  funext y U
  congr
  funext z V
  refine propext ⟨fun h => ?_, fun ⟨k, e, h⟩ => ?_⟩
  · cases z with
    | bl k =>
      refine ⟨k, rfl, ?_⟩
      cases k
      · exact h
      · simpa [boolM] using h
    | _ => simp [boolM] at h
  · subst e
    cases k
    · exact h
    · simpa [boolM] using h
@[simp] theorem wp_aQ {f : List W → M W} {l : AL} : Wp (aQ f l ρ S) R E = Wp (l ρ S) (fun ws T => Wp (f ws T) R E) E := by
  unfold aQ
  simp
@[simp] theorem wp_aCall {n : Nat} {f : Fn} {l : AL} : Wp (aCall n f l ρ S) R E = Wp (l ρ S) (fun ws T => ws.length = n ∧ Wp (f ws T) R E) E := by
  unfold aCall
  simp only [wp_bd]
  congr
  funext ws T
  by_cases h : ws.length = n <;> simp [h]
@[simp] theorem wp_aSl {a : A} {l h : AO} : Wp (aSl a l h ρ S) R E = Wp (a ρ S) (fun x T => Wp (l ρ T) (fun i U => Wp (h ρ U) (fun j V => Wp (slW x i j V) R E) E) E) E := by
  unfold aSl
  simp
@[simp] theorem wp_oNone {P : Option Int → Sto → Prop} : Wp (oNone ρ S) P E = P none S := rfl
@[simp] theorem wp_oSome {a : A} {P : Option Int → Sto → Prop} : Wp (oSome a ρ S) P E = Wp (a ρ S) (fun w T => ∃ i, w = .int i ∧ P (some i) T) E := by
  unfold oSome
  simp only [wp_bd]
  congr
  funext w T
  cases w <;> simp [intO]
@[simp] theorem wp_aMeth {f : W → Sto → Option (Nat × Fn)} {a : A} {l : AL} : Wp (aMeth f a l ρ S) R E = Wp (a ρ S) (fun x T => ∃ n g, f x T = some (n, g) ∧ Wp (l ρ T) (fun ws U => ws.length + 1 = n ∧ Wp (g (x :: ws) U) R E) E) E := by
  unfold aMeth
  simp only [wp_bd]
  congr
  funext x T
  cases e : f x T with
  | none => simp
  | some p =>
    obtain ⟨n, g⟩ := p
    simp only [Option.some.injEq, Prod.mk.injEq]
    refine propext ⟨fun h => ⟨n, g, ⟨rfl, rfl⟩, ?_⟩, fun ⟨n', g', ⟨e1, e2⟩, h⟩ => ?_⟩
    · rw [wp_bd] at h
      refine h.imp' fun ws U h => ?_
      split at h
      · exact ⟨by assumption, h⟩
      · exact False.elim h
    · subst e1 e2
      rw [wp_bd]
      refine h.imp' fun ws U h => ?_
      rw [if_pos h.1]
      exact h.2
@[simp] theorem wp_aMake {c : Str} {n : Nat} {f : Fn} {l : AL} : Wp (aMake c n f l ρ S) R E = Wp (l ρ S) (fun ws T => ws.length + 1 = n ∧ Wp (f (.ref T.length :: ws) (T ++ [.ins c []])) (fun w U => w = .non ∧ R (.ref T.length) U) E) E := by
  unfold aMake
  simp only [wp_bd]
  congr
  funext ws T
  by_cases h : ws.length + 1 = n
  · simp only [h, if_true, true_and]
    cases e : f (.ref T.length :: ws) (T ++ [.ins c []]) with
    | ok w U => cases w <;> simp [Wp]
    | er x U => simp [Wp]
    | no => simp [Wp]
  · simp [h]
@[simp] theorem wp_aBM {ck : W → Sto → Bool} {f : W → List W → M W} {a : A} {l : AL} : Wp (aBM ck f a l ρ S) R E = Wp (a ρ S) (fun x T => ck x T = true ∧ Wp (l ρ T) (fun ws U => Wp (f x ws U) R E) E) E := by
  unfold aBM
  simp only [wp_bd]
  congr
  funext x T
  by_cases h : ck x T = true <;> simp [h]
@[simp] theorem wp_aGet1 {a b : A} : Wp (aGet1 a b ρ S) R E = Wp (a ρ S) (fun x T => isDic x T = true ∧ Wp (b ρ T) (fun k U => Wp (get1W x k U) R E) E) E := by
  unfold aGet1
  simp only [wp_bd]
  congr
  funext x T
  by_cases h : isDic x T = true <;> simp [h]
@[simp] theorem wp_aIt {a : A} {P : ItE → Sto → Prop} : Wp (aIt a ρ S) P E = Wp (a ρ S) (fun w T => Wp (itW w T) P E) E := by
  unfold aIt
  simp
@[simp] theorem wp_aRng1 {a : A} {P : ItE → Sto → Prop} : Wp (aRng1 a ρ S) P E = Wp (a ρ S) (fun w T => Wp (rng1 w T) P E) E := by
  unfold aRng1
  simp
@[simp] theorem wp_aEnu {a : A} {P : ItE → Sto → Prop} : Wp (aEnu a ρ S) P E = Wp (a ρ S) (fun w T => Wp (enuW w T) P E) E := by
  unfold aEnu
  simp
@[simp] theorem wp_aRev {a : A} {P : ItE → Sto → Prop} : Wp (aRev a ρ S) P E = Wp (a ρ S) (fun w T => Wp (revI w T) P E) E := by
  unfold aRev
  simp
@[simp] theorem wp_aComp {own : List Nat} {it : AI} {g : AG} {tt : AT} {te : A} {P : List W → Sto → Prop} : Wp (aComp own it g tt te ρ S) P E = Wp (it ρ S) (fun j T => Wp (compN j g tt te (wipeR ρ own) big 0 [] T) P E) E := by
  unfold aComp
  simp
@[simp] theorem wp_aDc {own : List Nat} {it : AI} {g : AG} {tt : AT} {tk tv : A} : Wp (aDc own it g tt tk tv ρ S) R E = Wp (it ρ S) (fun j T => Wp (dcN j g tt tk tv (wipeR ρ own) big 0 [] T) (fun kvs U => R (.ref U.length) (U ++ [.dic kvs])) E) E := by
  unfold aDc
  simp
/-! ### statements -/
variable {PS : Fl → Rho → Sto → Prop} {PU : Unit → Rho → Sto → Prop} {ES : Xn → Rho → Sto → Prop} {PA : α → Rho → Sto → Prop} {PB : β → Rho → Sto → Prop}
@[simp] theorem wps_ok {a : α} : WpS (.ok a ρ S) PA ES = PA a ρ S := rfl
@[simp] theorem wps_no : WpS (.no) PA ES = False := rfl
@[simp] theorem wps_er {x : Xn} : WpS (.er x ρ S) PA ES = ES x ρ S := rfl
@[simp] theorem wps_ret {a : α} : WpS (retS a ρ S) PA ES = PA a ρ S := rfl
@[simp] theorem wps_fail : WpS (failS ρ S) PA ES = False := rfl
@[simp] theorem wps_bs {a : MS α} {f : α → MS β} : WpS (bs a f ρ S) PB ES = WpS (a ρ S) (fun x ρ' T => WpS (f x ρ' T) PB ES) ES := by
  unfold bs
  cases a ρ S <;> rfl
@[simp] theorem wps_up {a : Rho → M α} : WpS (up a ρ S) PA ES = Wp (a ρ S) (fun x T => PA x ρ T) (fun x T => ES x ρ T) := by
  unfold up
  cases a ρ S <;> rfl
@[simp] theorem wps_next : WpS (bNext ρ S) PS ES = PS .nx ρ S := rfl
@[simp] theorem wps_cont : WpS (bCont ρ S) PS ES = PS .ct ρ S := rfl
@[simp] theorem wps_break : WpS (bBreak ρ S) PS ES = PS .bk ρ S := rfl
@[simp] theorem wps_seq {a b : B} : WpS (bSeq a b ρ S) PS ES = WpS (a ρ S) (fun f ρ' T => match f with | .nx => WpS (b ρ' T) PS ES | .rt w => PS (.rt w) ρ' T | .bk => PS .bk ρ' T | .ct => PS .ct ρ' T) ES := by
  unfold bSeq
  rw [wps_bs]
  congr
  funext f ρ' T
  cases f <;> rfl
@[simp] theorem wps_bRet {a : A} : WpS (bRet a ρ S) PS ES = Wp (a ρ S) (fun w T => PS (.rt w) ρ T) (fun x T => ES x ρ T) := by
  unfold bRet
  simp
@[simp] theorem wps_bRetN : WpS (bRetN ρ S) PS ES = PS (.rt .non) ρ S := rfl
@[simp] theorem wps_bExpr {a : A} : WpS (bExpr a ρ S) PS ES = Wp (a ρ S) (fun _ T => PS .nx ρ T) (fun x T => ES x ρ T) := by
  unfold bExpr
  simp
@[simp] theorem wps_bAsg {a : A} {g : AG} : WpS (bAsg a g ρ S) PS ES = Wp (a ρ S) (fun w T => WpS (g w ρ T) (fun _ ρ' U => PS .nx ρ' U) ES) (fun x T => ES x ρ T) := by
  unfold bAsg
  simp
@[simp] theorem wps_gNm {i : Nat} {w : W} : WpS (gNm i w ρ S) PU ES = PU () (ρ.set i (some w)) S := rfl
@[simp] theorem wps_gAll_nil : WpS (gAll [] [] ρ S) PU ES = PU () ρ S := rfl
@[simp] theorem wps_gAll_cons {g : AG} {gs : List AG} {w : W} {ws : List W} : WpS (gAll (g :: gs) (w :: ws) ρ S) PU ES = WpS (g w ρ S) (fun _ ρ' T => WpS (gAll gs ws ρ' T) PU ES) ES := by
  show WpS (bs (g w) (fun _ => gAll gs ws) ρ S) PU ES = _
  rw [wps_bs]
@[simp] theorem wps_gTu {gs : List AG} {w : W} : WpS (gTu gs w ρ S) PU ES = ∃ ws, seqAt S w = some ws ∧ ws.length = gs.length ∧ WpS (gAll gs ws ρ S) PU ES := by
  unfold gTu
  cases e : seqAt S w with
  | none => simp
  | some ws =>
    by_cases h : ws.length = gs.length <;> simp [h]
@[simp] theorem wps_gSb {o i : A} {v : W} : WpS (gSb o i v ρ S) PU ES = Wp (o ρ S) (fun x T => Wp (i ρ T) (fun y U => Wp (setW x y v U) (fun _ V => PU () ρ V) (fun x T => ES x ρ T)) (fun x T => ES x ρ T)) (fun x T => ES x ρ T) := by
  unfold gSb
  simp
@[simp] theorem wps_bIf {t : AT} {a b : B} : WpS (bIf t a b ρ S) PS ES = Wp (t ρ S) (fun c T => if c = true then WpS (a ρ T) PS ES else WpS (b ρ T) PS ES) (fun x T => ES x ρ T) := by
  unfold bIf
  simp only [wps_bs, wps_up]
  congr
  funext c T
  cases c <;> rfl
@[simp] theorem wps_bFor {it : AI} {g : AG} {b : B} : WpS (bFor it g b ρ S) PS ES = Wp (it ρ S) (fun j T => WpS (forN j g b big 0 ρ T) PS ES) (fun x T => ES x ρ T) := by
  unfold bFor
  simp
@[simp] theorem wps_bFld {ok : Str → Bool} {f : Str} {a o : A} : WpS (bFld ok f a o ρ S) PS ES = Wp (a ρ S) (fun v T => Wp (o ρ T) (fun x U => Wp (fldSet ok f v x U) (fun _ V => PS .nx ρ V) (fun x T => ES x ρ T)) (fun x T => ES x ρ T)) (fun x T => ES x ρ T) := by
  unfold bFld
  simp
@[simp] theorem wps_bAug {i : Nat} {f : W → W → M W} {a : A} : WpS (bAug i f a ρ S) PS ES = ∃ x, ρ[i]? = some (some x) ∧ Wp (a ρ S) (fun y T => Wp (f x y T) (fun z U => PS .nx (ρ.set i (some z)) U) (fun x T => ES x ρ T)) (fun x T => ES x ρ T) := by
  unfold bAug
  simp
@[simp] theorem wps_bDel {a b : A} : WpS (bDel a b ρ S) PS ES = Wp (a ρ S) (fun d T => Wp (b ρ T) (fun k U => Wp (delW d k U) (fun _ V => PS .nx ρ V) (fun x T => ES x ρ T)) (fun x T => ES x ρ T)) (fun x T => ES x ρ T) := by
  unfold bDel
  simp
@[simp] theorem wps_bRaise {c : Str} {fs : List Str} {ok : List W → Bool} {l : AL} : WpS (bRaise c fs ok l ρ S) PS ES = Wp (l ρ S) (fun ws T => (ok ws = true ∧ ws.length = fs.length) ∧ ES ⟨c, (fs.zip ws).reverse⟩ ρ T) (fun x T => ES x ρ T) := by
  unfold bRaise
  simp only [wps_bs, wps_up]
  congr
  funext ws T
  by_cases h : (ok ws && decide (ws.length = fs.length)) = true
  · have h' := h
    rw [Bool.and_eq_true, decide_eq_true_eq] at h'
    simp [h, h'.1, h'.2]
  · have h' := h
    rw [Bool.and_eq_true, decide_eq_true_eq] at h'
    rw [if_neg h]
    simp only [wps_no]
    exact propext ⟨False.elim, fun z => h' z.1⟩
theorem wps_bTryO {sub : Str → Option Bool} {b h : B} : WpS (bTryO sub b h ρ S) PS ES = WpS (b ρ S) PS (fun x ρ' T => (sub x.c = some true ∧ WpS (h ρ' T) PS (fun _ _ _ => False)) ∨ (sub x.c = some false ∧ ES x ρ' T)) := by
  unfold bTryO
  cases e : b ρ S with
  | ok f ρ' T => rfl
  | no => rfl
  | er x ρ' T =>
    dsimp only [WpS]
    cases es : sub x.c with
    | none => simp
    | some k =>
      cases k
      · simp
      · simp only [Option.some.injEq, Bool.true_eq_false, false_and, or_false, true_and]
        unfold quietB
        cases e2 : h ρ' T <;> rfl
theorem wp_fnE {N : List Str} {b : B} {ws : List W} : Wp (fnE N b ws S) R E = WpS (b (startR N ws) S) (fun f _ T => match f with | .nx => R .non T | .rt w => R w T | .bk => False | .ct => False) (fun x _ T => E x T) := by
  unfold fnE
  cases e : b (startR N ws) S with
  | ok f ρ' T => cases f <;> rfl
  | er x ρ' T => rfl
  | no => rfl
end
end Ev

/-! ## Operations on what is known; loops -/
namespace Ev
open PySem PyProof.Rows
def Pre (S S' : Sto) : Prop := ∃ J, S' = S ++ J
theorem Pre.refl {S : Sto} : Pre S S := ⟨[], by simp⟩
theorem Pre.trans {S S1 S2 : Sto} (a : Pre S S1) (b : Pre S1 S2) : Pre S S2 := by
  obtain ⟨J, rfl⟩ := a
  obtain ⟨K, rfl⟩ := b
  exact ⟨J ++ K, by simp⟩
theorem Pre.app {S : Sto} {J : Sto} : Pre S (S ++ J) := ⟨J, rfl⟩
theorem Pre.get {S S' : Sto} {i : Nat} {o : SO} (a : Pre S S') (h : S[i]? = some o) : S'[i]? = some o := by
  obtain ⟨J, rfl⟩ := a
  rw [List.getElem?_append_left (List.getElem?_eq_some_iff.mp h).1]
  exact h
theorem Pre.len {S S' : Sto} (a : Pre S S') : S.length ≤ S'.length := by
  obtain ⟨J, rfl⟩ := a
  simp
/-- an object behind S0's end is set -/
theorem Pre.set {S S' : Sto} {i : Nat} {o : SO} (a : Pre S S') (h : S.length ≤ i) : Pre S (S'.set i o) := by
  obtain ⟨J, rfl⟩ := a
  exact ⟨J.set (i - S.length) o, by rw [List.set_append_right _ _ h]⟩
theorem get_new {S : Sto} {o : SO} : (S ++ [o])[S.length]? = some o := by simp
theorem get_set {S : Sto} {i : Nat} {o u : SO} (h : S[i]? = some u) : (S.set i o)[i]? = some o := by
  rw [List.getElem?_set_self (List.getElem?_eq_some_iff.mp h).1]
section
variable {α β : Type} {P : α → Sto → Prop} {R : W → Sto → Prop} {E : Xn → Sto → Prop} {ρ : Rho} {S : Sto} {n : Nat} {ws us : List W} {i j : Int} {x y w : W} {a b : Str} {kvs : List (L2.Key × W)} {k : L2.Key}
theorem short_of {n : Nat} (h : n ≤ 10000000) : short n = true := decide_eq_true h
theorem big_of {n : Nat} (h : n ≤ 10000000) : n < big := by unfold big; omega
@[simp] theorem op_addI : addW (.int i) (.int j) S = .ok (.int (i + j)) S := rfl
@[simp] theorem op_addS : Wp (addW (.str a) (.str b) S) R E = (short (a.length + b.length) = true ∧ R (.str (a ++ b)) S) := by
  show Wp (guard _ (ret _) S) R E = _
  simp
@[simp] theorem op_addT : Wp (addW (.tup ws) (.tup us) S) R E = (short (ws.length + us.length) = true ∧ R (.tup (ws ++ us)) S) := by
  show Wp (guard _ (ret _) S) R E = _
  simp
@[simp] theorem op_subI : subW (.int i) (.int j) S = .ok (.int (i - j)) S := rfl
@[simp] theorem op_cmpI {f : Int → Int → Bool} : cmpI f (.int i) (.int j) S = .ok (.bl (f i j)) S := rfl
@[simp] theorem op_isN : isW x .non S = .ok (.bl (isNo x)) S := rfl
@[simp] theorem op_isnN : isnW x .non S = .ok (.bl (!isNo x)) S := rfl
@[simp] theorem op_eqS : eqO (.str a) (.str b) S = .ok (.bl (decide (a = b))) S := rfl
@[simp] theorem op_eqI : eqO (.int i) (.int j) S = .ok (.bl (decide (i = j))) S := rfl
@[simp] theorem op_eqNS : eqO (.non) (.str b) S = .ok (.bl false) S := rfl
@[simp] theorem op_eqSN : eqO (.str b) (.non) S = .ok (.bl false) S := rfl
@[simp] theorem op_eqB {p q : Bool} : eqO (.bl p) (.bl q) S = .ok (.bl (decide (p = q))) S := rfl
@[simp] theorem op_neS : neO (.str a) (.str b) S = .ok (.bl (!decide (a = b))) S := rfl
@[simp] theorem op_neI : neO (.int i) (.int j) S = .ok (.bl (!decide (i = j))) S := rfl
theorem op_inT (h : (flat x && ws.all flat) = true) : inO x (.tup ws) S = .ok (.bl (ws.any fun z => eqF z x)) S := by
  unfold inO bd inM
  dsimp only
  rw [if_pos h]
  rfl
theorem op_ninT (h : (flat x && ws.all flat) = true) : ninO x (.tup ws) S = .ok (.bl (!(ws.any fun z => eqF z x))) S := by
  unfold ninO bd inM
  dsimp only
  rw [if_pos h]
  rfl
@[simp] theorem op_inS : inO (.str a) (.str b) S = .ok (.bl (inStr a b)) S := rfl
@[simp] theorem op_ninS : ninO (.str a) (.str b) S = .ok (.bl (!inStr a b)) S := rfl
theorem op_inD (h : S[n]? = some (.dic kvs)) (hk : keyW x = some k) : inO x (.ref n) S = .ok (.bl (valK kvs k).isSome) S := by
  unfold inO bd inM
  simp only [h, hk]
  rfl
theorem op_ninD (h : S[n]? = some (.dic kvs)) (hk : keyW x = some k) : ninO x (.ref n) S = .ok (.bl (!(valK kvs k).isSome)) S := by
  unfold ninO bd inM
  simp only [h, hk]
  rfl
@[simp] theorem op_ixT : Wp (ixW (.tup ws) (.int i) S) R E = ∃ w, L2.atI ws i = some w ∧ R w S := by
  show Wp (opt _ S) R E = _
  simp
theorem op_ixL (h : S[n]? = some (.lst ws)) : Wp (ixW (.ref n) (.int i) S) R E = ∃ w, L2.atI ws i = some w ∧ R w S := by
  have : ixW (.ref n) (.int i) S = opt (L2.atI ws i) S := by
    unfold ixW
    simp only [h]
  rw [this]
  simp
theorem op_ixD (h : S[n]? = some (.dic kvs)) (hk : keyW x = some k) : Wp (ixW (.ref n) x S) R E = ∃ w, valK kvs k = some w ∧ R w S := by
  have : ixW (.ref n) x S = opt (valK kvs k) S := by
    unfold ixW
    simp only [h, hk]
  rw [this]
  simp
@[simp] theorem at_0 {x : α} {l : List α} : L2.atI (x :: l) 0 = some x := by simp [L2.atI, L2.ixN]
@[simp] theorem at_1 {x y : α} {l : List α} : L2.atI (x :: y :: l) 1 = some y := by
  have : (1 : Int) < (l.length : Int) + 1 + 1 := by omega
  simp [L2.atI, L2.ixN, this]
@[simp] theorem at_2 {x y z : α} {l : List α} : L2.atI (x :: y :: z :: l) 2 = some z := by
  have : (2 : Int) < (l.length : Int) + 1 + 1 + 1 := by omega
  simp [L2.atI, L2.ixN, this]
@[simp] theorem at_3 {x y z u : α} {l : List α} : L2.atI (x :: y :: z :: u :: l) 3 = some u := by
  have : (3 : Int) < (l.length : Int) + 1 + 1 + 1 + 1 := by omega
  simp [L2.atI, L2.ixN, this]
theorem at_nat {l : List α} {m : Nat} {x : α} (h : l[m]? = some x) : L2.atI l (m : Int) = some x := by
  have hm := (List.getElem?_eq_some_iff.mp h).1
  have h2 : ((m : Int) < (l.length : Int)) := by omega
  simp [L2.atI, L2.ixN, h2, h]
@[simp] theorem op_lenT : lenW (.tup ws) S = .ok (.int ws.length) S := rfl
@[simp] theorem op_lenS : Wp (lenW (.str a) S) R E = (a.length ≤ lim ∧ R (.int a.length) S) := by
  unfold lenW
  by_cases h : a.length ≤ lim <;> simp [h]
theorem op_lenL (h : S[n]? = some (.lst ws)) : lenW (.ref n) S = .ok (.int ws.length) S := by
  unfold lenW
  simp only [h]
@[simp] theorem seq_tup : seqAt S (.tup ws) = some ws := rfl
theorem lst_get (h : S[n]? = some (.lst ws)) : lstAt S n = some ws := by
  unfold lstAt
  rw [h]
theorem dic_get (h : S[n]? = some (.dic kvs)) : dicAt S n = some kvs := by
  unfold dicAt
  rw [h]
theorem ins_get {c : Str} {fs : List (Str × W)} (h : S[n]? = some (.ins c fs)) : insAt S n = some (c, fs) := by
  unfold insAt
  rw [h]
theorem isL (h : S[n]? = some (.lst ws)) : isLst (.ref n) S = true := by
  unfold isLst
  dsimp only
  rw [lst_get h]
  rfl
theorem isD (h : S[n]? = some (.dic kvs)) : isDic (.ref n) S = true := by
  unfold isDic
  dsimp only
  rw [dic_get h]
  rfl
theorem m_app (h : S[n]? = some (.lst ws)) (hs : ws.length + 1 ≤ 10000000) : appW (.ref n) [x] S = .ok .non (S.set n (.lst (ws ++ [x]))) := by
  unfold appW
  simp only [lst_get h, short_of hs, if_true]
theorem m_pop (h : S[n]? = some (.lst (ws ++ [x]))) : popW (.ref n) [] S = .ok x (S.set n (.lst ws)) := by
  unfold popW
  simp [lst_get h]
theorem aug_I : augAdd (.int i) (.int j) S = .ok (.int (i + j)) S := rfl
theorem aug_L {m : Nat} (h : S[n]? = some (.lst ws)) (h2 : S[m]? = some (.lst us)) (hs : ws.length + us.length ≤ 10000000) : augAdd (.ref n) (.ref m) S = .ok (.ref n) (S.set n (.lst (ws ++ us))) := by
  unfold augAdd
  simp only [lst_get h, lst_get h2, short_of hs, if_true]
@[simp] theorem tr_bl {p : Bool} : truth S (.bl p) = some p := rfl
@[simp] theorem tr_non : truth S .non = some false := rfl
@[simp] theorem tr_int : truth S (.int i) = some (i != 0) := rfl
@[simp] theorem tr_tup : truth S (.tup ws) = some (!ws.isEmpty) := rfl
theorem tr_lst (h : S[n]? = some (.lst ws)) : truth S (.ref n) = some (!ws.isEmpty) := by
  unfold truth
  simp only [h]
@[simp] theorem isNo_non : isNo .non = true := rfl
@[simp] theorem isNo_bl {p : Bool} : isNo (.bl p) = false := rfl
@[simp] theorem isNo_int : isNo (.int i) = false := rfl
@[simp] theorem isNo_str : isNo (.str a) = false := rfl
@[simp] theorem isNo_tup : isNo (.tup ws) = false := rfl
@[simp] theorem isNo_ref : isNo (.ref n) = false := rfl
/-! ### loops -/
theorem wh_rule {PS : Fl → Rho → Sto → Prop} {ES : Xn → Rho → Sto → Prop} {t : AT} {b : B} (I : Nat → Rho → Sto → Prop)
    (step : ∀ m ρ S, I m ρ S → Wp (t ρ S) (fun c T => if c = true then WpS (b ρ T) (fun fl ρ' U => match fl with | .nx => ∃ m', m' < m ∧ I m' ρ' U | .ct => ∃ m', m' < m ∧ I m' ρ' U | .bk => PS .nx ρ' U | .rt w => PS (.rt w) ρ' U) ES else PS .nx ρ T) (fun x T => ES x ρ T))
    {m : Nat} (hm : m ≤ 10000000) (h : I m ρ S) : WpS (bWh t b ρ S) PS ES := by
  have key : ∀ (f m : Nat) (ρ : Rho) (S : Sto), m < f → I m ρ S → WpS (whN t b f ρ S) PS ES := by
    intro f
    induction f with
    | zero => intro m _ _ h; omega
    | succ f ih =>
      intro m ρ S hm h
      unfold whN
      rw [wps_bs, wps_up]
      refine (step m ρ S h).imp' fun c T hc => ?_
      cases c with
      | false => exact hc
      | true =>
        simp only [if_true] at hc ⊢
        rw [wps_bs]
        refine hc.imp (fun fl ρ' U hf => ?_) fun _ _ _ h => h
        cases fl with
        | nx => obtain ⟨m', h1, h2⟩ := hf; exact ih m' ρ' U (by omega) h2
        | ct => obtain ⟨m', h1, h2⟩ := hf; exact ih m' ρ' U (by omega) h2
        | bk => exact hf
        | rt w => exact hf
  exact key big m ρ S (big_of hm) h
theorem for_rule {PS : Fl → Rho → Sto → Prop} {ES : Xn → Rho → Sto → Prop} {it : ItE} {g : AG} {b : B} (n : Nat) (I : Nat → Rho → Sto → Prop)
    (step : ∀ i ρ S, I i ρ S → (i ≤ n ∧ it i S = some none ∧ PS .nx ρ S) ∨ (i < n ∧ ∃ w, it i S = some (some w) ∧ WpS (g w ρ S) (fun _ ρ' T => WpS (b ρ' T) (fun fl ρ'' U => match fl with | .nx => I (i + 1) ρ'' U | .ct => I (i + 1) ρ'' U | .bk => PS .nx ρ'' U | .rt w => PS (.rt w) ρ'' U) ES) ES))
    (hn : n ≤ 10000000) (h : I 0 ρ S) : WpS (forN it g b big 0 ρ S) PS ES := by
  have key : ∀ (f i : Nat) (ρ : Rho) (S : Sto), n < f + i → I i ρ S → WpS (forN it g b f i ρ S) PS ES := by
    intro f
    induction f with
    | zero =>
      intro i ρ S hm h
      rcases step i ρ S h with ⟨h1, _⟩ | ⟨h1, _⟩ <;> omega
    | succ f ih =>
      intro i ρ S hm h
      rcases step i ρ S h with ⟨_, h1, h2⟩ | ⟨h1, w, h2, h3⟩
      · simp only [forN, h1, wps_ok]
        exact h2
      · simp only [forN, h2]
        rw [wps_bs]
        refine h3.imp (fun _ ρ' T h4 => ?_) fun _ _ _ h => h
        rw [wps_bs]
        refine h4.imp (fun fl ρ'' U h5 => ?_) fun _ _ _ h => h
        cases fl with
        | nx => exact ih (i + 1) ρ'' U (by omega) h5
        | ct => exact ih (i + 1) ρ'' U (by omega) h5
        | bk => exact h5
        | rt w => exact h5
  by_cases hf : n < big + 0
  · exact key big 0 ρ S hf h
  · unfold big at hf
    omega
theorem comp_rule {it : ItE} {g : AG} {tt : AT} {te : A} {ρ0 : Rho} {P : List W → Sto → Prop} (n : Nat) (I : Nat → List W → Sto → Prop)
    (step : ∀ i acc S, I i acc S → (i ≤ n ∧ it i S = some none ∧ P acc S) ∨ (i < n ∧ ∃ w, it i S = some (some w) ∧ WpS (g w ρ0 S) (fun _ ρ1 T => Wp (tt ρ1 T) (fun c U => if c = true then Wp (te ρ1 U) (fun y V => acc.length + 1 ≤ 10000000 ∧ I (i + 1) (acc ++ [y]) V) (fun _ _ => False) else I (i + 1) acc U) (fun _ _ => False)) (fun _ _ _ => False)))
    (hn : n ≤ 10000000) (h : I 0 [] S) : Wp (compN it g tt te ρ0 big 0 [] S) P E := by
  have key : ∀ (f i : Nat) (acc : List W) (S : Sto), n < f + i → I i acc S → Wp (compN it g tt te ρ0 f i acc S) P E := by
    intro f
    induction f with
    | zero =>
      intro i acc S hm h
      rcases step i acc S h with ⟨h1, _⟩ | ⟨h1, _⟩ <;> omega
    | succ f ih =>
      intro i acc S hm h
      rcases step i acc S h with ⟨_, h1, h2⟩ | ⟨h1, w, h2, h3⟩
      · simp only [compN, h1, wp_ok]
        exact h2
      · simp only [compN, h2]
        cases eg : g w ρ0 S with
        | no => rw [eg] at h3; exact False.elim h3
        | er x ρ1 T => rw [eg] at h3; exact False.elim h3
        | ok u ρ1 T =>
          rw [eg] at h3
          have h3 : Wp (tt ρ1 T) (fun c U => if c = true then Wp (te ρ1 U) (fun y V => acc.length + 1 ≤ 10000000 ∧ I (i + 1) (acc ++ [y]) V) (fun _ _ => False) else I (i + 1) acc U) (fun _ _ => False) := h3
          dsimp only
          cases et : tt ρ1 T with
          | no => rw [et] at h3; exact False.elim h3
          | er x U => rw [et] at h3; exact False.elim h3
          | ok c U =>
            rw [et] at h3
            simp only [wp_ok] at h3
            cases c with
            | false => exact ih (i + 1) acc U (by omega) (by simpa using h3)
            | true =>
              simp only [if_true] at h3
              dsimp only
              cases ee : te ρ1 U with
              | no => rw [ee] at h3; exact False.elim h3
              | er x V => rw [ee] at h3; exact False.elim h3
              | ok y V =>
                rw [ee] at h3
                obtain ⟨h4, h5⟩ := h3
                dsimp only
                rw [if_pos (short_of h4)]
                exact ih (i + 1) _ V (by omega) h5
  by_cases hf : n < big + 0
  · exact key big 0 [] S hf h
  · unfold big at hf
    omega
/-- a walk over a tuple, the items by a function, the store growing -/
theorem comp_map {ws : List W} {it : ItE} {g : AG} {te : A} {ρ0 : Rho} {P : List W → Sto → Prop} {f : W → W} (hit : ∀ i T, it i T = some ws[i]?)
    (step : ∀ w ∈ ws, ∀ T, Pre S T → WpS (g w ρ0 T) (fun _ ρ1 U => Wp (te ρ1 U) (fun y V => y = f w ∧ Pre S V) (fun _ _ => False)) (fun _ _ _ => False)) (hn : ws.length ≤ 10000000) (h : ∀ T, Pre S T → P (ws.map f) T) : Wp (compN it g tYes te ρ0 big 0 [] S) P E := by
  refine comp_rule ws.length (fun i acc T => i ≤ ws.length ∧ acc = (ws.take i).map f ∧ Pre S T) (fun i acc T ⟨hi, ha, hT⟩ => ?_) hn ⟨Nat.zero_le _, by simp, .refl⟩
  cases e : ws[i]? with
  | none =>
    have hl := List.getElem?_eq_none_iff.mp e
    refine .inl ⟨hi, by rw [hit, e], ?_⟩
    rw [ha, List.take_of_length_le (by omega)]
    exact h T hT
  | some w =>
    have hl := (List.getElem?_eq_some_iff.mp e).1
    refine .inr ⟨hl, w, by rw [hit, e], ?_⟩
    refine (step w (List.mem_of_getElem? e) T hT).imp (fun _ ρ1 U h1 => ?_) fun _ _ _ h => h
    simp only [wp_tYes, if_true]
    refine h1.imp' fun y V ⟨h2, h3⟩ => ⟨?_, by omega, ?_, h3⟩
    · rw [ha, List.length_map, List.length_take]
      omega
    · rw [ha, h2, List.take_add_one, e]
      simp
@[simp] theorem isi_non_int : isiW .non (.ty "int") S = .ok (.bl false) S := by kernel_rfl
@[simp] theorem isi_non_bool : isiW .non (.ty "bool") S = .ok (.bl false) S := by kernel_rfl
@[simp] theorem isi_non_str : isiW .non (.ty "str") S = .ok (.bl false) S := by kernel_rfl
@[simp] theorem isi_non_tuple : isiW .non (.ty "tuple") S = .ok (.bl false) S := by kernel_rfl
@[simp] theorem isi_bl_int {p : Bool} : isiW (.bl p) (.ty "int") S = .ok (.bl true) S := by kernel_rfl
@[simp] theorem isi_bl_bool {p : Bool} : isiW (.bl p) (.ty "bool") S = .ok (.bl true) S := by kernel_rfl
@[simp] theorem isi_bl_str {p : Bool} : isiW (.bl p) (.ty "str") S = .ok (.bl false) S := by kernel_rfl
@[simp] theorem isi_bl_tuple {p : Bool} : isiW (.bl p) (.ty "tuple") S = .ok (.bl false) S := by kernel_rfl
@[simp] theorem isi_int_int : isiW (.int i) (.ty "int") S = .ok (.bl true) S := by kernel_rfl
@[simp] theorem isi_int_bool : isiW (.int i) (.ty "bool") S = .ok (.bl false) S := by kernel_rfl
@[simp] theorem isi_int_str : isiW (.int i) (.ty "str") S = .ok (.bl false) S := by kernel_rfl
@[simp] theorem isi_int_tuple : isiW (.int i) (.ty "tuple") S = .ok (.bl false) S := by kernel_rfl
@[simp] theorem isi_str_int : isiW (.str a) (.ty "int") S = .ok (.bl false) S := by kernel_rfl
@[simp] theorem isi_str_bool : isiW (.str a) (.ty "bool") S = .ok (.bl false) S := by kernel_rfl
@[simp] theorem isi_str_str : isiW (.str a) (.ty "str") S = .ok (.bl true) S := by kernel_rfl
@[simp] theorem isi_str_tuple : isiW (.str a) (.ty "tuple") S = .ok (.bl false) S := by kernel_rfl
@[simp] theorem isi_tup_int : isiW (.tup ws) (.ty "int") S = .ok (.bl false) S := by kernel_rfl
@[simp] theorem isi_tup_bool : isiW (.tup ws) (.ty "bool") S = .ok (.bl false) S := by kernel_rfl
@[simp] theorem isi_tup_str : isiW (.tup ws) (.ty "str") S = .ok (.bl false) S := by kernel_rfl
@[simp] theorem isi_tup_tuple : isiW (.tup ws) (.ty "tuple") S = .ok (.bl true) S := by kernel_rfl
theorem isi_lst {ws : List W} (h : S[n]? = some (.lst ws)) : isiW (.ref n) (.ty "tuple") S = .ok (.bl false) S := by
  unfold isiW tyS
  simp only [h]
  kernel_rfl
@[simp] theorem op_ixS : Wp (ixW (.str a) (.int i) S) R E = (a.length ≤ lim ∧ ∃ c, L2.atI a.cps.toList i = some c ∧ R (chr1 c) S) := by
  have : ixW (.str a) (.int i) S = if a.length ≤ lim then opt ((L2.atI a.cps.toList i).map chr1) S else .no := rfl
  rw [this]
  by_cases h : a.length ≤ lim
  · rw [if_pos h, wp_opt]
    refine propext ⟨fun ⟨w, h1, h2⟩ => ⟨h, ?_⟩, fun ⟨_, c, h1, h2⟩ => ⟨chr1 c, by rw [h1]; rfl, h2⟩⟩
    cases e : L2.atI a.cps.toList i with
    | none => rw [e] at h1; cases h1
    | some c => rw [e] at h1; cases h1; exact ⟨c, rfl, h2⟩
  · simp [h]
@[simp] theorem it_tup {PI : ItE → Sto → Prop} : Wp (itW (.tup ws) S) PI E = PI (itTup ws) S := rfl
@[simp] theorem it_str {P : ItE → Sto → Prop} : Wp (itW (.str a) S) P E = (a.length ≤ lim ∧ P (itStr a) S) := by
  unfold itW
  by_cases h : a.length ≤ lim <;> simp [h]
theorem it_lst {P : ItE → Sto → Prop} (h : S[n]? = some (.lst ws)) : Wp (itW (.ref n) S) P E = P (itLst n) S := by
  unfold itW
  simp only [lst_get h, wp_ok]
theorem hit_tup : ∀ i T, itTup ws i T = some ws[i]? := fun _ _ => rfl
theorem hit_str : ∀ i T, itStr a i T = some (a.cps.toList.map chr1)[i]? := fun i T => by
  unfold itStr
  rw [List.getElem?_map]
theorem bools_map {f : W → Bool} : ∀ l : List W, boolsW (l.map fun w => .bl (f w)) = some (l.map f)
  | [] => rfl
  | x :: l => by
    show (boolsW _).map _ = _
    rw [bools_map l]
    rfl
theorem q_all {l : List W} {f : W → Bool} : allQ (l.map fun w => .bl (f w)) S = .ok (.bl (l.all f)) S := by
  unfold allQ
  rw [bools_map]
  simp
theorem q_any {l : List W} {f : W → Bool} : anyQ (l.map fun w => .bl (f w)) S = .ok (.bl (l.any f)) S := by
  unfold anyQ
  rw [bools_map]
  simp
theorem eq_of_wp {r : Res α} {v : α} (h : Wp r (fun a T => a = v ∧ T = S) (fun _ _ => False)) : r = .ok v S := by
  cases r with
  | ok a T => obtain ⟨rfl, rfl⟩ := h; rfl
  | er x T => exact False.elim h
  | no => exact False.elim h
/-- .. the store as it is -/
theorem comp_map0 {ws : List W} {it : ItE} {g : AG} {te : A} {ρ0 : Rho} {P : List W → Sto → Prop} {f : W → W} (hit : ∀ i, it i S = some ws[i]?)
    (step : ∀ w ∈ ws, WpS (g w ρ0 S) (fun _ ρ1 U => Wp (te ρ1 U) (fun y V => y = f w ∧ V = S) (fun _ _ => False)) (fun _ _ _ => False)) (hn : ws.length ≤ 10000000) (h : P (ws.map f) S) : Wp (compN it g tYes te ρ0 big 0 [] S) P E := by
  refine comp_rule ws.length (fun i acc T => i ≤ ws.length ∧ acc = (ws.take i).map f ∧ T = S) (fun i acc T ⟨hi, ha, hT⟩ => ?_) hn ⟨Nat.zero_le _, by simp, rfl⟩
  subst hT
  cases e : ws[i]? with
  | none =>
    have hl := List.getElem?_eq_none_iff.mp e
    refine .inl ⟨hi, by rw [hit, e], ?_⟩
    rw [ha, List.take_of_length_le (by omega)]
    exact h
  | some w =>
    have hl := (List.getElem?_eq_some_iff.mp e).1
    refine .inr ⟨hl, w, by rw [hit, e], ?_⟩
    refine (step w (List.mem_of_getElem? e)).imp (fun _ ρ1 U h1 => ?_) fun _ _ _ h => h
    simp only [wp_tYes, if_true]
    refine h1.imp' fun y V ⟨h2, h3⟩ => ⟨?_, by omega, ?_, h3⟩
    · rw [ha, List.length_map, List.length_take]
      omega
    · rw [ha, h2, List.take_add_one, e]
      simp
theorem ints_map {f : W → Int} : ∀ l : List W, intsW (l.map fun w => .int (f w)) = some (l.map f)
  | [] => rfl
  | x :: l => by
    show (intsW _).map _ = _
    rw [ints_map l]
    rfl
theorem q_sum {l : List W} {f : W → Int} : sumQ (l.map fun w => .int (f w)) S = .ok (.int (l.map f).sum) S := by
  unfold sumQ
  rw [ints_map]
@[simp] theorem op_max2 : max2 (.int i) (.int j) S = .ok (.int (if j > i then j else i)) S := rfl
theorem hit_lst (h : S[n]? = some (.lst ws)) : ∀ i, itLst n i S = some ws[i]? := fun i => by
  unfold itLst
  rw [lst_get h]
  rfl
theorem get_set_ne {m : Nat} {o u : SO} (h : S[n]? = some o) (hm : m ≠ n) : (S.set m u)[n]? = some o := by
  rw [List.getElem?_set_ne hm]
  exact h
/-- .. with a test, the store as it is -/
theorem comp_filt0 {ws : List W} {it : ItE} {g : AG} {tt : AT} {te : A} {ρ0 : Rho} {P : List W → Sto → Prop} {pf : W → Bool} {f : W → W} (hit : ∀ i, it i S = some ws[i]?)
    (step : ∀ w ∈ ws, WpS (g w ρ0 S) (fun _ ρ1 U => Wp (tt ρ1 U) (fun c V => c = pf w ∧ V = S ∧ (c = true → Wp (te ρ1 V) (fun y V => y = f w ∧ V = S) (fun _ _ => False))) (fun _ _ => False)) (fun _ _ _ => False)) (hn : ws.length ≤ 10000000) (h : P ((ws.filter pf).map f) S) : Wp (compN it g tt te ρ0 big 0 [] S) P E := by
  refine comp_rule ws.length (fun i acc T => i ≤ ws.length ∧ acc = ((ws.take i).filter pf).map f ∧ T = S) (fun i acc T ⟨hi, ha, hT⟩ => ?_) hn ⟨Nat.zero_le _, by simp, rfl⟩
  subst hT
  cases e : ws[i]? with
  | none =>
    have hl := List.getElem?_eq_none_iff.mp e
    refine .inl ⟨hi, by rw [hit, e], ?_⟩
    rw [ha, List.take_of_length_le (by omega)]
    exact h
  | some w =>
    have hl := (List.getElem?_eq_some_iff.mp e).1
    refine .inr ⟨hl, w, by rw [hit, e], ?_⟩
    refine (step w (List.mem_of_getElem? e)).imp (fun _ ρ1 U h1 => ?_) fun _ _ _ h => h
    refine h1.imp' fun c V ⟨h2, h3, h4⟩ => ?_
    have hf : ((ws.take (i + 1)).filter pf).map f = ((ws.take i).filter pf).map f ++ (if pf w = true then [f w] else []) := by
      rw [List.take_add_one, e]
      cases hp : pf w <;> simp [hp]
    cases c with
    | true =>
      rw [if_pos rfl]
      refine (h4 rfl).imp' fun y V ⟨h5, h6⟩ => ⟨?_, by omega, ?_, h6⟩
      · have h7 := List.length_filter_le pf (ws.take i)
        rw [List.length_take] at h7
        rw [ha, List.length_map]
        omega
      · rw [hf, ← h2, ha, h5]
        rfl
    | false =>
      rw [if_neg (by decide)]
      refine ⟨by omega, ?_, h3⟩
      rw [hf, ← h2, ha]
      simp
theorem strs_map : ∀ l : List Str, strsW (l.map W.str) = some l
  | [] => rfl
  | x :: l => by
    show (strsW _).map _ = _
    rw [strs_map l]
    rfl
theorem op_lenSL {l : List Str} (h : S[n]? = some (.lst (l.map W.str))) (hl : l.length ≤ 4000) : lenSW (.ref n) S = .ok (.int (Ls.cnt l l.length)) S := by
  unfold lenSW seqAt
  simp only [lst_get h, strs_map, hl, if_true]
theorem op_lenST {l : List Str} (hl : l.length ≤ 4000) : lenSW (.tup (l.map W.str)) S = .ok (.int (Ls.cnt l l.length)) S := by
  unfold lenSW seqAt
  simp only [strs_map, hl, if_true]
theorem op_addL {m : Nat} (h : S[n]? = some (.lst ws)) (h2 : S[m]? = some (.lst us)) (hs : ws.length + us.length ≤ 10000000) : addW (.ref n) (.ref m) S = .ok (.ref S.length) (S ++ [.lst (ws ++ us)]) := by
  unfold addW getL bd
  simp only [lst_get h, lst_get h2, opt, ret, guard, short_of hs, if_true]
  rfl
@[simp] theorem op_lstT : lstW (.tup ws) S = .ok (.ref S.length) (S ++ [.lst ws]) := rfl
@[simp] theorem en_tup {PI : ItE → Sto → Prop} : Wp (enuW (.tup ws) S) PI E = PI (itEnu (itTup ws)) S := rfl
theorem en_lst {PI : ItE → Sto → Prop} (h : S[n]? = some (.lst ws)) : Wp (enuW (.ref n) S) PI E = PI (itEnu (itLst n)) S := by
  unfold enuW
  simp only [lst_get h, wp_ok]
theorem hit_enu {m : Nat} : itEnu (itTup ws) m S = some ((ws[m]?).map fun x => .tup [.int m, x]) := by
  unfold itEnu itTup
  cases ws[m]? <;> rfl
theorem hit_enuL {m : Nat} (h : S[n]? = some (.lst ws)) : itEnu (itLst n) m S = some ((ws[m]?).map fun x => .tup [.int m, x]) := by
  unfold itEnu
  rw [hit_lst h]
  cases ws[m]? <;> rfl
end
end Ev

namespace ET
open PySem PySem.W PyProof.Rows Ev
open L2 (defBody defScope inClass)
abbrev R : OpenRow := OpenLaw.row PySem.Challenge.rw_countermarch_k08_cells_and_variables
abbrev tp (i : Nat) : Stmt := R.prog.main.body.getD i (.Pass ⟨0, 0, 0, 0⟩)
def f_is_integer : Fd := ⟨["value"], ["value"], defScope (tp 16), defBody (tp 16)⟩
def f_is_between : Fd := ⟨["value", "least", "most"], ["value", "least", "most"], defScope (tp 17), defBody (tp 17)⟩
def f_is_name : Fd := ⟨["value"], ["value", "character"], defScope (tp 18), defBody (tp 18)⟩
def f_parts_of : Fd := ⟨["kind", "value"], ["kind", "value", "part"], defScope (tp 23), defBody (tp 23)⟩
def f_is_plain : Fd := ⟨["kind", "value"], ["kind", "value"], defScope (tp 24), defBody (tp 24)⟩
def f_parts_of_form : Fd := ⟨["kind", "value"], ["kind", "value", "kinds"], defScope (tp 25), defBody (tp 25)⟩
def f_pair_up : Fd := ⟨["kinds", "parts"], ["kinds", "parts"], defScope (tp 26), defBody (tp 26)⟩
def f_inner_bodies : Fd := ⟨["statement"], ["statement", "kind", "part"], defScope (tp 27), defBody (tp 27)⟩
def f_bodies_of : Fd := ⟨["tree"], ["tree", "state", "params", "procedures", "beat", "triples", "_", "indexes", "references", "body"], defScope (tp 28), defBody (tp 28)⟩
def f_Scope___init__ : Fd := ⟨["self", "tree", "number", "variables", "integers"], ["self", "tree", "number", "variables", "integers", "params", "procedures", "name", "size", "_", "procedure"], defScope (inClass (tp 30) 0), defBody (inClass (tp 30) 0)⟩
def f_Scope_enter : Fd := ⟨["self", "statement"], ["self", "statement"], defScope (inClass (tp 30) 1), defBody (inClass (tp 30) 1)⟩
def f_Scope_leave : Fd := ⟨["self", "statement"], ["self", "statement"], defScope (inClass (tp 30) 2), defBody (inClass (tp 30) 2)⟩
def f_Scope_find_reason : Fd := ⟨["self", "statement"], ["self", "statement", "places", "integers", "place", "name"], defScope (inClass (tp 30) 3), defBody (inClass (tp 30) 3)⟩
def f_Scope_sees_all : Fd := ⟨["self", "statement", "places", "integers"], ["self", "statement", "places", "integers", "used", "name", "_"], defScope (inClass (tp 30) 4), defBody (inClass (tp 30) 4)⟩
def f_Scope_is_free : Fd := ⟨["self", "name"], ["self", "name"], defScope (inClass (tp 30) 5), defBody (inClass (tp 30) 5)⟩
def f_Scope_fits_size : Fd := ⟨["self", "place"], ["self", "place", "name", "index"], defScope (inClass (tp 30) 6), defBody (inClass (tp 30) 6)⟩
def f_Scope_may_call : Fd := ⟨["self", "statement"], ["self", "statement", "_", "name", "indexes", "handed", "integers", "references", "sizes", "variable", "size"], defScope (inClass (tp 30) 7), defBody (inClass (tp 30) 7)⟩
def f_handed_names : Fd := ⟨["statement"], ["statement"], defScope (tp 31), defBody (tp 31)⟩
def f_changed_names : Fd := ⟨["statement"], ["statement"], defScope (tp 32), defBody (tp 32)⟩
def f_used_names : Fd := ⟨["statement"], ["statement", "places", "integers", "waiting", "kind", "value", "part"], defScope (tp 33), defBody (tp 33)⟩
def f_check : Fd := ⟨["tree"], ["tree", "number", "integers", "variables", "body"], defScope (tp 36), defBody (tp 36)⟩
def f_cells : Fd := ⟨["declarations"], ["declarations", "_", "size"], defScope (tp 37), defBody (tp 37)⟩
def f_layout : Fd := ⟨["declarations"], ["declarations", "triples", "first", "name", "size"], defScope (tp 38), defBody (tp 38)⟩
def f_variables_at : Fd := ⟨["tree", "path"], ["tree", "path", "_", "variables", "body", "lets", "at", "number", "statement"], defScope (tp 39), defBody (tp 39)⟩
def f_has_shape : Fd := ⟨["tree"], ["tree", "waiting", "kind", "value", "parts"], defScope (tp 40), defBody (tp 40)⟩
def f_keeps_limits : Fd := ⟨["tree"], ["tree", "state", "params", "procedures", "_", "integers", "references"], defScope (tp 41), defBody (tp 41)⟩
def f_keeps_node_limits : Fd := ⟨["tree"], ["tree", "count", "waiting", "kind", "value", "around", "depth", "inner", "part"], defScope (tp 42), defBody (tp 42)⟩
def f_check_declared_names : Fd := ⟨["tree"], ["tree", "state", "params", "procedures", "_"], defScope (tp 43), defBody (tp 43)⟩
def f_check_heads : Fd := ⟨["tree"], ["tree", "_", "params", "procedures", "taken", "number", "integers", "references"], defScope (tp 44), defBody (tp 44)⟩
def f_first_items : Fd := ⟨["rows"], ["rows", "row"], defScope (tp 45), defBody (tp 45)⟩
def f_are_distinct : Fd := ⟨["names"], ["names"], defScope (tp 46), defBody (tp 46)⟩
def f_check_body : Fd := ⟨["body", "path", "scope"], ["body", "path", "scope", "at", "statement", "here", "reason", "number", "inner"], defScope (tp 47), defBody (tp 47)⟩
def f__law_draws : Fd := ⟨["script"], ["script", "draws", "cell", "rest", "k", "mixed"], defScope (tp 49), defBody (tp 49)⟩
def f__law_take : Fd := ⟨["draws", "at", "many"], ["draws", "at", "many", "number"], defScope (tp 50), defBody (tp 50)⟩
def f__law_number : Fd := ⟨["draws", "at"], ["draws", "at"], defScope (tp 51), defBody (tp 51)⟩
def f__law_index : Fd := ⟨["integers", "draws", "at", "depth"], ["integers", "draws", "at", "depth", "choice", "left"], defScope (tp 52), defBody (tp 52)⟩
def f__law_place : Fd := ⟨["variables", "integers", "draws", "at"], ["variables", "integers", "draws", "at", "name", "size", "fixed", "index"], defScope (tp 53), defBody (tp 53)⟩
def f__law_expression : Fd := ⟨["variables", "integers", "draws", "at", "depth"], ["variables", "integers", "draws", "at", "depth", "choice", "name", "index", "op", "left"], defScope (tp 54), defBody (tp 54)⟩
def f__law_test : Fd := ⟨["variables", "integers", "draws", "at"], ["variables", "integers", "draws", "at", "choice", "op"], defScope (tp 55), defBody (tp 55)⟩
def f__law_call : Fd := ⟨["variables", "integers", "known", "draws", "at"], ["variables", "integers", "known", "draws", "at", "name", "count", "sizes", "names", "size", "rows", "row", "k"], defScope (tp 56), defBody (tp 56)⟩
def f__law_body : Fd := ⟨["variables", "integers", "known", "draws", "at", "depth"], ["variables", "integers", "known", "draws", "at", "depth", "count", "k"], defScope (tp 57), defBody (tp 57)⟩
def f__law_statement : Fd := ⟨["variables", "integers", "known", "draws", "at", "depth"], ["variables", "integers", "known", "draws", "at", "depth", "choice", "call", "level", "inner", "count", "test", "first", "value", "free", "row"], defScope (tp 58), defBody (tp 58)⟩
def f__law_tree : Fd := ⟨["draws", "at"], ["draws", "at", "state", "params", "fixed", "name", "size", "known", "procedures", "k", "integers", "j", "references", "variables", "row", "body", "less", "again", "beat"], defScope (tp 59), defBody (tp 59)⟩
def f__law_layout : Fd := ⟨["declarations"], ["declarations", "rows", "first", "name", "size"], defScope (tp 60), defBody (tp 60)⟩
def f__law_scopes : Fd := ⟨["body", "path", "scope", "found"], ["body", "path", "scope", "found", "k", "statement", "place"], defScope (tp 61), defBody (tp 61)⟩
def f_law : Fd := ⟨["script"], ["script", "draws", "at", "tree", "declarations", "rows", "count", "actual", "found", "k", "path", "scope"], defScope (tp 62), defBody (tp 62)⟩
def okTE : List W → Bool
  | [.tup ps, .str z] => (match intsW ps with | some is => is.all (fun i => decide (i.natAbs < 10 ^ 12)) && decide (is.length ≤ 100) | none => false) && decide (z.length ≤ 1000)
  | _ => false
def T : Tb where
  fn := ([("is_integer", 1), ("is_between", 3), ("is_name", 1), ("parts_of", 2), ("is_plain", 2), ("parts_of_form", 2), ("pair_up", 2), ("inner_bodies", 1), ("bodies_of", 1), ("handed_names", 1), ("changed_names", 1), ("used_names", 1), ("check", 1), ("cells", 1), ("layout", 1), ("variables_at", 2), ("has_shape", 1), ("keeps_limits", 1), ("keeps_node_limits", 1), ("check_declared_names", 1)] : List (Str × Nat)) ++ ([("check_heads", 1), ("first_items", 1), ("are_distinct", 1), ("check_body", 3), ("_law_draws", 1), ("_law_take", 3), ("_law_number", 2), ("_law_index", 4), ("_law_place", 4), ("_law_expression", 5), ("_law_test", 4), ("_law_call", 5), ("_law_body", 6), ("_law_statement", 6), ("_law_tree", 2), ("_law_layout", 1), ("_law_scopes", 4), ("law", 1)] : List (Str × Nat))
  mt := [("Scope", [("enter", 2, "Scope.enter"), ("leave", 2, "Scope.leave"), ("find_reason", 2, "Scope.find_reason"), ("sees_all", 4, "Scope.sees_all"), ("is_free", 2, "Scope.is_free"), ("fits_size", 2, "Scope.fits_size"), ("may_call", 2, "Scope.may_call")])]
  ck := [("Scope", 5, "Scope.__init__")]
  at_ := [("Scope", ["variables", "integers", "params", "procedures", "callees"])]
  con := ([("PRIME", .int 2147483647), ("MAX_DEPTH", .int 4), ("MAX_CELLS", .int 32), ("MAX_SIZE", .int 8), ("MAX_NODES", .int 300), ("MAX_INTEGER", .int 1000), ("MAX_PROCEDURES", .int 8), ("MAX_HANDED", .int 6), ("LETTERS", .str "abcdefghijklmnopqrstuvwxyz"), ("LETTERS_AND_DIGITS", .str "abcdefghijklmnopqrstuvwxyz0123456789"), ("LONGEST_NAME", .int 8), ("RESERVED", .tup [.str "state", .str "param", .str "procedure", .str "beat", .str "set", .str "loop", .str "if", .str "call", .str "let", .str "at", .str "add", .str "sub", .str "mul", .str "div", .str "plus", .str "minus", .str "times", .str "rem", .str "less", .str "equal", .str "zero", .str "not"]), ("NODES", .tup [.str "statement", .str "expression", .str "index", .str "test"])] : List (Str × W))
  blt := ["len", "int", "range", "tuple", "list", "str", "isinstance", "bool", "abs", "max", "repr", "enumerate", "zip", "sum", "any", "all", "set"]
  exn := [("TreeError", ["path", "reason"], okTE)]
  sub := [("TreeError", [("TreeError", true)])]
  tab := [("ROWS", [("variables", some (.str "variable")), ("procedures", some (.str "procedure")), ("names", some (.str "name")), ("body", some (.str "statement")), ("indexes", some (.str "index")), ("variable", none), ("procedure", none), ("name", none), ("statement", none), ("index", none), ("tree", none), ("size", none), ("place", none), ("subscript", none), ("expression", none), ("test", none), ("number", none), ("integer", none), ("divisor", none)]), ("RECORDS", [("tree", some (.tup [.str "variables", .str "variables", .str "procedures", .str "body"])), ("variable", some (.tup [.str "name", .str "size"])), ("procedure", some (.tup [.str "name", .str "names", .str "variables", .str "body"])), ("place", some (.tup [.str "name", .str "subscript"])), ("variables", none), ("procedures", none), ("names", none), ("name", none), ("body", none), ("statement", none), ("indexes", none), ("index", none), ("size", none), ("subscript", none), ("expression", none), ("test", none), ("number", none), ("integer", none), ("divisor", none)])]
  tq := [("FORMS", [(["statement", "set"], ["place", "expression"]), (["statement", "loop"], ["name", "index", "body"]), (["statement", "if"], ["test", "body", "body"]), (["statement", "call"], ["name", "indexes", "names"]), (["statement", "let"], ["name", "expression", "body"]), (["expression", "number"], ["number"]), (["expression", "place"], ["name", "subscript"]), (["expression", "add"], ["expression", "expression"]), (["expression", "sub"], ["expression", "expression"]), (["expression", "mul"], ["expression", "expression"]), (["expression", "div"], ["expression", "expression"]), (["index", "integer"], ["integer"]), (["index", "index"], ["name"]), (["index", "beat"], []), (["index", "plus"], ["index", "index"]), (["index", "minus"], ["index", "index"]), (["index", "times"], ["index", "index"]), (["index", "rem"], ["index", "divisor"]), (["test", "less"], ["index", "index"]), (["test", "equal"], ["index", "index"]), (["test", "zero"], ["expression"]), (["test", "not"], ["test"])])]
  df := ([("is_integer", f_is_integer), ("is_between", f_is_between), ("is_name", f_is_name), ("parts_of", f_parts_of), ("is_plain", f_is_plain), ("parts_of_form", f_parts_of_form), ("pair_up", f_pair_up), ("inner_bodies", f_inner_bodies), ("bodies_of", f_bodies_of), ("Scope.__init__", f_Scope___init__), ("Scope.enter", f_Scope_enter), ("Scope.leave", f_Scope_leave), ("Scope.find_reason", f_Scope_find_reason), ("Scope.sees_all", f_Scope_sees_all), ("Scope.is_free", f_Scope_is_free), ("Scope.fits_size", f_Scope_fits_size), ("Scope.may_call", f_Scope_may_call), ("handed_names", f_handed_names), ("changed_names", f_changed_names), ("used_names", f_used_names)] : List (Str × Fd)) ++ ([("check", f_check), ("cells", f_cells), ("layout", f_layout), ("variables_at", f_variables_at), ("has_shape", f_has_shape), ("keeps_limits", f_keeps_limits), ("keeps_node_limits", f_keeps_node_limits), ("check_declared_names", f_check_declared_names), ("check_heads", f_check_heads), ("first_items", f_first_items), ("are_distinct", f_are_distinct), ("check_body", f_check_body), ("_law_draws", f__law_draws), ("_law_take", f__law_take), ("_law_number", f__law_number), ("_law_index", f__law_index), ("_law_place", f__law_place), ("_law_expression", f__law_expression), ("_law_test", f__law_test), ("_law_call", f__law_call)] : List (Str × Fd)) ++ ([("_law_body", f__law_body), ("_law_statement", f__law_statement), ("_law_tree", f__law_tree), ("_law_layout", f__law_layout), ("_law_scopes", f__law_scopes), ("law", f_law)] : List (Str × Fd))
end ET

namespace ET
open PySem Ev PyProof.Rows
abbrev t_ROWS : Tab := (T.tab.lookup ("ROWS" : Str)).getD []
abbrev t_RECORDS : Tab := (T.tab.lookup ("RECORDS" : Str)).getD []
abbrev t_FORMS : List Hd.Row := (T.tq.lookup ("FORMS" : Str)).getD []
abbrev subT (x : Str) : List (Str × Bool) := (T.sub.lookup x).getD []
/-- is_integer -/
def b_is_integer (cal mak : Str → Fn) : B := (bSeq (bRet (aAnd (aOp isiW (aVar 0) (aC (.ty "int"))) (aNot (aOp isiW (aVar 0) (aC (.ty "bool"))))))
  bNext)
theorem q_is_integer (k : Nat) : callI T (k + 2) "is_integer" = fnE ["value"] (b_is_integer (callI T (k + 1)) (callI T k)) := by kernel_rfl
/-- is_between -/
def b_is_between (cal mak : Str → Fn) : B := (bSeq (bRet (aAnd (aCall 1 (cal "is_integer") (aCons (aVar 0) aNil)) (aChain (cmpI fun i j => decide (i ≤ j)) (cmpI fun i j => decide (i ≤ j)) (aVar 1) (aVar 0) (aVar 2))))
  bNext)
theorem q_is_between (k : Nat) : callI T (k + 2) "is_between" = fnE ["value", "least", "most"] (b_is_between (callI T (k + 1)) (callI T k)) := by kernel_rfl
/-- is_name -/
def b_is_name (cal mak : Str → Fn) : B := (bSeq (bIf (tOr (tNot (tOf (aOp isiW (aVar 0) (aC (.ty "str"))))) (tNot (tBool (aChain (cmpI fun i j => decide (i ≤ j)) (cmpI fun i j => decide (i ≤ j)) (aC (.int (1))) (aUn lenW (aVar 0)) (aC (.int (8)))))))
  (bSeq (bRet (aC (.bl false)))
  bNext)
  bNext)
  (bSeq (bIf (tOr (tBool (aOp ninO (aOp ixW (aVar 0) (aC (.int (0)))) (aC (.str "abcdefghijklmnopqrstuvwxyz")))) (tBool (aOp inO (aVar 0) (aC (.tup [(.str "state"), (.str "param"), (.str "procedure"), (.str "beat"), (.str "set"), (.str "loop"), (.str "if"), (.str "call"), (.str "let"), (.str "at"), (.str "add"), (.str "sub"), (.str "mul"), (.str "div"), (.str "plus"), (.str "minus"), (.str "times"), (.str "rem"), (.str "less"), (.str "equal"), (.str "zero"), (.str "not")])))))
  (bSeq (bRet (aC (.bl false)))
  bNext)
  bNext)
  (bSeq (bRet (aQ allQ (aComp [1] (aIt (aVar 0)) (gNm 1) tYes (aOp inO (aVar 1) (aC (.str "abcdefghijklmnopqrstuvwxyz0123456789"))))))
  bNext)))
theorem q_is_name (k : Nat) : callI T (k + 2) "is_name" = fnE ["value", "character"] (b_is_name (callI T (k + 1)) (callI T k)) := by kernel_rfl
/-- parts_of -/
def b_parts_of (cal mak : Str → Fn) : B := (bSeq (bIf (tBool (aOp eqO (aVar 0) (aC (.str "subscript"))))
  (bSeq (bRet (aIf (tBool (aOp isW (aVar 1) (aC .non))) (aLst aNil) (aLst (aCons (aTup (aCons (aC (.str "index")) (aCons (aVar 1) aNil))) aNil))))
  bNext)
  bNext)
  (bSeq (bIf (tBool (aOp inO (aVar 0) (aTup (aCons (aC (.str "name")) (aCons (aC (.str "size")) (aCons (aC (.str "number")) (aCons (aC (.str "integer")) (aCons (aC (.str "divisor")) aNil))))))))
  (bSeq (bRet (aIf (tOf (aCall 2 (cal "is_plain") (aCons (aVar 0) (aCons (aVar 1) aNil)))) (aLst aNil) (aC .non)))
  bNext)
  bNext)
  (bSeq (bIf (tNot (tOf (aOp isiW (aVar 1) (aC (.ty "tuple")))))
  (bSeq (bRet (aC .non))
  bNext)
  bNext)
  (bSeq (bIf (tBool (aUn (tabIn t_ROWS) (aVar 0)))
  (bSeq (bRet (newL (aComp [2] (aIt (aVar 1)) (gNm 2) tYes (aTup (aCons (aUn (tabW t_ROWS) (aVar 0)) (aCons (aVar 2) aNil))))))
  bNext)
  bNext)
  (bSeq (bIf (tBool (aUn (tabIn t_RECORDS) (aVar 0)))
  (bSeq (bRet (aCall 2 (cal "pair_up") (aCons (aUn (tabW t_RECORDS) (aVar 0)) (aCons (aVar 1) aNil))))
  bNext)
  bNext)
  (bSeq (bRet (aCall 2 (cal "parts_of_form") (aCons (aVar 0) (aCons (aVar 1) aNil))))
  bNext))))))
theorem q_parts_of (k : Nat) : callI T (k + 2) "parts_of" = fnE ["kind", "value", "part"] (b_parts_of (callI T (k + 1)) (callI T k)) := by kernel_rfl
/-- is_plain -/
def b_is_plain (cal mak : Str → Fn) : B := (bSeq (bIf (tBool (aOp eqO (aVar 0) (aC (.str "name"))))
  (bSeq (bRet (aCall 1 (cal "is_name") (aCons (aVar 1) aNil)))
  bNext)
  bNext)
  (bSeq (bIf (tBool (aOp eqO (aVar 0) (aC (.str "size"))))
  (bSeq (bRet (aCall 3 (cal "is_between") (aCons (aVar 1) (aCons (aC (.int (0))) (aCons (aC (.int (8))) aNil)))))
  bNext)
  bNext)
  (bSeq (bIf (tBool (aOp eqO (aVar 0) (aC (.str "number"))))
  (bSeq (bRet (aCall 3 (cal "is_between") (aCons (aVar 1) (aCons (aC (.int (0))) (aCons (aOp subW (aC (.int (2147483647))) (aC (.int (1)))) aNil)))))
  bNext)
  bNext)
  (bSeq (bRet (aCall 3 (cal "is_between") (aCons (aVar 1) (aCons (aIf (tBool (aOp eqO (aVar 0) (aC (.str "divisor")))) (aC (.int (1))) (aC (.int (0)))) (aCons (aC (.int (1000))) aNil)))))
  bNext))))
theorem q_is_plain (k : Nat) : callI T (k + 2) "is_plain" = fnE ["kind", "value"] (b_is_plain (callI T (k + 1)) (callI T k)) := by kernel_rfl
/-- parts_of_form -/
def b_parts_of_form (cal mak : Str → Fn) : B := (bSeq (bIf (tOr (tNot (tOf (aVar 1))) (tNot (tOf (aOp isiW (aOp ixW (aVar 1) (aC (.int (0)))) (aC (.ty "str"))))))
  (bSeq (bRet (aC .non))
  bNext)
  bNext)
  (bSeq (bAsg (aUn (fgetW t_FORMS) (aTup (aCons (aVar 0) (aCons (aOp ixW (aVar 1) (aC (.int (0)))) aNil)))) (gNm 2))
  (bSeq (bRet (aIf (tBool (aOp isW (aVar 2) (aC .non))) (aC .non) (aCall 2 (cal "pair_up") (aCons (aVar 2) (aCons (aSl (aVar 1) (oSome (aC (.int (1)))) oNone) aNil)))))
  bNext)))
theorem q_parts_of_form (k : Nat) : callI T (k + 2) "parts_of_form" = fnE ["kind", "value", "kinds"] (b_parts_of_form (callI T (k + 1)) (callI T k)) := by kernel_rfl
/-- pair_up -/
def b_pair_up (cal mak : Str → Fn) : B := (bSeq (bRet (aIf (tBool (aOp eqO (aUn lenW (aVar 0)) (aUn lenW (aVar 1)))) (aOp lzipW (aVar 0) (aVar 1)) (aC .non)))
  bNext)
theorem q_pair_up (k : Nat) : callI T (k + 2) "pair_up" = fnE ["kinds", "parts"] (b_pair_up (callI T (k + 1)) (callI T k)) := by kernel_rfl
/-- inner_bodies -/
def b_inner_bodies (cal mak : Str → Fn) : B := (bSeq (bRet (newL (aComp [1, 2] (aIt (aCall 2 (cal "parts_of") (aCons (aC (.str "statement")) (aCons (aVar 0) aNil)))) (gTu [(gNm 1), (gNm 2)]) (tBool (aOp eqO (aVar 1) (aC (.str "body")))) (aVar 2))))
  bNext)
theorem q_inner_bodies (k : Nat) : callI T (k + 2) "inner_bodies" = fnE ["statement", "kind", "part"] (b_inner_bodies (callI T (k + 1)) (callI T k)) := by kernel_rfl
/-- bodies_of -/
def b_bodies_of (cal mak : Str → Fn) : B := (bSeq (bAsg (aVar 0) (gTu [(gNm 1), (gNm 2), (gNm 3), (gNm 4)]))
  (bSeq (bAsg (newL (aComp [6, 7, 8, 9] (aIt (aVar 3)) (gTu [(gNm 6), (gNm 7), (gNm 8), (gNm 9)]) tYes (aTup (aCons (aVar 7) (aCons (aOp addW (aVar 8) (aVar 2)) (aCons (aVar 9) aNil)))))) (gNm 5))
  (bSeq (bRet (aOp addW (aVar 5) (aLst (aCons (aTup (aCons (aTup aNil) (aCons (aOp addW (aVar 1) (aVar 2)) (aCons (aVar 4) aNil)))) aNil))))
  bNext)))
theorem q_bodies_of (k : Nat) : callI T (k + 2) "bodies_of" = fnE ["tree", "state", "params", "procedures", "beat", "triples", "_", "indexes", "references", "body"] (b_bodies_of (callI T (k + 1)) (callI T k)) := by kernel_rfl
/-- Scope.__init__ -/
def b_Scope___init__ (cal mak : Str → Fn) : B := (bSeq (bAsg (aTup (aCons (aOp ixW (aVar 1) (aC (.int (1)))) (aCons (aOp ixW (aVar 1) (aC (.int (2)))) aNil))) (gTu [(gNm 5), (gNm 6)]))
  (bSeq (bFld (atB T "variables") "variables" (aDc [7, 8] (aIt (aVar 3)) (gTu [(gNm 7), (gNm 8)]) tYes (aVar 7) (aVar 8)) (aVar 0))
  (bSeq (bFld (atB T "integers") "integers" (aDc [7] (aIt (aVar 4)) (gNm 7) tYes (aVar 7) (aC (.bl true))) (aVar 0))
  (bSeq (bFld (atB T "params") "params" (aDc [7, 9] (aIt (aVar 5)) (gTu [(gNm 7), (gNm 9)]) tYes (aVar 7) (aC (.bl true))) (aVar 0))
  (bSeq (bFld (atB T "procedures") "procedures" (aDc [10] (aIt (aVar 6)) (gNm 10) tYes (aOp ixW (aVar 10) (aC (.int (0)))) (aC (.bl true))) (aVar 0))
  (bSeq (bFld (atB T "callees") "callees" (aDc [10] (aIt (aSl (aVar 6) oNone (oSome (aOp addW (aVar 2) (aC (.int (1))))))) (gNm 10) tYes (aOp ixW (aVar 10) (aC (.int (0)))) (aVar 10)) (aVar 0))
  bNext))))))
theorem q_Scope___init__ (k : Nat) : callI T (k + 2) "Scope.__init__" = fnE ["self", "tree", "number", "variables", "integers", "params", "procedures", "name", "size", "_", "procedure"] (b_Scope___init__ (callI T (k + 1)) (callI T k)) := by kernel_rfl
/-- Scope.enter -/
def b_Scope_enter (cal mak : Str → Fn) : B := (bSeq (bIf (tBool (aOp eqO (aOp ixW (aVar 1) (aC (.int (0)))) (aC (.str "loop"))))
  (bSeq (bAsg (aC (.bl true)) (gSb (aUn (fldW (atB T "integers") "integers") (aVar 0)) (aOp ixW (aVar 1) (aC (.int (1))))))
  bNext)
  (bSeq (bIf (tBool (aOp eqO (aOp ixW (aVar 1) (aC (.int (0)))) (aC (.str "let"))))
  (bSeq (bAsg (aC (.int (0))) (gSb (aUn (fldW (atB T "variables") "variables") (aVar 0)) (aOp ixW (aVar 1) (aC (.int (1))))))
  bNext)
  bNext)
  bNext))
  bNext)
theorem q_Scope_enter (k : Nat) : callI T (k + 2) "Scope.enter" = fnE ["self", "statement"] (b_Scope_enter (callI T (k + 1)) (callI T k)) := by kernel_rfl
/-- Scope.leave -/
def b_Scope_leave (cal mak : Str → Fn) : B := (bSeq (bIf (tBool (aOp eqO (aOp ixW (aVar 1) (aC (.int (0)))) (aC (.str "loop"))))
  (bSeq (bDel (aUn (fldW (atB T "integers") "integers") (aVar 0)) (aOp ixW (aVar 1) (aC (.int (1)))))
  bNext)
  (bSeq (bIf (tBool (aOp eqO (aOp ixW (aVar 1) (aC (.int (0)))) (aC (.str "let"))))
  (bSeq (bDel (aUn (fldW (atB T "variables") "variables") (aVar 0)) (aOp ixW (aVar 1) (aC (.int (1)))))
  bNext)
  bNext)
  bNext))
  bNext)
theorem q_Scope_leave (k : Nat) : callI T (k + 2) "Scope.leave" = fnE ["self", "statement"] (b_Scope_leave (callI T (k + 1)) (callI T k)) := by kernel_rfl
/-- Scope.find_reason -/
def b_Scope_find_reason (cal mak : Str → Fn) : B := (bSeq (bAsg (aCall 1 (cal "used_names") (aCons (aVar 1) aNil)) (gTu [(gNm 2), (gNm 3)]))
  (bSeq (bIf (tNot (tOf (aMeth (mtF T cal "sees_all") (aVar 0) (aCons (aVar 1) (aCons (aVar 2) (aCons (aVar 3) aNil))))))
  (bSeq (bRet (aC (.str "scope")))
  bNext)
  bNext)
  (bSeq (bIf (tNot (tOf (aQ allQ (aComp [4] (aIt (aVar 2)) (gNm 4) tYes (aMeth (mtF T cal "fits_size") (aVar 0) (aCons (aVar 4) aNil))))))
  (bSeq (bRet (aC (.str "size")))
  bNext)
  bNext)
  (bSeq (bIf (tOf (aQ anyQ (aComp [5] (aIt (aCall 1 (cal "changed_names") (aCons (aVar 1) aNil))) (gNm 5) tYes (aOp inO (aVar 5) (aUn (fldW (atB T "params") "params") (aVar 0))))))
  (bSeq (bRet (aC (.str "assigned")))
  bNext)
  bNext)
  (bSeq (bIf (tAnd (tBool (aOp eqO (aOp ixW (aVar 1) (aC (.int (0)))) (aC (.str "call")))) (tNot (tOf (aMeth (mtF T cal "may_call") (aVar 0) (aCons (aVar 1) aNil)))))
  (bSeq (bRet (aC (.str "call")))
  bNext)
  bNext)
  (bSeq (bRet (aC .non))
  bNext))))))
theorem q_Scope_find_reason (k : Nat) : callI T (k + 2) "Scope.find_reason" = fnE ["self", "statement", "places", "integers", "place", "name"] (b_Scope_find_reason (callI T (k + 1)) (callI T k)) := by kernel_rfl
/-- Scope.sees_all -/
def b_Scope_sees_all (cal mak : Str → Fn) : B := (bSeq (bAsg (aOp addW (newL (aComp [5, 6] (aIt (aVar 2)) (gTu [(gNm 5), (gNm 6)]) tYes (aVar 5))) (aCall 1 (cal "handed_names") (aCons (aVar 1) aNil))) (gNm 4))
  (bSeq (bIf (tNot (tOf (aQ allQ (aComp [5] (aIt (aVar 4)) (gNm 5) tYes (aOp inO (aVar 5) (aUn (fldW (atB T "variables") "variables") (aVar 0)))))))
  (bSeq (bRet (aC (.bl false)))
  bNext)
  bNext)
  (bSeq (bIf (tNot (tOf (aQ allQ (aComp [5] (aIt (aVar 3)) (gNm 5) tYes (aOp inO (aVar 5) (aUn (fldW (atB T "integers") "integers") (aVar 0)))))))
  (bSeq (bRet (aC (.bl false)))
  bNext)
  bNext)
  (bSeq (bRet (aOr (aOp ninO (aOp ixW (aVar 1) (aC (.int (0)))) (aTup (aCons (aC (.str "loop")) (aCons (aC (.str "let")) aNil)))) (aMeth (mtF T cal "is_free") (aVar 0) (aCons (aOp ixW (aVar 1) (aC (.int (1)))) aNil))))
  bNext))))
theorem q_Scope_sees_all (k : Nat) : callI T (k + 2) "Scope.sees_all" = fnE ["self", "statement", "places", "integers", "used", "name", "_"] (b_Scope_sees_all (callI T (k + 1)) (callI T k)) := by kernel_rfl
/-- Scope.is_free -/
def b_Scope_is_free (cal mak : Str → Fn) : B := (bSeq (bRet (aAnd (aOp ninO (aVar 1) (aUn (fldW (atB T "variables") "variables") (aVar 0))) (aAnd (aOp ninO (aVar 1) (aUn (fldW (atB T "integers") "integers") (aVar 0))) (aOp ninO (aVar 1) (aUn (fldW (atB T "procedures") "procedures") (aVar 0))))))
  bNext)
theorem q_Scope_is_free (k : Nat) : callI T (k + 2) "Scope.is_free" = fnE ["self", "name"] (b_Scope_is_free (callI T (k + 1)) (callI T k)) := by kernel_rfl
/-- Scope.fits_size -/
def b_Scope_fits_size (cal mak : Str → Fn) : B := (bSeq (bAsg (aVar 1) (gTu [(gNm 2), (gNm 3)]))
  (bSeq (bRet (aOp eqO (aOp eqO (aOp ixW (aUn (fldW (atB T "variables") "variables") (aVar 0)) (aVar 2)) (aC (.int (0)))) (aOp isW (aVar 3) (aC .non))))
  bNext))
theorem q_Scope_fits_size (k : Nat) : callI T (k + 2) "Scope.fits_size" = fnE ["self", "place", "name", "index"] (b_Scope_fits_size (callI T (k + 1)) (callI T k)) := by kernel_rfl
/-- Scope.may_call -/
def b_Scope_may_call (cal mak : Str → Fn) : B := (bSeq (bAsg (aVar 1) (gTu [(gNm 2), (gNm 3), (gNm 4), (gNm 5)]))
  (bSeq (bIf (tOr (tBool (aOp ninO (aVar 3) (aUn (fldW (atB T "callees") "callees") (aVar 0)))) (tBool (aOp neO (aUn lenSW (aVar 5)) (aUn lenW (aVar 5)))))
  (bSeq (bRet (aC (.bl false)))
  bNext)
  bNext)
  (bSeq (bAsg (aOp ixW (aUn (fldW (atB T "callees") "callees") (aVar 0)) (aVar 3)) (gTu [(gNm 2), (gNm 6), (gNm 7), (gNm 2)]))
  (bSeq (bAsg (newL (aComp [9] (aIt (aVar 5)) (gNm 9) tYes (aOp ixW (aUn (fldW (atB T "variables") "variables") (aVar 0)) (aVar 9)))) (gNm 8))
  (bSeq (bRet (aAnd (aOp eqO (aUn lenW (aVar 4)) (aUn lenW (aVar 6))) (aOp eqO (aVar 8) (newL (aComp [2, 10] (aIt (aVar 7)) (gTu [(gNm 2), (gNm 10)]) tYes (aVar 10))))))
  bNext)))))
theorem q_Scope_may_call (k : Nat) : callI T (k + 2) "Scope.may_call" = fnE ["self", "statement", "_", "name", "indexes", "handed", "integers", "references", "sizes", "variable", "size"] (b_Scope_may_call (callI T (k + 1)) (callI T k)) := by kernel_rfl
/-- handed_names -/
def b_handed_names (cal mak : Str → Fn) : B := (bSeq (bRet (aIf (tBool (aOp eqO (aOp ixW (aVar 0) (aC (.int (0)))) (aC (.str "call")))) (aUn lstW (aOp ixW (aVar 0) (aC (.int (3))))) (aLst aNil)))
  bNext)
theorem q_handed_names (k : Nat) : callI T (k + 2) "handed_names" = fnE ["statement"] (b_handed_names (callI T (k + 1)) (callI T k)) := by kernel_rfl
/-- changed_names -/
def b_changed_names (cal mak : Str → Fn) : B := (bSeq (bRet (aIf (tBool (aOp eqO (aOp ixW (aVar 0) (aC (.int (0)))) (aC (.str "set")))) (aLst (aCons (aOp ixW (aOp ixW (aVar 0) (aC (.int (1)))) (aC (.int (0)))) aNil)) (aCall 1 (cal "handed_names") (aCons (aVar 0) aNil))))
  bNext)
theorem q_changed_names (k : Nat) : callI T (k + 2) "changed_names" = fnE ["statement"] (b_changed_names (callI T (k + 1)) (callI T k)) := by kernel_rfl
/-- used_names -/
def b_used_names (cal mak : Str → Fn) : B := (bSeq (bAsg (aTup (aCons (aLst aNil) (aCons (aLst aNil) aNil))) (gTu [(gNm 1), (gNm 2)]))
  (bSeq (bAsg (aLst (aCons (aTup (aCons (aC (.str "statement")) (aCons (aVar 0) aNil))) aNil)) (gNm 3))
  (bSeq (bWh (tOf (aVar 3))
  (bSeq (bAsg (aBM isLst popW (aVar 3) aNil) (gTu [(gNm 4), (gNm 5)]))
  (bSeq (bIf (tBool (aOp eqO (aVar 4) (aC (.str "place"))))
  (bSeq (bExpr (aBM isLst appW (aVar 1) (aCons (aVar 5) aNil)))
  bNext)
  (bSeq (bIf (tAnd (tBool (aOp eqO (aVar 4) (aC (.str "expression")))) (tBool (aOp eqO (aOp ixW (aVar 5) (aC (.int (0)))) (aC (.str "place")))))
  (bSeq (bExpr (aBM isLst appW (aVar 1) (aCons (aSl (aVar 5) (oSome (aC (.int (1)))) oNone) aNil)))
  bNext)
  (bSeq (bIf (tAnd (tBool (aOp eqO (aVar 4) (aC (.str "index")))) (tBool (aOp eqO (aOp ixW (aVar 5) (aC (.int (0)))) (aC (.str "index")))))
  (bSeq (bExpr (aBM isLst appW (aVar 2) (aCons (aOp ixW (aVar 5) (aC (.int (1)))) aNil)))
  bNext)
  bNext)
  bNext))
  bNext))
  (bSeq (bAug 3 augAdd (newL (aComp [6] (aIt (aCall 2 (cal "parts_of") (aCons (aVar 4) (aCons (aVar 5) aNil)))) (gNm 6) (tBool (aOp neO (aOp ixW (aVar 6) (aC (.int (0)))) (aC (.str "body")))) (aVar 6))))
  bNext))))
  (bSeq (bRet (aTup (aCons (aVar 1) (aCons (aVar 2) aNil))))
  bNext))))
theorem q_used_names (k : Nat) : callI T (k + 2) "used_names" = fnE ["statement", "places", "integers", "waiting", "kind", "value", "part"] (b_used_names (callI T (k + 1)) (callI T k)) := by kernel_rfl
/-- check -/
def b_check (cal mak : Str → Fn) : B := (bSeq (bIf (tNot (tOf (aCall 1 (cal "has_shape") (aCons (aVar 0) aNil))))
  (bSeq (bRaise "TreeError" ["path", "reason"] okTE (aCons (aTup aNil) (aCons (aC (.str "shape")) aNil)))
  bNext)
  bNext)
  (bSeq (bIf (tNot (tOf (aCall 1 (cal "keeps_limits") (aCons (aVar 0) aNil))))
  (bSeq (bRaise "TreeError" ["path", "reason"] okTE (aCons (aTup aNil) (aCons (aC (.str "limits")) aNil)))
  bNext)
  bNext)
  (bSeq (bExpr (aCall 1 (cal "check_declared_names") (aCons (aVar 0) aNil)))
  (bSeq (bExpr (aCall 1 (cal "check_heads") (aCons (aVar 0) aNil)))
  (bSeq (bFor (aEnu (aCall 1 (cal "bodies_of") (aCons (aVar 0) aNil))) (gTu [(gNm 1), (gTu [(gNm 2), (gNm 3), (gNm 4)])])
  (bSeq (bExpr (aCall 3 (cal "check_body") (aCons (aVar 4) (aCons (aTup (aCons (aVar 1) aNil)) (aCons (aMake "Scope" 5 (mak "Scope.__init__") (aCons (aVar 0) (aCons (aVar 1) (aCons (aVar 3) (aCons (aVar 2) aNil))))) aNil)))))
  bNext))
  bNext)))))
theorem q_check (k : Nat) : callI T (k + 2) "check" = fnE ["tree", "number", "integers", "variables", "body"] (b_check (callI T (k + 1)) (callI T k)) := by kernel_rfl
/-- cells -/
def b_cells (cal mak : Str → Fn) : B := (bSeq (bRet (aQ sumQ (aComp [1, 2] (aIt (aVar 0)) (gTu [(gNm 1), (gNm 2)]) tYes (aOp max2 (aC (.int (1))) (aVar 2)))))
  bNext)
theorem q_cells (k : Nat) : callI T (k + 2) "cells" = fnE ["declarations", "_", "size"] (b_cells (callI T (k + 1)) (callI T k)) := by kernel_rfl
/-- layout -/
def b_layout (cal mak : Str → Fn) : B := (bSeq (bAsg (aLst aNil) (gNm 1))
  (bSeq (bAsg (aC (.int (0))) (gNm 2))
  (bSeq (bFor (aIt (aVar 0)) (gTu [(gNm 3), (gNm 4)])
  (bSeq (bExpr (aBM isLst appW (aVar 1) (aCons (aTup (aCons (aVar 3) (aCons (aVar 2) (aCons (aVar 4) aNil)))) aNil)))
  (bSeq (bAug 2 augAdd (aOp max2 (aC (.int (1))) (aVar 4)))
  bNext)))
  (bSeq (bRet (aUn tupW (aVar 1)))
  bNext))))
theorem q_layout (k : Nat) : callI T (k + 2) "layout" = fnE ["declarations", "triples", "first", "name", "size"] (b_layout (callI T (k + 1)) (callI T k)) := by kernel_rfl
/-- variables_at -/
def b_variables_at (cal mak : Str → Fn) : B := (bSeq (bAsg (aOp ixW (aCall 1 (cal "bodies_of") (aCons (aVar 0) aNil)) (aOp ixW (aVar 1) (aC (.int (0))))) (gTu [(gNm 2), (gNm 3), (gNm 4)]))
  (bSeq (bAsg (aLst aNil) (gNm 5))
  (bSeq (bFor (aZip (aUn (stepW 1) (aVar 1)) (aUn (stepW 2) (aVar 1))) (gTu [(gNm 6), (gNm 7)])
  (bSeq (bAsg (aOp ixW (aVar 4) (aVar 6)) (gNm 8))
  (bSeq (bIf (tBool (aOp eqO (aOp ixW (aVar 8) (aC (.int (0)))) (aC (.str "let"))))
  (bSeq (bExpr (aBM isLst appW (aVar 5) (aCons (aTup (aCons (aOp ixW (aVar 8) (aC (.int (1)))) (aCons (aC (.int (0))) aNil))) aNil)))
  bNext)
  bNext)
  (bSeq (bAsg (aOp ixW (aCall 1 (cal "inner_bodies") (aCons (aVar 8) aNil)) (aVar 7)) (gNm 4))
  bNext))))
  (bSeq (bRet (aOp addW (aVar 3) (aUn tupW (aVar 5))))
  bNext))))
theorem q_variables_at (k : Nat) : callI T (k + 2) "variables_at" = fnE ["tree", "path", "_", "variables", "body", "lets", "at", "number", "statement"] (b_variables_at (callI T (k + 1)) (callI T k)) := by kernel_rfl
/-- has_shape -/
def b_has_shape (cal mak : Str → Fn) : B := (bSeq (bAsg (aLst (aCons (aTup (aCons (aC (.str "tree")) (aCons (aVar 0) aNil))) aNil)) (gNm 1))
  (bSeq (bWh (tOf (aVar 1))
  (bSeq (bAsg (aBM isLst popW (aVar 1) aNil) (gTu [(gNm 2), (gNm 3)]))
  (bSeq (bAsg (aCall 2 (cal "parts_of") (aCons (aVar 2) (aCons (aVar 3) aNil))) (gNm 4))
  (bSeq (bIf (tBool (aOp isW (aVar 4) (aC .non)))
  (bSeq (bRet (aC (.bl false)))
  bNext)
  bNext)
  (bSeq (bAug 1 augAdd (aVar 4))
  bNext)))))
  (bSeq (bRet (aC (.bl true)))
  bNext)))
theorem q_has_shape (k : Nat) : callI T (k + 2) "has_shape" = fnE ["tree", "waiting", "kind", "value", "parts"] (b_has_shape (callI T (k + 1)) (callI T k)) := by kernel_rfl
/-- keeps_limits -/
def b_keeps_limits (cal mak : Str → Fn) : B := (bSeq (bAsg (aVar 0) (gTu [(gNm 1), (gNm 2), (gNm 3), (gNm 4)]))
  (bSeq (bIf (tOr (tNot (tBool (aChain (cmpI fun i j => decide (i ≤ j)) (cmpI fun i j => decide (i ≤ j)) (aC (.int (1))) (aCall 1 (cal "cells") (aCons (aVar 1) aNil)) (aC (.int (32)))))) (tBool (aOp (cmpI fun i j => decide (i > j)) (aCall 1 (cal "cells") (aCons (aVar 2) aNil)) (aC (.int (32))))))
  (bSeq (bRet (aC (.bl false)))
  bNext)
  bNext)
  (bSeq (bIf (tBool (aOp (cmpI fun i j => decide (i > j)) (aUn lenW (aVar 3)) (aC (.int (8)))))
  (bSeq (bRet (aC (.bl false)))
  bNext)
  bNext)
  (bSeq (bFor (aIt (aVar 3)) (gTu [(gNm 4), (gNm 5), (gNm 6), (gNm 4)])
  (bSeq (bIf (tOr (tBool (aOp (cmpI fun i j => decide (i > j)) (aUn lenW (aVar 5)) (aC (.int (6))))) (tBool (aOp (cmpI fun i j => decide (i > j)) (aUn lenW (aVar 6)) (aC (.int (6))))))
  (bSeq (bRet (aC (.bl false)))
  bNext)
  bNext)
  bNext))
  (bSeq (bRet (aCall 1 (cal "keeps_node_limits") (aCons (aVar 0) aNil)))
  bNext)))))
theorem q_keeps_limits (k : Nat) : callI T (k + 2) "keeps_limits" = fnE ["tree", "state", "params", "procedures", "_", "integers", "references"] (b_keeps_limits (callI T (k + 1)) (callI T k)) := by kernel_rfl
/-- keeps_node_limits -/
def b_keeps_node_limits (cal mak : Str → Fn) : B := (bSeq (bAsg (aC (.int (0))) (gNm 1))
  (bSeq (bAsg (aLst (aCons (aTup (aCons (aC (.str "tree")) (aCons (aVar 0) (aCons (aC .non) (aCons (aC (.int (0))) aNil))))) aNil)) (gNm 2))
  (bSeq (bWh (tOf (aVar 2))
  (bSeq (bAsg (aBM isLst popW (aVar 2) aNil) (gTu [(gNm 3), (gNm 4), (gNm 5), (gNm 6)]))
  (bSeq (bIf (tBool (aOp inO (aVar 3) (aC (.tup [(.str "statement"), (.str "expression"), (.str "index"), (.str "test")]))))
  (bSeq (bAsg (aIf (tBool (aOp eqO (aVar 3) (aVar 5))) (aOp addW (aVar 6) (aC (.int (1)))) (aC (.int (1)))) (gNm 6))
  (bSeq (bAsg (aVar 3) (gNm 5))
  (bSeq (bAug 1 augAdd (aC (.int (1))))
  bNext)))
  bNext)
  (bSeq (bIf (tOr (tBool (aOp (cmpI fun i j => decide (i > j)) (aVar 6) (aC (.int (4))))) (tBool (aOp (cmpI fun i j => decide (i > j)) (aVar 1) (aC (.int (300))))))
  (bSeq (bRet (aC (.bl false)))
  bNext)
  bNext)
  (bSeq (bAug 2 augAdd (newL (aComp [7, 8] (aIt (aCall 2 (cal "parts_of") (aCons (aVar 3) (aCons (aVar 4) aNil)))) (gTu [(gNm 7), (gNm 8)]) tYes (aTup (aCons (aVar 7) (aCons (aVar 8) (aCons (aVar 5) (aCons (aVar 6) aNil))))))))
  bNext)))))
  (bSeq (bRet (aC (.bl true)))
  bNext))))
theorem q_keeps_node_limits (k : Nat) : callI T (k + 2) "keeps_node_limits" = fnE ["tree", "count", "waiting", "kind", "value", "around", "depth", "inner", "part"] (b_keeps_node_limits (callI T (k + 1)) (callI T k)) := by kernel_rfl
/-- check_declared_names -/
def b_check_declared_names (cal mak : Str → Fn) : B := (bSeq (bAsg (aVar 0) (gTu [(gNm 1), (gNm 2), (gNm 3), (gNm 4)]))
  (bSeq (bIf (tNot (tOf (aCall 1 (cal "are_distinct") (aCons (aCall 1 (cal "first_items") (aCons (aOp addW (aOp addW (aVar 1) (aVar 2)) (aVar 3)) aNil)) aNil))))
  (bSeq (bRaise "TreeError" ["path", "reason"] okTE (aCons (aTup aNil) (aCons (aC (.str "names")) aNil)))
  bNext)
  bNext)
  bNext))
theorem q_check_declared_names (k : Nat) : callI T (k + 2) "check_declared_names" = fnE ["tree", "state", "params", "procedures", "_"] (b_check_declared_names (callI T (k + 1)) (callI T k)) := by kernel_rfl
/-- check_heads -/
def b_check_heads (cal mak : Str → Fn) : B := (bSeq (bAsg (aVar 0) (gTu [(gNm 1), (gNm 2), (gNm 3), (gNm 1)]))
  (bSeq (bAsg (aCall 1 (cal "first_items") (aCons (aOp addW (aVar 2) (aVar 3)) aNil)) (gNm 4))
  (bSeq (bFor (aEnu (aVar 3)) (gTu [(gNm 5), (gTu [(gNm 1), (gNm 6), (gNm 7), (gNm 1)])])
  (bSeq (bIf (tNot (tOf (aCall 1 (cal "are_distinct") (aCons (aOp addW (aOp addW (aUn lstW (aVar 6)) (aCall 1 (cal "first_items") (aCons (aVar 7) aNil))) (aVar 4)) aNil))))
  (bSeq (bRaise "TreeError" ["path", "reason"] okTE (aCons (aTup (aCons (aVar 5) aNil)) (aCons (aC (.str "names")) aNil)))
  bNext)
  bNext)
  bNext))
  bNext)))
theorem q_check_heads (k : Nat) : callI T (k + 2) "check_heads" = fnE ["tree", "_", "params", "procedures", "taken", "number", "integers", "references"] (b_check_heads (callI T (k + 1)) (callI T k)) := by kernel_rfl
/-- first_items -/
def b_first_items (cal mak : Str → Fn) : B := (bSeq (bRet (newL (aComp [1] (aIt (aVar 0)) (gNm 1) tYes (aOp ixW (aVar 1) (aC (.int (0)))))))
  bNext)
theorem q_first_items (k : Nat) : callI T (k + 2) "first_items" = fnE ["rows", "row"] (b_first_items (callI T (k + 1)) (callI T k)) := by kernel_rfl
/-- are_distinct -/
def b_are_distinct (cal mak : Str → Fn) : B := (bSeq (bRet (aOp eqO (aUn lenSW (aVar 0)) (aUn lenW (aVar 0))))
  bNext)
theorem q_are_distinct (k : Nat) : callI T (k + 2) "are_distinct" = fnE ["names"] (b_are_distinct (callI T (k + 1)) (callI T k)) := by kernel_rfl
/-- check_body -/
def b_check_body (cal mak : Str → Fn) : B := (bSeq (bFor (aEnu (aVar 0)) (gTu [(gNm 3), (gNm 4)])
  (bSeq (bAsg (aOp addW (aVar 1) (aTup (aCons (aVar 3) aNil))) (gNm 5))
  (bSeq (bAsg (aMeth (mtF T cal "find_reason") (aVar 2) (aCons (aVar 4) aNil)) (gNm 6))
  (bSeq (bIf (tBool (aOp isnW (aVar 6) (aC .non)))
  (bSeq (bRaise "TreeError" ["path", "reason"] okTE (aCons (aVar 5) (aCons (aVar 6) aNil)))
  bNext)
  bNext)
  (bSeq (bExpr (aMeth (mtF T cal "enter") (aVar 2) (aCons (aVar 4) aNil)))
  (bSeq (bFor (aEnu (aCall 1 (cal "inner_bodies") (aCons (aVar 4) aNil))) (gTu [(gNm 7), (gNm 8)])
  (bSeq (bExpr (aCall 3 (cal "check_body") (aCons (aVar 8) (aCons (aOp addW (aVar 5) (aTup (aCons (aVar 7) aNil))) (aCons (aVar 2) aNil)))))
  bNext))
  (bSeq (bExpr (aMeth (mtF T cal "leave") (aVar 2) (aCons (aVar 4) aNil)))
  bNext)))))))
  bNext)
theorem q_check_body (k : Nat) : callI T (k + 2) "check_body" = fnE ["body", "path", "scope", "at", "statement", "here", "reason", "number", "inner"] (b_check_body (callI T (k + 1)) (callI T k)) := by kernel_rfl
/-- _law_draws -/
def b__law_draws (cal mak : Str → Fn) : B := (bSeq (bAsg (aLst aNil) (gNm 1))
  (bSeq (bFor (aIt (aSl (aVar 0) oNone (oSome (aC (.int (63)))))) (gNm 2)
  (bSeq (bAsg (aUn absW (aVar 2)) (gNm 3))
  (bSeq (bIf (tBool (aOp (cmpI fun i j => decide (i ≥ j)) (aVar 3) (aOp powW (aC (.int (10))) (aC (.int (18))))))
  (bSeq (bFor (aRng1 (aC (.int (60)))) (gNm 4)
  (bSeq (bIf (tBool (aOp (cmpI fun i j => decide (i > j)) (aVar 3) (aC (.int (0)))))
  (bSeq (bExpr (aBM isLst appW (aVar 1) (aCons (aOp modW (aUn intW (aVar 3)) (aC (.int (1009)))) aNil)))
  (bSeq (bAsg (aOp divW (aVar 3) (aC (.int (1009)))) (gNm 3))
  bNext))
  bNext)
  bNext))
  bNext)
  (bSeq (bAsg (aOp modW (aUn intW (aOp addW (aOp mulW (aVar 3) (aC (.int (48271)))) (aC (.int (11))))) (aC (.int (2147483647)))) (gNm 5))
  (bSeq (bFor (aRng1 (aC (.int (7)))) (gNm 4)
  (bSeq (bAsg (aOp modW (aUn intW (aOp addW (aOp addW (aOp mulW (aVar 5) (aC (.int (16807)))) (aOp mulW (aC (.int (69621))) (aVar 4))) (aC (.int (5))))) (aC (.int (2147483629)))) (gNm 5))
  (bSeq (bExpr (aBM isLst appW (aVar 1) (aCons (aOp divW (aVar 5) (aC (.int (1009)))) aNil)))
  bNext)))
  bNext)))
  bNext)))
  (bSeq (bRet (aVar 1))
  bNext)))
theorem q__law_draws (k : Nat) : callI T (k + 2) "_law_draws" = fnE ["script", "draws", "cell", "rest", "k", "mixed"] (b__law_draws (callI T (k + 1)) (callI T k)) := by kernel_rfl
/-- _law_take -/
def b__law_take (cal mak : Str → Fn) : B := (bSeq (bIf (tBool (aOp (cmpI fun i j => decide (i ≥ j)) (aOp ixW (aVar 1) (aC (.int (0)))) (aUn lenW (aVar 0))))
  (bSeq (bRet (aC (.int (0))))
  bNext)
  bNext)
  (bSeq (bAsg (aOp ixW (aVar 0) (aOp ixW (aVar 1) (aC (.int (0))))) (gNm 3))
  (bSeq (bAsg (aOp addW (aOp ixW (aVar 1) (aC (.int (0)))) (aC (.int (1)))) (gSb (aVar 1) (aC (.int (0)))))
  (bSeq (bRet (aOp modW (aUn intW (aVar 3)) (aVar 2)))
  bNext))))
theorem q__law_take (k : Nat) : callI T (k + 2) "_law_take" = fnE ["draws", "at", "many", "number"] (b__law_take (callI T (k + 1)) (callI T k)) := by kernel_rfl
/-- _law_number -/
def b__law_number (cal mak : Str → Fn) : B := (bSeq (bIf (tBool (aOp eqO (aCall 3 (cal "_law_take") (aCons (aVar 0) (aCons (aVar 1) (aCons (aC (.int (4))) aNil)))) (aC (.int (0)))))
  (bSeq (bRet (aOp ixW (aLst (aCons (aC (.int (2147483646))) (aCons (aC (.int (1073741824))) (aCons (aC (.int (65536))) (aCons (aC (.int (46341))) (aCons (aC (.int (0))) aNil)))))) (aCall 3 (cal "_law_take") (aCons (aVar 0) (aCons (aVar 1) (aCons (aC (.int (5))) aNil))))))
  bNext)
  bNext)
  (bSeq (bRet (aCall 3 (cal "_law_take") (aCons (aVar 0) (aCons (aVar 1) (aCons (aC (.int (9))) aNil)))))
  bNext))
theorem q__law_number (k : Nat) : callI T (k + 2) "_law_number" = fnE ["draws", "at"] (b__law_number (callI T (k + 1)) (callI T k)) := by kernel_rfl
/-- _law_index -/
def b__law_index (cal mak : Str → Fn) : B := (bSeq (bAsg (aCall 3 (cal "_law_take") (aCons (aVar 1) (aCons (aVar 2) (aCons (aC (.int (7))) aNil)))) (gNm 4))
  (bSeq (bIf (tOr (tBool (aOp (cmpI fun i j => decide (i < j)) (aVar 4) (aC (.int (2))))) (tBool (aOp eqO (aVar 3) (aC (.int (0))))))
  (bSeq (bRet (aTup (aCons (aC (.str "integer")) (aCons (aCall 3 (cal "_law_take") (aCons (aVar 1) (aCons (aVar 2) (aCons (aC (.int (4))) aNil)))) aNil))))
  bNext)
  bNext)
  (bSeq (bIf (tBool (aOp eqO (aVar 4) (aC (.int (2)))))
  (bSeq (bRet (aTup (aCons (aC (.str "beat")) aNil)))
  bNext)
  bNext)
  (bSeq (bIf (tBool (aOp (cmpI fun i j => decide (i < j)) (aVar 4) (aC (.int (5)))))
  (bSeq (bIf (tOf (aVar 0))
  (bSeq (bRet (aTup (aCons (aC (.str "index")) (aCons (aOp ixW (aVar 0) (aCall 3 (cal "_law_take") (aCons (aVar 1) (aCons (aVar 2) (aCons (aUn lenW (aVar 0)) aNil))))) aNil))))
  bNext)
  bNext)
  (bSeq (bRet (aTup (aCons (aC (.str "beat")) aNil)))
  bNext))
  bNext)
  (bSeq (bAsg (aCall 4 (cal "_law_index") (aCons (aVar 0) (aCons (aVar 1) (aCons (aVar 2) (aCons (aOp subW (aVar 3) (aC (.int (1)))) aNil))))) (gNm 5))
  (bSeq (bIf (tBool (aOp eqO (aVar 4) (aC (.int (5)))))
  (bSeq (bRet (aTup (aCons (aC (.str "rem")) (aCons (aVar 5) (aCons (aOp addW (aC (.int (1))) (aCall 3 (cal "_law_take") (aCons (aVar 1) (aCons (aVar 2) (aCons (aC (.int (5))) aNil))))) aNil)))))
  bNext)
  bNext)
  (bSeq (bRet (aTup (aCons (aOp ixW (aLst (aCons (aC (.str "plus")) (aCons (aC (.str "minus")) (aCons (aC (.str "times")) aNil)))) (aCall 3 (cal "_law_take") (aCons (aVar 1) (aCons (aVar 2) (aCons (aC (.int (3))) aNil))))) (aCons (aVar 5) (aCons (aCall 4 (cal "_law_index") (aCons (aVar 0) (aCons (aVar 1) (aCons (aVar 2) (aCons (aOp subW (aVar 3) (aC (.int (1)))) aNil))))) aNil)))))
  bNext)))))))
theorem q__law_index (k : Nat) : callI T (k + 2) "_law_index" = fnE ["integers", "draws", "at", "depth", "choice", "left"] (b__law_index (callI T (k + 1)) (callI T k)) := by kernel_rfl
/-- _law_place -/
def b__law_place (cal mak : Str → Fn) : B := (bSeq (bAsg (aOp ixW (aVar 0) (aCall 3 (cal "_law_take") (aCons (aVar 2) (aCons (aVar 3) (aCons (aUn lenW (aVar 0)) aNil))))) (gTu [(gNm 4), (gNm 5), (gNm 6)]))
  (bSeq (bIf (tBool (aOp eqO (aVar 5) (aC (.int (0)))))
  (bSeq (bRet (aTup (aCons (aVar 4) (aCons (aC .non) aNil))))
  bNext)
  bNext)
  (bSeq (bAsg (aCall 4 (cal "_law_index") (aCons (aVar 1) (aCons (aVar 2) (aCons (aVar 3) (aCons (aC (.int (2))) aNil))))) (gNm 7))
  (bSeq (bIf (tBool (aOp (cmpI fun i j => decide (i > j)) (aCall 3 (cal "_law_take") (aCons (aVar 2) (aCons (aVar 3) (aCons (aC (.int (8))) aNil)))) (aC (.int (0)))))
  (bSeq (bAsg (aTup (aCons (aC (.str "rem")) (aCons (aVar 7) (aCons (aVar 5) aNil)))) (gNm 7))
  bNext)
  bNext)
  (bSeq (bRet (aTup (aCons (aVar 4) (aCons (aVar 7) aNil))))
  bNext)))))
theorem q__law_place (k : Nat) : callI T (k + 2) "_law_place" = fnE ["variables", "integers", "draws", "at", "name", "size", "fixed", "index"] (b__law_place (callI T (k + 1)) (callI T k)) := by kernel_rfl
/-- _law_expression -/
def b__law_expression (cal mak : Str → Fn) : B := (bSeq (bAsg (aCall 3 (cal "_law_take") (aCons (aVar 2) (aCons (aVar 3) (aCons (aC (.int (8))) aNil)))) (gNm 5))
  (bSeq (bIf (tBool (aOp eqO (aVar 5) (aC (.int (0)))))
  (bSeq (bRet (aTup (aCons (aC (.str "number")) (aCons (aCall 2 (cal "_law_number") (aCons (aVar 2) (aCons (aVar 3) aNil))) aNil))))
  bNext)
  bNext)
  (bSeq (bIf (tOr (tBool (aOp (cmpI fun i j => decide (i < j)) (aVar 5) (aC (.int (3))))) (tBool (aOp eqO (aVar 4) (aC (.int (0))))))
  (bSeq (bAsg (aCall 4 (cal "_law_place") (aCons (aVar 0) (aCons (aVar 1) (aCons (aVar 2) (aCons (aVar 3) aNil))))) (gTu [(gNm 6), (gNm 7)]))
  (bSeq (bRet (aTup (aCons (aC (.str "place")) (aCons (aVar 6) (aCons (aVar 7) aNil)))))
  bNext))
  bNext)
  (bSeq (bAsg (aOp ixW (aLst (aCons (aC (.str "add")) (aCons (aC (.str "mul")) (aCons (aC (.str "mul")) (aCons (aC (.str "sub")) (aCons (aC (.str "div")) aNil)))))) (aOp subW (aVar 5) (aC (.int (3))))) (gNm 8))
  (bSeq (bAsg (aCall 5 (cal "_law_expression") (aCons (aVar 0) (aCons (aVar 1) (aCons (aVar 2) (aCons (aVar 3) (aCons (aOp subW (aVar 4) (aC (.int (1)))) aNil)))))) (gNm 9))
  (bSeq (bRet (aTup (aCons (aVar 8) (aCons (aVar 9) (aCons (aCall 5 (cal "_law_expression") (aCons (aVar 0) (aCons (aVar 1) (aCons (aVar 2) (aCons (aVar 3) (aCons (aOp subW (aVar 4) (aC (.int (1)))) aNil)))))) aNil)))))
  bNext))))))
theorem q__law_expression (k : Nat) : callI T (k + 2) "_law_expression" = fnE ["variables", "integers", "draws", "at", "depth", "choice", "name", "index", "op", "left"] (b__law_expression (callI T (k + 1)) (callI T k)) := by kernel_rfl
/-- _law_test -/
def b__law_test (cal mak : Str → Fn) : B := (bSeq (bAsg (aCall 3 (cal "_law_take") (aCons (aVar 2) (aCons (aVar 3) (aCons (aC (.int (4))) aNil)))) (gNm 4))
  (bSeq (bIf (tBool (aOp eqO (aVar 4) (aC (.int (0)))))
  (bSeq (bRet (aTup (aCons (aC (.str "zero")) (aCons (aCall 5 (cal "_law_expression") (aCons (aVar 0) (aCons (aVar 1) (aCons (aVar 2) (aCons (aVar 3) (aCons (aC (.int (1))) aNil)))))) aNil))))
  bNext)
  bNext)
  (bSeq (bIf (tBool (aOp eqO (aVar 4) (aC (.int (1)))))
  (bSeq (bRet (aTup (aCons (aC (.str "not")) (aCons (aTup (aCons (aC (.str "zero")) (aCons (aCall 5 (cal "_law_expression") (aCons (aVar 0) (aCons (aVar 1) (aCons (aVar 2) (aCons (aVar 3) (aCons (aC (.int (1))) aNil)))))) aNil))) aNil))))
  bNext)
  bNext)
  (bSeq (bAsg (aOp ixW (aLst (aCons (aC (.str "less")) (aCons (aC (.str "equal")) aNil))) (aOp subW (aVar 4) (aC (.int (2))))) (gNm 5))
  (bSeq (bRet (aTup (aCons (aVar 5) (aCons (aCall 4 (cal "_law_index") (aCons (aVar 1) (aCons (aVar 2) (aCons (aVar 3) (aCons (aC (.int (1))) aNil))))) (aCons (aCall 4 (cal "_law_index") (aCons (aVar 1) (aCons (aVar 2) (aCons (aVar 3) (aCons (aC (.int (1))) aNil))))) aNil)))))
  bNext)))))
theorem q__law_test (k : Nat) : callI T (k + 2) "_law_test" = fnE ["variables", "integers", "draws", "at", "choice", "op"] (b__law_test (callI T (k + 1)) (callI T k)) := by kernel_rfl
/-- _law_call -/
def b__law_call (cal mak : Str → Fn) : B := (bSeq (bIf (tNot (tOf (aVar 2)))
  (bSeq (bRet (aC .non))
  bNext)
  bNext)
  (bSeq (bAsg (aOp ixW (aVar 2) (aCall 3 (cal "_law_take") (aCons (aVar 3) (aCons (aVar 4) (aCons (aUn lenW (aVar 2)) aNil))))) (gTu [(gNm 5), (gNm 6), (gNm 7)]))
  (bSeq (bAsg (aLst aNil) (gNm 8))
  (bSeq (bFor (aIt (aVar 7)) (gNm 9)
  (bSeq (bAsg (newL (aComp [11] (aIt (aVar 0)) (gNm 11) (tAnd (tBool (aOp eqO (aOp ixW (aVar 11) (aC (.int (1)))) (aVar 9))) (tAnd (tNot (tOf (aOp ixW (aVar 11) (aC (.int (2)))))) (tBool (aOp ninO (aOp ixW (aVar 11) (aC (.int (0)))) (aVar 8))))) (aVar 11))) (gNm 10))
  (bSeq (bIf (tNot (tOf (aVar 10)))
  (bSeq (bRet (aC .non))
  bNext)
  bNext)
  (bSeq (bExpr (aBM isLst appW (aVar 8) (aCons (aOp ixW (aOp ixW (aVar 10) (aCall 3 (cal "_law_take") (aCons (aVar 3) (aCons (aVar 4) (aCons (aUn lenW (aVar 10)) aNil))))) (aC (.int (0)))) aNil)))
  bNext))))
  (bSeq (bRet (aTup (aCons (aC (.str "call")) (aCons (aVar 5) (aCons (aUn tupW (newL (aComp [12] (aRng1 (aVar 6)) (gNm 12) tYes (aCall 4 (cal "_law_index") (aCons (aVar 1) (aCons (aVar 3) (aCons (aVar 4) (aCons (aC (.int (2))) aNil)))))))) (aCons (aUn tupW (aVar 8)) aNil))))))
  bNext)))))
theorem q__law_call (k : Nat) : callI T (k + 2) "_law_call" = fnE ["variables", "integers", "known", "draws", "at", "name", "count", "sizes", "names", "size", "rows", "row", "k"] (b__law_call (callI T (k + 1)) (callI T k)) := by kernel_rfl
/-- _law_body -/
def b__law_body (cal mak : Str → Fn) : B := (bSeq (bAsg (aOp addW (aC (.int (1))) (aCall 3 (cal "_law_take") (aCons (aVar 3) (aCons (aVar 4) (aCons (aC (.int (3))) aNil))))) (gNm 6))
  (bSeq (bRet (aUn tupW (newL (aComp [7] (aRng1 (aVar 6)) (gNm 7) tYes (aCall 6 (cal "_law_statement") (aCons (aVar 0) (aCons (aVar 1) (aCons (aVar 2) (aCons (aVar 3) (aCons (aVar 4) (aCons (aVar 5) aNil)))))))))))
  bNext))
theorem q__law_body (k : Nat) : callI T (k + 2) "_law_body" = fnE ["variables", "integers", "known", "draws", "at", "depth", "count", "k"] (b__law_body (callI T (k + 1)) (callI T k)) := by kernel_rfl
/-- _law_statement -/
def b__law_statement (cal mak : Str → Fn) : B := (bSeq (bAsg (aCall 3 (cal "_law_take") (aCons (aVar 3) (aCons (aVar 4) (aCons (aC (.int (10))) aNil)))) (gNm 6))
  (bSeq (bAsg (aC .non) (gNm 7))
  (bSeq (bIf (tBool (aOp eqO (aVar 6) (aC (.int (9)))))
  (bSeq (bAsg (aCall 5 (cal "_law_call") (aCons (aVar 0) (aCons (aVar 1) (aCons (aVar 2) (aCons (aVar 3) (aCons (aVar 4) aNil)))))) (gNm 7))
  bNext)
  bNext)
  (bSeq (bIf (tBool (aOp isnW (aVar 7) (aC .non)))
  (bSeq (bRet (aVar 7))
  bNext)
  bNext)
  (bSeq (bAsg (aUn strW (aOp addW (aUn lenW (aVar 0)) (aUn lenW (aVar 1)))) (gNm 8))
  (bSeq (bIf (tAnd (tBool (aOp eqO (aVar 6) (aC (.int (6))))) (tBool (aOp (cmpI fun i j => decide (i > j)) (aVar 5) (aC (.int (0))))))
  (bSeq (bAsg (aOp addW (aVar 1) (aLst (aCons (aOp addW (aC (.str "i")) (aVar 8)) aNil))) (gNm 9))
  (bSeq (bAsg (aCall 4 (cal "_law_index") (aCons (aVar 1) (aCons (aVar 3) (aCons (aVar 4) (aCons (aC (.int (1))) aNil))))) (gNm 10))
  (bSeq (bRet (aTup (aCons (aC (.str "loop")) (aCons (aOp ixW (aVar 9) (aUn negW (aC (.int (1))))) (aCons (aVar 10) (aCons (aCall 6 (cal "_law_body") (aCons (aVar 0) (aCons (aVar 9) (aCons (aVar 2) (aCons (aVar 3) (aCons (aVar 4) (aCons (aOp subW (aVar 5) (aC (.int (1)))) aNil))))))) aNil))))))
  bNext)))
  bNext)
  (bSeq (bIf (tAnd (tBool (aOp eqO (aVar 6) (aC (.int (7))))) (tBool (aOp (cmpI fun i j => decide (i > j)) (aVar 5) (aC (.int (0))))))
  (bSeq (bAsg (aCall 4 (cal "_law_test") (aCons (aVar 0) (aCons (aVar 1) (aCons (aVar 3) (aCons (aVar 4) aNil))))) (gNm 11))
  (bSeq (bAsg (aCall 6 (cal "_law_body") (aCons (aVar 0) (aCons (aVar 1) (aCons (aVar 2) (aCons (aVar 3) (aCons (aVar 4) (aCons (aOp subW (aVar 5) (aC (.int (1)))) aNil))))))) (gNm 12))
  (bSeq (bRet (aTup (aCons (aC (.str "if")) (aCons (aVar 11) (aCons (aVar 12) (aCons (aCall 6 (cal "_law_body") (aCons (aVar 0) (aCons (aVar 1) (aCons (aVar 2) (aCons (aVar 3) (aCons (aVar 4) (aCons (aOp subW (aVar 5) (aC (.int (1)))) aNil))))))) aNil))))))
  bNext)))
  bNext)
  (bSeq (bIf (tAnd (tBool (aOp eqO (aVar 6) (aC (.int (8))))) (tBool (aOp (cmpI fun i j => decide (i > j)) (aVar 5) (aC (.int (0))))))
  (bSeq (bAsg (aOp addW (aVar 0) (aLst (aCons (aTup (aCons (aOp addW (aC (.str "l")) (aVar 8)) (aCons (aC (.int (0))) (aCons (aC (.bl false)) aNil)))) aNil))) (gNm 9))
  (bSeq (bAsg (aCall 5 (cal "_law_expression") (aCons (aVar 0) (aCons (aVar 1) (aCons (aVar 3) (aCons (aVar 4) (aCons (aC (.int (2))) aNil)))))) (gNm 13))
  (bSeq (bRet (aTup (aCons (aC (.str "let")) (aCons (aOp ixW (aOp ixW (aVar 9) (aUn negW (aC (.int (1))))) (aC (.int (0)))) (aCons (aVar 13) (aCons (aCall 6 (cal "_law_body") (aCons (aVar 9) (aCons (aVar 1) (aCons (aVar 2) (aCons (aVar 3) (aCons (aVar 4) (aCons (aOp subW (aVar 5) (aC (.int (1)))) aNil))))))) aNil))))))
  bNext)))
  bNext)
  (bSeq (bAsg (newL (aComp [15] (aIt (aVar 0)) (gNm 15) (tNot (tOf (aOp ixW (aVar 15) (aC (.int (2)))))) (aVar 15))) (gNm 14))
  (bSeq (bRet (aTup (aCons (aC (.str "set")) (aCons (aCall 4 (cal "_law_place") (aCons (aVar 14) (aCons (aVar 1) (aCons (aVar 3) (aCons (aVar 4) aNil))))) (aCons (aCall 5 (cal "_law_expression") (aCons (aVar 0) (aCons (aVar 1) (aCons (aVar 3) (aCons (aVar 4) (aCons (aC (.int (2))) aNil)))))) aNil)))))
  bNext))))))))))
theorem q__law_statement (k : Nat) : callI T (k + 2) "_law_statement" = fnE ["variables", "integers", "known", "draws", "at", "depth", "choice", "call", "level", "inner", "count", "test", "first", "value", "free", "row"] (b__law_statement (callI T (k + 1)) (callI T k)) := by kernel_rfl
/-- _law_tree -/
def b__law_tree (cal mak : Str → Fn) : B := (bSeq (bAsg (aSl (aLst (aCons (aTup (aCons (aC (.str "x")) (aCons (aC (.int (0))) aNil))) (aCons (aTup (aCons (aC (.str "y")) (aCons (aC (.int (0))) aNil))) (aCons (aTup (aCons (aC (.str "r")) (aCons (aOp addW (aC (.int (1))) (aCall 3 (cal "_law_take") (aCons (aVar 0) (aCons (aVar 1) (aCons (aC (.int (3))) aNil))))) aNil))) (aCons (aTup (aCons (aC (.str "z")) (aCons (aC (.int (0))) aNil))) aNil))))) (oSome (aCall 3 (cal "_law_take") (aCons (aVar 0) (aCons (aVar 1) (aCons (aC (.int (2))) aNil))))) oNone) (gNm 2))
  (bSeq (bAsg (aSl (aVar 2) oNone (oSome (aOp addW (aC (.int (1))) (aCall 3 (cal "_law_take") (aCons (aVar 0) (aCons (aVar 1) (aCons (aC (.int (4))) aNil))))))) (gNm 2))
  (bSeq (bAsg (aSl (aLst (aCons (aTup (aCons (aC (.str "p")) (aCons (aC (.int (0))) aNil))) (aCons (aTup (aCons (aC (.str "q")) (aCons (aC (.int (2))) aNil))) aNil))) oNone (oSome (aCall 3 (cal "_law_take") (aCons (aVar 0) (aCons (aVar 1) (aCons (aC (.int (3))) aNil)))))) (gNm 3))
  (bSeq (bAsg (newL (aComp [5, 6] (aIt (aVar 3)) (gTu [(gNm 5), (gNm 6)]) tYes (aTup (aCons (aVar 5) (aCons (aVar 6) (aCons (aC (.bl true)) aNil)))))) (gNm 4))
  (bSeq (bAsg (aLst aNil) (gNm 7))
  (bSeq (bAsg (aLst aNil) (gNm 8))
  (bSeq (bFor (aRng1 (aCall 3 (cal "_law_take") (aCons (aVar 0) (aCons (aVar 1) (aCons (aC (.int (3))) aNil))))) (gNm 9)
  (bSeq (bAsg (newL (aComp [11] (aRng1 (aCall 3 (cal "_law_take") (aCons (aVar 0) (aCons (aVar 1) (aCons (aC (.int (3))) aNil))))) (gNm 11) tYes (aOp addW (aC (.str "n")) (aUn strW (aVar 11))))) (gNm 10))
  (bSeq (bAsg (aSl (aLst (aCons (aTup (aCons (aC (.str "u")) (aCons (aC (.int (0))) aNil))) (aCons (aTup (aCons (aC (.str "v")) (aCons (aOp ixW (aLst (aCons (aC (.int (0))) (aCons (aC (.int (2))) (aCons (aC (.int (3))) aNil)))) (aCall 3 (cal "_law_take") (aCons (aVar 0) (aCons (aVar 1) (aCons (aC (.int (3))) aNil))))) aNil))) aNil))) oNone (oSome (aOp addW (aC (.int (1))) (aCall 3 (cal "_law_take") (aCons (aVar 0) (aCons (aVar 1) (aCons (aC (.int (2))) aNil))))))) (gNm 12))
  (bSeq (bAsg (aOp addW (newL (aComp [5, 6] (aIt (aVar 12)) (gTu [(gNm 5), (gNm 6)]) tYes (aTup (aCons (aVar 5) (aCons (aVar 6) (aCons (aC (.bl false)) aNil)))))) (aVar 4)) (gNm 13))
  (bSeq (bAsg (aTup (aCons (aOp addW (aC (.str "f")) (aUn strW (aVar 9))) (aCons (aUn lenW (aVar 10)) (aCons (newL (aComp [5, 6] (aIt (aVar 12)) (gTu [(gNm 5), (gNm 6)]) tYes (aVar 6))) aNil)))) (gNm 14))
  (bSeq (bAsg (aCall 6 (cal "_law_body") (aCons (aVar 13) (aCons (aVar 10) (aCons (aOp addW (aVar 7) (aSl (aLst (aCons (aVar 14) aNil)) oNone (oSome (aCall 3 (cal "_law_take") (aCons (aVar 0) (aCons (aVar 1) (aCons (aC (.int (2))) aNil))))))) (aCons (aVar 0) (aCons (aVar 1) (aCons (aC (.int (2))) aNil))))))) (gNm 15))
  (bSeq (bIf (tAnd (tOf (aVar 10)) (tBool (aOp eqO (aCall 3 (cal "_law_take") (aCons (aVar 0) (aCons (aVar 1) (aCons (aC (.int (2))) aNil)))) (aC (.int (1))))))
  (bSeq (bAsg (aOp addW (aTup (aCons (aTup (aCons (aC (.str "minus")) (aCons (aTup (aCons (aC (.str "index")) (aCons (aC (.str "n0")) aNil))) (aCons (aTup (aCons (aC (.str "integer")) (aCons (aC (.int (1))) aNil))) aNil)))) aNil)) (aUn tupW (newL (aComp [5] (aIt (aSl (aVar 10) (oSome (aC (.int (1)))) oNone)) (gNm 5) tYes (aTup (aCons (aC (.str "index")) (aCons (aVar 5) aNil))))))) (gNm 16))
  (bSeq (bAsg (aTup (aCons (aC (.str "call")) (aCons (aOp ixW (aVar 14) (aC (.int (0)))) (aCons (aVar 16) (aCons (aUn tupW (newL (aComp [5, 6] (aIt (aVar 12)) (gTu [(gNm 5), (gNm 6)]) tYes (aVar 5)))) aNil))))) (gNm 17))
  (bSeq (bAsg (aOp addW (aVar 15) (aTup (aCons (aTup (aCons (aC (.str "if")) (aCons (aTup (aCons (aC (.str "less")) (aCons (aTup (aCons (aC (.str "integer")) (aCons (aC (.int (0))) aNil))) (aCons (aTup (aCons (aC (.str "index")) (aCons (aC (.str "n0")) aNil))) aNil)))) (aCons (aTup (aCons (aVar 17) aNil)) (aCons (aTup aNil) aNil))))) aNil))) (gNm 15))
  bNext)))
  bNext)
  (bSeq (bExpr (aBM isLst appW (aVar 8) (aCons (aTup (aCons (aOp ixW (aVar 14) (aC (.int (0)))) (aCons (aUn tupW (aVar 10)) (aCons (aUn tupW (aVar 12)) (aCons (aVar 15) aNil))))) aNil)))
  (bSeq (bAsg (aOp addW (aVar 7) (aLst (aCons (aVar 14) aNil))) (gNm 7))
  bNext)))))))))
  (bSeq (bAsg (aOp addW (newL (aComp [5, 6] (aIt (aVar 2)) (gTu [(gNm 5), (gNm 6)]) tYes (aTup (aCons (aVar 5) (aCons (aVar 6) (aCons (aC (.bl false)) aNil)))))) (aVar 4)) (gNm 13))
  (bSeq (bAsg (aCall 6 (cal "_law_body") (aCons (aVar 13) (aCons (aLst aNil) (aCons (aVar 7) (aCons (aVar 0) (aCons (aVar 1) (aCons (aC (.int (3))) aNil))))))) (gNm 18))
  (bSeq (bRet (aTup (aCons (aUn tupW (aVar 2)) (aCons (aUn tupW (aVar 3)) (aCons (aUn tupW (aVar 8)) (aCons (aVar 18) aNil))))))
  bNext))))))))))
theorem q__law_tree (k : Nat) : callI T (k + 2) "_law_tree" = fnE ["draws", "at", "state", "params", "fixed", "name", "size", "known", "procedures", "k", "integers", "j", "references", "variables", "row", "body", "less", "again", "beat"] (b__law_tree (callI T (k + 1)) (callI T k)) := by kernel_rfl
/-- _law_layout -/
def b__law_layout (cal mak : Str → Fn) : B := (bSeq (bAsg (aLst aNil) (gNm 1))
  (bSeq (bAsg (aC (.int (0))) (gNm 2))
  (bSeq (bFor (aIt (aVar 0)) (gTu [(gNm 3), (gNm 4)])
  (bSeq (bExpr (aBM isLst appW (aVar 1) (aCons (aTup (aCons (aVar 3) (aCons (aVar 2) (aCons (aVar 4) aNil)))) aNil)))
  (bSeq (bAsg (aOp addW (aVar 2) (aOp max2 (aC (.int (1))) (aVar 4))) (gNm 2))
  bNext)))
  (bSeq (bRet (aTup (aCons (aVar 1) (aCons (aVar 2) aNil))))
  bNext))))
theorem q__law_layout (k : Nat) : callI T (k + 2) "_law_layout" = fnE ["declarations", "rows", "first", "name", "size"] (b__law_layout (callI T (k + 1)) (callI T k)) := by kernel_rfl
/-- _law_scopes -/
def b__law_scopes (cal mak : Str → Fn) : B := (bSeq (bFor (aRng1 (aUn lenW (aVar 0))) (gNm 4)
  (bSeq (bAsg (aOp ixW (aVar 0) (aVar 4)) (gNm 5))
  (bSeq (bAsg (aOp addW (aVar 1) (aTup (aCons (aVar 4) aNil))) (gNm 6))
  (bSeq (bExpr (aBM isLst appW (aVar 3) (aCons (aTup (aCons (aVar 6) (aCons (aUn tupW (aVar 2)) aNil))) aNil)))
  (bSeq (bIf (tBool (aOp eqO (aOp ixW (aVar 5) (aC (.int (0)))) (aC (.str "if"))))
  (bSeq (bExpr (aCall 4 (cal "_law_scopes") (aCons (aOp ixW (aVar 5) (aC (.int (2)))) (aCons (aOp addW (aVar 6) (aTup (aCons (aC (.int (0))) aNil))) (aCons (aVar 2) (aCons (aVar 3) aNil))))))
  (bSeq (bExpr (aCall 4 (cal "_law_scopes") (aCons (aOp ixW (aVar 5) (aC (.int (3)))) (aCons (aOp addW (aVar 6) (aTup (aCons (aC (.int (1))) aNil))) (aCons (aVar 2) (aCons (aVar 3) aNil))))))
  bNext))
  bNext)
  (bSeq (bIf (tBool (aOp eqO (aOp ixW (aVar 5) (aC (.int (0)))) (aC (.str "loop"))))
  (bSeq (bExpr (aCall 4 (cal "_law_scopes") (aCons (aOp ixW (aVar 5) (aC (.int (3)))) (aCons (aOp addW (aVar 6) (aTup (aCons (aC (.int (0))) aNil))) (aCons (aVar 2) (aCons (aVar 3) aNil))))))
  bNext)
  bNext)
  (bSeq (bIf (tBool (aOp eqO (aOp ixW (aVar 5) (aC (.int (0)))) (aC (.str "let"))))
  (bSeq (bExpr (aCall 4 (cal "_law_scopes") (aCons (aOp ixW (aVar 5) (aC (.int (3)))) (aCons (aOp addW (aVar 6) (aTup (aCons (aC (.int (0))) aNil))) (aCons (aOp addW (aVar 2) (aLst (aCons (aTup (aCons (aOp ixW (aVar 5) (aC (.int (1)))) (aCons (aC (.int (0))) aNil))) aNil))) (aCons (aVar 3) aNil))))))
  bNext)
  bNext)
  bNext)))))))
  bNext)
theorem q__law_scopes (k : Nat) : callI T (k + 2) "_law_scopes" = fnE ["body", "path", "scope", "found", "k", "statement", "place"] (b__law_scopes (callI T (k + 1)) (callI T k)) := by kernel_rfl
/-- law, on top -/
def b_law (cal mak : Str → Fn) : B := (bSeq (bAsg (aCall 1 (cal "_law_draws") (aCons (aVar 0) aNil)) (gNm 1))
  (bSeq (bAsg (aLst (aCons (aC (.int (0))) aNil)) (gNm 2))
  (bSeq (bAsg (aCall 2 (cal "_law_tree") (aCons (aVar 1) (aCons (aVar 2) aNil))) (gNm 3))
  (bSeq (bTryO (fun y => (subT "TreeError").lookup y) (bSeq (bIf (tBool (aOp isnW (aCall 1 (cal "check") (aCons (aVar 3) aNil)) (aC .non)))
  (bSeq (bRet (aC (.bl false)))
  bNext)
  bNext)
  bNext) (bSeq (bRet (aC (.bl true)))
  bNext))
  (bSeq (bFor (aIt (aTup (aCons (aOp ixW (aVar 3) (aC (.int (0)))) (aCons (aOp ixW (aVar 3) (aC (.int (1)))) (aCons (aTup aNil) aNil))))) (gNm 4)
  (bSeq (bAsg (aCall 1 (cal "_law_layout") (aCons (aVar 4) aNil)) (gTu [(gNm 5), (gNm 6)]))
  (bSeq (bAsg (aCall 1 (cal "cells") (aCons (aVar 4) aNil)) (gNm 7))
  (bSeq (bIf (tOr (tNot (tOf (aOp isiW (aVar 7) (aC (.ty "int"))))) (tOr (tOf (aOp isiW (aVar 7) (aC (.ty "bool")))) (tBool (aOp neO (aVar 7) (aVar 6)))))
  (bSeq (bRet (aC (.bl false)))
  bNext)
  bNext)
  (bSeq (bIf (tOr (tNot (tOf (aOp isiW (aCall 1 (cal "layout") (aCons (aVar 4) aNil)) (aC (.ty "tuple"))))) (tBool (aOp neO (aUn lstW (aCall 1 (cal "layout") (aCons (aVar 4) aNil))) (aVar 5))))
  (bSeq (bRet (aC (.bl false)))
  bNext)
  bNext)
  bNext)))))
  (bSeq (bAsg (aLst aNil) (gNm 8))
  (bSeq (bFor (aRng1 (aUn lenW (aOp ixW (aVar 3) (aC (.int (2)))))) (gNm 9)
  (bSeq (bExpr (aCall 4 (cal "_law_scopes") (aCons (aOp ixW (aOp ixW (aOp ixW (aVar 3) (aC (.int (2)))) (aVar 9)) (aC (.int (3)))) (aCons (aTup (aCons (aVar 9) aNil)) (aCons (aOp addW (aUn lstW (aOp ixW (aOp ixW (aOp ixW (aVar 3) (aC (.int (2)))) (aVar 9)) (aC (.int (2))))) (aUn lstW (aOp ixW (aVar 3) (aC (.int (1)))))) (aCons (aVar 8) aNil))))))
  bNext))
  (bSeq (bExpr (aCall 4 (cal "_law_scopes") (aCons (aOp ixW (aVar 3) (aC (.int (3)))) (aCons (aTup (aCons (aUn lenW (aOp ixW (aVar 3) (aC (.int (2))))) aNil)) (aCons (aOp addW (aUn lstW (aOp ixW (aVar 3) (aC (.int (0))))) (aUn lstW (aOp ixW (aVar 3) (aC (.int (1)))))) (aCons (aVar 8) aNil))))))
  (bSeq (bFor (aIt (aVar 8)) (gTu [(gNm 10), (gNm 11)])
  (bSeq (bIf (tBool (aOp neO (aUn reprW (aCall 2 (cal "variables_at") (aCons (aVar 3) (aCons (aVar 10) aNil)))) (aUn reprW (aVar 11))))
  (bSeq (bRet (aC (.bl false)))
  bNext)
  bNext)
  bNext))
  (bSeq (bRet (aC (.bl true)))
  bNext))))))))))
theorem q_law (k : Nat) : lawE T k "law" = fnE ["script", "draws", "at", "tree", "declarations", "rows", "count", "actual", "found", "k", "path", "scope"] (b_law (callI T (k + 1)) (callI T k)) := by kernel_rfl
end ET

/-! ## The table's facts from what the kernel told of the heap -/
namespace Ev
open PySem L2 PyProof.Rows
section
variable {K : PySem.W.Frag} {mg : Str → Option Value} {w : World}
def AllP {β : Type} (Q : Str → β → Prop) : List (Str × β) → Prop
  | [] => True
  | p :: l => Q p.1 p.2 ∧ AllP Q l
theorem AllP.get {β : Type} {Q : Str → β → Prop} {x : Str} {b : β} : ∀ {l : List (Str × β)}, AllP Q l → l.lookup x = some b → Q x b
  | (y, c) :: l, h, e => by
    rw [List.lookup_cons] at e
    cases c2 : x == y with
    | true =>
      rw [c2] at e
      cases e
      have := eq_of_beq c2
      subst this
      exact h.1
    | false =>
      rw [c2] at e
      exact h.2.get e
theorem AllP.app {β : Type} {Q : Str → β → Prop} : ∀ {l m : List (Str × β)}, AllP Q l → AllP Q m → AllP Q (l ++ m)
  | [], _, _, h => h
  | _ :: _, _, h, g => ⟨h.1, h.2.app g⟩
theorem vals_abs : ∀ {xs : List V} {us : List Value}, us.map absV = xs.map some → Vals xs us
  | [], us, h => by
    have e : us = [] := by simpa using h
    subst e
    exact .nil
  | x :: xs, us, h => by
    cases us with
    | nil => cases h
    | cons u us =>
      rw [List.map_cons, List.map_cons] at h
      obtain ⟨h1, h2⟩ := List.cons.inj h
      refine .cons ?_ (vals_abs h2)
      cases u <;> simp only [absV] at h1 <;> first | (cases h1; done) | (cases h1; first | rfl | exact ⟨_, rfl⟩)
theorem tup_sq {a : Addr} {zs : List Str} (h : Hf.tupT K a zs = true) (H : Hp) : SqT K H a (zs.map V.str) := by
  obtain ⟨its, n, sl, e, hs, hv⟩ := Hf.tupT_ok h
  exact .inr ⟨_, its, n, e, rfl, rfl, hs, vals_abs hv⟩
theorem tup_va {a : Addr} {zs : List Str} (h : Hf.tupT K a zs = true) (m : List Addr) (H : Hp) : Va ⟨K, mg⟩ m H (.tup (zs.map W.str)) (.ref a) := ⟨a, _, rfl, tup_sq h H, strs_va zs⟩
/-- a table of the text's top, told -/
def tabB (K : PySem.W.Frag) (t : Str) (es : Tab) : Bool := es.all fun p => match p.2 with
  | none => decide (PySem.W.nsIn K (He.ga K t) p.1 = some none)
  | some (.str z) => (match PySem.W.nsIn K (He.ga K t) p.1 with | some (some (.str y _)) => decide (y = z) | _ => false)
  | some (.tup ws) => (match PySem.W.nsIn K (He.ga K t) p.1, strsW ws with | some (some (.ref a)), some zs => Hf.tupT K a zs | _, _ => false)
  | _ => false
theorem strs_inv : ∀ {ws : List W} {zs : List Str}, strsW ws = some zs → ws = zs.map W.str
  | [], zs, h => by cases h; rfl
  | w :: ws, zs, h => by
    cases w <;> first | cases h | skip
    simp only [strsW] at h
    cases e : strsW ws with
    | none => rw [e] at h; cases h
    | some r => rw [e] at h; cases h; rw [List.map_cons, ← strs_inv e]
theorem tabB_ok {t : Str} {es : Tab} {ks : List Str} (h : tabB K t es = true) (hd : Hf.dicT K (He.ga K t) = some (He.keysIn w.params ks)) (hm : mg t = some (.ref (He.ga K t))) : TabOk w K mg t es := by
  obtain ⟨en, n, kd⟩ := Hf.dicT_ok hd
  refine ⟨He.ga K t, en, n, hm, kd, fun z r hz => ?_⟩
  have hmem : ∃ p ∈ es, p.1 = z ∧ p.2 = r := by
    have : ∀ l : Tab, l.lookup z = some r → ∃ p ∈ l, p.1 = z ∧ p.2 = r := fun l => by
      induction l with
      | nil => intro e; cases e
      | cons p l ih =>
        obtain ⟨y, c⟩ := p
        intro e
        rw [List.lookup_cons] at e
        cases c2 : z == y with
        | true => rw [c2] at e; cases e; exact ⟨_, List.mem_cons_self, (eq_of_beq c2).symm, rfl⟩
        | false =>
          rw [c2] at e
          obtain ⟨p, h1, h2⟩ := ih e
          exact ⟨p, List.mem_cons_of_mem _ h1, h2⟩
    exact this es hz
  obtain ⟨⟨y, r'⟩, h1, rfl, rfl⟩ := hmem
  have h2 := List.all_eq_true.mp h _ h1
  dsimp only at h2 ⊢
  split at h2
  · exact of_decide_eq_true h2
  · split at h2
    · rename_i y' tk e2
      have := of_decide_eq_true h2
      subst this
      exact ⟨_, .str y', e2, ⟨tk, rfl⟩, fun _ _ => rfl⟩
    · cases h2
  · split at h2
    · rename_i a zs e2 e3
      have := strs_inv e3
      subst this
      exact ⟨_, .ref a, e2, rfl, tup_va h2⟩
    · cases h2
  · cases h2
end
end Ev

namespace Tr
open PySem
def top (i : Nat) : Stmt := PySem.Challenge.pw_countermarch_k08_cells_and_variables.main.body.getD i (.Pass ⟨0, 0, 0, 0⟩)
end Tr

/-! ## The program's own errors being made -/
namespace Er
open PySem PySem.Spec PyProof.Rows L2
section
variable {X : Cx}
theorem ints_shown {prog : Program} {w : World} : ∀ {ns : List Int} {its : List Value}, Vals (ns.map V.int) its → (∀ n ∈ ns, n.natAbs < 10 ^ 12) → ReprAll prog w its (ns.map fun n => Str.ofString (toString n))
  | [], _, r, _ => by
    cases r
    exact .nil
  | n :: ns, _, r, h => by
    cases r with
    | cons r1 r2 =>
      obtain ⟨t, rfl⟩ := r1
      have hn := h n List.mem_cons_self
      refine .cons (ReprIs.int t ?_) (ints_shown r2 fun m hm => h m (List.mem_cons_of_mem _ hm))
      by_cases z : n.natAbs = 0
      · rw [z]; decide
      · exact Nat.lt_trans ((Nat.log2_lt z).mpr (Nat.lt_of_lt_of_le hn (show 10 ^ 12 ≤ 2 ^ 40 by decide))) (by decide)
theorem ints_len : ∀ {ns : List Int}, (∀ n ∈ ns, n.natAbs < 10 ^ 12) → ((ns.map fun n => Str.ofString (toString n)).map (·.length)).sum ≤ 13 * ns.length
  | [], _ => Nat.le_refl _
  | n :: ns, h => by
    have h1 := ints_len fun m hm => h m (List.mem_cons_of_mem _ hm)
    have h2 := PyData.shown_int_le (h n List.mem_cons_self)
    rw [PyData.shown_int] at h2
    rw [List.map_cons, List.map_cons, List.sum_cons, List.length_cons]
    omega
/-- {t}, t a tuple of ints: some short text -/
def tFmtI (K : PySem.W.Frag) (te : TE) : TE := fun σ H Q => te σ H fun x H1 => ∃ (a : Addr) (ns : List Int), x = .ref a ∧ SqT K H1 a (ns.map V.int) ∧ ns.length ≤ 100 ∧ (∀ n ∈ ns, n.natAbs < 10 ^ 12) ∧ ∀ m : Str, m.length ≤ 2000 → Q (.str m) H1
theorem pe_fmtI {e : Expr} {te : TE} {pos : Pos} {k : Nat} (hr : Room k X.A) (he : PE X e te) : PE X (.FormattedValue e (-1) none pos) (tFmtI X.K te) := by
  refine ⟨fun pins s σ H Q I h => ?_⟩
  refine wpAny_FormattedValue_plain (thn (he.run pins s σ H _ I h) fun v s1 hv => ?_)
  obtain ⟨x, H1, I1, r1, a, ns, rfl, ht, hl, hs, q⟩ := hv
  cases r1
  obtain ⟨its, rv, ⟨o, ho, hcl, n, hd⟩, _⟩ := I1.tuple ht
  have hu := hr.un
  have e1 := tupleText_len_le (ns.map fun n => Str.ofString (toString n))
  have e2 := ints_len hs
  rw [List.length_map] at e1
  have e3 : (tupleText (ns.map fun n => Str.ofString (toString n))).length ≤ 1900 := by omega
  exact fmt_tuple (ts := ns.map fun n => Str.ofString (toString n)) (by omega) ho hcl hd (ints_shown rv hs) (Nat.le_trans e3 (by decide)) fun m u tk hm => ⟨.str m, H1, I1.tok _, ⟨u, rfl⟩, q m (by omega)⟩
end
abbrev sTE : Stmt := inClass (Tr.top 2) 0
section
variable {P : Program} {w : World} {K : PySem.W.Frag} {mg : Str → Option Value} {base : Heap}
def spTE (K : PySem.W.Frag) (C : Addr) : Sp := fun vs H Q _ => ∃ (a p : Addr) (ns : List Int) (r : Str), vs = [.ref a, .ref p, .str r] ∧ SqT K H p (ns.map V.int) ∧ ns.length ≤ 100 ∧ (∀ n ∈ ns, n.natAbs < 10 ^ 12) ∧ r.length ≤ 1000 ∧ H a = some (exo a C none) ∧
  ∀ dx, H dx = none → dx ≠ a → Q .non (upd (upd (upd H dx (exd dx [("path", .ref p)])) a (exo a C (some dx))) dx (exd dx [("reason", .str r), ("path", .ref p)]))
theorem scTE : Su.Scp ["self", "path", "reason"] (defScope sTE) := ⟨rfl, rfl, rfl, by decide +kernel, by decide +kernel, by decide +kernel, by decide +kernel, by decide +kernel, by decide +kernel⟩
theorem ok_te {f cda cc C : Addr} {oc kV doc pm ct : Value} {od an : Option Addr} {osl : Array (Option Value)}
    (look : K.lookup f = some ⟨oc, od, .func (PySem.W.ksFn "__init__" "TreeError.__init__" (defArgs sTE) (defBody sTE) (defScope sTE) .none kV doc pm an (.ref cda) ct cc), osl⟩)
    (code : PySem.W.codeIn K (.ref cda) "TreeError.__init__" = true) (T : Su.Sup P K C cc cda) (n1 : PySem.W.findIn K (.ref C) "path" = some none) (n2 : PySem.W.findIn K (.ref C) "reason" = some none) :
    FnOk P w K mg base CX0 1 f (PySem.W.ksFn "__init__" "TreeError.__init__" (defArgs sTE) (defBody sTE) (defScope sTE) .none kV doc pm an (.ref cda) ct cc) ["self", "path", "reason"] (spTE K C) := by
  refine Su.fn_sup look code scTE T rfl rfl (fun vs H Q E h => ?_) (fun A outer s H vs Q E hr h => ?_)
  · obtain ⟨a, p, ns, r, rfl, _⟩ := h
    rfl
  · obtain ⟨a, p, ns, r, rfl, hp, hl, hs, hl2, ea, q⟩ := h
    refine ⟨a, _, _, rfl, ea, pa_cons (pe_joined (.cons pe_str (.cons (pe_fmtI hr (pv 1)) (.cons pe_str (.cons (pe_fmt (pv 2)) .nil))))) pa_nil, pss_cons (ps_ost (pv 0) (pv 1)) (pss_one (ps_ost (pv 0) (pv 2))), ?_⟩
    have big : 4000 ≤ sizeLine := by decide
    refine ⟨_, rfl, ?_, _, rfl, p, ns, rfl, hp, hl, hs, fun m hm => ⟨_, rfl, ?_, _, rfl, ?_, _, rfl, .inl ⟨r, rfl, Nat.le_trans hl2 (by decide), _, rfl, ?_, ?_⟩⟩⟩
    · exact Nat.le_trans (show (Str.empty ++ ("the tree is wrong at " : Str)).length ≤ 4000 by decide +kernel) big
    · rw [strLen_append]
      exact Nat.le_trans (Nat.add_le_add (show (Str.empty ++ ("the tree is wrong at " : Str)).length ≤ 100 by decide +kernel) hm) (by decide)
    · rw [strLen_append, strLen_append]
      exact Nat.le_trans (Nat.add_le_add (Nat.add_le_add (show (Str.empty ++ ("the tree is wrong at " : Str)).length ≤ 100 by decide +kernel) hm) (show (": " : Str).length ≤ 100 by decide +kernel)) (by decide)
    · rw [strLen_append, strLen_append, strLen_append]
      exact Nat.le_trans (Nat.add_le_add (Nat.add_le_add (Nat.add_le_add (show (Str.empty ++ ("the tree is wrong at " : Str)).length ≤ 100 by decide +kernel) hm) (show (": " : Str).length ≤ 100 by decide +kernel)) hl2) (by decide)
    refine ⟨(show 1 ≤ 1000 by decide), ea, ?_⟩
    refine ⟨_, rfl, _, rfl, a, C, rfl, T.ex, n1, .inl ⟨ea, fun dx hdx ne => ?_⟩⟩
    refine ⟨_, rfl, _, rfl, a, C, rfl, T.ex, n2, .inr ⟨dx, [(("path" : Str), V.ref p)], upd_same, ?_, (show 1 ≤ 900 by decide), ?_⟩⟩
    · rw [upd_ne ne]
      exact upd_same
    · exact q dx hdx ne
end
end Er

/-! ## TreeError(path, reason) made, as the evaluator wants it -/
namespace Er
open PySem PySem.Spec PyProof.Rows L2 Ev
theorem mkx_te {X : Cx} {C f : Addr} {fd : FuncData} (E : OexC X.K C) (iC : PySem.W.findIn X.K (.ref C) "__init__" = some (some (.ref f))) (tI : PySem.W.typeIn X.K (.ref f) = some (.type "function"))
    (F : FnOk X.prog X.w X.K X.mg X.base CX0 1 f fd ["self", "path", "reason"] (spTE X.K C)) (hb : L2.Binds X.K fd ["self", "path", "reason"] []) (hm : X.mg "TreeError" = some (.ref C)) (hr : Room 2 X.A) :
    MkX X "TreeError" ["path", "reason"] (fun vs H => ∃ (p : Addr) (ns : List Int) (r : Str), vs = [.ref p, .str r] ∧ SqT X.K H p (ns.map V.int) ∧ ns.length ≤ 100 ∧ (∀ n ∈ ns, n.natAbs < 10 ^ 12) ∧ r.length ≤ 1000) := by
  refine ⟨C, hm, fun {e es ta p pos} ha hs hg => ?_⟩
  have hs' := hs
  rw [List.all_cons, Bool.and_eq_true] at hs'
  intro pins s σ H Q I h
  have key : ∀ vs H1, ((∃ (p : Addr) (ns : List Int) (r : Str), vs = [V.ref p, .str r] ∧ SqT X.K H1 p (ns.map V.int) ∧ ns.length ≤ 100 ∧ (∀ n ∈ ns, n.natAbs < 10 ^ 12) ∧ r.length ≤ 1000) ∧ ∀ dd H' gs, Same H1 H' → H' dd = some (.xd gs) → gs.map (·.1) = (["path", "reason"] : List Str).reverse → gs.map (·.2) = vs.reverse → Q (.ref C) (some dd) H') →
      (vs.length ≤ 1000 ∧ ∀ (a : Addr), H1 a = none → spTE X.K C (V.ref a :: (vs ++ [])) (upd H1 a (exo a C none)) (fun v H2 => v = V.non ∧ ∃ d fs, H2 a = some (exo a C (some d)) ∧ H2 d = some (exd d fs) ∧ H1 d = none ∧ Q (Value.ref C) (some d) (upd (del H2 a) d (HO.xd fs))) (fun _ _ _ => False)) := by
    rintro vs H1 ⟨⟨p, ns, r, rfl, hp, hl, hn, hz⟩, q⟩
    refine ⟨by simp, fun a ha => ?_⟩
    have sm : Same H1 (upd H1 a (exo a C none)) := same_new ha
    refine ⟨a, p, ns, r, rfl, sqT_same sm p _ hp, hl, hn, hz, upd_same, fun dx hdx ne => ⟨rfl, dx, [("reason", .str r), ("path", .ref p)], ?_, upd_same, ?_, ?_⟩⟩
    · rw [upd_ne (Ne.symm ne), upd_same]
    · rw [upd_ne ne] at hdx
      exact hdx
    · have hdx1 : H1 dx = none := by rw [upd_ne ne] at hdx; exact hdx
      refine q dx _ [("reason", .str r), ("path", .ref p)] (fun b u hb => ?_) upd_same rfl rfl
      have n1 : b ≠ dx := fun z => by subst z; rw [hdx1] at hb; cases hb
      have n2 : b ≠ a := fun z => by subst z; rw [ha] at hb; cases hb
      rw [upd_ne n1]
      unfold del
      rw [if_neg n2, upd_ne n1, upd_ne n2, upd_ne n1, upd_ne n2]
      exact hb
  have ha' : PA X (e :: es) (fun σ H Q => ∃ Q0, ta σ H Q0 ∧ ∀ vs H1, Q0 vs H1 → Q vs H1) := ⟨fun pos pins s σ H Q I h => by
    obtain ⟨Q0, h1, h2⟩ := h
    exact thn (ha.run pos pins s σ H Q0 I h1) fun us s1 ⟨vs, H1, I1, rv, q⟩ => ⟨vs, H1, I1, rv, h2 vs H1 q⟩⟩
  exact pmk_oex E iC tI F hr hb .nil pass0 hg hm ha' rfl (star_ok hs'.1) (star_any hs'.2) pins s σ H Q I ⟨_, h, key⟩
end Er

namespace Er
open PySem PySem.Spec PyProof.Rows L2 Ev
theorem exn_te {P : Program} {w : World} {K : PySem.W.Frag} {mg : Str → Option Value} {f cda cc C : Addr} {oc kV doc pm ct : Value} {od an : Option Addr} {osl : Array (Option Value)}
    (look : K.lookup f = some ⟨oc, od, .func (PySem.W.ksFn "__init__" "TreeError.__init__" (defArgs sTE) (defBody sTE) (defScope sTE) .none kV doc pm an (.ref cda) ct cc), osl⟩)
    (code : PySem.W.codeIn K (.ref cda) "TreeError.__init__" = true) (T : Su.Sup P K C cc cda) (n1 : PySem.W.findIn K (.ref C) "path" = some none) (n2 : PySem.W.findIn K (.ref C) "reason" = some none)
    (iC : PySem.W.findIn K (.ref C) "__init__" = some (some (.ref f))) (tI : PySem.W.typeIn K (.ref f) = some (.type "function")) (hm : mg "TreeError" = some (.ref C)) :
    ∀ X : Cx, X.prog = P → X.w = w → X.K = K → X.mg = mg → Room 2 X.A → X.calm = true → ∃ okV, MkX X "TreeError" ["path", "reason"] okV ∧ ∀ m H ws vs, VaL (wd X) m H ws vs → ET.okTE ws = true → okV vs H := by
  intro X h1 h2 h3 h4 hr hc
  subst h1 h2 h3 h4
  refine ⟨_, mkx_te T.ex iC tI (ok_te (w := X.w) (mg := X.mg) (base := X.base) look code T n1 n2) (.all (fun us hl => match us, hl with | [_, _, _], _ => rfl)) hm hr, fun m H ws vs l hok => ?_⟩
  unfold ET.okTE at hok
  split at hok
  · rename_i ps z
    obtain ⟨x, xs, rfl, t1, y, ys, rfl, t2, l⟩ := l
    have l : ys = [] := l
    subst l
    obtain ⟨p, zs, rfl, sq, l2⟩ := t1
    cases t2
    rw [Bool.and_eq_true] at hok
    obtain ⟨h1, h2⟩ := hok
    split at h1
    · rename_i is e
      have := ints_ok e l2
      subst this
      rw [Bool.and_eq_true, List.all_eq_true, decide_eq_true_eq] at h1
      exact ⟨p, is, z, rfl, sq, h1.2, fun n hn => of_decide_eq_true (h1.1 n hn), of_decide_eq_true h2⟩
    · exact (Bool.false_ne_true h1).elim
  · exact (Bool.false_ne_true hok).elim
end Er

namespace Hf
open PySem PySem.Spec PyProof.Rows L2
/-! ### what the kernel told, one by one -/
section
variable {K : PySem.W.Frag} {α : Type}
theorem say_b {fb : List (PySem.W.Frag → Bool)} {b : Bool} (h : ((fb.all fun f => f K) && b) = true) {i : Nat} {f : PySem.W.Frag → Bool} (hi : fb[i]? = some f) : f K = true :=
  List.all_eq_true.mp (Bool.and_eq_true_iff.mp h).1 f (List.mem_of_getElem? hi)
theorem say_f {fn : List FD} {b : Bool} (h : (b && fn.all fun d => d.codeB K) = true) (e : fn.map (fun d => fnV K (d.at_ K)) = fn.map FD.val) {i : Nat} {d : FD} (hi : fn[i]? = some d) : fnV K (d.at_ K) = d.val ∧ d.codeB K = true := by
  refine ⟨?_, List.all_eq_true.mp (Bool.and_eq_true_iff.mp h).2 d (List.mem_of_getElem? hi)⟩
  have e2 : (fn.map fun d => fnV K (d.at_ K))[i]? = (fn.map FD.val)[i]? := by rw [e]
  rw [List.getElem?_map, List.getElem?_map, hi] at e2
  exact Option.some.inj e2
/-- a plain def of the text -/
theorem say_fun {fn : List FD} {b : Bool} (h : (b && fn.all fun d => d.codeB K) = true) (e : fn.map (fun d => fnV K (d.at_ K)) = fn.map FD.val) {i : Nat} {d : FD} (hi : fn[i]? = some d) (hc : d.cl = []) :
    ∃ oc od sl kV dc pm an cd ct, K.lookup (d.at_ K) = some ⟨oc, od, .func (PySem.W.fnOf d.name d.qual d.params d.body d.scope .none kV dc pm an cd ct), sl⟩ ∧ PySem.W.codeIn K cd d.qual = true ∧ PySem.W.keepIn K (.ref (d.at_ K)) = true := by
  obtain ⟨e1, e2⟩ := say_f h e hi
  exact FD.ok e1 e2 hc
theorem say_sup {fn : List FD} {b : Bool} (h : (b && fn.all fun d => d.codeB K) = true) (e : fn.map (fun d => fnV K (d.at_ K)) = fn.map FD.val) {i : Nat} {d : FD} (hi : fn[i]? = some d) (hc : d.cl = ([("__class__" : Str)] : List Str)) :
    ∃ oc od sl kV dc pm an ct, K.lookup (d.at_ K) = some ⟨oc, od, .func (PySem.W.ksFn d.name d.qual d.params d.body d.scope .none kV dc pm an (.ref (cdOf K (d.at_ K))) ct (ccOf K (d.at_ K))), sl⟩ ∧ PySem.W.codeIn K (.ref (cdOf K (d.at_ K))) d.qual = true := by
  obtain ⟨e1, e2⟩ := say_f h e hi
  exact FD.okS e1 e2 hc
end
/-- the end: the law's def by such a Hook -/
theorem walkX {l : PySem.W.OpenLaw} {n k : Nat} {q : Program} {loose : List Str} {XP : (Str → Option Value) → Heap → Prop} {τ : Type} {T : PySem.W.Frag → τ} {tv : World → τ} {d : DefRec} {sp : PySem.W.Frag → Sp} {x : Str}
    (most : l.most = some n) (fits : n ≤ sizeLine) (plain : d.params.defaults = []) (room : Room k callerA)
    (F : ∀ (w : World) (mg : Str → Option Value) (fa : Addr) (h : Heap) (K : PySem.W.Frag), K.In h → T K = tv w → h.Ns mainGlobals mg → mg d.name = some (.ref fa) →
      ∃ fd : FuncData, (∀ (s : Shared) (u : Value), BindsTo s fd ⟨[u], []⟩ [(x, u)]) ∧ ∀ ground : Heap, K.In ground → ground.Ns mainGlobals mg → Gd.GFn l.prog w K mg ground CX0 k fa fd [x] (sp K))
    (told : ∀ (K : PySem.W.Frag) (H : Hp) (a : Addr) (ns : List Int), ns.length ≤ n → Only H → SqL K H a (ns.map V.int) → sp K [.ref a] H (fun v _ => v = .bl true) fun _ _ _ => False) :
    PySem.W.WalkO q loose XP (hookF T tv).says l.row.toRowW d [] (fun f vs => PySem.call f vs) := by
  apply Att.attach_call most plain
  intro w s₀ s₁ mg mb fa o pm cd doc a vs ns gr Y _ _ _ hmg obj are len nogen
  obtain ⟨K, kin, e⟩ := Y
  obtain ⟨fd, bd, hG⟩ := F w mg fa _ K kin e gr.T.g hmg
  refine codeAny_mono (Gd.enter kin gr.T.g gr.T.b gr.T.builtins gr.T.nolimit nogen obj are (Nat.le_trans len fits) room hG bd (fun H only sq => told K H a ns len only sq) (fun H e s' z => z)) ?_
  rintro r s' ⟨⟨h1, h2⟩, h3, h4⟩
  exact ⟨h1, h2, h3, h4⟩
end Hf

namespace Hf
open PySem PySem.Spec PyProof.Rows L2
/-! ### a plain class of the text: its methods, its fields -/
def clB (x : Str) (ms flds : List Str) (K : PySem.W.Frag) : Bool := PySem.W.plainGet K (He.ga K x) Str.empty && (PySem.W.hasDictIn K (He.ga K x) && (PySem.W.plainOver K (He.ga K x) && (PySem.W.makesIn K (He.ga K x) && (PySem.W.keepIn K (.ref (He.ga K x)) &&
  (ms.all (fun m => PySem.W.isFn K (.ref (He.ma K (He.ga K x) m)) && decide (PySem.W.findIn K (.ref (He.ga K x)) m = some (some (.ref (He.ma K (He.ga K x) m))))) && (flds.all (fun f => decide (PySem.W.findIn K (.ref (He.ga K x)) f = some none)) &&
    decide (PySem.W.findIn K (.ref (He.ga K x)) "__setattr__" = some (some (.builtin "object.__setattr__")))))))))
structure ClF (K : PySem.W.Frag) (x : Str) (ms flds : List Str) (J : Addr) : Prop where
  get : PySem.W.plainGet K J Str.empty = true
  hd : PySem.W.hasDictIn K J = true
  over : PySem.W.plainOver K J = true
  mks : PySem.W.makesIn K J = true
  kp : PySem.W.keepIn K (.ref J) = true
  fn : ∀ m ∈ ms, PySem.W.isFn K (.ref (He.ma K J m)) = true
  at_ : ∀ m ∈ ms, PySem.W.findIn K (.ref J) m = some (some (.ref (He.ma K J m)))
  no : ∀ f ∈ flds, PySem.W.findIn K (.ref J) f = some none
  sa : PySem.W.findIn K (.ref J) "__setattr__" = some (some (.builtin "object.__setattr__"))
theorem clB_ok {K : PySem.W.Frag} {x : Str} {ms flds : List Str} (h : clB x ms flds K = true) : ClF K x ms flds (He.ga K x) := by
  unfold clB at h
  obtain ⟨h1, h⟩ := Bool.and_eq_true_iff.mp h
  obtain ⟨h2, h⟩ := Bool.and_eq_true_iff.mp h
  obtain ⟨h3, h⟩ := Bool.and_eq_true_iff.mp h
  obtain ⟨h4, h⟩ := Bool.and_eq_true_iff.mp h
  obtain ⟨h5, h⟩ := Bool.and_eq_true_iff.mp h
  obtain ⟨h6, h⟩ := Bool.and_eq_true_iff.mp h
  obtain ⟨h7, h8⟩ := Bool.and_eq_true_iff.mp h
  exact ⟨h1, h2, h3, h4, h5, fun m hm => (Bool.and_eq_true_iff.mp (List.all_eq_true.mp h6 m hm)).1, fun m hm => of_decide_eq_true (Bool.and_eq_true_iff.mp (List.all_eq_true.mp h6 m hm)).2, fun f hf => of_decide_eq_true (List.all_eq_true.mp h7 f hf), of_decide_eq_true h8⟩
end Hf

/-! ## From the evaluator's answer to the law -/
namespace EvL
open PySem L2 PyProof.Rows Ev
def spLaw (K : PySem.W.Frag) : Sp := fun vs H Q _ => ∃ (a : Addr) (ns : List Int), vs = [.ref a] ∧ SqF K H a (ns.map V.int) ∧ ns.length ≤ 63 ∧ ∀ H', Q (.bl true) H'
theorem told {K : PySem.W.Frag} {H : Hp} {a : Addr} {ns : List Int} {E : XK} (hl : ns.length ≤ 63) (ho : Only H) (hs : SqL K H a (ns.map V.int)) : spLaw K [.ref a] H (fun v _ => v = .bl true) E := by
  refine ⟨a, ns, rfl, ?_, hl, fun _ => rfl⟩
  rcases hs with (h | h) | h
  · rcases ho a with z | ⟨o, xs, z⟩
    · rw [z] at h; cases h
    · rw [z] at h; cases h
  · exact .inl h
  · exact .inr h
theorem ints_va {G : Wd} {m : List Addr} {H : Hp} : ∀ ns : List Int, VaL G m H (ns.map W.int) (ns.map V.int)
  | [] => rfl
  | n :: ns => ⟨_, _, rfl, rfl, ints_va ns⟩
theorem law_gfn {P : Program} {w : World} {K : PySem.W.Frag} {mg : Str → Option Value} {base : Heap} {k : Nat} {f : Addr} {fd : FuncData} {fn : Fn} (F : _root_.Gd.GFn P w K mg base (L2.CX P w) k f fd ["script"] (spI ⟨K, mg⟩ 1 fn))
    (pure : ∀ ns : List Int, ns.length ≤ 63 → ∃ S', fn [.fzl (ns.map W.int)] [] = .ok (.bl true) S') : _root_.Gd.GFn P w K mg base CX0 k f fd ["script"] (spLaw K) := by
  refine ⟨fun vs H Q E ⟨a, ns, h, _⟩ => by rw [h]; rfl, fun A out s H ar us vs Q E hg hr he hb hv ⟨a, ns, h1, h2, h3, h4⟩ => ?_⟩
  obtain ⟨S', hS⟩ := pure ns h3
  have sp : spI ⟨K, mg⟩ 1 fn vs H Q (fun _ _ _ => False) := by
    refine ⟨[], [.fzl (ns.map W.int)], [], ⟨rfl, .nil, fun i a o h => by cases h⟩, ?_, rfl, ?_⟩
    · rw [h1]
      exact ⟨_, [], rfl, ⟨a, _, rfl, h2, ints_va ns⟩, rfl⟩
    · rw [hS]
      intro m' v H' _ _ hv
      cases hv
      exact h4 H'
  refine codeAny_mono (F.does A out s H ar us vs Q (fun _ _ _ => False) hg hr he hb hv sp) fun r s' hq => ?_
  rcases r with e | fl
  · obtain ⟨_, _, _, _, _, _, _, _, _, _, _, _, h⟩ := hq
    exact h.elim
  · cases fl <;> exact hq
end EvL

namespace HT
open PySem PySem.W PyProof.Rows HandSHeadRun
open L2 (defArgs defBody defScope inClass)
abbrev R : OpenRow := OpenLaw.row PySem.Challenge.rw_countermarch_k08_cells_and_variables
abbrev qv : Program := view R.prog [62]
def names : List PySem.Str := (["CountermarchError", "TreeError", "PRIME", "MAX_DEPTH", "MAX_CELLS", "MAX_SIZE", "MAX_NODES", "MAX_INTEGER", "MAX_PROCEDURES", "MAX_HANDED", "LETTERS", "LETTERS_AND_DIGITS", "LONGEST_NAME", "RESERVED", "is_integer", "is_between", "is_name", "ROWS", "RECORDS", "FORMS", "parts_of", "is_plain", "parts_of_form", "pair_up", "inner_bodies", "bodies_of", "Scope", "handed_names", "changed_names", "used_names"] : List PySem.Str) ++ (["NODES", "check", "cells", "layout", "variables_at", "has_shape", "keeps_limits", "keeps_node_limits", "check_declared_names", "check_heads", "first_items", "are_distinct", "check_body", "_law_draws", "_law_take", "_law_number", "_law_index", "_law_place", "_law_expression", "_law_test", "_law_call", "_law_body", "_law_statement", "_law_tree", "_law_layout", "_law_scopes"] : List PySem.Str)
abbrev tp (i : Nat) : Stmt := R.prog.main.body.getD i (.Pass ⟨0, 0, 0, 0⟩)
def fn : List Hf.FD := ([⟨fun K => He.ma K (He.ga K "TreeError") "__init__", "__init__", "TreeError.__init__", defArgs (inClass (tp 2) 0), defBody (inClass (tp 2) 0), defScope (inClass (tp 2) 0), ["__class__"]⟩, ⟨fun K => He.ga K "is_integer", "is_integer", "is_integer", defArgs (tp 16), defBody (tp 16), defScope (tp 16), []⟩, ⟨fun K => He.ga K "is_between", "is_between", "is_between", defArgs (tp 17), defBody (tp 17), defScope (tp 17), []⟩, ⟨fun K => He.ga K "is_name", "is_name", "is_name", defArgs (tp 18), defBody (tp 18), defScope (tp 18), []⟩, ⟨fun K => He.ga K "parts_of", "parts_of", "parts_of", defArgs (tp 23), defBody (tp 23), defScope (tp 23), []⟩, ⟨fun K => He.ga K "is_plain", "is_plain", "is_plain", defArgs (tp 24), defBody (tp 24), defScope (tp 24), []⟩, ⟨fun K => He.ga K "parts_of_form", "parts_of_form", "parts_of_form", defArgs (tp 25), defBody (tp 25), defScope (tp 25), []⟩, ⟨fun K => He.ga K "pair_up", "pair_up", "pair_up", defArgs (tp 26), defBody (tp 26), defScope (tp 26), []⟩, ⟨fun K => He.ga K "inner_bodies", "inner_bodies", "inner_bodies", defArgs (tp 27), defBody (tp 27), defScope (tp 27), []⟩, ⟨fun K => He.ga K "bodies_of", "bodies_of", "bodies_of", defArgs (tp 28), defBody (tp 28), defScope (tp 28), []⟩, ⟨fun K => He.ma K (He.ga K "Scope") "__init__", "__init__", "Scope.__init__", defArgs (inClass (tp 30) 0), defBody (inClass (tp 30) 0), defScope (inClass (tp 30) 0), []⟩, ⟨fun K => He.ma K (He.ga K "Scope") "enter", "enter", "Scope.enter", defArgs (inClass (tp 30) 1), defBody (inClass (tp 30) 1), defScope (inClass (tp 30) 1), []⟩, ⟨fun K => He.ma K (He.ga K "Scope") "leave", "leave", "Scope.leave", defArgs (inClass (tp 30) 2), defBody (inClass (tp 30) 2), defScope (inClass (tp 30) 2), []⟩, ⟨fun K => He.ma K (He.ga K "Scope") "find_reason", "find_reason", "Scope.find_reason", defArgs (inClass (tp 30) 3), defBody (inClass (tp 30) 3), defScope (inClass (tp 30) 3), []⟩, ⟨fun K => He.ma K (He.ga K "Scope") "sees_all", "sees_all", "Scope.sees_all", defArgs (inClass (tp 30) 4), defBody (inClass (tp 30) 4), defScope (inClass (tp 30) 4), []⟩, ⟨fun K => He.ma K (He.ga K "Scope") "is_free", "is_free", "Scope.is_free", defArgs (inClass (tp 30) 5), defBody (inClass (tp 30) 5), defScope (inClass (tp 30) 5), []⟩, ⟨fun K => He.ma K (He.ga K "Scope") "fits_size", "fits_size", "Scope.fits_size", defArgs (inClass (tp 30) 6), defBody (inClass (tp 30) 6), defScope (inClass (tp 30) 6), []⟩, ⟨fun K => He.ma K (He.ga K "Scope") "may_call", "may_call", "Scope.may_call", defArgs (inClass (tp 30) 7), defBody (inClass (tp 30) 7), defScope (inClass (tp 30) 7), []⟩, ⟨fun K => He.ga K "handed_names", "handed_names", "handed_names", defArgs (tp 31), defBody (tp 31), defScope (tp 31), []⟩, ⟨fun K => He.ga K "changed_names", "changed_names", "changed_names", defArgs (tp 32), defBody (tp 32), defScope (tp 32), []⟩, ⟨fun K => He.ga K "used_names", "used_names", "used_names", defArgs (tp 33), defBody (tp 33), defScope (tp 33), []⟩, ⟨fun K => He.ga K "check", "check", "check", defArgs (tp 36), defBody (tp 36), defScope (tp 36), []⟩, ⟨fun K => He.ga K "cells", "cells", "cells", defArgs (tp 37), defBody (tp 37), defScope (tp 37), []⟩, ⟨fun K => He.ga K "layout", "layout", "layout", defArgs (tp 38), defBody (tp 38), defScope (tp 38), []⟩, ⟨fun K => He.ga K "variables_at", "variables_at", "variables_at", defArgs (tp 39), defBody (tp 39), defScope (tp 39), []⟩] : List Hf.FD) ++ ([⟨fun K => He.ga K "has_shape", "has_shape", "has_shape", defArgs (tp 40), defBody (tp 40), defScope (tp 40), []⟩, ⟨fun K => He.ga K "keeps_limits", "keeps_limits", "keeps_limits", defArgs (tp 41), defBody (tp 41), defScope (tp 41), []⟩, ⟨fun K => He.ga K "keeps_node_limits", "keeps_node_limits", "keeps_node_limits", defArgs (tp 42), defBody (tp 42), defScope (tp 42), []⟩, ⟨fun K => He.ga K "check_declared_names", "check_declared_names", "check_declared_names", defArgs (tp 43), defBody (tp 43), defScope (tp 43), []⟩, ⟨fun K => He.ga K "check_heads", "check_heads", "check_heads", defArgs (tp 44), defBody (tp 44), defScope (tp 44), []⟩, ⟨fun K => He.ga K "first_items", "first_items", "first_items", defArgs (tp 45), defBody (tp 45), defScope (tp 45), []⟩, ⟨fun K => He.ga K "are_distinct", "are_distinct", "are_distinct", defArgs (tp 46), defBody (tp 46), defScope (tp 46), []⟩, ⟨fun K => He.ga K "check_body", "check_body", "check_body", defArgs (tp 47), defBody (tp 47), defScope (tp 47), []⟩, ⟨fun K => He.ga K "_law_draws", "_law_draws", "_law_draws", defArgs (tp 49), defBody (tp 49), defScope (tp 49), []⟩, ⟨fun K => He.ga K "_law_take", "_law_take", "_law_take", defArgs (tp 50), defBody (tp 50), defScope (tp 50), []⟩, ⟨fun K => He.ga K "_law_number", "_law_number", "_law_number", defArgs (tp 51), defBody (tp 51), defScope (tp 51), []⟩, ⟨fun K => He.ga K "_law_index", "_law_index", "_law_index", defArgs (tp 52), defBody (tp 52), defScope (tp 52), []⟩, ⟨fun K => He.ga K "_law_place", "_law_place", "_law_place", defArgs (tp 53), defBody (tp 53), defScope (tp 53), []⟩, ⟨fun K => He.ga K "_law_expression", "_law_expression", "_law_expression", defArgs (tp 54), defBody (tp 54), defScope (tp 54), []⟩, ⟨fun K => He.ga K "_law_test", "_law_test", "_law_test", defArgs (tp 55), defBody (tp 55), defScope (tp 55), []⟩, ⟨fun K => He.ga K "_law_call", "_law_call", "_law_call", defArgs (tp 56), defBody (tp 56), defScope (tp 56), []⟩, ⟨fun K => He.ga K "_law_body", "_law_body", "_law_body", defArgs (tp 57), defBody (tp 57), defScope (tp 57), []⟩, ⟨fun K => He.ga K "_law_statement", "_law_statement", "_law_statement", defArgs (tp 58), defBody (tp 58), defScope (tp 58), []⟩, ⟨fun K => He.ga K "_law_tree", "_law_tree", "_law_tree", defArgs (tp 59), defBody (tp 59), defScope (tp 59), []⟩, ⟨fun K => He.ga K "_law_layout", "_law_layout", "_law_layout", defArgs (tp 60), defBody (tp 60), defScope (tp 60), []⟩, ⟨fun K => He.ga K "_law_scopes", "_law_scopes", "_law_scopes", defArgs (tp 61), defBody (tp 61), defScope (tp 61), []⟩, ⟨fun K => He.ga K "law", "law", "law", defArgs (tp 62), defBody (tp 62), defScope (tp 62), []⟩] : List Hf.FD)
set_option synthInstance.maxSize 4000 in
set_option synthInstance.maxHeartbeats 2000000 in
def fb : List (Frag → Bool) := [fun K => decide (Hf.free K "len" ∧ Hf.free K "int" ∧ Hf.free K "range" ∧ Hf.free K "tuple" ∧ Hf.free K "list" ∧ Hf.free K "str" ∧ Hf.free K "isinstance" ∧ Hf.free K "bool" ∧ Hf.free K "abs" ∧ Hf.free K "max" ∧ Hf.free K "repr" ∧ Hf.free K "enumerate" ∧ Hf.free K "zip" ∧ Hf.free K "sum" ∧ Hf.free K "any" ∧ Hf.free K "all" ∧ Hf.free K "set" ∧ Hf.free K "super"),
  fun K => decide (Hf.glo K "CountermarchError" ∧ Hf.glo K "TreeError" ∧ Hf.glo K "RESERVED" ∧ Hf.glo K "is_integer" ∧ Hf.glo K "is_between" ∧ Hf.glo K "is_name" ∧ Hf.glo K "ROWS" ∧ Hf.glo K "RECORDS" ∧ Hf.glo K "FORMS" ∧ Hf.glo K "parts_of" ∧ Hf.glo K "is_plain" ∧ Hf.glo K "parts_of_form" ∧ Hf.glo K "pair_up" ∧ Hf.glo K "inner_bodies" ∧ Hf.glo K "bodies_of" ∧ Hf.glo K "Scope" ∧ Hf.glo K "handed_names" ∧ Hf.glo K "changed_names" ∧ Hf.glo K "used_names" ∧ Hf.glo K "NODES" ∧ Hf.glo K "check" ∧ Hf.glo K "cells" ∧ Hf.glo K "layout" ∧ Hf.glo K "variables_at" ∧ Hf.glo K "has_shape" ∧ Hf.glo K "keeps_limits" ∧ Hf.glo K "keeps_node_limits" ∧ Hf.glo K "check_declared_names" ∧ Hf.glo K "check_heads" ∧ Hf.glo K "first_items" ∧ Hf.glo K "are_distinct" ∧ Hf.glo K "check_body" ∧ Hf.glo K "_law_draws" ∧ Hf.glo K "_law_take" ∧ Hf.glo K "_law_number" ∧ Hf.glo K "_law_index" ∧ Hf.glo K "_law_place" ∧ Hf.glo K "_law_expression" ∧ Hf.glo K "_law_test" ∧ Hf.glo K "_law_call" ∧ Hf.glo K "_law_body" ∧ Hf.glo K "_law_statement" ∧ Hf.glo K "_law_tree" ∧ Hf.glo K "_law_layout" ∧ Hf.glo K "_law_scopes" ∧ Hf.glo K "law"),
  fun K => Hf.intB "PRIME" 2147483647 K,
  fun K => Hf.intB "MAX_DEPTH" 4 K,
  fun K => Hf.intB "MAX_CELLS" 32 K,
  fun K => Hf.intB "MAX_SIZE" 8 K,
  fun K => Hf.intB "MAX_NODES" 300 K,
  fun K => Hf.intB "MAX_INTEGER" 1000 K,
  fun K => Hf.intB "MAX_PROCEDURES" 8 K,
  fun K => Hf.intB "MAX_HANDED" 6 K,
  fun K => Hf.intB "LONGEST_NAME" 8 K,
  fun K => Hf.strB "LETTERS" "abcdefghijklmnopqrstuvwxyz" K,
  fun K => Hf.strB "LETTERS_AND_DIGITS" "abcdefghijklmnopqrstuvwxyz0123456789" K,
  fun K => Hf.tupT K (He.ga K "RESERVED") ["state", "param", "procedure", "beat", "set", "loop", "if", "call", "let", "at", "add", "sub", "mul", "div", "plus", "minus", "times", "rem", "less", "equal", "zero", "not"],
  fun K => Hf.tupT K (He.ga K "NODES") ["statement", "expression", "index", "test"],
  fun K => Hf.errB R.prog "TreeError" "CountermarchError" ["path", "reason"] K,
  fun K => Hf.clB "Scope" ["__init__", "enter", "leave", "find_reason", "sees_all", "is_free", "fits_size", "may_call"] ["variables", "integers", "params", "procedures", "callees"] K,
  fun K => Ev.tabB K "ROWS" ET.t_ROWS,
  fun K => Ev.tabB K "RECORDS" ET.t_RECORDS,
  fun K => decide (PySem.W.exmOne K (.ref (He.ga K "TreeError")) (.ref (He.ga K "TreeError")) = some true)]
def rowsF : List Hd.Row := match tp 22 with
  | .Assign _ (.Dict keys values _) _ => (Hd.rowsC keys values).getD []
  | _ => []
abbrev TT : Type := Bool × List Hf.FV × List (Option (List (Option (PySem.Str × Int)))) × Hf.FormV
def TK (K : Frag) : TT := ((fb.all fun f => f K) && fn.all fun d => d.codeB K, fn.map fun d => Hf.fnV K (d.at_ K), [Hf.dicT K (He.ga K "ROWS"), Hf.dicT K (He.ga K "RECORDS")], Hf.formT K (He.ga K "FORMS"))
def TV (w : World) : TT := (true, fn.map Hf.FD.val, [some (He.keysIn w.params ["variables", "procedures", "names", "body", "indexes"]), some (He.keysIn w.params ["tree", "variable", "procedure", "place"])], Hf.formV R.prog w rowsF)
theorem run1 (w : World) : Hd.RunX R qv (Hf.hookF TK TV) (Hf.obF TK) 20000 22 names (w.withFollow "special-get-raises" false) := fun os => by kernel_rfl
theorem run2 (w : World) : Hd.RunX R qv (Hf.hookF TK TV) (Hf.obF TK) 20000 22 names (w.withFollow "special-get-raises" true) := fun os => by kernel_rfl
theorem run (w : World) : Hd.RunX R qv (Hf.hookF TK TV) (Hf.obF TK) 20000 22 names w := byRow2 "special-get-raises" run1 run2 w
end HT

namespace ET
open PySem PySem.Spec L2 PyProof.Rows Ev
set_option maxRecDepth 100000 in
theorem tbf {w : World} {K : PySem.W.Frag} {h : Heap} {mg : Str → Option Value} (X : K.In h) (e : HT.TK K = HT.TV w) (G : h.Ns mainGlobals mg) : TbF T R.prog w K mg := by
  have eB : ((HT.fb.all fun f => f K) && HT.fn.all fun d => d.codeB K) = true := congrArg (fun z : HT.TT => z.1) e
  have eF : HT.fn.map (fun d => Hf.fnV K (d.at_ K)) = HT.fn.map Hf.FD.val := congrArg (fun z : HT.TT => z.2.1) e
  have eD := congrArg (fun z : HT.TT => z.2.2.1) e
  have kF : Hf.KForm HT.R.prog w K (He.ga K "FORMS") HT.rowsF := Hf.formT_ok (congrArg (fun z : HT.TT => z.2.2.2) e)
  obtain ⟨z_len, z_int, z_range, z_tuple, z_list, z_str, z_isinstance, z_bool, z_abs, z_max, z_repr, z_enumerate, z_zip, z_sum, z_any, z_all, z_set, z_super⟩ := of_decide_eq_true (Hf.say_b eB (i := 0) rfl)
  obtain ⟨a_CountermarchError, a_TreeError, a_RESERVED, a_is_integer, a_is_between, a_is_name, a_ROWS, a_RECORDS, a_FORMS, a_parts_of, a_is_plain, a_parts_of_form, a_pair_up, a_inner_bodies, a_bodies_of, a_Scope, a_handed_names, a_changed_names, a_used_names, a_NODES, a_check, a_cells, a_layout, a_variables_at, a_has_shape, a_keeps_limits, a_keeps_node_limits, a_check_declared_names, a_check_heads, a_first_items, a_are_distinct, a_check_body, a__law_draws, a__law_take, a__law_number, a__law_index, a__law_place, a__law_expression, a__law_test, a__law_call, a__law_body, a__law_statement, a__law_tree, a__law_layout, a__law_scopes, a_law⟩ := of_decide_eq_true (Hf.say_b eB (i := 1) rfl)
  obtain ⟨t_PRIME, g_PRIME⟩ := Hf.intB_ok (Hf.say_b eB (i := 2) rfl)
  obtain ⟨t_MAX_DEPTH, g_MAX_DEPTH⟩ := Hf.intB_ok (Hf.say_b eB (i := 3) rfl)
  obtain ⟨t_MAX_CELLS, g_MAX_CELLS⟩ := Hf.intB_ok (Hf.say_b eB (i := 4) rfl)
  obtain ⟨t_MAX_SIZE, g_MAX_SIZE⟩ := Hf.intB_ok (Hf.say_b eB (i := 5) rfl)
  obtain ⟨t_MAX_NODES, g_MAX_NODES⟩ := Hf.intB_ok (Hf.say_b eB (i := 6) rfl)
  obtain ⟨t_MAX_INTEGER, g_MAX_INTEGER⟩ := Hf.intB_ok (Hf.say_b eB (i := 7) rfl)
  obtain ⟨t_MAX_PROCEDURES, g_MAX_PROCEDURES⟩ := Hf.intB_ok (Hf.say_b eB (i := 8) rfl)
  obtain ⟨t_MAX_HANDED, g_MAX_HANDED⟩ := Hf.intB_ok (Hf.say_b eB (i := 9) rfl)
  obtain ⟨t_LONGEST_NAME, g_LONGEST_NAME⟩ := Hf.intB_ok (Hf.say_b eB (i := 10) rfl)
  obtain ⟨t_LETTERS, g_LETTERS⟩ := Hf.strB_ok (Hf.say_b eB (i := 11) rfl)
  obtain ⟨t_LETTERS_AND_DIGITS, g_LETTERS_AND_DIGITS⟩ := Hf.strB_ok (Hf.say_b eB (i := 12) rfl)
  obtain ⟨is_RESERVED, n_RESERVED, s_RESERVED, q_RESERVED, y_RESERVED, v_RESERVED⟩ := Hf.tupT_ok (Hf.say_b eB (i := 13) rfl)
  obtain ⟨is_NODES, n_NODES, s_NODES, q_NODES, y_NODES, v_NODES⟩ := Hf.tupT_ok (Hf.say_b eB (i := 14) rfl)
  have x_TreeError := Hf.errB_ok (Hf.say_b eB (i := 15) rfl)
  have x_Scope := Hf.clB_ok (Hf.say_b eB (i := 16) rfl)
  obtain ⟨oc_TreeError___init__, od_TreeError___init__, sl_TreeError___init__, kV_TreeError___init__, dc_TreeError___init__, pm_TreeError___init__, an_TreeError___init__, ct_TreeError___init__, l_TreeError___init__, c_TreeError___init__⟩ := Hf.say_sup eB eF (i := 0) rfl rfl
  obtain ⟨oc_is_integer, od_is_integer, sl_is_integer, kV_is_integer, dc_is_integer, pm_is_integer, an_is_integer, cd_is_integer, ct_is_integer, l_is_integer, c_is_integer, k_is_integer⟩ := Hf.say_fun eB eF (i := 1) rfl rfl
  have F_is_integer := fun_mk (st := ET.tp 16) l_is_integer c_is_integer k_is_integer
  have b_is_integer := F_is_integer.binds (ps := ["value"]) fun _ _ _ _ _ _ us hl => match us, hl with | [_], _ => rfl
  have m_is_integer := PySem.W.mg_of X G a_is_integer
  obtain ⟨oc_is_between, od_is_between, sl_is_between, kV_is_between, dc_is_between, pm_is_between, an_is_between, cd_is_between, ct_is_between, l_is_between, c_is_between, k_is_between⟩ := Hf.say_fun eB eF (i := 2) rfl rfl
  have F_is_between := fun_mk (st := ET.tp 17) l_is_between c_is_between k_is_between
  have b_is_between := F_is_between.binds (ps := ["value", "least", "most"]) fun _ _ _ _ _ _ us hl => match us, hl with | [_, _, _], _ => rfl
  have m_is_between := PySem.W.mg_of X G a_is_between
  obtain ⟨oc_is_name, od_is_name, sl_is_name, kV_is_name, dc_is_name, pm_is_name, an_is_name, cd_is_name, ct_is_name, l_is_name, c_is_name, k_is_name⟩ := Hf.say_fun eB eF (i := 3) rfl rfl
  have F_is_name := fun_mk (st := ET.tp 18) l_is_name c_is_name k_is_name
  have b_is_name := F_is_name.binds (ps := ["value"]) fun _ _ _ _ _ _ us hl => match us, hl with | [_], _ => rfl
  have m_is_name := PySem.W.mg_of X G a_is_name
  obtain ⟨oc_parts_of, od_parts_of, sl_parts_of, kV_parts_of, dc_parts_of, pm_parts_of, an_parts_of, cd_parts_of, ct_parts_of, l_parts_of, c_parts_of, k_parts_of⟩ := Hf.say_fun eB eF (i := 4) rfl rfl
  have F_parts_of := fun_mk (st := ET.tp 23) l_parts_of c_parts_of k_parts_of
  have b_parts_of := F_parts_of.binds (ps := ["kind", "value"]) fun _ _ _ _ _ _ us hl => match us, hl with | [_, _], _ => rfl
  have m_parts_of := PySem.W.mg_of X G a_parts_of
  obtain ⟨oc_is_plain, od_is_plain, sl_is_plain, kV_is_plain, dc_is_plain, pm_is_plain, an_is_plain, cd_is_plain, ct_is_plain, l_is_plain, c_is_plain, k_is_plain⟩ := Hf.say_fun eB eF (i := 5) rfl rfl
  have F_is_plain := fun_mk (st := ET.tp 24) l_is_plain c_is_plain k_is_plain
  have b_is_plain := F_is_plain.binds (ps := ["kind", "value"]) fun _ _ _ _ _ _ us hl => match us, hl with | [_, _], _ => rfl
  have m_is_plain := PySem.W.mg_of X G a_is_plain
  obtain ⟨oc_parts_of_form, od_parts_of_form, sl_parts_of_form, kV_parts_of_form, dc_parts_of_form, pm_parts_of_form, an_parts_of_form, cd_parts_of_form, ct_parts_of_form, l_parts_of_form, c_parts_of_form, k_parts_of_form⟩ := Hf.say_fun eB eF (i := 6) rfl rfl
  have F_parts_of_form := fun_mk (st := ET.tp 25) l_parts_of_form c_parts_of_form k_parts_of_form
  have b_parts_of_form := F_parts_of_form.binds (ps := ["kind", "value"]) fun _ _ _ _ _ _ us hl => match us, hl with | [_, _], _ => rfl
  have m_parts_of_form := PySem.W.mg_of X G a_parts_of_form
  obtain ⟨oc_pair_up, od_pair_up, sl_pair_up, kV_pair_up, dc_pair_up, pm_pair_up, an_pair_up, cd_pair_up, ct_pair_up, l_pair_up, c_pair_up, k_pair_up⟩ := Hf.say_fun eB eF (i := 7) rfl rfl
  have F_pair_up := fun_mk (st := ET.tp 26) l_pair_up c_pair_up k_pair_up
  have b_pair_up := F_pair_up.binds (ps := ["kinds", "parts"]) fun _ _ _ _ _ _ us hl => match us, hl with | [_, _], _ => rfl
  have m_pair_up := PySem.W.mg_of X G a_pair_up
  obtain ⟨oc_inner_bodies, od_inner_bodies, sl_inner_bodies, kV_inner_bodies, dc_inner_bodies, pm_inner_bodies, an_inner_bodies, cd_inner_bodies, ct_inner_bodies, l_inner_bodies, c_inner_bodies, k_inner_bodies⟩ := Hf.say_fun eB eF (i := 8) rfl rfl
  have F_inner_bodies := fun_mk (st := ET.tp 27) l_inner_bodies c_inner_bodies k_inner_bodies
  have b_inner_bodies := F_inner_bodies.binds (ps := ["statement"]) fun _ _ _ _ _ _ us hl => match us, hl with | [_], _ => rfl
  have m_inner_bodies := PySem.W.mg_of X G a_inner_bodies
  obtain ⟨oc_bodies_of, od_bodies_of, sl_bodies_of, kV_bodies_of, dc_bodies_of, pm_bodies_of, an_bodies_of, cd_bodies_of, ct_bodies_of, l_bodies_of, c_bodies_of, k_bodies_of⟩ := Hf.say_fun eB eF (i := 9) rfl rfl
  have F_bodies_of := fun_mk (st := ET.tp 28) l_bodies_of c_bodies_of k_bodies_of
  have b_bodies_of := F_bodies_of.binds (ps := ["tree"]) fun _ _ _ _ _ _ us hl => match us, hl with | [_], _ => rfl
  have m_bodies_of := PySem.W.mg_of X G a_bodies_of
  obtain ⟨oc_Scope___init__, od_Scope___init__, sl_Scope___init__, kV_Scope___init__, dc_Scope___init__, pm_Scope___init__, an_Scope___init__, cd_Scope___init__, ct_Scope___init__, l_Scope___init__, c_Scope___init__, k_Scope___init__⟩ := Hf.say_fun eB eF (i := 10) rfl rfl
  have F_Scope___init__ := fun_mk (st := inClass (ET.tp 30) 0) l_Scope___init__ c_Scope___init__ k_Scope___init__
  have b_Scope___init__ := F_Scope___init__.binds (ps := ["self", "tree", "number", "variables", "integers"]) fun _ _ _ _ _ _ us hl => match us, hl with | [_, _, _, _, _], _ => rfl
  obtain ⟨oc_Scope_enter, od_Scope_enter, sl_Scope_enter, kV_Scope_enter, dc_Scope_enter, pm_Scope_enter, an_Scope_enter, cd_Scope_enter, ct_Scope_enter, l_Scope_enter, c_Scope_enter, k_Scope_enter⟩ := Hf.say_fun eB eF (i := 11) rfl rfl
  have F_Scope_enter := fun_mk (st := inClass (ET.tp 30) 1) l_Scope_enter c_Scope_enter k_Scope_enter
  have b_Scope_enter := F_Scope_enter.binds (ps := ["self", "statement"]) fun _ _ _ _ _ _ us hl => match us, hl with | [_, _], _ => rfl
  obtain ⟨oc_Scope_leave, od_Scope_leave, sl_Scope_leave, kV_Scope_leave, dc_Scope_leave, pm_Scope_leave, an_Scope_leave, cd_Scope_leave, ct_Scope_leave, l_Scope_leave, c_Scope_leave, k_Scope_leave⟩ := Hf.say_fun eB eF (i := 12) rfl rfl
  have F_Scope_leave := fun_mk (st := inClass (ET.tp 30) 2) l_Scope_leave c_Scope_leave k_Scope_leave
  have b_Scope_leave := F_Scope_leave.binds (ps := ["self", "statement"]) fun _ _ _ _ _ _ us hl => match us, hl with | [_, _], _ => rfl
  obtain ⟨oc_Scope_find_reason, od_Scope_find_reason, sl_Scope_find_reason, kV_Scope_find_reason, dc_Scope_find_reason, pm_Scope_find_reason, an_Scope_find_reason, cd_Scope_find_reason, ct_Scope_find_reason, l_Scope_find_reason, c_Scope_find_reason, k_Scope_find_reason⟩ := Hf.say_fun eB eF (i := 13) rfl rfl
  have F_Scope_find_reason := fun_mk (st := inClass (ET.tp 30) 3) l_Scope_find_reason c_Scope_find_reason k_Scope_find_reason
  have b_Scope_find_reason := F_Scope_find_reason.binds (ps := ["self", "statement"]) fun _ _ _ _ _ _ us hl => match us, hl with | [_, _], _ => rfl
  obtain ⟨oc_Scope_sees_all, od_Scope_sees_all, sl_Scope_sees_all, kV_Scope_sees_all, dc_Scope_sees_all, pm_Scope_sees_all, an_Scope_sees_all, cd_Scope_sees_all, ct_Scope_sees_all, l_Scope_sees_all, c_Scope_sees_all, k_Scope_sees_all⟩ := Hf.say_fun eB eF (i := 14) rfl rfl
  have F_Scope_sees_all := fun_mk (st := inClass (ET.tp 30) 4) l_Scope_sees_all c_Scope_sees_all k_Scope_sees_all
  have b_Scope_sees_all := F_Scope_sees_all.binds (ps := ["self", "statement", "places", "integers"]) fun _ _ _ _ _ _ us hl => match us, hl with | [_, _, _, _], _ => rfl
  obtain ⟨oc_Scope_is_free, od_Scope_is_free, sl_Scope_is_free, kV_Scope_is_free, dc_Scope_is_free, pm_Scope_is_free, an_Scope_is_free, cd_Scope_is_free, ct_Scope_is_free, l_Scope_is_free, c_Scope_is_free, k_Scope_is_free⟩ := Hf.say_fun eB eF (i := 15) rfl rfl
  have F_Scope_is_free := fun_mk (st := inClass (ET.tp 30) 5) l_Scope_is_free c_Scope_is_free k_Scope_is_free
  have b_Scope_is_free := F_Scope_is_free.binds (ps := ["self", "name"]) fun _ _ _ _ _ _ us hl => match us, hl with | [_, _], _ => rfl
  obtain ⟨oc_Scope_fits_size, od_Scope_fits_size, sl_Scope_fits_size, kV_Scope_fits_size, dc_Scope_fits_size, pm_Scope_fits_size, an_Scope_fits_size, cd_Scope_fits_size, ct_Scope_fits_size, l_Scope_fits_size, c_Scope_fits_size, k_Scope_fits_size⟩ := Hf.say_fun eB eF (i := 16) rfl rfl
  have F_Scope_fits_size := fun_mk (st := inClass (ET.tp 30) 6) l_Scope_fits_size c_Scope_fits_size k_Scope_fits_size
  have b_Scope_fits_size := F_Scope_fits_size.binds (ps := ["self", "place"]) fun _ _ _ _ _ _ us hl => match us, hl with | [_, _], _ => rfl
  obtain ⟨oc_Scope_may_call, od_Scope_may_call, sl_Scope_may_call, kV_Scope_may_call, dc_Scope_may_call, pm_Scope_may_call, an_Scope_may_call, cd_Scope_may_call, ct_Scope_may_call, l_Scope_may_call, c_Scope_may_call, k_Scope_may_call⟩ := Hf.say_fun eB eF (i := 17) rfl rfl
  have F_Scope_may_call := fun_mk (st := inClass (ET.tp 30) 7) l_Scope_may_call c_Scope_may_call k_Scope_may_call
  have b_Scope_may_call := F_Scope_may_call.binds (ps := ["self", "statement"]) fun _ _ _ _ _ _ us hl => match us, hl with | [_, _], _ => rfl
  obtain ⟨oc_handed_names, od_handed_names, sl_handed_names, kV_handed_names, dc_handed_names, pm_handed_names, an_handed_names, cd_handed_names, ct_handed_names, l_handed_names, c_handed_names, k_handed_names⟩ := Hf.say_fun eB eF (i := 18) rfl rfl
  have F_handed_names := fun_mk (st := ET.tp 31) l_handed_names c_handed_names k_handed_names
  have b_handed_names := F_handed_names.binds (ps := ["statement"]) fun _ _ _ _ _ _ us hl => match us, hl with | [_], _ => rfl
  have m_handed_names := PySem.W.mg_of X G a_handed_names
  obtain ⟨oc_changed_names, od_changed_names, sl_changed_names, kV_changed_names, dc_changed_names, pm_changed_names, an_changed_names, cd_changed_names, ct_changed_names, l_changed_names, c_changed_names, k_changed_names⟩ := Hf.say_fun eB eF (i := 19) rfl rfl
  have F_changed_names := fun_mk (st := ET.tp 32) l_changed_names c_changed_names k_changed_names
  have b_changed_names := F_changed_names.binds (ps := ["statement"]) fun _ _ _ _ _ _ us hl => match us, hl with | [_], _ => rfl
  have m_changed_names := PySem.W.mg_of X G a_changed_names
  obtain ⟨oc_used_names, od_used_names, sl_used_names, kV_used_names, dc_used_names, pm_used_names, an_used_names, cd_used_names, ct_used_names, l_used_names, c_used_names, k_used_names⟩ := Hf.say_fun eB eF (i := 20) rfl rfl
  have F_used_names := fun_mk (st := ET.tp 33) l_used_names c_used_names k_used_names
  have b_used_names := F_used_names.binds (ps := ["statement"]) fun _ _ _ _ _ _ us hl => match us, hl with | [_], _ => rfl
  have m_used_names := PySem.W.mg_of X G a_used_names
  obtain ⟨oc_check, od_check, sl_check, kV_check, dc_check, pm_check, an_check, cd_check, ct_check, l_check, c_check, k_check⟩ := Hf.say_fun eB eF (i := 21) rfl rfl
  have F_check := fun_mk (st := ET.tp 36) l_check c_check k_check
  have b_check := F_check.binds (ps := ["tree"]) fun _ _ _ _ _ _ us hl => match us, hl with | [_], _ => rfl
  have m_check := PySem.W.mg_of X G a_check
  obtain ⟨oc_cells, od_cells, sl_cells, kV_cells, dc_cells, pm_cells, an_cells, cd_cells, ct_cells, l_cells, c_cells, k_cells⟩ := Hf.say_fun eB eF (i := 22) rfl rfl
  have F_cells := fun_mk (st := ET.tp 37) l_cells c_cells k_cells
  have b_cells := F_cells.binds (ps := ["declarations"]) fun _ _ _ _ _ _ us hl => match us, hl with | [_], _ => rfl
  have m_cells := PySem.W.mg_of X G a_cells
  obtain ⟨oc_layout, od_layout, sl_layout, kV_layout, dc_layout, pm_layout, an_layout, cd_layout, ct_layout, l_layout, c_layout, k_layout⟩ := Hf.say_fun eB eF (i := 23) rfl rfl
  have F_layout := fun_mk (st := ET.tp 38) l_layout c_layout k_layout
  have b_layout := F_layout.binds (ps := ["declarations"]) fun _ _ _ _ _ _ us hl => match us, hl with | [_], _ => rfl
  have m_layout := PySem.W.mg_of X G a_layout
  obtain ⟨oc_variables_at, od_variables_at, sl_variables_at, kV_variables_at, dc_variables_at, pm_variables_at, an_variables_at, cd_variables_at, ct_variables_at, l_variables_at, c_variables_at, k_variables_at⟩ := Hf.say_fun eB eF (i := 24) rfl rfl
  have F_variables_at := fun_mk (st := ET.tp 39) l_variables_at c_variables_at k_variables_at
  have b_variables_at := F_variables_at.binds (ps := ["tree", "path"]) fun _ _ _ _ _ _ us hl => match us, hl with | [_, _], _ => rfl
  have m_variables_at := PySem.W.mg_of X G a_variables_at
  obtain ⟨oc_has_shape, od_has_shape, sl_has_shape, kV_has_shape, dc_has_shape, pm_has_shape, an_has_shape, cd_has_shape, ct_has_shape, l_has_shape, c_has_shape, k_has_shape⟩ := Hf.say_fun eB eF (i := 25) rfl rfl
  have F_has_shape := fun_mk (st := ET.tp 40) l_has_shape c_has_shape k_has_shape
  have b_has_shape := F_has_shape.binds (ps := ["tree"]) fun _ _ _ _ _ _ us hl => match us, hl with | [_], _ => rfl
  have m_has_shape := PySem.W.mg_of X G a_has_shape
  obtain ⟨oc_keeps_limits, od_keeps_limits, sl_keeps_limits, kV_keeps_limits, dc_keeps_limits, pm_keeps_limits, an_keeps_limits, cd_keeps_limits, ct_keeps_limits, l_keeps_limits, c_keeps_limits, k_keeps_limits⟩ := Hf.say_fun eB eF (i := 26) rfl rfl
  have F_keeps_limits := fun_mk (st := ET.tp 41) l_keeps_limits c_keeps_limits k_keeps_limits
  have b_keeps_limits := F_keeps_limits.binds (ps := ["tree"]) fun _ _ _ _ _ _ us hl => match us, hl with | [_], _ => rfl
  have m_keeps_limits := PySem.W.mg_of X G a_keeps_limits
  obtain ⟨oc_keeps_node_limits, od_keeps_node_limits, sl_keeps_node_limits, kV_keeps_node_limits, dc_keeps_node_limits, pm_keeps_node_limits, an_keeps_node_limits, cd_keeps_node_limits, ct_keeps_node_limits, l_keeps_node_limits, c_keeps_node_limits, k_keeps_node_limits⟩ := Hf.say_fun eB eF (i := 27) rfl rfl
  have F_keeps_node_limits := fun_mk (st := ET.tp 42) l_keeps_node_limits c_keeps_node_limits k_keeps_node_limits
  have b_keeps_node_limits := F_keeps_node_limits.binds (ps := ["tree"]) fun _ _ _ _ _ _ us hl => match us, hl with | [_], _ => rfl
  have m_keeps_node_limits := PySem.W.mg_of X G a_keeps_node_limits
  obtain ⟨oc_check_declared_names, od_check_declared_names, sl_check_declared_names, kV_check_declared_names, dc_check_declared_names, pm_check_declared_names, an_check_declared_names, cd_check_declared_names, ct_check_declared_names, l_check_declared_names, c_check_declared_names, k_check_declared_names⟩ := Hf.say_fun eB eF (i := 28) rfl rfl
  have F_check_declared_names := fun_mk (st := ET.tp 43) l_check_declared_names c_check_declared_names k_check_declared_names
  have b_check_declared_names := F_check_declared_names.binds (ps := ["tree"]) fun _ _ _ _ _ _ us hl => match us, hl with | [_], _ => rfl
  have m_check_declared_names := PySem.W.mg_of X G a_check_declared_names
  obtain ⟨oc_check_heads, od_check_heads, sl_check_heads, kV_check_heads, dc_check_heads, pm_check_heads, an_check_heads, cd_check_heads, ct_check_heads, l_check_heads, c_check_heads, k_check_heads⟩ := Hf.say_fun eB eF (i := 29) rfl rfl
  have F_check_heads := fun_mk (st := ET.tp 44) l_check_heads c_check_heads k_check_heads
  have b_check_heads := F_check_heads.binds (ps := ["tree"]) fun _ _ _ _ _ _ us hl => match us, hl with | [_], _ => rfl
  have m_check_heads := PySem.W.mg_of X G a_check_heads
  obtain ⟨oc_first_items, od_first_items, sl_first_items, kV_first_items, dc_first_items, pm_first_items, an_first_items, cd_first_items, ct_first_items, l_first_items, c_first_items, k_first_items⟩ := Hf.say_fun eB eF (i := 30) rfl rfl
  have F_first_items := fun_mk (st := ET.tp 45) l_first_items c_first_items k_first_items
  have b_first_items := F_first_items.binds (ps := ["rows"]) fun _ _ _ _ _ _ us hl => match us, hl with | [_], _ => rfl
  have m_first_items := PySem.W.mg_of X G a_first_items
  obtain ⟨oc_are_distinct, od_are_distinct, sl_are_distinct, kV_are_distinct, dc_are_distinct, pm_are_distinct, an_are_distinct, cd_are_distinct, ct_are_distinct, l_are_distinct, c_are_distinct, k_are_distinct⟩ := Hf.say_fun eB eF (i := 31) rfl rfl
  have F_are_distinct := fun_mk (st := ET.tp 46) l_are_distinct c_are_distinct k_are_distinct
  have b_are_distinct := F_are_distinct.binds (ps := ["names"]) fun _ _ _ _ _ _ us hl => match us, hl with | [_], _ => rfl
  have m_are_distinct := PySem.W.mg_of X G a_are_distinct
  obtain ⟨oc_check_body, od_check_body, sl_check_body, kV_check_body, dc_check_body, pm_check_body, an_check_body, cd_check_body, ct_check_body, l_check_body, c_check_body, k_check_body⟩ := Hf.say_fun eB eF (i := 32) rfl rfl
  have F_check_body := fun_mk (st := ET.tp 47) l_check_body c_check_body k_check_body
  have b_check_body := F_check_body.binds (ps := ["body", "path", "scope"]) fun _ _ _ _ _ _ us hl => match us, hl with | [_, _, _], _ => rfl
  have m_check_body := PySem.W.mg_of X G a_check_body
  obtain ⟨oc__law_draws, od__law_draws, sl__law_draws, kV__law_draws, dc__law_draws, pm__law_draws, an__law_draws, cd__law_draws, ct__law_draws, l__law_draws, c__law_draws, k__law_draws⟩ := Hf.say_fun eB eF (i := 33) rfl rfl
  have F__law_draws := fun_mk (st := ET.tp 49) l__law_draws c__law_draws k__law_draws
  have b__law_draws := F__law_draws.binds (ps := ["script"]) fun _ _ _ _ _ _ us hl => match us, hl with | [_], _ => rfl
  have m__law_draws := PySem.W.mg_of X G a__law_draws
  obtain ⟨oc__law_take, od__law_take, sl__law_take, kV__law_take, dc__law_take, pm__law_take, an__law_take, cd__law_take, ct__law_take, l__law_take, c__law_take, k__law_take⟩ := Hf.say_fun eB eF (i := 34) rfl rfl
  have F__law_take := fun_mk (st := ET.tp 50) l__law_take c__law_take k__law_take
  have b__law_take := F__law_take.binds (ps := ["draws", "at", "many"]) fun _ _ _ _ _ _ us hl => match us, hl with | [_, _, _], _ => rfl
  have m__law_take := PySem.W.mg_of X G a__law_take
  obtain ⟨oc__law_number, od__law_number, sl__law_number, kV__law_number, dc__law_number, pm__law_number, an__law_number, cd__law_number, ct__law_number, l__law_number, c__law_number, k__law_number⟩ := Hf.say_fun eB eF (i := 35) rfl rfl
  have F__law_number := fun_mk (st := ET.tp 51) l__law_number c__law_number k__law_number
  have b__law_number := F__law_number.binds (ps := ["draws", "at"]) fun _ _ _ _ _ _ us hl => match us, hl with | [_, _], _ => rfl
  have m__law_number := PySem.W.mg_of X G a__law_number
  obtain ⟨oc__law_index, od__law_index, sl__law_index, kV__law_index, dc__law_index, pm__law_index, an__law_index, cd__law_index, ct__law_index, l__law_index, c__law_index, k__law_index⟩ := Hf.say_fun eB eF (i := 36) rfl rfl
  have F__law_index := fun_mk (st := ET.tp 52) l__law_index c__law_index k__law_index
  have b__law_index := F__law_index.binds (ps := ["integers", "draws", "at", "depth"]) fun _ _ _ _ _ _ us hl => match us, hl with | [_, _, _, _], _ => rfl
  have m__law_index := PySem.W.mg_of X G a__law_index
  obtain ⟨oc__law_place, od__law_place, sl__law_place, kV__law_place, dc__law_place, pm__law_place, an__law_place, cd__law_place, ct__law_place, l__law_place, c__law_place, k__law_place⟩ := Hf.say_fun eB eF (i := 37) rfl rfl
  have F__law_place := fun_mk (st := ET.tp 53) l__law_place c__law_place k__law_place
  have b__law_place := F__law_place.binds (ps := ["variables", "integers", "draws", "at"]) fun _ _ _ _ _ _ us hl => match us, hl with | [_, _, _, _], _ => rfl
  have m__law_place := PySem.W.mg_of X G a__law_place
  obtain ⟨oc__law_expression, od__law_expression, sl__law_expression, kV__law_expression, dc__law_expression, pm__law_expression, an__law_expression, cd__law_expression, ct__law_expression, l__law_expression, c__law_expression, k__law_expression⟩ := Hf.say_fun eB eF (i := 38) rfl rfl
  have F__law_expression := fun_mk (st := ET.tp 54) l__law_expression c__law_expression k__law_expression
  have b__law_expression := F__law_expression.binds (ps := ["variables", "integers", "draws", "at", "depth"]) fun _ _ _ _ _ _ us hl => match us, hl with | [_, _, _, _, _], _ => rfl
  have m__law_expression := PySem.W.mg_of X G a__law_expression
  obtain ⟨oc__law_test, od__law_test, sl__law_test, kV__law_test, dc__law_test, pm__law_test, an__law_test, cd__law_test, ct__law_test, l__law_test, c__law_test, k__law_test⟩ := Hf.say_fun eB eF (i := 39) rfl rfl
  have F__law_test := fun_mk (st := ET.tp 55) l__law_test c__law_test k__law_test
  have b__law_test := F__law_test.binds (ps := ["variables", "integers", "draws", "at"]) fun _ _ _ _ _ _ us hl => match us, hl with | [_, _, _, _], _ => rfl
  have m__law_test := PySem.W.mg_of X G a__law_test
  obtain ⟨oc__law_call, od__law_call, sl__law_call, kV__law_call, dc__law_call, pm__law_call, an__law_call, cd__law_call, ct__law_call, l__law_call, c__law_call, k__law_call⟩ := Hf.say_fun eB eF (i := 40) rfl rfl
  have F__law_call := fun_mk (st := ET.tp 56) l__law_call c__law_call k__law_call
  have b__law_call := F__law_call.binds (ps := ["variables", "integers", "known", "draws", "at"]) fun _ _ _ _ _ _ us hl => match us, hl with | [_, _, _, _, _], _ => rfl
  have m__law_call := PySem.W.mg_of X G a__law_call
  obtain ⟨oc__law_body, od__law_body, sl__law_body, kV__law_body, dc__law_body, pm__law_body, an__law_body, cd__law_body, ct__law_body, l__law_body, c__law_body, k__law_body⟩ := Hf.say_fun eB eF (i := 41) rfl rfl
  have F__law_body := fun_mk (st := ET.tp 57) l__law_body c__law_body k__law_body
  have b__law_body := F__law_body.binds (ps := ["variables", "integers", "known", "draws", "at", "depth"]) fun _ _ _ _ _ _ us hl => match us, hl with | [_, _, _, _, _, _], _ => rfl
  have m__law_body := PySem.W.mg_of X G a__law_body
  obtain ⟨oc__law_statement, od__law_statement, sl__law_statement, kV__law_statement, dc__law_statement, pm__law_statement, an__law_statement, cd__law_statement, ct__law_statement, l__law_statement, c__law_statement, k__law_statement⟩ := Hf.say_fun eB eF (i := 42) rfl rfl
  have F__law_statement := fun_mk (st := ET.tp 58) l__law_statement c__law_statement k__law_statement
  have b__law_statement := F__law_statement.binds (ps := ["variables", "integers", "known", "draws", "at", "depth"]) fun _ _ _ _ _ _ us hl => match us, hl with | [_, _, _, _, _, _], _ => rfl
  have m__law_statement := PySem.W.mg_of X G a__law_statement
  obtain ⟨oc__law_tree, od__law_tree, sl__law_tree, kV__law_tree, dc__law_tree, pm__law_tree, an__law_tree, cd__law_tree, ct__law_tree, l__law_tree, c__law_tree, k__law_tree⟩ := Hf.say_fun eB eF (i := 43) rfl rfl
  have F__law_tree := fun_mk (st := ET.tp 59) l__law_tree c__law_tree k__law_tree
  have b__law_tree := F__law_tree.binds (ps := ["draws", "at"]) fun _ _ _ _ _ _ us hl => match us, hl with | [_, _], _ => rfl
  have m__law_tree := PySem.W.mg_of X G a__law_tree
  obtain ⟨oc__law_layout, od__law_layout, sl__law_layout, kV__law_layout, dc__law_layout, pm__law_layout, an__law_layout, cd__law_layout, ct__law_layout, l__law_layout, c__law_layout, k__law_layout⟩ := Hf.say_fun eB eF (i := 44) rfl rfl
  have F__law_layout := fun_mk (st := ET.tp 60) l__law_layout c__law_layout k__law_layout
  have b__law_layout := F__law_layout.binds (ps := ["declarations"]) fun _ _ _ _ _ _ us hl => match us, hl with | [_], _ => rfl
  have m__law_layout := PySem.W.mg_of X G a__law_layout
  obtain ⟨oc__law_scopes, od__law_scopes, sl__law_scopes, kV__law_scopes, dc__law_scopes, pm__law_scopes, an__law_scopes, cd__law_scopes, ct__law_scopes, l__law_scopes, c__law_scopes, k__law_scopes⟩ := Hf.say_fun eB eF (i := 45) rfl rfl
  have F__law_scopes := fun_mk (st := ET.tp 61) l__law_scopes c__law_scopes k__law_scopes
  have b__law_scopes := F__law_scopes.binds (ps := ["body", "path", "scope", "found"]) fun _ _ _ _ _ _ us hl => match us, hl with | [_, _, _, _], _ => rfl
  have m__law_scopes := PySem.W.mg_of X G a__law_scopes
  obtain ⟨oc_law, od_law, sl_law, kV_law, dc_law, pm_law, an_law, cd_law, ct_law, l_law, c_law, k_law⟩ := Hf.say_fun eB eF (i := 46) rfl rfl
  have F_law := fun_mk (st := ET.tp 62) l_law c_law k_law
  have b_law := F_law.binds (ps := ["script"]) fun _ _ _ _ _ _ us hl => match us, hl with | [_], _ => rfl
  have m_law := PySem.W.mg_of X G a_law
  have D_is_integer : DefAt K f_is_integer (He.ga K "is_integer") _ := ⟨⟨_, _, _, F_is_integer, rfl, rfl⟩, b_is_integer, by kernel_rfl⟩
  have D_is_between : DefAt K f_is_between (He.ga K "is_between") _ := ⟨⟨_, _, _, F_is_between, rfl, rfl⟩, b_is_between, by kernel_rfl⟩
  have D_is_name : DefAt K f_is_name (He.ga K "is_name") _ := ⟨⟨_, _, _, F_is_name, rfl, rfl⟩, b_is_name, by kernel_rfl⟩
  have D_parts_of : DefAt K f_parts_of (He.ga K "parts_of") _ := ⟨⟨_, _, _, F_parts_of, rfl, rfl⟩, b_parts_of, by kernel_rfl⟩
  have D_is_plain : DefAt K f_is_plain (He.ga K "is_plain") _ := ⟨⟨_, _, _, F_is_plain, rfl, rfl⟩, b_is_plain, by kernel_rfl⟩
  have D_parts_of_form : DefAt K f_parts_of_form (He.ga K "parts_of_form") _ := ⟨⟨_, _, _, F_parts_of_form, rfl, rfl⟩, b_parts_of_form, by kernel_rfl⟩
  have D_pair_up : DefAt K f_pair_up (He.ga K "pair_up") _ := ⟨⟨_, _, _, F_pair_up, rfl, rfl⟩, b_pair_up, by kernel_rfl⟩
  have D_inner_bodies : DefAt K f_inner_bodies (He.ga K "inner_bodies") _ := ⟨⟨_, _, _, F_inner_bodies, rfl, rfl⟩, b_inner_bodies, by kernel_rfl⟩
  have D_bodies_of : DefAt K f_bodies_of (He.ga K "bodies_of") _ := ⟨⟨_, _, _, F_bodies_of, rfl, rfl⟩, b_bodies_of, by kernel_rfl⟩
  have D_Scope___init__ : DefAt K f_Scope___init__ (He.ma K (He.ga K "Scope") "__init__") _ := ⟨⟨_, _, _, F_Scope___init__, rfl, rfl⟩, b_Scope___init__, by kernel_rfl⟩
  have D_Scope_enter : DefAt K f_Scope_enter (He.ma K (He.ga K "Scope") "enter") _ := ⟨⟨_, _, _, F_Scope_enter, rfl, rfl⟩, b_Scope_enter, by kernel_rfl⟩
  have D_Scope_leave : DefAt K f_Scope_leave (He.ma K (He.ga K "Scope") "leave") _ := ⟨⟨_, _, _, F_Scope_leave, rfl, rfl⟩, b_Scope_leave, by kernel_rfl⟩
  have D_Scope_find_reason : DefAt K f_Scope_find_reason (He.ma K (He.ga K "Scope") "find_reason") _ := ⟨⟨_, _, _, F_Scope_find_reason, rfl, rfl⟩, b_Scope_find_reason, by kernel_rfl⟩
  have D_Scope_sees_all : DefAt K f_Scope_sees_all (He.ma K (He.ga K "Scope") "sees_all") _ := ⟨⟨_, _, _, F_Scope_sees_all, rfl, rfl⟩, b_Scope_sees_all, by kernel_rfl⟩
  have D_Scope_is_free : DefAt K f_Scope_is_free (He.ma K (He.ga K "Scope") "is_free") _ := ⟨⟨_, _, _, F_Scope_is_free, rfl, rfl⟩, b_Scope_is_free, by kernel_rfl⟩
  have D_Scope_fits_size : DefAt K f_Scope_fits_size (He.ma K (He.ga K "Scope") "fits_size") _ := ⟨⟨_, _, _, F_Scope_fits_size, rfl, rfl⟩, b_Scope_fits_size, by kernel_rfl⟩
  have D_Scope_may_call : DefAt K f_Scope_may_call (He.ma K (He.ga K "Scope") "may_call") _ := ⟨⟨_, _, _, F_Scope_may_call, rfl, rfl⟩, b_Scope_may_call, by kernel_rfl⟩
  have D_handed_names : DefAt K f_handed_names (He.ga K "handed_names") _ := ⟨⟨_, _, _, F_handed_names, rfl, rfl⟩, b_handed_names, by kernel_rfl⟩
  have D_changed_names : DefAt K f_changed_names (He.ga K "changed_names") _ := ⟨⟨_, _, _, F_changed_names, rfl, rfl⟩, b_changed_names, by kernel_rfl⟩
  have D_used_names : DefAt K f_used_names (He.ga K "used_names") _ := ⟨⟨_, _, _, F_used_names, rfl, rfl⟩, b_used_names, by kernel_rfl⟩
  have D_check : DefAt K f_check (He.ga K "check") _ := ⟨⟨_, _, _, F_check, rfl, rfl⟩, b_check, by kernel_rfl⟩
  have D_cells : DefAt K f_cells (He.ga K "cells") _ := ⟨⟨_, _, _, F_cells, rfl, rfl⟩, b_cells, by kernel_rfl⟩
  have D_layout : DefAt K f_layout (He.ga K "layout") _ := ⟨⟨_, _, _, F_layout, rfl, rfl⟩, b_layout, by kernel_rfl⟩
  have D_variables_at : DefAt K f_variables_at (He.ga K "variables_at") _ := ⟨⟨_, _, _, F_variables_at, rfl, rfl⟩, b_variables_at, by kernel_rfl⟩
  have D_has_shape : DefAt K f_has_shape (He.ga K "has_shape") _ := ⟨⟨_, _, _, F_has_shape, rfl, rfl⟩, b_has_shape, by kernel_rfl⟩
  have D_keeps_limits : DefAt K f_keeps_limits (He.ga K "keeps_limits") _ := ⟨⟨_, _, _, F_keeps_limits, rfl, rfl⟩, b_keeps_limits, by kernel_rfl⟩
  have D_keeps_node_limits : DefAt K f_keeps_node_limits (He.ga K "keeps_node_limits") _ := ⟨⟨_, _, _, F_keeps_node_limits, rfl, rfl⟩, b_keeps_node_limits, by kernel_rfl⟩
  have D_check_declared_names : DefAt K f_check_declared_names (He.ga K "check_declared_names") _ := ⟨⟨_, _, _, F_check_declared_names, rfl, rfl⟩, b_check_declared_names, by kernel_rfl⟩
  have D_check_heads : DefAt K f_check_heads (He.ga K "check_heads") _ := ⟨⟨_, _, _, F_check_heads, rfl, rfl⟩, b_check_heads, by kernel_rfl⟩
  have D_first_items : DefAt K f_first_items (He.ga K "first_items") _ := ⟨⟨_, _, _, F_first_items, rfl, rfl⟩, b_first_items, by kernel_rfl⟩
  have D_are_distinct : DefAt K f_are_distinct (He.ga K "are_distinct") _ := ⟨⟨_, _, _, F_are_distinct, rfl, rfl⟩, b_are_distinct, by kernel_rfl⟩
  have D_check_body : DefAt K f_check_body (He.ga K "check_body") _ := ⟨⟨_, _, _, F_check_body, rfl, rfl⟩, b_check_body, by kernel_rfl⟩
  have D__law_draws : DefAt K f__law_draws (He.ga K "_law_draws") _ := ⟨⟨_, _, _, F__law_draws, rfl, rfl⟩, b__law_draws, by kernel_rfl⟩
  have D__law_take : DefAt K f__law_take (He.ga K "_law_take") _ := ⟨⟨_, _, _, F__law_take, rfl, rfl⟩, b__law_take, by kernel_rfl⟩
  have D__law_number : DefAt K f__law_number (He.ga K "_law_number") _ := ⟨⟨_, _, _, F__law_number, rfl, rfl⟩, b__law_number, by kernel_rfl⟩
  have D__law_index : DefAt K f__law_index (He.ga K "_law_index") _ := ⟨⟨_, _, _, F__law_index, rfl, rfl⟩, b__law_index, by kernel_rfl⟩
  have D__law_place : DefAt K f__law_place (He.ga K "_law_place") _ := ⟨⟨_, _, _, F__law_place, rfl, rfl⟩, b__law_place, by kernel_rfl⟩
  have D__law_expression : DefAt K f__law_expression (He.ga K "_law_expression") _ := ⟨⟨_, _, _, F__law_expression, rfl, rfl⟩, b__law_expression, by kernel_rfl⟩
  have D__law_test : DefAt K f__law_test (He.ga K "_law_test") _ := ⟨⟨_, _, _, F__law_test, rfl, rfl⟩, b__law_test, by kernel_rfl⟩
  have D__law_call : DefAt K f__law_call (He.ga K "_law_call") _ := ⟨⟨_, _, _, F__law_call, rfl, rfl⟩, b__law_call, by kernel_rfl⟩
  have D__law_body : DefAt K f__law_body (He.ga K "_law_body") _ := ⟨⟨_, _, _, F__law_body, rfl, rfl⟩, b__law_body, by kernel_rfl⟩
  have D__law_statement : DefAt K f__law_statement (He.ga K "_law_statement") _ := ⟨⟨_, _, _, F__law_statement, rfl, rfl⟩, b__law_statement, by kernel_rfl⟩
  have D__law_tree : DefAt K f__law_tree (He.ga K "_law_tree") _ := ⟨⟨_, _, _, F__law_tree, rfl, rfl⟩, b__law_tree, by kernel_rfl⟩
  have D__law_layout : DefAt K f__law_layout (He.ga K "_law_layout") _ := ⟨⟨_, _, _, F__law_layout, rfl, rfl⟩, b__law_layout, by kernel_rfl⟩
  have D__law_scopes : DefAt K f__law_scopes (He.ga K "_law_scopes") _ := ⟨⟨_, _, _, F__law_scopes, rfl, rfl⟩, b__law_scopes, by kernel_rfl⟩
  have D_law : DefAt K f_law (He.ga K "law") _ := ⟨⟨_, _, _, F_law, rfl, rfl⟩, b_law, by kernel_rfl⟩
  refine { fn := fun x n hx => AllP.get (l := T.fn) (Q := fun x n => ∃ d f fd, T.df.lookup x = some d ∧ d.ps.length = n ∧ DefAt K d f fd ∧ mg x = some (.ref f)) ?fnc hx, mt := fun c l mn p h1 h2 => (AllP.get (l := T.mt) (Q := fun c l => AllP (fun mn (p : Nat × Str) => ∃ d C f fd, T.df.lookup p.2 = some d ∧ d.ps.length = p.1 ∧ DefAt K d f fd ∧ mg c = some (.ref C) ∧ Cls K C ∧ Meth K C mn f) l) ?mtc h1).get h2, ck := fun c p h1 => AllP.get (l := T.ck) (Q := fun c p => ∃ d C f fd, T.df.lookup p.2 = some d ∧ d.ps.length = p.1 ∧ DefAt K d f fd ∧ mg c = some (.ref C) ∧ Mk K C f) ?ckc h1, at_ := fun f c h1 C hC => ?atc, con := fun x wv h1 => AllP.get (l := T.con) (Q := fun x wv => ∃ v u, mg x = some u ∧ RelV v u ∧ ∀ m H, Va ⟨K, mg⟩ m H wv v) ?conc h1, blt := fun x hx => ?bltc, exn := fun c p h1 => AllP.get (l := T.exn) (Q := fun c p => ∀ X : Cx, X.prog = R.prog → X.w = w → X.K = K → X.mg = mg → Room 2 X.A → X.calm = true → ∃ okV, MkX X c p.1 okV ∧ ∀ m H ws vs, VaL (wd X) m H ws vs → p.2 ws = true → okV vs H) ?exnc h1, sub := fun x l h1 => AllP.get (l := T.sub) (Q := fun x l => ∃ cv, mg x = some cv ∧ ∀ c C b, mg c = some (.ref C) → l.lookup c = some b → PySem.W.exmOne K (.ref C) cv = some b) ?subc h1, tab := fun t es h1 => AllP.get (l := T.tab) (Q := fun t es => TabOk w K mg t es) ?tabc h1, tq := fun t rows h1 => AllP.get (l := T.tq) (Q := fun t rows => ∃ d, mg t = some (.ref d) ∧ Hf.KForm R.prog w K d rows ∧ (rows.map (·.1)).Nodup) ?tqc h1 }
  case fnc => exact (AllP.app (⟨⟨f_is_integer, _, _, by kernel_rfl, rfl, D_is_integer, m_is_integer⟩, ⟨f_is_between, _, _, by kernel_rfl, rfl, D_is_between, m_is_between⟩, ⟨f_is_name, _, _, by kernel_rfl, rfl, D_is_name, m_is_name⟩, ⟨f_parts_of, _, _, by kernel_rfl, rfl, D_parts_of, m_parts_of⟩, ⟨f_is_plain, _, _, by kernel_rfl, rfl, D_is_plain, m_is_plain⟩, ⟨f_parts_of_form, _, _, by kernel_rfl, rfl, D_parts_of_form, m_parts_of_form⟩, ⟨f_pair_up, _, _, by kernel_rfl, rfl, D_pair_up, m_pair_up⟩, ⟨f_inner_bodies, _, _, by kernel_rfl, rfl, D_inner_bodies, m_inner_bodies⟩, ⟨f_bodies_of, _, _, by kernel_rfl, rfl, D_bodies_of, m_bodies_of⟩, ⟨f_handed_names, _, _, by kernel_rfl, rfl, D_handed_names, m_handed_names⟩, ⟨f_changed_names, _, _, by kernel_rfl, rfl, D_changed_names, m_changed_names⟩, ⟨f_used_names, _, _, by kernel_rfl, rfl, D_used_names, m_used_names⟩, ⟨f_check, _, _, by kernel_rfl, rfl, D_check, m_check⟩, ⟨f_cells, _, _, by kernel_rfl, rfl, D_cells, m_cells⟩, ⟨f_layout, _, _, by kernel_rfl, rfl, D_layout, m_layout⟩, ⟨f_variables_at, _, _, by kernel_rfl, rfl, D_variables_at, m_variables_at⟩, ⟨f_has_shape, _, _, by kernel_rfl, rfl, D_has_shape, m_has_shape⟩, ⟨f_keeps_limits, _, _, by kernel_rfl, rfl, D_keeps_limits, m_keeps_limits⟩, ⟨f_keeps_node_limits, _, _, by kernel_rfl, rfl, D_keeps_node_limits, m_keeps_node_limits⟩, ⟨f_check_declared_names, _, _, by kernel_rfl, rfl, D_check_declared_names, m_check_declared_names⟩, trivial⟩) ⟨⟨f_check_heads, _, _, by kernel_rfl, rfl, D_check_heads, m_check_heads⟩, ⟨f_first_items, _, _, by kernel_rfl, rfl, D_first_items, m_first_items⟩, ⟨f_are_distinct, _, _, by kernel_rfl, rfl, D_are_distinct, m_are_distinct⟩, ⟨f_check_body, _, _, by kernel_rfl, rfl, D_check_body, m_check_body⟩, ⟨f__law_draws, _, _, by kernel_rfl, rfl, D__law_draws, m__law_draws⟩, ⟨f__law_take, _, _, by kernel_rfl, rfl, D__law_take, m__law_take⟩, ⟨f__law_number, _, _, by kernel_rfl, rfl, D__law_number, m__law_number⟩, ⟨f__law_index, _, _, by kernel_rfl, rfl, D__law_index, m__law_index⟩, ⟨f__law_place, _, _, by kernel_rfl, rfl, D__law_place, m__law_place⟩, ⟨f__law_expression, _, _, by kernel_rfl, rfl, D__law_expression, m__law_expression⟩, ⟨f__law_test, _, _, by kernel_rfl, rfl, D__law_test, m__law_test⟩, ⟨f__law_call, _, _, by kernel_rfl, rfl, D__law_call, m__law_call⟩, ⟨f__law_body, _, _, by kernel_rfl, rfl, D__law_body, m__law_body⟩, ⟨f__law_statement, _, _, by kernel_rfl, rfl, D__law_statement, m__law_statement⟩, ⟨f__law_tree, _, _, by kernel_rfl, rfl, D__law_tree, m__law_tree⟩, ⟨f__law_layout, _, _, by kernel_rfl, rfl, D__law_layout, m__law_layout⟩, ⟨f__law_scopes, _, _, by kernel_rfl, rfl, D__law_scopes, m__law_scopes⟩, ⟨f_law, _, _, by kernel_rfl, rfl, D_law, m_law⟩, trivial⟩)
  case mtc => exact ⟨⟨⟨f_Scope_enter, _, _, _, by kernel_rfl, rfl, D_Scope_enter, PySem.W.mg_of X G a_Scope, ⟨x_Scope.get, x_Scope.hd, x_Scope.over, x_Scope.sa⟩, ⟨x_Scope.at_ _ (by simp), x_Scope.fn _ (by simp), F_Scope_enter.kp⟩⟩, ⟨f_Scope_leave, _, _, _, by kernel_rfl, rfl, D_Scope_leave, PySem.W.mg_of X G a_Scope, ⟨x_Scope.get, x_Scope.hd, x_Scope.over, x_Scope.sa⟩, ⟨x_Scope.at_ _ (by simp), x_Scope.fn _ (by simp), F_Scope_leave.kp⟩⟩, ⟨f_Scope_find_reason, _, _, _, by kernel_rfl, rfl, D_Scope_find_reason, PySem.W.mg_of X G a_Scope, ⟨x_Scope.get, x_Scope.hd, x_Scope.over, x_Scope.sa⟩, ⟨x_Scope.at_ _ (by simp), x_Scope.fn _ (by simp), F_Scope_find_reason.kp⟩⟩, ⟨f_Scope_sees_all, _, _, _, by kernel_rfl, rfl, D_Scope_sees_all, PySem.W.mg_of X G a_Scope, ⟨x_Scope.get, x_Scope.hd, x_Scope.over, x_Scope.sa⟩, ⟨x_Scope.at_ _ (by simp), x_Scope.fn _ (by simp), F_Scope_sees_all.kp⟩⟩, ⟨f_Scope_is_free, _, _, _, by kernel_rfl, rfl, D_Scope_is_free, PySem.W.mg_of X G a_Scope, ⟨x_Scope.get, x_Scope.hd, x_Scope.over, x_Scope.sa⟩, ⟨x_Scope.at_ _ (by simp), x_Scope.fn _ (by simp), F_Scope_is_free.kp⟩⟩, ⟨f_Scope_fits_size, _, _, _, by kernel_rfl, rfl, D_Scope_fits_size, PySem.W.mg_of X G a_Scope, ⟨x_Scope.get, x_Scope.hd, x_Scope.over, x_Scope.sa⟩, ⟨x_Scope.at_ _ (by simp), x_Scope.fn _ (by simp), F_Scope_fits_size.kp⟩⟩, ⟨f_Scope_may_call, _, _, _, by kernel_rfl, rfl, D_Scope_may_call, PySem.W.mg_of X G a_Scope, ⟨x_Scope.get, x_Scope.hd, x_Scope.over, x_Scope.sa⟩, ⟨x_Scope.at_ _ (by simp), x_Scope.fn _ (by simp), F_Scope_may_call.kp⟩⟩, trivial⟩, trivial⟩
  case ckc => exact ⟨⟨f_Scope___init__, _, _, _, by kernel_rfl, rfl, D_Scope___init__, PySem.W.mg_of X G a_Scope, ⟨x_Scope.mks, x_Scope.at_ _ (by simp), x_Scope.fn _ (by simp), x_Scope.kp⟩⟩, trivial⟩
  case atc =>
    unfold atB at h1
    split at h1
    · rename_i l hl
      have := AllP.get (l := T.at_) (Q := fun c l => ∀ f ∈ l, ∀ C, mg c = some (.ref C) → Cls K C ∧ NoAttr K C f) ⟨(fun f hf C hC => by have ee := hC.symm.trans (PySem.W.mg_of X G a_Scope); cases ee; exact ⟨⟨x_Scope.get, x_Scope.hd, x_Scope.over, x_Scope.sa⟩, x_Scope.no f hf⟩), trivial⟩ hl
      exact this f (of_decide_eq_true h1) C hC
    · cases h1
  case conc => exact ⟨⟨.int 2147483647, _, PySem.W.mg_of X G g_PRIME, ⟨_, rfl⟩, fun _ _ => rfl⟩, ⟨.int 4, _, PySem.W.mg_of X G g_MAX_DEPTH, ⟨_, rfl⟩, fun _ _ => rfl⟩, ⟨.int 32, _, PySem.W.mg_of X G g_MAX_CELLS, ⟨_, rfl⟩, fun _ _ => rfl⟩, ⟨.int 8, _, PySem.W.mg_of X G g_MAX_SIZE, ⟨_, rfl⟩, fun _ _ => rfl⟩, ⟨.int 300, _, PySem.W.mg_of X G g_MAX_NODES, ⟨_, rfl⟩, fun _ _ => rfl⟩, ⟨.int 1000, _, PySem.W.mg_of X G g_MAX_INTEGER, ⟨_, rfl⟩, fun _ _ => rfl⟩, ⟨.int 8, _, PySem.W.mg_of X G g_MAX_PROCEDURES, ⟨_, rfl⟩, fun _ _ => rfl⟩, ⟨.int 6, _, PySem.W.mg_of X G g_MAX_HANDED, ⟨_, rfl⟩, fun _ _ => rfl⟩, ⟨.str "abcdefghijklmnopqrstuvwxyz", _, PySem.W.mg_of X G g_LETTERS, ⟨_, rfl⟩, fun _ _ => rfl⟩, ⟨.str "abcdefghijklmnopqrstuvwxyz0123456789", _, PySem.W.mg_of X G g_LETTERS_AND_DIGITS, ⟨_, rfl⟩, fun _ _ => rfl⟩, ⟨.int 8, _, PySem.W.mg_of X G g_LONGEST_NAME, ⟨_, rfl⟩, fun _ _ => rfl⟩, ⟨.ref _, _, PySem.W.mg_of X G a_RESERVED, rfl, tup_va (Hf.say_b eB (i := 13) rfl)⟩, ⟨.ref _, _, PySem.W.mg_of X G a_NODES, rfl, tup_va (Hf.say_b eB (i := 14) rfl)⟩, trivial⟩
  case bltc =>
    have hm : x ∈ T.blt := by simpa using hx
    simp only [T, List.mem_cons, List.not_mem_nil, or_false] at hm
    rcases hm with rfl | rfl | rfl | rfl | rfl | rfl | rfl | rfl | rfl | rfl | rfl | rfl | rfl | rfl | rfl | rfl | rfl
    · exact PySem.W.mg_none_of X G z_len
    · exact PySem.W.mg_none_of X G z_int
    · exact PySem.W.mg_none_of X G z_range
    · exact PySem.W.mg_none_of X G z_tuple
    · exact PySem.W.mg_none_of X G z_list
    · exact PySem.W.mg_none_of X G z_str
    · exact PySem.W.mg_none_of X G z_isinstance
    · exact PySem.W.mg_none_of X G z_bool
    · exact PySem.W.mg_none_of X G z_abs
    · exact PySem.W.mg_none_of X G z_max
    · exact PySem.W.mg_none_of X G z_repr
    · exact PySem.W.mg_none_of X G z_enumerate
    · exact PySem.W.mg_none_of X G z_zip
    · exact PySem.W.mg_none_of X G z_sum
    · exact PySem.W.mg_none_of X G z_any
    · exact PySem.W.mg_none_of X G z_all
    · exact PySem.W.mg_none_of X G z_set
  case exnc => exact ⟨Er.exn_te l_TreeError___init__ c_TreeError___init__ x_TreeError.sup (x_TreeError.no _ (by simp)) (x_TreeError.no _ (by simp)) x_TreeError.ini x_TreeError.fn (PySem.W.mg_of X G a_TreeError), trivial⟩
  case subc => exact ⟨⟨_, PySem.W.mg_of X G a_TreeError, fun c C b hc hl => AllP.get (l := [(("TreeError" : Str), true)]) (Q := fun c b => ∀ C, mg c = some (.ref C) → PySem.W.exmOne K (.ref C) (.ref (He.ga K "TreeError")) = some b) ⟨fun C hC => (by have ee := hC.symm.trans (PySem.W.mg_of X G a_TreeError); cases ee; exact of_decide_eq_true (Hf.say_b eB (i := 19) rfl)), trivial⟩ hl C hc⟩, trivial⟩
  case tabc => exact ⟨tabB_ok (Hf.say_b eB (i := 17) rfl) (List.cons.inj eD).1 (PySem.W.mg_of X G a_ROWS), tabB_ok (Hf.say_b eB (i := 18) rfl) (List.cons.inj (List.cons.inj eD).2).1 (PySem.W.mg_of X G a_RECORDS), trivial⟩
  case tqc =>
    have e0 : HT.rowsF = t_FORMS := by kernel_rfl
    rw [e0] at kF
    exact ⟨⟨_, PySem.W.mg_of X G a_FORMS, kF, by decide +kernel⟩, trivial⟩
end ET

/-! ## Trees, as values -/
namespace Pt
open PySem Ev
inductive Io where | plus | minus | times
inductive Eo where | add | sub | mul | div
inductive Ix where
  | int (n : Int) | var (x : Str) | beat | rem (a : Ix) (n : Int) | op (o : Io) (a b : Ix)
inductive Ex where
  | num (n : Int) | place (x : Str) (i : Option Ix) | op (o : Eo) (a b : Ex)
inductive Ts where
  | less (a b : Ix) | equal (a b : Ix) | zero (e : Ex) | not (t : Ts)
inductive St where
  | set (x : Str) (i : Option Ix) (e : Ex) | loop (x : Str) (c : Ix) (b : List St) | ite (t : Ts) (a b : List St) | call (f : Str) (xs : List Ix) (ns : List Str) | bind (x : Str) (e : Ex) (b : List St)
abbrev Decl := Str × Int
structure Proc where
  name : Str
  idxs : List Str
  refs : List Decl
  body : List St
structure Tree where
  state : List Decl
  params : List Decl
  procs : List Proc
  beat : List St
def Io.s : Io → Str | .plus => "plus" | .minus => "minus" | .times => "times"
def Eo.s : Eo → Str | .add => "add" | .sub => "sub" | .mul => "mul" | .div => "div"
def Ix.w : Ix → W
  | .int n => .tup [.str "integer", .int n]
  | .var x => .tup [.str "index", .str x]
  | .beat => .tup [.str "beat"]
  | .rem a n => .tup [.str "rem", a.w, .int n]
  | .op o a b => .tup [.str o.s, a.w, b.w]
def wO : Option Ix → W
  | none => .non
  | some i => i.w
def wPl (x : Str) (i : Option Ix) : W := .tup [.str x, wO i]
def Ex.w : Ex → W
  | .num n => .tup [.str "number", .int n]
  | .place x i => .tup [.str "place", .str x, wO i]
  | .op o a b => .tup [.str o.s, a.w, b.w]
def Ts.w : Ts → W
  | .less a b => .tup [.str "less", a.w, b.w]
  | .equal a b => .tup [.str "equal", a.w, b.w]
  | .zero e => .tup [.str "zero", e.w]
  | .not t => .tup [.str "not", t.w]
mutual
def St.w : St → W
  | .set x i e => .tup [.str "set", wPl x i, e.w]
  | .loop x c b => .tup [.str "loop", .str x, c.w, .tup (St.ws b)]
  | .ite t a b => .tup [.str "if", t.w, .tup (St.ws a), .tup (St.ws b)]
  | .call f xs ns => .tup [.str "call", .str f, .tup (xs.map Ix.w), .tup (ns.map W.str)]
  | .bind x e b => .tup [.str "let", .str x, e.w, .tup (St.ws b)]
def St.ws : List St → List W
  | [] => []
  | s :: r => s.w :: St.ws r
end
theorem ws_map : ∀ b : List St, St.ws b = b.map St.w
  | [] => by simp [St.ws]
  | s :: r => by rw [St.ws, ws_map r, List.map_cons]
def wDecl (d : Decl) : W := .tup [.str d.1, .int d.2]
def Proc.w (p : Proc) : W := .tup [.str p.name, .tup (p.idxs.map W.str), .tup (p.refs.map wDecl), .tup (St.ws p.body)]
def Tree.w (t : Tree) : W := .tup [.tup (t.state.map wDecl), .tup (t.params.map wDecl), .tup (t.procs.map Proc.w), .tup (St.ws t.beat)]
/-! ### parts -/
inductive Nd where
  | tree (t : Tree) | decls (l : List Decl) | procs (l : List Proc) | body (b : List St) | names (l : List Str) | idxs (l : List Ix) | vari (d : Decl) | proc (p : Proc) | st (s : St) | ex (e : Ex) | ix (i : Ix) | ts (t : Ts)
  | pl (x : Str) (i : Option Ix) | sub (i : Option Ix) | name (s : Str) | size (n : Int) | number (n : Int) | integer (n : Int) | divisor (n : Int)
def Nd.kind : Nd → Str
  | .tree _ => "tree" | .decls _ => "variables" | .procs _ => "procedures" | .body _ => "body" | .names _ => "names" | .idxs _ => "indexes" | .vari _ => "variable" | .proc _ => "procedure"
  | .st _ => "statement" | .ex _ => "expression" | .ix _ => "index" | .ts _ => "test" | .pl _ _ => "place" | .sub _ => "subscript" | .name _ => "name" | .size _ => "size" | .number _ => "number" | .integer _ => "integer" | .divisor _ => "divisor"
def Nd.w : Nd → W
  | .tree t => t.w
  | .decls l => .tup (l.map wDecl)
  | .procs l => .tup (l.map Proc.w)
  | .body b => .tup (St.ws b)
  | .names l => .tup (l.map W.str)
  | .idxs l => .tup (l.map Ix.w)
  | .vari d => wDecl d
  | .proc p => p.w
  | .st s => s.w
  | .ex e => e.w
  | .ix i => i.w
  | .ts t => t.w
  | .pl x i => wPl x i
  | .sub i => wO i
  | .name s => .str s
  | .size n => .int n
  | .number n => .int n
  | .integer n => .int n
  | .divisor n => .int n
def kidsIx : Ix → List Nd
  | .int n => [.integer n]
  | .beat => []
  | .var s => [.name s]
  | .rem a n => [.ix a, .divisor n]
  | .op _ a b => [.ix a, .ix b]
def kidsEx : Ex → List Nd
  | .num n => [.number n]
  | .place x i => [.name x, .sub i]
  | .op _ a b => [.ex a, .ex b]
def kidsTs : Ts → List Nd
  | .zero e => [.ex e]
  | .less a b => [.ix a, .ix b]
  | .equal a b => [.ix a, .ix b]
  | .not t => [.ts t]
def kidsSt : St → List Nd
  | .set x i e => [.pl x i, .ex e]
  | .call f xs ns => [.name f, .idxs xs, .names ns]
  | .loop x c b => [.name x, .ix c, .body b]
  | .ite t a b => [.ts t, .body a, .body b]
  | .bind x e b => [.name x, .ex e, .body b]
def Nd.kids : Nd → List Nd
  | .tree t => [.decls t.state, .decls t.params, .procs t.procs, .body t.beat]
  | .decls l => l.map .vari
  | .procs l => l.map .proc
  | .body b => b.map .st
  | .names l => l.map .name
  | .idxs l => l.map .ix
  | .vari d => [.name d.1, .size d.2]
  | .proc p => [.name p.name, .names p.idxs, .decls p.refs, .body p.body]
  | .st s => kidsSt s
  | .ex e => kidsEx e
  | .ix i => kidsIx i
  | .ts t => kidsTs t
  | .pl x i => [.name x, .sub i]
  | .sub none => []
  | .sub (some i) => [.ix i]
  | _ => []
/-- a kind and its value -/
def Nd.p (n : Nd) : W := .tup [.str n.kind, n.w]
/-! ### how much there is to walk -/
def wtIx : Ix → Nat
  | .int _ => 2
  | .beat => 1
  | .var _ => 2
  | .rem a _ => wtIx a + 2
  | .op _ a b => wtIx a + wtIx b + 1
def wtOx : Option Ix → Nat
  | none => 1
  | some i => wtIx i + 1
def wtEx : Ex → Nat
  | .num _ => 2
  | .place _ i => wtOx i + 2
  | .op _ a b => wtEx a + wtEx b + 1
def wtTs : Ts → Nat
  | .zero e => wtEx e + 1
  | .less a b => wtIx a + wtIx b + 1
  | .equal a b => wtIx a + wtIx b + 1
  | .not t => wtTs t + 1
mutual
def wtSt : St → Nat
  | .set _ i e => wtOx i + 2 + wtEx e + 1
  | .call _ xs ns => 1 + ((xs.map wtIx).sum + 1) + (ns.length + 1) + 1
  | .loop _ c b => 1 + wtIx c + (wtSts b + 1) + 1
  | .ite t a b => wtTs t + (wtSts a + 1) + (wtSts b + 1) + 1
  | .bind _ e b => 1 + wtEx e + (wtSts b + 1) + 1
def wtSts : List St → Nat
  | [] => 0
  | s :: r => wtSt s + wtSts r
end
theorem wtSts_map : ∀ b : List St, wtSts b = (b.map wtSt).sum
  | [] => by simp [wtSts]
  | s :: r => by rw [wtSts, wtSts_map r, List.map_cons, List.sum_cons]
def wtProc (p : Proc) : Nat := 1 + (p.idxs.length + 1) + (3 * p.refs.length + 1) + (wtSts p.body + 1) + 1
def Nd.wt : Nd → Nat
  | .tree t => (3 * t.state.length + 1) + (3 * t.params.length + 1) + ((t.procs.map wtProc).sum + 1) + (wtSts t.beat + 1) + 1
  | .decls l => 3 * l.length + 1
  | .procs l => (l.map wtProc).sum + 1
  | .body b => wtSts b + 1
  | .names l => l.length + 1
  | .idxs l => (l.map wtIx).sum + 1
  | .vari _ => 3
  | .proc p => wtProc p
  | .st s => wtSt s
  | .ex e => wtEx e
  | .ix i => wtIx i
  | .ts t => wtTs t
  | .pl _ i => wtOx i + 2
  | .sub i => wtOx i
  | _ => 1
theorem sum_const {α : Type} (c : Nat) : ∀ l : List α, (l.map fun _ => c).sum = c * l.length
  | [] => rfl
  | x :: l => by rw [List.map_cons, List.sum_cons, sum_const c l, List.length_cons, Nat.mul_succ, Nat.add_comm]
/-- a part's weight is one more than its parts' -/
theorem wt_kids (n : Nd) : n.wt = (n.kids.map Nd.wt).sum + 1 := by
  cases n with
  | tree t => simp only [Nd.kids, Nd.wt, List.map_cons, List.map_nil, List.sum_cons, List.sum_nil]; omega
  | decls l =>
    simp only [Nd.kids, Nd.wt, List.map_map]
    rw [show (Nd.wt ∘ Nd.vari) = fun _ => 3 from rfl, sum_const]
  | procs l =>
    simp only [Nd.kids, Nd.wt, List.map_map]
    rfl
  | body b =>
    simp only [Nd.kids, Nd.wt, List.map_map]
    rw [wtSts_map]
    rfl
  | names l =>
    simp only [Nd.kids, Nd.wt, List.map_map]
    rw [show (Nd.wt ∘ Nd.name) = fun _ => 1 from rfl, sum_const, Nat.one_mul]
  | idxs l =>
    simp only [Nd.kids, Nd.wt, List.map_map]
    rfl
  | vari d => rfl
  | proc p => simp only [Nd.kids, Nd.wt, wtProc, List.map_cons, List.map_nil, List.sum_cons, List.sum_nil]; omega
  | st s => cases s <;> simp only [Nd.kids, kidsSt, Nd.wt, wtSt, List.map_cons, List.map_nil, List.sum_cons, List.sum_nil] <;> omega
  | ex e => cases e <;> simp only [Nd.kids, kidsEx, Nd.wt, wtEx, List.map_cons, List.map_nil, List.sum_cons, List.sum_nil] <;> omega
  | ix i => cases i <;> simp only [Nd.kids, kidsIx, Nd.wt, wtIx, List.map_cons, List.map_nil, List.sum_cons, List.sum_nil] <;> omega
  | ts t => cases t <;> simp only [Nd.kids, kidsTs, Nd.wt, wtTs, List.map_cons, List.map_nil, List.sum_cons, List.sum_nil] <;> omega
  | pl x i => simp only [Nd.kids, Nd.wt, List.map_cons, List.map_nil, List.sum_cons, List.sum_nil]; omega
  | sub i => cases i <;> simp [Nd.kids, Nd.wt, wtOx]
  | _ => rfl
theorem wt_pos (n : Nd) : 1 ≤ n.wt := by rw [wt_kids]; omega
/-- how many parts there are -/
theorem kids_le (n : Nd) : n.kids.length ≤ n.wt := by
  rw [wt_kids]
  have : ∀ l : List Nd, l.length ≤ (l.map Nd.wt).sum := fun l => by
    induction l with
    | nil => simp
    | cons a l ih =>
      rw [List.map_cons, List.sum_cons, List.length_cons]
      have := wt_pos a
      omega
  have := this n.kids
  omega
/-! ### fit leaves -/
/-- a name by its signs -/
def inL (l : Str) (c : Nat) : Bool := inStr ⟨#[c]⟩ l
def res : List Str := ["state", "param", "procedure", "beat", "set", "loop", "if", "call", "let", "at", "add", "sub", "mul", "div", "plus", "minus", "times", "rem", "less", "equal", "zero", "not"]
def nm (x : Str) : Bool := decide (1 ≤ x.length) && decide (x.length ≤ 8) && (match x.cps.toList with | [] => false | c :: _ => inL "abcdefghijklmnopqrstuvwxyz" c) && !(res.any fun z => decide (z = x)) && x.cps.toList.all (inL "abcdefghijklmnopqrstuvwxyz0123456789")
def btw (n lo hi : Int) : Bool := decide (lo ≤ n) && decide (n ≤ hi)
def Nd.fit : Nd → Bool
  | .name s => nm s
  | .size n => btw n 0 8
  | .number n => btw n 0 2147483646
  | .integer n => btw n 0 1000
  | .divisor n => btw n 1 1000
  | _ => true
/-- all of its leaves are fit -/
inductive Ok : Nd → Prop where
  | mk {n : Nd} : n.fit = true → (∀ k ∈ n.kids, Ok k) → Ok n
end Pt

/-! ## The leaves, the parts of a node -/
namespace Pt
open PySem Ev ET PyProof.Rows
section
variable {R : W → Sto → Prop} {E : Xn → Sto → Prop} {S : Sto} {k : Nat} {w x y : W}
theorem cps_len (x : Str) : x.cps.toList.length = x.length := by simp [Str.length]
theorem res_any {x : Str} : ((res.map W.str).any fun z => eqF z (.str x)) = res.any fun z => decide (z = x) := by
  rw [List.any_map]
  congr
theorem res_flat {x : Str} : (flat (.str x) && (res.map W.str).all flat) = true := by rfl
/-- a name: its length is not too much -/
theorem e_is_name {x : Str} (h : x.length ≤ lim) : callI T (k + 2) "is_name" [.str x] S = .ok (.bl (nm x)) S := by
  apply eq_of_wp
  rw [q_is_name, wp_fnE]
  simp only [b_is_name, startR]
  simp [h]
  have hr : ∀ T : Sto, inO (.str x) (.tup (res.map W.str)) T = .ok (.bl (res.any fun z => decide (z = x))) T := fun T => by rw [op_inT res_flat, res_any]
  by_cases h1 : x.length < 1
  · refine .inl ⟨by omega, ?_⟩
    unfold nm
    rw [decide_eq_false (by omega)]
    rfl
  refine .inr ⟨by omega, ?_⟩
  by_cases h2 : 8 < x.length
  · refine .inl ⟨by omega, ?_⟩
    unfold nm
    rw [decide_eq_true (by omega), decide_eq_false (by omega)]
    rfl
  refine .inr ⟨by omega, ?_⟩
  have hl := cps_len x
  cases e : x.cps.toList with
  | nil => rw [e] at hl; simp at hl; omega
  | cons c r =>
    refine ⟨c, by simp, ?_⟩
    rw [show chr1 c = W.str ⟨#[c]⟩ from rfl, op_ninS]
    have e0 : nm x = (inL "abcdefghijklmnopqrstuvwxyz" c && !(res.any fun z => decide (z = x)) && x.cps.toList.all (inL "abcdefghijklmnopqrstuvwxyz0123456789")) := by
      unfold nm
      rw [decide_eq_true (by omega), decide_eq_true (by omega), e]
      rfl
    rw [wp_ok]
    cases h3 : inL "abcdefghijklmnopqrstuvwxyz" c with
    | false =>
      refine .inr ⟨?_, ?_, rfl⟩
      · rw [show inStr ⟨#[c]⟩ _ = _ from h3]; rfl
      · rw [e0, h3]; rfl
    | true =>
      refine .inl ⟨by rw [show inStr ⟨#[c]⟩ _ = _ from h3]; rfl, ?_⟩
      refine (show Wp (inO (.str x) (.tup (res.map W.str)) S) _ _ from ?_)
      rw [hr, wp_ok]
      cases h4 : (res.any fun z => decide (z = x)) with
      | true =>
        refine .inr ⟨rfl, ?_, rfl⟩
        rw [e0, h4, h3]
        rfl
      | false =>
        refine .inl ⟨rfl, ?_⟩
        refine comp_map0 (f := fun w => .bl (match w with | .str z => inStr z "abcdefghijklmnopqrstuvwxyz0123456789" | _ => false)) (fun i => hit_str i _) (fun w hw => ?_) (by rw [List.length_map, hl]; omega) ?_
        · obtain ⟨c, _, rfl⟩ := List.mem_map.mp hw
          simp [wipeR]
          rw [show chr1 c = W.str ⟨#[c]⟩ from rfl, op_inS]
          exact ⟨rfl, rfl⟩
        · rw [q_all, wp_ok]
          refine ⟨?_, rfl⟩
          rw [e0, h3, h4, List.all_map]
          rfl
theorem e_is_between {n lo hi : Int} : callI T (k + 3) "is_between" [.int n, .int lo, .int hi] S = .ok (.bl (btw n lo hi)) S := by
  have e : callI T (k + 2) "is_integer" [.int n] S = .ok (.bl true) S := by kernel_rfl
  apply eq_of_wp
  rw [q_is_between, wp_fnE]
  simp only [b_is_between, startR]
  simp [e]
  unfold btw
  by_cases h1 : lo ≤ n <;> by_cases h2 : n ≤ hi <;> simp [h1, h2] <;> omega
/-- what is_plain says of a leaf -/
theorem e_size {n : Int} : callI T (k + 4) "is_plain" [.str "size", .int n] S = .ok (.bl (btw n 0 8)) S := by
  apply eq_of_wp
  rw [q_is_plain, wp_fnE]
  simp only [b_is_plain, startR]
  simp (decide := true) [e_is_between]
theorem e_number {n : Int} : callI T (k + 4) "is_plain" [.str "number", .int n] S = .ok (.bl (btw n 0 2147483646)) S := by
  apply eq_of_wp
  rw [q_is_plain, wp_fnE]
  simp only [b_is_plain, startR]
  simp (decide := true) [e_is_between]
theorem e_integer {n : Int} : callI T (k + 4) "is_plain" [.str "integer", .int n] S = .ok (.bl (btw n 0 1000)) S := by
  apply eq_of_wp
  rw [q_is_plain, wp_fnE]
  simp only [b_is_plain, startR]
  simp (decide := true) [e_is_between]
theorem e_divisor {n : Int} : callI T (k + 4) "is_plain" [.str "divisor", .int n] S = .ok (.bl (btw n 1 1000)) S := by
  apply eq_of_wp
  rw [q_is_plain, wp_fnE]
  simp only [b_is_plain, startR]
  simp (decide := true) [e_is_between]
theorem e_name {x : Str} (h : x.length ≤ lim) : callI T (k + 4) "is_plain" [.str "name", .str x] S = .ok (.bl (nm x)) S := by
  apply eq_of_wp
  rw [q_is_plain, wp_fnE]
  simp only [b_is_plain, startR]
  simp (decide := true) [e_is_name (k := k + 1) h]
/-- names are not too long -/
def Nd.sh : Nd → Prop
  | .name s => s.length ≤ lim
  | .names l => l.length ≤ 1000
  | .decls l => l.length ≤ 1000
  | .procs l => l.length ≤ 1000
  | _ => True
theorem e_leaf {s : Str} {v : W} {b : Bool} (hs : (s = "name" ∨ s = "size" ∨ s = "number" ∨ s = "integer" ∨ s = "divisor")) (h : callI T (k + 4) "is_plain" [.str s, v] S = .ok (.bl b) S) :
    callI T (k + 5) "parts_of" [.str s, v] S = if b = true then .ok (.ref S.length) (S ++ [.lst []]) else .ok .non S := by
  have key : Wp (callI T (k + 5) "parts_of" [.str s, v] S) (fun a U => Res.ok a U = if b = true then .ok (.ref S.length) (S ++ [.lst []]) else .ok .non S) (fun _ _ => False) := by
    rw [q_parts_of, wp_fnE]
    simp only [b_parts_of, startR]
    have h0 : s ≠ "subscript" := by rcases hs with rfl | rfl | rfl | rfl | rfl <;> decide
    have h1 : inO (.str s) (.tup [.str "name", .str "size", .str "number", .str "integer", .str "divisor"]) S = .ok (.bl true) S := by rcases hs with rfl | rfl | rfl | rfl | rfl <;> kernel_rfl
    cases b <;> simp (decide := true) [h0, h1, h]
  revert key
  cases callI T (k + 5) "parts_of" [.str s, v] S with
  | ok a U => exact fun h => h
  | er x U => exact fun h => h.elim
  | no => exact fun h => h.elim
theorem e_rec2 {s : Str} {a b : W} {ka kb : Str} (hs : (s = "variable" ∧ ka = "name" ∧ kb = "size") ∨ (s = "place" ∧ ka = "name" ∧ kb = "subscript")) : callI T (k + 5) "parts_of" [.str s, .tup [a, b]] S = .ok (.ref S.length) (S ++ [.lst [.tup [.str ka, a], .tup [.str kb, b]]]) := by
  rcases hs with ⟨rfl, rfl, rfl⟩ | ⟨rfl, rfl, rfl⟩ <;> kernel_rfl
/-- a row of parts of one kind -/
theorem e_row {s r : Str} {ws : List W} (hs : (s = "variables" ∧ r = "variable") ∨ (s = "procedures" ∧ r = "procedure") ∨ (s = "names" ∧ r = "name") ∨ (s = "body" ∧ r = "statement") ∨ (s = "indexes" ∧ r = "index")) (hl : ws.length ≤ 10000000) :
    callI T (k + 5) "parts_of" [.str s, .tup ws] S = .ok (.ref S.length) (S ++ [.lst (ws.map fun w => .tup [.str r, w])]) := by
  have key : Wp (callI T (k + 5) "parts_of" [.str s, .tup ws] S) (fun a U => Res.ok a U = .ok (.ref S.length) (S ++ [.lst (ws.map fun w => .tup [.str r, w])])) (fun _ _ => False) := by
    rw [q_parts_of, wp_fnE]
    simp only [b_parts_of, startR]
    have h0 : s ≠ "subscript" := by rcases hs with ⟨rfl, _⟩ | ⟨rfl, _⟩ | ⟨rfl, _⟩ | ⟨rfl, _⟩ | ⟨rfl, _⟩ <;> decide
    have h1 : inO (.str s) (.tup [.str "name", .str "size", .str "number", .str "integer", .str "divisor"]) S = .ok (.bl false) S := by rcases hs with ⟨rfl, _⟩ | ⟨rfl, _⟩ | ⟨rfl, _⟩ | ⟨rfl, _⟩ | ⟨rfl, _⟩ <;> kernel_rfl
    have h2 : tabIn t_ROWS (.str s) S = .ok (.bl true) S := by rcases hs with ⟨rfl, _⟩ | ⟨rfl, _⟩ | ⟨rfl, _⟩ | ⟨rfl, _⟩ | ⟨rfl, _⟩ <;> kernel_rfl
    have h3 : tabW t_ROWS (.str s) S = .ok (.str r) S := by rcases hs with ⟨rfl, rfl⟩ | ⟨rfl, rfl⟩ | ⟨rfl, rfl⟩ | ⟨rfl, rfl⟩ | ⟨rfl, rfl⟩ <;> kernel_rfl
    simp (decide := true) [h0, h1, h2]
    refine comp_map0 (f := fun w => .tup [.str r, w]) (fun i => hit_tup i _) (fun w _ => ?_) hl ?_
    · simp (decide := true) [wipeR, h3]
    · simp
  revert key
  cases callI T (k + 5) "parts_of" [.str s, .tup ws] S with
  | ok a U => exact fun h => h
  | er x U => exact fun h => h.elim
  | no => exact fun h => h.elim
/-- THE PARTS: what parts_of says of a node -/
theorem e_parts {n : Nd} (hs : n.sh) (hl : n.wt ≤ 10000000) : callI T (k + 5) "parts_of" [.str n.kind, n.w] S = if n.fit = true then .ok (.ref S.length) (S ++ [.lst (n.kids.map Nd.p)]) else .ok .non S := by
  have row : ∀ {α : Type} {l : List α} {f : α → W} {g : α → Nd}, (∀ x, (g x).w = f x) → ∀ {r : Str}, (∀ x, (g x).kind = r) → (l.map f).map (fun w => W.tup [.str r, w]) = (l.map g).map Nd.p := fun {α l f g} h {r} h2 => by
    rw [List.map_map, List.map_map]
    refine List.map_congr_left fun x _ => ?_
    show W.tup [.str r, f x] = W.tup [.str (g x).kind, (g x).w]
    rw [h, h2]
  have kl := kids_le n
  cases n with
  | tree t => kernel_rfl
  | decls l =>
    rw [if_pos (show (Nd.decls l).fit = true from rfl)]
    refine (e_row (.inl ⟨rfl, rfl⟩) (by simp [Nd.kids] at kl ⊢; omega)).trans ?_
    rw [row (f := wDecl) (g := .vari) (fun _ => rfl) (r := "variable") (fun _ => rfl)]
    rfl
  | procs l =>
    rw [if_pos (show (Nd.procs l).fit = true from rfl)]
    refine (e_row (.inr (.inl ⟨rfl, rfl⟩)) (by simp [Nd.kids] at kl ⊢; omega)).trans ?_
    rw [row (f := Proc.w) (g := .proc) (fun _ => rfl) (r := "procedure") (fun _ => rfl)]
    rfl
  | body b =>
    rw [if_pos (show (Nd.body b).fit = true from rfl)]
    refine (e_row (.inr (.inr (.inr (.inl ⟨rfl, rfl⟩)))) (by rw [ws_map]; simp [Nd.kids] at kl ⊢; omega)).trans ?_
    rw [ws_map, row (f := St.w) (g := .st) (fun _ => rfl) (r := "statement") (fun _ => rfl)]
    rfl
  | names l =>
    rw [if_pos (show (Nd.names l).fit = true from rfl)]
    refine (e_row (.inr (.inr (.inl ⟨rfl, rfl⟩))) (by simp [Nd.kids] at kl ⊢; omega)).trans ?_
    rw [row (f := W.str) (g := .name) (fun _ => rfl) (r := "name") (fun _ => rfl)]
    rfl
  | idxs l =>
    rw [if_pos (show (Nd.idxs l).fit = true from rfl)]
    refine (e_row (.inr (.inr (.inr (.inr ⟨rfl, rfl⟩)))) (by simp [Nd.kids] at kl ⊢; omega)).trans ?_
    rw [row (f := Ix.w) (g := .ix) (fun _ => rfl) (r := "index") (fun _ => rfl)]
    rfl
  | vari d => kernel_rfl
  | proc p => kernel_rfl
  | st s => cases s <;> kernel_rfl
  | ex e =>
    cases e with
    | op o a b => cases o <;> kernel_rfl
    | _ => kernel_rfl
  | ix i =>
    cases i with
    | op o a b => cases o <;> kernel_rfl
    | _ => kernel_rfl
  | ts t => cases t <;> kernel_rfl
  | pl x i => kernel_rfl
  | sub i =>
    cases i with
    | none => kernel_rfl
    | some i =>
      cases i with
      | op o a b => cases o <;> kernel_rfl
      | _ => kernel_rfl
  | name s => exact e_leaf (.inl rfl) (e_name hs)
  | size n => exact e_leaf (.inr (.inl rfl)) e_size
  | number n => exact e_leaf (.inr (.inr (.inl rfl))) e_number
  | integer n => exact e_leaf (.inr (.inr (.inr (.inl rfl)))) e_integer
  | divisor n => exact e_leaf (.inr (.inr (.inr (.inr rfl)))) e_divisor
end
end Pt

/-! ## has_shape -/
namespace Pt
open PySem Ev ET PyProof.Rows
/-- no name of it is too long -/
inductive Sh : Nd → Prop where
  | mk {n : Nd} : n.sh → (∀ k ∈ n.kids, Sh k) → Sh n
theorem Sh.top {n : Nd} : Sh n → n.sh
  | .mk h _ => h
theorem Sh.kids {n : Nd} : Sh n → ∀ k ∈ n.kids, Sh k
  | .mk _ h => h
def wts (L : List Nd) : Nat := (L.map Nd.wt).sum
theorem wts_app {L M : List Nd} : wts (L ++ M) = wts L + wts M := by simp [wts]
theorem wts_len (L : List Nd) : L.length ≤ wts L := by
  induction L with
  | nil => simp
  | cons a l ih =>
    unfold wts at *
    rw [List.map_cons, List.sum_cons, List.length_cons]
    have := wt_pos a
    omega
section
variable {R : W → Sto → Prop} {E : Xn → Sto → Prop} {S : Sto} {k : Nat} {w x y : W}
theorem sp_has_shape {t : Tree} (hs : Sh (.tree t)) (hw : (Nd.tree t).wt ≤ 1000000) (h : ∀ b U, Pre S U → (b = true → Ok (.tree t)) → R (.bl b) U) : Wp (callI T (k + 7) "has_shape" [t.w] S) R E := by
  rw [q_has_shape, wp_fnE]
  simp only [b_has_shape, startR]
  simp (decide := true)
  refine wh_rule (fun m ρ U => ∃ (L : List Nd) (a b c : Option W), ρ = [some t.w, some (.ref S.length), a, b, c] ∧ Pre S U ∧ U[S.length]? = some (.lst (L.map Nd.p)) ∧ m = wts L ∧ m ≤ 1000000 ∧ (∀ n ∈ L, Sh n) ∧ ((∀ n ∈ L, Ok n) → Ok (.tree t))) ?_ (m := (Nd.tree t).wt) (by omega)
    ⟨[.tree t], none, none, none, rfl, .app, get_new, by simp [wts], hw, fun n hn => by simp at hn; subst hn; exact hs, fun h => h _ (by simp)⟩
  rintro m ρ U ⟨L, a, b, c, rfl, hP, hU, hm, hm6, hS, hO⟩
  simp only [wp_tOf, wp_aVar]
  refine ⟨_, rfl, _, tr_lst hU, ?_⟩
  rcases List.eq_nil_or_concat L with rfl | ⟨L', n, rfl⟩
  · simp
    exact h true U hP fun _ => hO fun _ h => by cases h
  rw [List.concat_eq_append] at *
  have hne : (!((L' ++ [n]).map Nd.p).isEmpty) = true := by simp
  rw [hne, if_pos rfl]
  rw [List.map_append] at hU
  have e1 := isL hU
  have e2 := m_pop (x := n.p) (ws := L'.map Nd.p) hU
  have hn := hS n (by simp)
  have hw1 : n.wt ≤ m := by rw [hm, wts_app]; simp [wts]
  have hU2 : (U.set S.length (.lst (L'.map Nd.p)))[S.length]? = some (.lst (L'.map Nd.p)) := get_set hU
  have e3 := e_parts (k := k + 1) (S := U.set S.length (.lst (L'.map Nd.p))) hn.top (by omega)
  have hP2 : Pre S (U.set S.length (.lst (L'.map Nd.p))) := hP.set (Nat.le_refl _)
  simp (decide := true) [e1, e2, Nd.p]
  refine (show Wp (callI T (k + 1 + 5) "parts_of" [W.str n.kind, n.w] _) _ _ from ?_)
  rw [e3]
  cases hf : n.fit with
  | false =>
    rw [if_neg (by decide), wp_ok]
    exact .inr ⟨rfl, h false _ hP2 fun z => by cases z⟩
  | true =>
    rw [if_pos rfl, wp_ok]
    refine .inl ⟨rfl, ?_⟩
    have g1 : (U.set S.length (.lst (L'.map Nd.p)) ++ [SO.lst (n.kids.map Nd.p)])[S.length]? = some (.lst (L'.map Nd.p)) := Pre.app.get hU2
    have hk := wt_kids n
    have hw2 : wts n.kids + 1 = n.wt := hk.symm
    have hL : wts L' + n.wt = m := by rw [hm, wts_app]; simp [wts]
    have l1 := wts_len L'
    have l2 := wts_len n.kids
    rw [aug_L g1 get_new (by simp; omega), wp_ok]
    refine ⟨_, ?_, rfl, (hP2.trans .app).set (Nat.le_refl _), L' ++ n.kids, ?_, rfl, ?_, fun q hq => ?_, fun hq => hO fun q hq2 => ?_⟩
    · rw [wts_app]; omega
    · rw [List.map_append]
      exact get_set g1
    · rw [wts_app]; omega
    · rcases List.mem_append.mp hq with hq | hq
      · exact hS q (by simp [hq])
      · exact hn.kids q hq
    · rcases List.mem_append.mp hq2 with hq2 | hq2
      · exact hq q (by simp [hq2])
      · simp at hq2
        subst hq2
        exact .mk hf fun z hz => hq z (by simp [hz])
end
end Pt

/-! ## keeps_limits -/
namespace Pt
open PySem Ev ET PyProof.Rows
def cellsI (l : List Decl) : Int := (l.map fun d => if d.2 > 1 then d.2 else 1).sum
section
variable {R : W → Sto → Prop} {E : Xn → Sto → Prop} {S : Sto} {k : Nat} {w x y : W}
theorem e_cells {l : List Decl} (hl : l.length ≤ 1000) : callI T (k + 2) "cells" [.tup (l.map wDecl)] S = .ok (.int (cellsI l)) S := by
  apply eq_of_wp
  rw [q_cells, wp_fnE]
  simp only [b_cells, startR]
  simp (decide := true)
  refine comp_map0 (f := fun w => .int (match w with | .tup [_, .int n] => if n > 1 then n else 1 | _ => 0)) (fun i => hit_tup i _) (fun w hw => ?_) (by simp; omega) ?_
  · obtain ⟨d, _, rfl⟩ := List.mem_map.mp hw
    simp (decide := true) [wipeR, wDecl]
  · rw [q_sum, wp_ok]
    refine ⟨?_, rfl⟩
    unfold cellsI
    rw [List.map_map]
    rfl
/-- an item of the walk: a node, what is around, how deep -/
def itA : Option Str → W
  | none => .non
  | some s => .str s
def itK (q : Nd × Option Str × Int) : W := .tup [.str q.1.kind, q.1.w, itA q.2.1, .int q.2.2]
theorem eq_a {s : Str} {a : Option Str} : eqO (.str s) (itA a) S = .ok (.bl (decide (some s = a))) S := by
  cases a with
  | none => rfl
  | some z => simp [itA]
theorem sp_keeps_node_limits {t : Tree} (hs : Sh (.tree t)) (ho : Ok (.tree t)) (hw : (Nd.tree t).wt ≤ 1000000) (h : ∀ b U, Pre S U → R (.bl b) U) : Wp (callI T (k + 7) "keeps_node_limits" [t.w] S) R E := by
  rw [q_keeps_node_limits, wp_fnE]
  simp only [b_keeps_node_limits, startR]
  simp (decide := true)
  refine wh_rule (fun m ρ U => ∃ (L : List (Nd × Option Str × Int)) (i : Int) (a b c d e f : Option W), ρ = [some t.w, some (.int i), some (.ref S.length), a, b, c, d, e, f] ∧ Pre S U ∧ U[S.length]? = some (.lst (L.map itK)) ∧ m = wts (L.map (·.1)) ∧ m ≤ 1000000 ∧ (∀ q ∈ L, Sh q.1 ∧ Ok q.1)) ?_ (m := (Nd.tree t).wt) (by omega)
    ⟨[(.tree t, none, 0)], 0, none, none, none, none, none, none, rfl, .app, get_new, by simp [wts], hw, fun n hn => by simp at hn; subst hn; exact ⟨hs, ho⟩⟩
  rintro m ρ U ⟨L, i, a, b, c, d, e, f, rfl, hP, hU, hm, hm6, hS⟩
  simp only [wp_tOf, wp_aVar]
  refine ⟨_, rfl, _, tr_lst hU, ?_⟩
  rcases List.eq_nil_or_concat L with rfl | ⟨L', ⟨n, ar, dp⟩, rfl⟩
  · simp
    exact h true U hP
  rw [List.concat_eq_append] at *
  have hne : (!((L' ++ [(n, ar, dp)]).map itK).isEmpty) = true := by simp
  rw [hne, if_pos rfl]
  rw [List.map_append] at hU
  have e1 := isL hU
  have e2 := m_pop (x := itK (n, ar, dp)) (ws := L'.map itK) hU
  obtain ⟨hn, hok⟩ := hS (n, ar, dp) (by simp)
  have hw1 : n.wt ≤ m := by rw [hm, List.map_append, wts_app]; simp [wts]
  have hU2 : (U.set S.length (.lst (L'.map itK)))[S.length]? = some (.lst (L'.map itK)) := get_set hU
  have hP2 : Pre S (U.set S.length (.lst (L'.map itK))) := hP.set (Nat.le_refl _)
  have e3 := e_parts (k := k + 1) (S := U.set S.length (.lst (L'.map itK))) hn.top (show n.wt ≤ _ by omega)
  have hfit : n.fit = true := by cases hok; assumption
  rw [if_pos hfit] at e3
  have e4 := fun U => op_inT (S := U) (x := .str n.kind) (ws := [.str "statement", .str "expression", .str "index", .str "test"]) rfl
  have e5 : ∀ U, augAdd (.int i) (.int 1) U = .ok (.int (i + 1)) U := fun _ => rfl
  have hk := wt_kids n
  have hw2 : wts n.kids + 1 = n.wt := hk.symm
  have hL : wts (L'.map (·.1)) + n.wt = m := by rw [hm, List.map_append, wts_app]; simp [wts]
  have l1 : L'.length ≤ wts (L'.map (·.1)) := by have := wts_len (L'.map (·.1)); simpa using this
  have l2 := wts_len n.kids
  have key : ∀ (i' : Int) (ar' : Option Str) (d' : Int), Wp (callI T (k + 1 + 5) "parts_of" [.str n.kind, n.w] (U.set S.length (.lst (L'.map itK)))) (fun w V => Wp (itW w V) (fun j V => Wp (compN j (gTu [gNm 7, gNm 8]) tYes (aTup (aCons (aVar 7) (aCons (aVar 8) (aCons (aVar 5) (aCons (aVar 6) aNil)))))
      (wipeR [some t.w, some (W.int i'), some (W.ref S.length), some (W.str n.kind), some n.w, some (itA ar'), some (W.int d'), e, f] [7, 8]) big 0 [] V)
      (fun ws V => Wp (augAdd (W.ref S.length) (W.ref V.length) (V ++ [SO.lst ws])) (fun z U => ∃ m', m' < m ∧ z = W.ref S.length ∧ Pre S U ∧ ∃ x : List (Nd × Option Str × Int), U[S.length]? = some (SO.lst (x.map itK)) ∧ m' = wts (x.map (·.1)) ∧ m' ≤ 1000000 ∧ ∀ a a_1 b, (a, a_1, b) ∈ x → Sh a ∧ Ok a) fun x T => E x T) fun x T => E x T) fun x T => E x T) fun x T => E x T := by
    intro i' ar' d'
    rw [show callI T (k + 1 + 5) "parts_of" [.str n.kind, n.w] (U.set S.length (.lst (L'.map itK))) = _ from e3, wp_ok, it_lst (ws := n.kids.map Nd.p) get_new]
    refine comp_map0 (f := fun w => match w with | .tup [a, b] => .tup [a, b, itA ar', .int d'] | _ => .non) (hit_lst get_new) (fun w hw => ?_) (by simp; omega) ?_
    · obtain ⟨q, _, rfl⟩ := List.mem_map.mp hw
      simp (decide := true) [wipeR, Nd.p]
    · have g1 : (U.set S.length (.lst (L'.map itK)) ++ [SO.lst (n.kids.map Nd.p)])[S.length]? = some (.lst (L'.map itK)) := Pre.app.get hU2
      have g2 := Pre.get (S' := (U.set S.length (.lst (L'.map itK)) ++ [SO.lst (n.kids.map Nd.p)]) ++ [SO.lst ((n.kids.map Nd.p).map fun w => match w with | .tup [a, b] => .tup [a, b, itA ar', .int d'] | _ => .non)]) Pre.app g1
      rw [aug_L g2 get_new (by simp; omega), wp_ok]
      have em : (n.kids.map Nd.p).map (fun w => match w with | .tup [a, b] => W.tup [a, b, itA ar', .int d'] | _ => .non) = (n.kids.map fun q => (q, ar', d')).map itK := by
        rw [List.map_map, List.map_map]
        rfl
      have e11 : (n.kids.map fun q => (q, ar', d')).map (·.1) = n.kids := by rw [List.map_map]; exact List.map_id _
      refine ⟨wts (L'.map (·.1) ++ n.kids), ?_, rfl, ((hP2.trans .app).trans .app).set (Nat.le_refl _), L' ++ n.kids.map fun q => (q, ar', d'), ?_, ?_, ?_, fun a a1 b hq => ?_⟩
      · rw [wts_app]; omega
      · rw [List.map_append, ← em]
        exact get_set g2
      · rw [List.map_append, e11]
      · rw [wts_app]; omega
      · rcases List.mem_append.mp hq with hq | hq
        · exact hS (a, a1, b) (by simp [hq])
        · obtain ⟨q, h1, h2⟩ := List.mem_map.mp hq
          cases h2
          refine ⟨hn.kids _ h1, ?_⟩
          cases hok with
          | mk _ hh => exact hh _ h1
  simp (decide := true) [e1, e2, itK, e4, eq_a, e5]
  by_cases hA : (eqF (W.str "statement") (W.str n.kind) = true ∨ eqF (W.str "expression") (W.str n.kind) = true ∨ eqF (W.str "index") (W.str n.kind) = true ∨ eqF (W.str "test") (W.str n.kind) = true)
  · refine .inr ⟨hA, ?_⟩
    by_cases hB : some n.kind = ar
    · refine .inr ⟨hB, ?_⟩
      rcases Int.lt_or_le 4 (dp + 1) with g | g
      · exact .inr ⟨g, h false _ hP2⟩
      · refine .inl ⟨g, ?_⟩
        rcases Int.lt_or_le 300 (i + 1) with g2 | g2
        · exact .inr ⟨g2, h false _ hP2⟩
        · exact .inl ⟨g2, key (i + 1) (some n.kind) (dp + 1)⟩
    · refine .inl ⟨hB, ?_⟩
      rcases Int.lt_or_le 300 (i + 1) with g2 | g2
      · exact .inr ⟨g2, h false _ hP2⟩
      · exact .inl ⟨g2, key (i + 1) (some n.kind) 1⟩
  · refine .inl ⟨by simpa using hA, ?_⟩
    rcases Int.lt_or_le 4 dp with g | g
    · exact .inr ⟨g, h false _ hP2⟩
    · refine .inl ⟨g, ?_⟩
      rcases Int.lt_or_le 300 i with g2 | g2
      · exact .inr ⟨g2, h false _ hP2⟩
      · exact .inl ⟨g2, key i ar dp⟩
theorem sp_keeps_limits {t : Tree} (hs : Sh (.tree t)) (ho : Ok (.tree t)) (hw : (Nd.tree t).wt ≤ 1000000) (h : ∀ b U, Pre S U → R (.bl b) U) : Wp (callI T (k + 8) "keeps_limits" [t.w] S) R E := by
  have h1 := hs.kids (.decls t.state) (by simp [Nd.kids])
  have h2 := hs.kids (.decls t.params) (by simp [Nd.kids])
  have h3 := hs.kids (.procs t.procs) (by simp [Nd.kids])
  have c1 := fun U => e_cells (k := k + 5) (S := U) (l := t.state) h1.top
  have c2 := fun U => e_cells (k := k + 5) (S := U) (l := t.params) h2.top
  have kn := fun U (hU : Pre S U) => sp_keeps_node_limits (R := R) (E := E) (S := U) (k := k) hs ho hw fun b V hV => h b V (hU.trans hV)
  rw [q_keeps_limits, wp_fnE]
  simp only [b_keeps_limits, startR, Tree.w]
  simp (decide := true) [c1, c2]
  have F : ∀ b, R (W.bl b) S := fun b => h b S .refl
  rcases Int.lt_or_le (cellsI t.state) 1 with g | g
  · exact .inl ⟨g, F false⟩
  refine .inr ⟨g, ?_⟩
  rcases Int.lt_or_le 32 (cellsI t.state) with g | g
  · exact .inl ⟨g, F false⟩
  refine .inr ⟨g, ?_⟩
  rcases Int.lt_or_le 32 (cellsI t.params) with g | g
  · exact .inr ⟨g, F false⟩
  refine .inl ⟨g, ?_⟩
  rcases Int.lt_or_le 8 (t.procs.length : Int) with g | g
  · exact .inr ⟨g, F false⟩
  refine .inl ⟨g, ?_⟩
  refine for_rule t.procs.length (fun i ρ U => i ≤ t.procs.length ∧ U = S ∧ ∃ b c d e f g, ρ = [some t.w, b, c, d, e, f, g]) (fun i ρ U ⟨hi, hU, b, c, d, e, f, g, hr⟩ => ?_) (by have := h3.top; simp only [Nd.sh] at this; omega) ⟨Nat.zero_le _, rfl, _, _, _, _, _, _, rfl⟩
  subst hU hr
  cases e1 : t.procs[i]? with
  | none =>
    have hl := List.getElem?_eq_none_iff.mp e1
    refine .inl ⟨hi, by rw [hit_tup, List.getElem?_map, e1]; rfl, t.w, rfl, kn U .refl⟩
  | some p =>
    have hl := (List.getElem?_eq_some_iff.mp e1).1
    refine .inr ⟨hl, p.w, by rw [hit_tup, List.getElem?_map, e1]; rfl, ?_⟩
    simp (decide := true) [Proc.w]
    rcases Int.lt_or_le 6 (p.idxs.length : Int) with g1 | g1
    · exact .inr ⟨g1, F false⟩
    · refine .inl ⟨g1, ?_⟩
      rcases Int.lt_or_le 6 (p.refs.length : Int) with g2 | g2
      · exact .inr ⟨g2, F false⟩
      · exact .inl ⟨g2, by omega⟩
end
end Pt

/-! ## Names told apart; what a statement names -/
namespace Pt
open PySem Ev ET PyProof.Rows
def hdW : W → Str
  | .tup (.str z :: _) => z
  | _ => ""
def dst (l : List Str) : Bool := decide ((Ls.cnt l l.length : Int) = l.length)
section
variable {R : W → Sto → Prop} {E : Xn → Sto → Prop} {S : Sto} {k n : Nat} {w x y : W}
theorem e_first {ws : List W} {hd : W → Str} (h : ∀ w ∈ ws, ∃ r, w = .tup (.str (hd w) :: r)) (hl : ws.length ≤ 10000000) : callI T (k + 2) "first_items" [.tup ws] S = .ok (.ref S.length) (S ++ [.lst ((ws.map hd).map W.str)]) := by
  have key : Wp (callI T (k + 2) "first_items" [.tup ws] S) (fun a U => Res.ok a U = .ok (.ref S.length) (S ++ [.lst ((ws.map hd).map W.str)])) (fun _ _ => False) := by
    rw [q_first_items, wp_fnE]
    simp only [b_first_items, startR]
    simp (decide := true)
    refine comp_map0 (f := fun w => .str (hd w)) (fun i => hit_tup i _) (fun w hw => ?_) hl ?_
    · obtain ⟨r, hr⟩ := h w hw
      simp (decide := true) [wipeR]
      generalize hd w = z at hr ⊢
      subst hr
      simp
    · simp
  revert key
  cases callI T (k + 2) "first_items" [.tup ws] S with
  | ok a U => exact fun h => h
  | er x U => exact fun h => h.elim
  | no => exact fun h => h.elim
theorem e_distinct {l : List Str} (h : S[n]? = some (.lst (l.map W.str))) (hl : l.length ≤ 4000) : callI T (k + 2) "are_distinct" [.ref n] S = .ok (.bl (dst l)) S := by
  apply eq_of_wp
  rw [q_are_distinct, wp_fnE]
  simp only [b_are_distinct, startR]
  simp (decide := true) [op_lenSL h hl, op_lenL h]
  unfold dst
  simp
theorem sp_declared {t : Tree} (hs : Sh (.tree t)) (h : ∀ U, Pre S U → R .non U) (he : ∀ (x : Xn) (U : Sto), x.c = ("TreeError" : Str) → E x U) : Wp (callI T (k + 4) "check_declared_names" [t.w] S) R E := by
  have h1 := (hs.kids (.decls t.state) (by simp [Nd.kids])).top
  have h2 := (hs.kids (.decls t.params) (by simp [Nd.kids])).top
  have h3 := (hs.kids (.procs t.procs) (by simp [Nd.kids])).top
  simp only [Nd.sh] at h1 h2 h3
  have f1 := fun S => e_first (k := k + 1) (S := S) (ws := t.state.map wDecl ++ t.params.map wDecl ++ t.procs.map Proc.w) (hd := hdW) (fun w hw => by
    rcases List.mem_append.mp hw with hw | hw
    · rcases List.mem_append.mp hw with hw | hw
      · obtain ⟨d, _, rfl⟩ := List.mem_map.mp hw
        exact ⟨_, rfl⟩
      · obtain ⟨d, _, rfl⟩ := List.mem_map.mp hw
        exact ⟨_, rfl⟩
    · obtain ⟨d, _, rfl⟩ := List.mem_map.mp hw
      exact ⟨_, rfl⟩) (by simp; omega)
  rw [q_check_declared_names, wp_fnE]
  simp only [b_check_declared_names, startR, Tree.w]
  simp (decide := true)
  refine ⟨short_of (by omega), short_of (by omega), ?_⟩
  rw [← List.append_assoc]
  refine (show Wp (callI T (k + 1 + 2) "first_items" _ S) _ _ from ?_)
  rw [f1, wp_ok, e_distinct (k := k + 1) get_new (by simp; omega), wp_ok]
  generalize dst ((t.state.map wDecl ++ t.params.map wDecl ++ t.procs.map Proc.w).map hdW) = b
  cases b with
  | true => exact .inr ⟨rfl, h _ .app⟩
  | false => exact .inl ⟨rfl, he _ _ rfl⟩
theorem sp_heads {t : Tree} (hs : Sh (.tree t)) (h : ∀ U, Pre S U → R .non U) (he : ∀ (x : Xn) (U : Sto), x.c = ("TreeError" : Str) → E x U) : Wp (callI T (k + 4) "check_heads" [t.w] S) R E := by
  have h2 := (hs.kids (.decls t.params) (by simp [Nd.kids])).top
  have h3 := hs.kids (.procs t.procs) (by simp [Nd.kids])
  have h4 := h3.top
  simp only [Nd.sh] at h2 h4
  have f1 := fun S => e_first (k := k + 1) (S := S) (ws := t.params.map wDecl ++ t.procs.map Proc.w) (hd := hdW) (fun w hw => by
    rcases List.mem_append.mp hw with hw | hw
    · obtain ⟨d, _, rfl⟩ := List.mem_map.mp hw
      exact ⟨_, rfl⟩
    · obtain ⟨d, _, rfl⟩ := List.mem_map.mp hw
      exact ⟨_, rfl⟩) (by simp; omega)
  rw [q_check_heads, wp_fnE]
  simp only [b_check_heads, startR, Tree.w]
  simp (decide := true)
  refine ⟨short_of (by omega), ?_⟩
  refine (show Wp (callI T (k + 1 + 2) "first_items" _ S) _ _ from ?_)
  rw [f1, wp_ok]
  have hT := (Pre.app (S := S) (J := [SO.lst ((( t.params.map wDecl ++ t.procs.map Proc.w).map hdW).map W.str)]))
  have gT : (S ++ [SO.lst (((t.params.map wDecl ++ t.procs.map Proc.w).map hdW).map W.str)])[S.length]? = some (.lst (((t.params.map wDecl ++ t.procs.map Proc.w).map hdW).map W.str)) := get_new
  generalize S ++ [SO.lst (((t.params.map wDecl ++ t.procs.map Proc.w).map hdW).map W.str)] = S1 at hT gT
  generalize htk : (t.params.map wDecl ++ t.procs.map Proc.w).map hdW = tk at gT
  have htl : tk.length ≤ 2000 := by rw [← htk]; simp; omega
  refine for_rule t.procs.length (fun i ρ U => i ≤ t.procs.length ∧ Pre S1 U ∧ ∃ a b c d e f g, ρ = [a, b, c, d, some (.ref S.length), e, f, g]) (fun i ρ U ⟨hi, hU, a, b, c, d, e, f, g, hr⟩ => ?_) (by omega) ⟨Nat.zero_le _, .refl, _, _, _, _, _, _, _, rfl⟩
  subst hr
  cases e1 : t.procs[i]? with
  | none =>
    have hl := List.getElem?_eq_none_iff.mp e1
    exact .inl ⟨hi, by rw [hit_enu, List.getElem?_map, e1]; rfl, h U (hT.trans hU)⟩
  | some p =>
    have hl := (List.getElem?_eq_some_iff.mp e1).1
    have hp := h3.kids (.proc p) (by simp [Nd.kids, List.mem_of_getElem? e1])
    have p1 := (hp.kids (.names p.idxs) (by simp [Nd.kids])).top
    have p2 := (hp.kids (.decls p.refs) (by simp [Nd.kids])).top
    simp only [Nd.sh] at p1 p2
    refine .inr ⟨hl, .tup [.int i, p.w], by rw [hit_enu, List.getElem?_map, e1]; rfl, ?_⟩
    simp (decide := true) [Proc.w]
    have f2 := fun S => e_first (k := k + 1) (S := S) (ws := p.refs.map wDecl) (hd := hdW) (fun w hw => by
      obtain ⟨d, _, rfl⟩ := List.mem_map.mp hw
      exact ⟨_, rfl⟩) (by simp; omega)
    refine (show Wp (callI T (k + 1 + 2) "first_items" _ (U ++ [SO.lst (p.idxs.map W.str)])) _ _ from ?_)
    rw [f2, wp_ok]
    have a1 : ((U ++ [SO.lst (p.idxs.map W.str)]) ++ [SO.lst (((p.refs.map wDecl).map hdW).map W.str)])[U.length]? = some (.lst (p.idxs.map W.str)) := Pre.app.get get_new
    have a2 : ((U ++ [SO.lst (p.idxs.map W.str)]) ++ [SO.lst (((p.refs.map wDecl).map hdW).map W.str)])[(U ++ [SO.lst (p.idxs.map W.str)]).length]? = some (.lst (((p.refs.map wDecl).map hdW).map W.str)) := get_new
    have a3 : ((U ++ [SO.lst (p.idxs.map W.str)]) ++ [SO.lst (((p.refs.map wDecl).map hdW).map W.str)])[S.length]? = some (.lst (tk.map W.str)) := Pre.app.get (Pre.app.get (hU.get gT))
    rw [op_addL a1 a2 (by simp; omega), wp_ok]
    have hP3 : Pre S1 ((U ++ [SO.lst (p.idxs.map W.str)]) ++ [SO.lst (((p.refs.map wDecl).map hdW).map W.str)]) := (hU.trans .app).trans .app
    generalize ((U ++ [SO.lst (p.idxs.map W.str)]) ++ [SO.lst (((p.refs.map wDecl).map hdW).map W.str)]) = U2 at *
    rw [op_addL (get_new (S := U2)) (Pre.app.get a3) (by simp; omega), wp_ok]
    have a4 := get_new (S := U2 ++ [SO.lst (p.idxs.map W.str ++ ((p.refs.map wDecl).map hdW).map W.str)]) (o := SO.lst ((p.idxs.map W.str ++ ((p.refs.map wDecl).map hdW).map W.str) ++ tk.map W.str))
    have hP4 : Pre S1 ((U2 ++ [SO.lst (p.idxs.map W.str ++ ((p.refs.map wDecl).map hdW).map W.str)]) ++ [SO.lst ((p.idxs.map W.str ++ ((p.refs.map wDecl).map hdW).map W.str) ++ tk.map W.str)]) := (hP3.trans .app).trans .app
    rw [← List.map_append, ← List.map_append] at a4 hP4 ⊢
    rw [e_distinct (k := k + 1) a4 (by simp; omega), wp_ok]
    generalize dst (p.idxs ++ (p.refs.map wDecl).map hdW ++ tk) = bb
    cases bb with
    | true => exact .inr ⟨rfl, by omega, hP4⟩
    | false =>
      refine .inl ⟨rfl, ?_, he _ _ rfl⟩
      have hn : (i : Int).natAbs < 10 ^ 12 := by simp; omega
      unfold okTE
      simp (decide := true) [intsW]
      omega
end
end Pt

/-! ## The bodies within a statement; what it names -/
namespace Pt
open PySem Ev ET PyProof.Rows
def innerB : St → List (List St)
  | .loop _ _ b => [b]
  | .ite _ a b => [a, b]
  | .bind _ _ b => [b]
  | _ => []
def handed : St → List Str
  | .call _ _ ns => ns
  | _ => []
def changed : St → List Str
  | .set x _ _ => [x]
  | s => handed s
def wB (b : List St) : W := .tup (St.ws b)
def isBody (w : W) : Bool := match w with
  | .tup (.str k :: _) => decide (k = "body")
  | _ => false
def snd : W → W
  | .tup [_, b] => b
  | _ => .non
/-- what a node names: a place, an index -/
def usP : Nd → List (Str × Option Ix)
  | .pl x i => [(x, i)]
  | .ex (.place x i) => [(x, i)]
  | _ => []
def usI : Nd → List Str
  | .ix (.var x) => [x]
  | _ => []
def plW (p : Str × Option Ix) : W := wPl p.1 p.2
def hdIx : Ix → Str
  | .int _ => "integer" | .var _ => "index" | .beat => "beat" | .rem _ _ => "rem" | .op o _ _ => o.s
def hdEx : Ex → Str
  | .num _ => "number" | .place _ _ => "place" | .op o _ _ => o.s
theorem hdIx_var {i : Ix} (h : hdIx i = "index") : ∃ x, i = .var x := by
  cases i with
  | var x => exact ⟨x, rfl⟩
  | op o a b => cases o <;> (simp (decide := true) [hdIx, hdEx, Io.s, Eo.s, Nd.kind] at h)
  | _ => (simp (decide := true) [hdIx, hdEx, Io.s, Eo.s, Nd.kind] at h)
theorem hdEx_place {e : Ex} (h : hdEx e = "place") : ∃ x i, e = .place x i := by
  cases e with
  | place x i => exact ⟨x, i, rfl⟩
  | op o a b => cases o <;> (simp (decide := true) [hdIx, hdEx, Io.s, Eo.s, Nd.kind] at h)
  | _ => (simp (decide := true) [hdIx, hdEx, Io.s, Eo.s, Nd.kind] at h)
theorem kind_pl {n : Nd} (h : n.kind = "place") : ∃ x i, n = .pl x i := by
  cases n <;> first | exact ⟨_, _, rfl⟩ | (simp (decide := true) [hdIx, hdEx, Io.s, Eo.s, Nd.kind] at h)
theorem kind_ex {n : Nd} (h : n.kind = "expression") : ∃ e, n = .ex e := by
  cases n <;> first | exact ⟨_, rfl⟩ | (simp (decide := true) [hdIx, hdEx, Io.s, Eo.s, Nd.kind] at h)
theorem kind_ix {n : Nd} (h : n.kind = "index") : ∃ i, n = .ix i := by
  cases n <;> first | exact ⟨_, rfl⟩ | (simp (decide := true) [hdIx, hdEx, Io.s, Eo.s, Nd.kind] at h)
theorem ix_hdEx {e : Ex} {V : Sto} : ixW (Nd.ex e).w (.int 0) V = .ok (.str (hdEx e)) V := by cases e <;> kernel_rfl
theorem ix_hdIx {i : Ix} {V : Sto} : ixW (Nd.ix i).w (.int 0) V = .ok (.str (hdIx i)) V := by cases i <;> kernel_rfl
theorem ix_var1 {x : Str} {V : Sto} : ixW (Nd.ix (.var x)).w (.int 1) V = .ok (.str x) V := by kernel_rfl
theorem sl_place {x : Str} {i : Option Ix} {V : Sto} : slW (Nd.ex (.place x i)).w (some 1) none V = .ok (plW (x, i)) V := by kernel_rfl
/-- the walk of used_names under way -/
def UI (S : Sto) (s : St) (m : Nat) (ρ : Rho) (U : Sto) : Prop := ∃ (L : List Nd) (ps : List (Str × Option Ix)) (is : List Str) (a b c : Option W), ρ = [some s.w, some (.ref S.length), some (.ref (S.length + 1)), some (.ref (S.length + 2)), a, b, c] ∧ Pre S U ∧ U[S.length]? = some (.lst (ps.map plW)) ∧ U[S.length + 1]? = some (.lst (is.map W.str)) ∧ U[S.length + 2]? = some (.lst (L.map Nd.p)) ∧ m = wts L ∧ m + ps.length + is.length ≤ 1000000 ∧ ∀ n ∈ L, Sh n ∧ Ok n
section
variable {R : W → Sto → Prop} {E : Xn → Sto → Prop} {S : Sto} {k n : Nat} {w x y : W}
theorem e_handed {s : St} : callI T (k + 2) "handed_names" [s.w] S = .ok (.ref S.length) (S ++ [.lst ((handed s).map W.str)]) := by
  cases s <;> kernel_rfl
theorem e_changed {s : St} : callI T (k + 3) "changed_names" [s.w] S = .ok (.ref S.length) (S ++ [.lst ((changed s).map W.str)]) := by
  cases s <;> kernel_rfl
theorem sp_inner {s : St} (hw : wtSt s ≤ 1000000) (h : ∀ U n, Pre S U → S.length ≤ n → U[n]? = some (.lst ((innerB s).map wB)) → R (.ref n) U) : Wp (callI T (k + 6) "inner_bodies" [s.w] S) R E := by
  have e3 := e_parts (k := k) (S := S) (n := .st s) trivial (show wtSt s ≤ _ by omega)
  rw [if_pos (show (Nd.st s).fit = true from rfl)] at e3
  rw [q_inner_bodies, wp_fnE]
  simp only [b_inner_bodies, startR]
  simp (decide := true)
  refine (show Wp (callI T (k + 5) "parts_of" [.str (Nd.st s).kind, (Nd.st s).w] S) _ _ from ?_)
  rw [e3, wp_ok, it_lst (ws := (Nd.st s).kids.map Nd.p) get_new]
  have kl := kids_le (.st s)
  have hk : (Nd.st s).wt = wtSt s := rfl
  refine comp_filt0 (pf := isBody) (f := snd) (hit_lst get_new) (fun w hw => ?_) (by simp; omega) ?_
  · obtain ⟨q, _, rfl⟩ := List.mem_map.mp hw
    simp (decide := true) [wipeR, Nd.p, isBody, snd]
    exact (Classical.em _).symm
  · have : (((Nd.st s).kids.map Nd.p).filter isBody).map snd = (innerB s).map wB := by
      cases s <;> simp (decide := true) [Nd.kids, kidsSt, Nd.p, isBody, snd, innerB, Nd.kind, Nd.w, wB]
    rw [this]
    exact h _ _ (Pre.app.trans .app) (by simp) get_new
theorem sp_used {s : St} (hs : Sh (.st s)) (ho : Ok (.st s)) (hw : wtSt s ≤ 1000000) (h : ∀ U (ps : List (Str × Option Ix)) (is : List Str), Pre S U → U[S.length]? = some (.lst (ps.map plW)) → U[S.length + 1]? = some (.lst (is.map W.str)) → ps.length + is.length ≤ 1000000 → R (.tup [.ref S.length, .ref (S.length + 1)]) U) : Wp (callI T (k + 7) "used_names" [s.w] S) R E := by
  rw [q_used_names, wp_fnE]
  simp only [b_used_names, startR]
  simp (decide := true)
  refine wh_rule (UI S s) ?_ (m := wtSt s) (by omega) ⟨[.st s], [], [], none, none, none, rfl, ⟨_, rfl⟩, by simp, by simp, by simp [Nd.p, Nd.kind, Nd.w], by simp [wts, Nd.wt], by simp; omega, fun n hn => by simp at hn; subst hn; exact ⟨hs, ho⟩⟩
  rintro m ρ U ⟨L, ps, is, a, b, c, rfl, hP, hU0, hU1, hU, hm, hm6, hS⟩
  simp only [wp_tOf, wp_aVar]
  refine ⟨_, rfl, _, tr_lst hU, ?_⟩
  rcases List.eq_nil_or_concat L with rfl | ⟨L', n, rfl⟩
  · simp (decide := true)
    exact h U ps is hP hU0 hU1 (by omega)
  rw [List.concat_eq_append] at *
  have hne : (!((L' ++ [n]).map Nd.p).isEmpty) = true := by simp
  rw [hne, if_pos rfl]
  rw [List.map_append] at hU
  have e1 := isL hU
  have e2 := m_pop (x := n.p) (ws := L'.map Nd.p) hU
  obtain ⟨hn, hok⟩ := hS n (by simp)
  have hfit : n.fit = true := by cases hok; assumption
  have hk := wt_kids n
  have hw2 : wts n.kids + 1 = n.wt := hk.symm
  have hL : wts L' + n.wt = m := by rw [hm, wts_app]; simp [wts]
  have l1 := wts_len L'
  have l2 := wts_len n.kids
  have hU2 : (U.set (S.length + 2) (.lst (L'.map Nd.p)))[S.length + 2]? = some (.lst (L'.map Nd.p)) := get_set hU
  have hV0 := get_set_ne (m := S.length + 2) (u := .lst (L'.map Nd.p)) hU0 (by omega)
  have hV1 := get_set_ne (m := S.length + 2) (u := .lst (L'.map Nd.p)) hU1 (by omega)
  have hP2 : Pre S (U.set (S.length + 2) (.lst (L'.map Nd.p))) := hP.set (by omega)
  have key : ∀ (V : Sto) (ps' : List (Str × Option Ix)) (is' : List Str), Pre S V → V[S.length]? = some (.lst (ps'.map plW)) → V[S.length + 1]? = some (.lst (is'.map W.str)) → V[S.length + 2]? = some (.lst (L'.map Nd.p)) → ps'.length + is'.length ≤ ps.length + is.length + 1 →
      Wp (callI T (k + 1 + 5) "parts_of" [.str n.kind, n.w] V) (fun w V => Wp (itW w V) (fun j V => Wp (compN j (gNm 6) (tBool (aOp neO (aOp ixW (aVar 6) (aC (.int 0))) (aC (.str "body")))) (aVar 6) (wipeR [some s.w, some (W.ref S.length), some (W.ref (S.length + 1)), some (W.ref (S.length + 2)), some (W.str n.kind), some n.w, c] [6]) big 0 [] V)
        (fun ws V => Wp (augAdd (W.ref (S.length + 2)) (W.ref V.length) (V ++ [SO.lst ws])) (fun z U => ∃ m', m' < m ∧ UI S s m' [some s.w, some (W.ref S.length), some (W.ref (S.length + 1)), some z, some (W.str n.kind), some n.w, c] U) fun x T => E x T) fun x T => E x T) fun x T => E x T) fun x T => E x T := by
    intro V ps' is' hPV h0 h1 h2 hle
    rw [e_parts (k := k + 1) hn.top (by omega), if_pos hfit, wp_ok, it_lst (ws := n.kids.map Nd.p) get_new]
    refine comp_filt0 (pf := fun w => !isBody w) (f := fun w => w) (hit_lst get_new) (fun w hw => ?_) (by simp; omega) ?_
    · obtain ⟨q, _, rfl⟩ := List.mem_map.mp hw
      simp (decide := true) [wipeR, Nd.p, isBody]
      exact Classical.em _
    · rw [List.map_id']
      have em : (n.kids.map Nd.p).filter (fun w => !isBody w) = (n.kids.filter fun q => !isBody q.p).map Nd.p := by
        rw [List.filter_map]
        rfl
      rw [em]
      have g1 := Pre.get (S' := (V ++ [SO.lst (n.kids.map Nd.p)]) ++ [SO.lst ((n.kids.filter fun q => !isBody q.p).map Nd.p)]) (Pre.app.trans .app) h2
      have l3 := List.length_filter_le (fun q => !isBody q.p) n.kids
      have l4 : wts (n.kids.filter fun q => !isBody q.p) ≤ wts n.kids := by
        have : ∀ M : List Nd, wts (M.filter fun q => !isBody q.p) ≤ wts M := fun M => by
          induction M with
          | nil => simp [wts]
          | cons q M ih =>
            unfold wts at *
            rw [List.filter_cons]
            split <;> simp only [List.map_cons, List.sum_cons] <;> omega
        exact this _
      rw [aug_L g1 get_new (by simp; omega), wp_ok]
      have g2 := Pre.get (S' := (V ++ [SO.lst (n.kids.map Nd.p)]) ++ [SO.lst ((n.kids.filter fun q => !isBody q.p).map Nd.p)]) (Pre.app.trans .app) h0
      have g3 := Pre.get (S' := (V ++ [SO.lst (n.kids.map Nd.p)]) ++ [SO.lst ((n.kids.filter fun q => !isBody q.p).map Nd.p)]) (Pre.app.trans .app) h1
      refine ⟨wts (L' ++ n.kids.filter fun q => !isBody q.p), by rw [wts_app]; omega, L' ++ n.kids.filter fun q => !isBody q.p, ps', is', _, _, _, rfl, ((hPV.trans .app).trans .app).set (by omega), get_set_ne g2 (by omega), get_set_ne g3 (by omega), ?_, rfl, by rw [wts_app]; omega, fun q hq => ?_⟩
      · rw [List.map_append]
        exact get_set g1
      · rcases List.mem_append.mp hq with hq | hq
        · exact hS q (by simp [hq])
        · have hq := (List.mem_filter.mp hq).1
          refine ⟨hn.kids _ hq, ?_⟩
          cases hok with
          | mk _ hh => exact hh _ hq
  have key0 := key _ ps is hP2 hV0 hV1 hU2 (by omega)
  have sl : ∀ (a b c : W) (V : Sto), slW (.tup [a, b, c]) (some 1) none V = .ok (.tup [b, c]) V := fun _ _ _ _ => rfl
  have keyP : ∀ p : Str × Option Ix, _ := fun p => key ((U.set (S.length + 2) (.lst (L'.map Nd.p))).set S.length (.lst ((ps ++ [p]).map plW))) (ps ++ [p]) is (hP2.set (Nat.le_refl _)) (get_set hV0) (get_set_ne hV1 (by omega)) (get_set_ne hU2 (by omega)) (by simp; omega)
  have keyI : ∀ z : Str, _ := fun z => key ((U.set (S.length + 2) (.lst (L'.map Nd.p))).set (S.length + 1) (.lst ((is ++ [z]).map W.str))) ps (is ++ [z]) (hP2.set (by omega)) (get_set_ne hV0 (by omega)) (get_set hV1) (get_set_ne hU2 (by omega)) (by simp; omega)
  have aP : ∀ v : W, appW (.ref S.length) [v] (U.set (S.length + 2) (.lst (L'.map Nd.p))) = .ok .non ((U.set (S.length + 2) (.lst (L'.map Nd.p))).set S.length (.lst (ps.map plW ++ [v]))) := fun v => m_app hV0 (by simp; omega)
  have aI : ∀ v : W, appW (.ref (S.length + 1)) [v] (U.set (S.length + 2) (.lst (L'.map Nd.p))) = .ok .non ((U.set (S.length + 2) (.lst (L'.map Nd.p))).set (S.length + 1) (.lst (is.map W.str ++ [v]))) := fun v => m_app hV1 (by simp; omega)
  have iP := isL hV0
  have iI := isL hV1
  simp (decide := true) [e1, e2, Nd.p, aP, iP]
  by_cases hp : n.kind = "place"
  · obtain ⟨x, i, rfl⟩ := kind_pl hp
    have := keyP (x, i)
    rw [List.map_append] at this
    exact .inr ⟨hp, this⟩
  refine .inl ⟨hp, ?_⟩
  by_cases hx : n.kind = "expression"
  · refine .inr ⟨hx, ?_⟩
    obtain ⟨e, rfl⟩ := kind_ex hx
    rw [ix_hdEx, wp_ok, op_eqS, wp_ok]
    by_cases he : hdEx e = "place"
    · obtain ⟨x, i, rfl⟩ := hdEx_place he
      refine .inr ⟨by rw [decide_eq_true he], ?_⟩
      have := keyP (x, i)
      rw [List.map_append] at this
      simp (decide := true) [iP, sl_place, aP]
      exact this
    · exact .inl ⟨by rw [decide_eq_false he], .inl ⟨show ¬ (("expression" : Str) = "index") by decide +kernel, key0⟩⟩
  refine .inl ⟨hx, ?_⟩
  by_cases hi : n.kind = "index"
  · refine .inr ⟨hi, ?_⟩
    obtain ⟨i, rfl⟩ := kind_ix hi
    rw [ix_hdIx, wp_ok, op_eqS, wp_ok]
    by_cases he : hdIx i = "index"
    · obtain ⟨x, rfl⟩ := hdIx_var he
      refine .inr ⟨by rw [decide_eq_true he], ?_⟩
      have := keyI x
      rw [List.map_append] at this
      simp (decide := true) [iI, ix_var1, aI]
      exact this
    · exact .inl ⟨by rw [decide_eq_false he], key0⟩
  · exact .inl ⟨hi, key0⟩
end
end Pt

/-! ## Scope -/
namespace Pt
open PySem Ev ET PyProof.Rows
structure Sco where
  v : Nat
  i : Nat
  p : Nat
  q : Nat
  c : Nat
  vs : List (Str × Int)
  is : List (Str × Unit)
  ps : List (Str × Unit)
  qs : List (Str × Unit)
  cs : List (Str × Proc)
def scF (s : Sco) : List (Str × W) := [("variables", .ref s.v), ("integers", .ref s.i), ("params", .ref s.p), ("procedures", .ref s.q), ("callees", .ref s.c)]
def dG {α : Type} (f : α → W) (l : List (Str × α)) : SO := .dic (l.map fun p => ((.inr p.1 : L2.Key), f p.2))
def yes : Unit → W := fun _ => .bl true
structure ScAt (U : Sto) (o : Nat) (s : Sco) : Prop where
  ob : U[o]? = some (.ins "Scope" (scF s))
  v : U[s.v]? = some (dG W.int s.vs)
  i : U[s.i]? = some (dG yes s.is)
  p : U[s.p]? = some (dG yes s.ps)
  q : U[s.q]? = some (dG yes s.qs)
  c : U[s.c]? = some (dG Proc.w s.cs)
  nv : s.v ≠ o ∧ s.v ≠ s.i ∧ s.v ≠ s.p ∧ s.v ≠ s.q ∧ s.v ≠ s.c
  ni : s.i ≠ o ∧ s.i ≠ s.p ∧ s.i ≠ s.q ∧ s.i ≠ s.c
  cok : ∀ p ∈ s.cs, p.2.idxs.length ≤ 1000 ∧ p.2.refs.length ≤ 1000
  few : s.vs.length + s.is.length ≤ 2000000
theorem ScAt.pre {U U' : Sto} {o : Nat} {s : Sco} (h : ScAt U o s) (hp : Pre U U') : ScAt U' o s := ⟨hp.get h.ob, hp.get h.v, hp.get h.i, hp.get h.p, hp.get h.q, hp.get h.c, h.nv, h.ni, h.cok, h.few⟩
theorem valK_G {α : Type} {f : α → W} {z : Str} : ∀ l : List (Str × α), valK (l.map fun p => ((.inr p.1 : L2.Key), f p.2)) (.inr z) = (l.lookup z).map f
  | [] => rfl
  | (y, a) :: l => by
    have ih := valK_G (f := f) (z := z) l
    unfold valK at ih ⊢
    rw [List.map_cons, List.find?_cons, List.lookup_cons]
    by_cases c : y = z
    · subst c
      simp
    · have c2 : (z == y) = false := beq_eq_false_iff_ne.mpr fun e => c e.symm
      rw [c2]
      have c3 : decide ((.inr y : L2.Key) = .inr z) = false := decide_eq_false fun e => c (Sum.inr.inj e)
      rw [c3]
      exact ih
theorem put_G {α : Type} {f : α → W} {z : Str} {a : α} {l : List (Str × α)} (h : l.lookup z = none) : putKW (l.map fun p => ((.inr p.1 : L2.Key), f p.2)) (.inr z) (f a) = (l ++ [(z, a)]).map fun p => ((.inr p.1 : L2.Key), f p.2) := by
  have : ((l.map fun p => ((.inr p.1 : L2.Key), f p.2)).any fun kv => decide (kv.1 = .inr z)) = false := by
    induction l with
    | nil => rfl
    | cons b l ih =>
      obtain ⟨y, c⟩ := b
      rw [List.lookup_cons] at h
      cases e : z == y with
      | true => rw [e] at h; cases h
      | false =>
        rw [e] at h
        rw [List.map_cons, List.any_cons, ih h]
        have : y ≠ z := fun e2 => by subst e2; simp at e
        simp [this]
  unfold putKW
  rw [this]
  simp
theorem drop_G {α : Type} {f : α → W} {z : Str} {a : α} : ∀ {l : List (Str × α)}, l.lookup z = none → dropKW ((l ++ [(z, a)]).map fun p => ((.inr p.1 : L2.Key), f p.2)) (.inr z) = l.map fun p => ((.inr p.1 : L2.Key), f p.2)
  | [], _ => by simp [dropKW]
  | (y, c) :: l, h => by
    rw [List.lookup_cons] at h
    cases e : z == y with
    | true => rw [e] at h; cases h
    | false =>
      rw [e] at h
      have ih := drop_G (f := f) (a := a) h
      have : y ≠ z := fun e2 => by subst e2; simp at e
      unfold dropKW at ih ⊢
      rw [List.cons_append, List.map_cons, List.filter_cons, ih]
      simp [this]
theorem Pre.back {U V : Sto} {i : Nat} {x y : SO} (h : U[i]? = some x) (hp : Pre (U.set i y) V) : Pre U (V.set i x) := by
  obtain ⟨J, rfl⟩ := hp
  have hi := (List.getElem?_eq_some_iff.mp h).1
  refine ⟨J, ?_⟩
  rw [List.set_append_left _ _ (by rw [List.length_set]; exact hi), List.set_set]
  congr 1
  exact List.ext_getElem? fun j => by
    by_cases c : i = j
    · subst c
      rw [List.getElem?_set_self hi, h]
    · rw [List.getElem?_set_ne c]
section
variable {R : W → Sto → Prop} {E : Xn → Sto → Prop} {S U : Sto} {k n o : Nat} {w x y : W} {s : Sco}
theorem sc_mt {cal : Str → Fn} (h : ScAt U o s) {mn : Str} {n : Nat} {key : Str} (hl : (scF s).lookup mn = none) (hm : ((T.mt.lookup ("Scope" : Str)).getD []).lookup mn = some (n, key)) : mtF T cal mn (.ref o) U = some (n, cal key) := by
  unfold mtF
  dsimp only
  rw [ins_get h.ob]
  have e : T.mt.lookup ("Scope" : Str) = some ((T.mt.lookup ("Scope" : Str)).getD []) := by kernel_rfl
  dsimp only
  rw [hl]
  dsimp only
  rw [e]
  dsimp only
  rw [hm]
theorem sc_v (h : ScAt U o s) : fldW (atB T "variables") "variables" (.ref o) U = .ok (.ref s.v) U := by
  unfold fldW
  dsimp only
  rw [ins_get h.ob]
  kernel_rfl
theorem sc_i (h : ScAt U o s) : fldW (atB T "integers") "integers" (.ref o) U = .ok (.ref s.i) U := by
  unfold fldW
  dsimp only
  rw [ins_get h.ob]
  kernel_rfl
theorem sc_p (h : ScAt U o s) : fldW (atB T "params") "params" (.ref o) U = .ok (.ref s.p) U := by
  unfold fldW
  dsimp only
  rw [ins_get h.ob]
  kernel_rfl
theorem sc_q (h : ScAt U o s) : fldW (atB T "procedures") "procedures" (.ref o) U = .ok (.ref s.q) U := by
  unfold fldW
  dsimp only
  rw [ins_get h.ob]
  kernel_rfl
theorem sc_c (h : ScAt U o s) : fldW (atB T "callees") "callees" (.ref o) U = .ok (.ref s.c) U := by
  unfold fldW
  dsimp only
  rw [ins_get h.ob]
  kernel_rfl
theorem in_G {α : Type} {f : α → W} {l : List (Str × α)} {z : Str} (h : U[n]? = some (dG f l)) : inO (.str z) (.ref n) U = .ok (.bl (l.lookup z).isSome) U := by
  rw [op_inD h rfl, valK_G]
  simp
theorem nin_G {α : Type} {f : α → W} {l : List (Str × α)} {z : Str} (h : U[n]? = some (dG f l)) : ninO (.str z) (.ref n) U = .ok (.bl (!(l.lookup z).isSome)) U := by
  rw [op_ninD h rfl, valK_G]
  simp
theorem ix_G {α : Type} {f : α → W} {l : List (Str × α)} {z : Str} {a : α} (h : U[n]? = some (dG f l)) (ha : l.lookup z = some a) : ixW (.ref n) (.str z) U = .ok (f a) U := by
  unfold ixW
  simp only [h, dG, keyW, valK_G, ha]
  rfl
theorem e_is_free (h : ScAt U o s) {z : Str} : callI T (k + 2) "Scope.is_free" [.ref o, .str z] U = .ok (.bl (!(s.vs.lookup z).isSome && !(s.is.lookup z).isSome && !(s.qs.lookup z).isSome)) U := by
  apply eq_of_wp
  rw [q_Scope_is_free, wp_fnE]
  simp only [b_Scope_is_free, startR]
  cases hv : s.vs.lookup z <;> cases hi : s.is.lookup z <;> cases hq : s.qs.lookup z <;> simp (decide := true) [sc_v h, sc_i h, sc_q h, nin_G h.v, nin_G h.i, nin_G h.q, hv, hi, hq]
theorem e_fits (h : ScAt U o s) {z : Str} {i : Option Ix} {m : Int} (hz : s.vs.lookup z = some m) : callI T (k + 2) "Scope.fits_size" [.ref o, wPl z i] U = .ok (.bl (decide (decide (m = 0) = isNo (wO i)))) U := by
  apply eq_of_wp
  rw [q_Scope_fits_size, wp_fnE]
  simp only [b_Scope_fits_size, startR, wPl]
  simp (decide := true) [sc_v h, ix_G h.v hz]
/-- sees_all: a yes says that what is used is there, and what is bound is free -/
def bound : St → List Str
  | .loop x _ _ => [x]
  | .bind x _ _ => [x]
  | _ => []
def hdSt : St → Str
  | .set _ _ _ => "set" | .loop _ _ _ => "loop" | .ite _ _ _ => "if" | .call _ _ _ => "call" | .bind _ _ _ => "let"
theorem ix_hdSt {t : St} : ixW t.w (.int 0) U = .ok (.str (hdSt t)) U := by cases t <;> kernel_rfl
theorem sp_sees {t : St} {n m : Nat} {pl : List (Str × Option Ix)} {is : List Str} (h : ScAt U o s) (hp : U[n]? = some (.lst (pl.map plW))) (hi : U[m]? = some (.lst (is.map W.str))) (hl : pl.length + is.length ≤ 1000000) (hh : (handed t).length ≤ 1000)
    (q : ∀ b V, Pre U V → (b = true → (∀ p ∈ pl, ∃ a, s.vs.lookup p.1 = some a) ∧ (∀ x ∈ handed t, ∃ a, s.vs.lookup x = some a) ∧ ∀ x ∈ bound t, s.vs.lookup x = none ∧ s.is.lookup x = none) → R (.bl b) V) : Wp (callI T (k + 4) "Scope.sees_all" [.ref o, t.w, .ref n, .ref m] U) R E := by
  rw [q_Scope_sees_all, wp_fnE]
  simp only [b_Scope_sees_all, startR]
  simp (decide := true)
  rw [it_lst hp]
  refine comp_map0 (f := fun w => match w with | .tup (x :: _) => x | _ => .non) (hit_lst hp) (fun w hw => ?_) (by simp; omega) ?_
  · obtain ⟨p, _, rfl⟩ := List.mem_map.mp hw
    simp (decide := true) [wipeR, plW, wPl]
  rw [List.map_map]
  have e1 : pl.map ((fun w => match w with | .tup (x :: _) => x | _ => W.non) ∘ plW) = (pl.map (·.1)).map W.str := by rw [List.map_map]; rfl
  rw [e1]
  refine (show Wp (callI T (k + 1 + 2) "handed_names" [t.w] _) _ _ from ?_)
  rw [e_handed, wp_ok]
  have P1 : Pre U ((U ++ [SO.lst ((pl.map (·.1)).map W.str)]) ++ [SO.lst ((handed t).map W.str)]) := Pre.app.trans .app
  have g1 : ((U ++ [SO.lst ((pl.map (·.1)).map W.str)]) ++ [SO.lst ((handed t).map W.str)])[U.length]? = some (.lst ((pl.map (·.1)).map W.str)) := Pre.app.get get_new
  have g2 : ((U ++ [SO.lst ((pl.map (·.1)).map W.str)]) ++ [SO.lst ((handed t).map W.str)])[(U ++ [SO.lst ((pl.map (·.1)).map W.str)]).length]? = some (.lst ((handed t).map W.str)) := get_new
  generalize ((U ++ [SO.lst ((pl.map (·.1)).map W.str)]) ++ [SO.lst ((handed t).map W.str)]) = U1 at *
  rw [op_addL g1 g2 (by simp; omega), wp_ok]
  have g3 := get_new (S := U1) (o := SO.lst ((pl.map (·.1)).map W.str ++ (handed t).map W.str))
  have P2 : Pre U (U1 ++ [SO.lst ((pl.map (·.1)).map W.str ++ (handed t).map W.str)]) := P1.trans .app
  generalize (U1 ++ [SO.lst ((pl.map (·.1)).map W.str ++ (handed t).map W.str)]) = U2 at *
  have h2 := h.pre P2
  rw [it_lst g3]
  refine comp_map0 (f := fun w => .bl (match w with | .str x => (s.vs.lookup x).isSome | _ => false)) (hit_lst g3) (fun w hw => ?_) (by simp; omega) ?_
  · rw [← List.map_append] at hw
    obtain ⟨x, _, rfl⟩ := List.mem_map.mp hw
    simp (decide := true) [wipeR, sc_v h2, in_G h2.v]
  rw [q_all, wp_ok]
  cases hb : ((pl.map (·.1)).map W.str ++ (handed t).map W.str).all (fun w => match w with | .str x => (s.vs.lookup x).isSome | _ => false) with
  | false => exact .inl ⟨rfl, q false _ P2 fun z => by cases z⟩
  | true =>
    refine .inr ⟨rfl, ?_⟩
    rw [← List.map_append, List.all_map, List.all_append, Bool.and_eq_true] at hb
    obtain ⟨b1, b2⟩ := hb
    have c1 : ∀ p ∈ pl, ∃ a, s.vs.lookup p.1 = some a := fun p hp => Option.isSome_iff_exists.mp (List.all_eq_true.mp b1 p.1 (List.mem_map.mpr ⟨p, hp, rfl⟩))
    have c2 : ∀ x ∈ handed t, ∃ a, s.vs.lookup x = some a := fun x hx => Option.isSome_iff_exists.mp (List.all_eq_true.mp b2 x hx)
    rw [it_lst (P2.get hi)]
    refine comp_map0 (f := fun w => .bl (match w with | .str x => (s.is.lookup x).isSome | _ => false)) (hit_lst (P2.get hi)) (fun w hw => ?_) (by simp; omega) ?_
    · obtain ⟨x, _, rfl⟩ := List.mem_map.mp hw
      simp (decide := true) [wipeR, sc_i h2, in_G h2.i]
    rw [q_all, wp_ok]
    cases (is.map W.str).all (fun w => match w with | .str x => (s.is.lookup x).isSome | _ => false) with
    | false => exact .inl ⟨rfl, q false _ P2 fun z => by cases z⟩
    | true =>
      refine .inr ⟨rfl, ?_⟩
      rw [ix_hdSt, wp_ok]
      have e5 : ninO (.str (hdSt t)) (.tup [.str "loop", .str "let"]) U2 = .ok (.bl (!([W.str "loop", W.str "let"].any fun z => eqF z (.str (hdSt t))))) U2 := op_ninT rfl
      have mt := sc_mt (cal := callI T (k + 3)) h2 (mn := "is_free") (n := 2) (key := "Scope.is_free") (by kernel_rfl) (by kernel_rfl)
      rw [e5, wp_ok]
      have fin : ∀ x, bound t = [x] → ixW t.w (.int 1) U2 = .ok (.str x) U2 → ∃ n g, mtF T (callI T (k + 2 + 1)) "is_free" (.ref o) U2 = some (n, g) ∧ Wp (ixW t.w (.int 1) U2) (fun w T => 2 = n ∧ Wp (g [.ref o, w] T) (fun w T => R w T) fun x T => E x T) fun x T => E x T := fun x hx h1 => by
        refine ⟨2, _, mt, ?_⟩
        rw [h1, wp_ok]
        refine ⟨rfl, ?_⟩
        rw [e_is_free (k := k + 1) h2, wp_ok]
        refine q _ _ P2 fun hb => ⟨c1, c2, fun z hz => ?_⟩
        rw [hx, List.mem_singleton] at hz
        subst hz
        rw [Bool.and_eq_true, Bool.and_eq_true] at hb
        refine ⟨?_, ?_⟩
        · cases e : s.vs.lookup z with
          | none => rfl
          | some a => rw [e] at hb; exact (Bool.false_ne_true hb.1.1).elim
        · cases e : s.is.lookup z with
          | none => rfl
          | some a => rw [e] at hb; exact (Bool.false_ne_true hb.1.2).elim
      have fre : bound t = [] → R (.bl true) U2 := fun hx => q true _ P2 fun _ => ⟨c1, c2, fun z hz => by rw [hx] at hz; cases hz⟩
      cases t with
      | loop x c b => exact .inl ⟨by kernel_rfl, fin x rfl (by kernel_rfl)⟩
      | bind x e b => exact .inl ⟨by kernel_rfl, fin x rfl (by kernel_rfl)⟩
      | set x i e => exact .inr ⟨by kernel_rfl, fre rfl⟩
      | ite a b c => exact .inr ⟨by kernel_rfl, fre rfl⟩
      | call f xs ns => exact .inr ⟨by kernel_rfl, fre rfl⟩
end
end Pt

/-! ## Scope: may_call, find_reason, enter, leave -/
namespace Pt
open PySem Ev ET PyProof.Rows
theorem shaped_intsP (ns : List Int) : SeqAt.shaped (.list (ns.map PyData.int)) = true := by
  have c : ∀ l : List Int, PyData.canLayAll0 (l.map PyData.int) = true := by
    intro l
    induction l with
    | nil => rfl
    | cons x xs ih => simp [PyData.canLayAll0, PyData.canLay0, ih]
  have d : ∀ l : List Int, PyData.depthAll (l.map PyData.int) ≤ 1 := by
    intro l
    induction l with
    | nil => simp [PyData.depthAll]
    | cons x xs ih => simp [PyData.depthAll, PyData.depth]; omega
  unfold SeqAt.shaped
  have d' := d ns
  simp [PyData.canLay0, c ns, PyData.depth]
  omega
theorem dat_ints {U : Sto} {n : Nat} {l : List Int} (h : U[n]? = some (.lst (l.map W.int))) : dat U (.ref n) = some (.list (l.map PyData.int)) := by
  have e : ∀ l : List Int, (l.map W.int).mapM (datN 69 U) = some (l.map PyData.int) := fun l => by
    induction l with
    | nil => rfl
    | cons x l ih => rw [List.map_cons, List.mapM_cons, ih]; rfl
  have e2 : datN 70 U (.ref n) = some (.list (l.map PyData.int)) := by
    show (match lstAt U n with | some ws => (ws.mapM (datN 69 U)).map PyData.list | none => none) = _
    rw [lst_get h]
    dsimp only
    rw [e]
    rfl
  unfold dat
  rw [e2]
  dsimp only
  rw [if_pos (shaped_intsP l)]
theorem eq_ints {U : Sto} {n m : Nat} {l l2 : List Int} (h : U[n]? = some (.lst (l.map W.int))) (h2 : U[m]? = some (.lst (l2.map W.int))) : ∃ b, eqO (.ref n) (.ref m) U = .ok (.bl b) U := by
  refine ⟨PyData.eqv (.list (l.map PyData.int)) (.list (l2.map PyData.int)), ?_⟩
  unfold eqO bd eqW
  dsimp only
  rw [dat_ints h, dat_ints h2]
  rfl
section
variable {R : W → Sto → Prop} {E : Xn → Sto → Prop} {S U : Sto} {k n o : Nat} {w x y : W} {s : Sco}
theorem lookup_mem {α : Type} {z : Str} {a : α} : ∀ {l : List (Str × α)}, l.lookup z = some a → ∃ y, (y, a) ∈ l
  | (y, b) :: l, h => by
    rw [List.lookup_cons] at h
    cases e : z == y with
    | true => rw [e] at h; cases h; exact ⟨y, by simp⟩
    | false =>
      rw [e] at h
      obtain ⟨y2, h2⟩ := lookup_mem h
      exact ⟨y2, by simp [h2]⟩
theorem sp_may {f : Str} {xs : List Ix} {ns : List Str} (h : ScAt U o s) (hn : ns.length ≤ 1000) (ha : ∀ x ∈ ns, ∃ a, s.vs.lookup x = some a) (q : ∀ b V, Pre U V → R (.bl b) V) : Wp (callI T (k + 2) "Scope.may_call" [.ref o, (St.call f xs ns).w] U) R E := by
  rw [q_Scope_may_call, wp_fnE]
  simp only [b_Scope_may_call, startR, St.w]
  have el := fun U => op_lenST (S := U) (l := ns) (by omega)
  cases hf : s.cs.lookup f with
  | none =>
    simp (decide := true) [sc_c h, nin_G h.c, hf]
    exact q false U .refl
  | some p =>
    have hp : p.idxs.length ≤ 1000 ∧ p.refs.length ≤ 1000 := by
      obtain ⟨y, hy⟩ := lookup_mem hf
      exact h.cok _ hy
    simp (decide := true) [sc_c h, nin_G h.c, hf, el, ix_G h.c hf]
    by_cases hc : Ls.cnt ns ns.length = ns.length
    · refine .inl ⟨by omega, ?_⟩
      simp only [Proc.w, seq_tup, Option.some.injEq]
      refine ⟨_, rfl, rfl, ?_⟩
      simp (decide := true)
      refine comp_map0 (f := fun w => .int (match w with | .str x => (s.vs.lookup x).getD 0 | _ => 0)) (fun i => hit_tup i _) (fun w hw => ?_) (by simp; omega) ?_
      · obtain ⟨x, hx, rfl⟩ := List.mem_map.mp hw
        obtain ⟨a, ha⟩ := ha x hx
        simp (decide := true) [wipeR, sc_v h, ix_G h.v ha, ha]
      have e1 : (ns.map W.str).map (fun w => W.int (match w with | .str x => (s.vs.lookup x).getD 0 | _ => 0)) = (ns.map fun x => (s.vs.lookup x).getD 0).map W.int := by rw [List.map_map, List.map_map]; rfl
      rw [e1]
      by_cases hl : (xs.length : Int) = (p.idxs.length : Int)
      · refine .inr ⟨hl, ?_⟩
        refine comp_map0 (f := fun w => .int (match w with | .tup [_, .int n] => n | _ => 0)) (fun i => hit_tup i _) (fun w hw => ?_) (by simp; omega) ?_
        · obtain ⟨d, _, rfl⟩ := List.mem_map.mp hw
          simp (decide := true) [wipeR, wDecl]
        have e2 : (p.refs.map wDecl).map (fun w => W.int (match w with | .tup [_, .int n] => n | _ => 0)) = (p.refs.map (·.2)).map W.int := by rw [List.map_map, List.map_map]; rfl
        rw [e2]
        obtain ⟨b, hb⟩ := eq_ints (U := (U ++ [SO.lst ((ns.map fun x => (s.vs.lookup x).getD 0).map W.int)]) ++ [SO.lst ((p.refs.map (·.2)).map W.int)]) (Pre.app.get get_new) get_new
        rw [hb, wp_ok]
        exact q b _ (Pre.app.trans .app)
      · exact .inl ⟨hl, q _ _ .app⟩
    · exact .inr ⟨by omega, q false U .refl⟩
theorem sp_find {t : St} (h : ScAt U o s) (hs : Sh (.st t)) (ho : Ok (.st t)) (hw : wtSt t ≤ 1000000)
    (q : ∀ w V, Pre U V → (w = .non → ∀ x ∈ bound t, s.vs.lookup x = none ∧ s.is.lookup x = none) → (w = .non ∨ ∃ z : Str, w = .str z ∧ z.length ≤ 1000) → R w V) : Wp (callI T (k + 8) "Scope.find_reason" [.ref o, t.w] U) R E := by
  have hh : (handed t).length ≤ 1000 := by
    cases t with
    | call f xs ns => exact (hs.kids (.names ns) (by simp [Nd.kids, kidsSt])).top
    | _ => simp [handed]
  rw [q_Scope_find_reason, wp_fnE]
  simp only [b_Scope_find_reason, startR]
  simp (decide := true)
  refine sp_used (k := k) hs ho hw fun U1 pl is P1 g1 g2 hl => ?_
  have h1 := h.pre P1
  have mt := sc_mt (cal := callI T (k + 7)) h1 (mn := "sees_all") (n := 4) (key := "Scope.sees_all") (by kernel_rfl) (by kernel_rfl)
  simp (decide := true)
  refine ⟨4, _, mt, rfl, ?_⟩
  refine sp_sees (k := k + 3) h1 g1 g2 hl hh fun b U2 P2 hb => ?_
  cases b with
  | false => exact .inl ⟨rfl, q _ U2 (P1.trans P2) (fun z => by cases z) (.inr ⟨_, rfl, by decide +kernel⟩)⟩
  | true =>
    obtain ⟨c1, c2, c3⟩ := hb rfl
    refine .inr ⟨rfl, ?_⟩
    have h2 := h1.pre P2
    have mt2 := sc_mt (cal := callI T (k + 7)) h2 (mn := "fits_size") (n := 2) (key := "Scope.fits_size") (by kernel_rfl) (by kernel_rfl)
    rw [it_lst (P2.get g1)]
    refine comp_map0 (f := fun w => .bl (match w with | .tup [.str z, i] => decide (decide ((s.vs.lookup z).getD 0 = 0) = isNo i) | _ => false)) (hit_lst (P2.get g1)) (fun w hw => ?_) (by simp; omega) ?_
    · obtain ⟨p, hp, rfl⟩ := List.mem_map.mp hw
      obtain ⟨a, ha⟩ := c1 p hp
      simp (decide := true) [wipeR]
      refine ⟨2, _, mt2, rfl, ?_⟩
      rw [show plW p = wPl p.1 p.2 from rfl, e_fits (k := k + 5) h2 ha, wp_ok]
      refine ⟨?_, rfl⟩
      unfold wPl
      simp [ha]
    rw [q_all, wp_ok]
    generalize (pl.map plW).all _ = b2
    cases b2 with
    | false => exact .inl ⟨rfl, q _ U2 (P1.trans P2) (fun z => by cases z) (.inr ⟨_, rfl, by decide +kernel⟩)⟩
    | true =>
      refine .inr ⟨rfl, ?_⟩
      refine (show Wp (callI T (k + 4 + 3) "changed_names" [t.w] U2) _ _ from ?_)
      rw [e_changed, wp_ok, it_lst get_new]
      have P3 : Pre U2 (U2 ++ [SO.lst ((changed t).map W.str)]) := .app
      have h3 := h2.pre P3
      have hcl : (changed t).length ≤ 1000 := by
        cases t <;> simp [changed, handed] at hh ⊢
        exact hh
      refine comp_map0 (f := fun w => .bl (match w with | .str z => (s.ps.lookup z).isSome | _ => false)) (hit_lst get_new) (fun w hw => ?_) (by simp; omega) ?_
      · obtain ⟨z, _, rfl⟩ := List.mem_map.mp hw
        simp (decide := true) [wipeR, sc_p h3, in_G h3.p]
      rw [q_any, wp_ok]
      generalize ((changed t).map W.str).any _ = b3
      have P13 := (P1.trans P2).trans P3
      generalize U2 ++ [SO.lst ((changed t).map W.str)] = U3 at *
      cases b3 with
      | true => exact .inr ⟨rfl, q _ _ P13 (fun z => by cases z) (.inr ⟨_, rfl, by decide +kernel⟩)⟩
      | false =>
        refine .inl ⟨rfl, ?_⟩
        have non : R .non U3 := q .non _ P13 (fun _ => c3) (.inl rfl)
        rw [ix_hdSt, wp_ok, op_eqS, wp_ok]
        cases t with
        | call f xs ns =>
          have mt3 := sc_mt (cal := callI T (k + 7)) h3 (mn := "may_call") (n := 2) (key := "Scope.may_call") (by kernel_rfl) (by kernel_rfl)
          refine .inr ⟨rfl, 2, _, mt3, rfl, ?_⟩
          refine sp_may (k := k + 5) h3 hh c2 fun b U4 P4 => ?_
          cases b with
          | true => exact .inr ⟨rfl, q .non _ (P13.trans P4) (fun _ => c3) (.inl rfl)⟩
          | false => exact .inl ⟨rfl, q _ _ (P13.trans P4) (fun z => by cases z) (.inr ⟨_, rfl, by decide +kernel⟩)⟩
        | _ => exact .inl ⟨by kernel_rfl, non⟩
/-- the scope within a statement -/
def entS (s : Sco) : St → Sco
  | .loop x _ _ => { s with is := s.is ++ [(x, ())] }
  | .bind x _ _ => { s with vs := s.vs ++ [(x, 0)] }
  | _ => s
def entU (s : Sco) (U : Sto) : St → Sto
  | .loop x _ _ => U.set s.i (dG yes (s.is ++ [(x, ())]))
  | .bind x _ _ => U.set s.v (dG W.int (s.vs ++ [(x, 0)]))
  | _ => U
theorem ent_at {t : St} (h : ScAt U o s) (hf : s.vs.length + s.is.length < 2000000) : ScAt (entU s U t) o (entS s t) := by
  obtain ⟨n1, n2, n3, n4, n5⟩ := h.nv
  obtain ⟨m1, m2, m3, m4⟩ := h.ni
  cases t with
  | loop x c b => exact ⟨get_set_ne h.ob m1, get_set_ne h.v (Ne.symm n2), get_set h.i, get_set_ne h.p m2, get_set_ne h.q m3, get_set_ne h.c m4, h.nv, h.ni, h.cok, by simp only [entS, List.length_append, List.length_singleton]; omega⟩
  | bind x e b => exact ⟨get_set_ne h.ob n1, get_set h.v, get_set_ne h.i n2, get_set_ne h.p n3, get_set_ne h.q n4, get_set_ne h.c n5, h.nv, h.ni, h.cok, by simp only [entS, List.length_append, List.length_singleton]; omega⟩
  | _ => exact h
theorem set_G {α : Type} {f : α → W} {l : List (Str × α)} {z : Str} {a : α} (h : U[n]? = some (dG f l)) (hz : l.lookup z = none) (hl : l.length < 5000000) : setW (.ref n) (.str z) (f a) U = .ok () (U.set n (dG f (l ++ [(z, a)]))) := by
  unfold setW
  simp only [h, dG, keyW, put_G hz]
  rw [if_pos (short_of (by simp; omega))]
theorem e_enter {t : St} (h : ScAt U o s) (hb : ∀ x ∈ bound t, s.vs.lookup x = none ∧ s.is.lookup x = none) : callI T (k + 2) "Scope.enter" [.ref o, t.w] U = .ok .non (entU s U t) := by
  have hf := h.few
  have key : Wp (callI T (k + 2) "Scope.enter" [.ref o, t.w] U) (fun a V => a = .non ∧ V = entU s U t) (fun _ _ => False) := by
    rw [q_Scope_enter, wp_fnE]
    simp only [b_Scope_enter, startR]
    cases t with
    | loop x c b =>
      have := set_G (a := ()) h.i (hb x (by simp [bound])).2 (by omega)
      simp (decide := true) [St.w, sc_i h, this, entU, show W.bl true = yes () from rfl]
    | bind x e b =>
      have := set_G (f := W.int) (a := 0) h.v (hb x (by simp [bound])).1 (by omega)
      simp (decide := true) [St.w, sc_v h, this, entU]
    | _ => simp (decide := true) [St.w, entU]
  revert key
  cases callI T (k + 2) "Scope.enter" [.ref o, t.w] U with
  | ok a V => rintro ⟨rfl, rfl⟩; rfl
  | er x V => exact fun h => h.elim
  | no => exact fun h => h.elim
theorem del_G {α : Type} {f : α → W} {l : List (Str × α)} {z : Str} {a : α} (h : U[n]? = some (dG f (l ++ [(z, a)]))) (hz : l.lookup z = none) : delW (.ref n) (.str z) U = .ok () (U.set n (dG f l)) := by
  have e1 := dic_get (kvs := (l ++ [(z, a)]).map fun p => ((.inr p.1 : L2.Key), f p.2)) h
  have e2 : (valK ((l ++ [(z, a)]).map fun p => ((.inr p.1 : L2.Key), f p.2)) (.inr z)).isSome = true := by
    rw [valK_G, List.lookup_append, hz]
    simp
  unfold delW
  simp only [e1, keyW, e2, if_true, drop_G hz]
  rfl
/-- out of a statement: as it was -/
theorem e_leave {t : St} {V : Sto} (h : ScAt U o s) (hf : s.vs.length + s.is.length < 2000000) (hb : ∀ x ∈ bound t, s.vs.lookup x = none ∧ s.is.lookup x = none) (hp : Pre (entU s U t) V) : ∃ V', callI T (k + 2) "Scope.leave" [.ref o, t.w] V = .ok .non V' ∧ Pre U V' := by
  have hV := (ent_at (t := t) h hf).pre hp
  have key : Wp (callI T (k + 2) "Scope.leave" [.ref o, t.w] V) (fun a V' => a = .non ∧ Pre U V') (fun _ _ => False) := by
    rw [q_Scope_leave, wp_fnE]
    simp only [b_Scope_leave, startR]
    cases t with
    | loop x c b =>
      have := del_G hV.i (hb x (by simp [bound])).2
      simp (decide := true) [St.w, sc_i hV]
      rw [show (entS s (.loop x c b)).i = s.i from rfl] at this ⊢
      rw [this]
      exact Pre.back h.i hp
    | bind x e b =>
      have := del_G hV.v (hb x (by simp [bound])).1
      simp (decide := true) [St.w, sc_v hV]
      rw [show (entS s (.bind x e b)).v = s.v from rfl] at this ⊢
      rw [this]
      exact Pre.back h.v hp
    | _ =>
      simp (decide := true) [St.w]
      exact hp
  revert key
  cases callI T (k + 2) "Scope.leave" [.ref o, t.w] V with
  | ok a V' => rintro ⟨rfl, h2⟩; exact ⟨V', rfl, h2⟩
  | er x V => exact fun h => h.elim
  | no => exact fun h => h.elim
end
end Pt

/-! ## check_body -/
namespace Pt
open PySem Ev ET PyProof.Rows
mutual
def dpS : St → Nat
  | .loop _ _ b => dpB b + 1
  | .bind _ _ b => dpB b + 1
  | .ite _ a b => max (dpB a) (dpB b) + 1
  | _ => 0
def dpB : List St → Nat
  | [] => 0
  | s :: r => max (dpS s) (dpB r)
end
theorem dp_mem : ∀ {b : List St} {t : St}, t ∈ b → dpS t ≤ dpB b
  | s :: r, t, h => by
    unfold dpB
    rcases List.mem_cons.mp h with rfl | h
    · omega
    · have := dp_mem h
      omega
theorem dp_inner {t : St} {b : List St} (h : b ∈ innerB t) : dpB b + 1 ≤ dpS t := by
  cases t <;> simp [innerB] at h
  · subst h; simp [dpS]
  · rcases h with rfl | rfl <;> simp [dpS] <;> omega
  · subst h; simp [dpS]
theorem wt_mem : ∀ {b : List St} {t : St}, t ∈ b → wtSt t ≤ wtSts b
  | s :: r, t, h => by
    unfold wtSts
    rcases List.mem_cons.mp h with rfl | h
    · omega
    · have := wt_mem h
      omega
theorem wt_inner {t : St} {b : List St} (h : b ∈ innerB t) : wtSts b ≤ wtSt t := by
  cases t <;> simp [innerB] at h
  · subst h; simp [wtSt]; omega
  · rcases h with rfl | rfl <;> simp [wtSt] <;> omega
  · subst h; simp [wtSt]; omega
theorem kid_inner {t : St} {b : List St} (h : b ∈ innerB t) : Nd.body b ∈ (Nd.st t).kids := by
  cases t <;> simp [innerB] at h
  · subst h; simp [Nd.kids, kidsSt]
  · rcases h with rfl | rfl <;> simp [Nd.kids, kidsSt]
  · subst h; simp [Nd.kids, kidsSt]
theorem len_wts (b : List St) : b.length ≤ wtSts b := by
  induction b with
  | nil => simp
  | cons s r ih =>
    have := wt_pos (.st s)
    have e : (Nd.st s).wt = wtSt s := rfl
    unfold wtSts
    simp
    omega
theorem Ok.kids {n : Nd} : Ok n → ∀ k ∈ n.kids, Ok k
  | .mk _ h => h
theorem intsW_map : ∀ l : List Int, intsW (l.map W.int) = some l
  | [] => rfl
  | x :: l => by
    show (intsW _).map _ = _
    rw [intsW_map l]
    rfl
section
variable {R : W → Sto → Prop} {E : Xn → Sto → Prop} {S U : Sto} {k n o : Nat} {w x y : W} {s : Sco}
theorem te_ok {l : List Int} {z : Str} (h : ∀ i ∈ l, i.natAbs < 10 ^ 12) (hl : l.length ≤ 100) (hz : z.length ≤ 1000) : okTE [.tup (l.map W.int), .str z] = true := by
  unfold okTE
  simp only [intsW_map]
  rw [Bool.and_eq_true, Bool.and_eq_true, List.all_eq_true, decide_eq_true_eq, decide_eq_true_eq]
  exact ⟨⟨fun i hi => decide_eq_true (h i hi), hl⟩, hz⟩
/-- what check_body does, at a level, for bodies nested so deep -/
def CBody (L d : Nat) (E : Xn → Sto → Prop) : Prop := ∀ {o : Nat} {body : List St} {U : Sto} {s : Sco} {path : List Int} {R : W → Sto → Prop}, dpB body ≤ d → (∀ t ∈ body, Sh (.st t) ∧ Ok (.st t)) → wtSts body ≤ 1000000 → ScAt U o s → s.vs.length + s.is.length + d < 2000000 → (∀ i ∈ path, i.natAbs < 10 ^ 12) → path.length + 2 * d + 2 ≤ 100 →
    (∀ V, Pre U V → R .non V) → (∀ (x : Xn) (V : Sto), x.c = ("TreeError" : Str) → E x V) → Wp (callI T L "check_body" [wB body, .tup (path.map W.int), .ref o] U) R E
theorem step_body {d : Nat} (rec : ∀ d', d' + 1 = d → CBody (k + d + 8) d' E) : CBody (k + d + 9) d E := by
  intro o body U s path R hd hso hw hsc hfew hpi hpl h he
  rw [q_check_body, wp_fnE]
  simp only [b_check_body, startR, wB]
  simp (decide := true)
  have lb := len_wts body
  refine for_rule body.length (fun i ρ V => i ≤ body.length ∧ Pre U V ∧ ∃ a b c e f g, ρ = [some (.tup (St.ws body)), some (.tup (path.map W.int)), some (.ref o), a, b, c, e, f, g]) (fun i ρ V ⟨hi, hV, a, b, c, e, f, g, hr⟩ => ?_) (by omega) ⟨Nat.zero_le _, .refl, _, _, _, _, _, _, rfl⟩
  subst hr
  cases e1 : body[i]? with
  | none =>
    have hl := List.getElem?_eq_none_iff.mp e1
    exact .inl ⟨hi, by rw [hit_enu, ws_map, List.getElem?_map, e1]; rfl, h V hV⟩
  | some t =>
    have hl := (List.getElem?_eq_some_iff.mp e1).1
    have htm := List.mem_of_getElem? e1
    obtain ⟨hs, ho⟩ := hso t htm
    have hwt := wt_mem htm
    have hdt := dp_mem htm
    refine .inr ⟨hl, .tup [.int i, t.w], by rw [hit_enu, ws_map, List.getElem?_map, e1]; rfl, ?_⟩
    simp (decide := true)
    have hsV := hsc.pre hV
    have mt1 := sc_mt (cal := callI T (k + d + 8)) hsV (mn := "find_reason") (n := 2) (key := "Scope.find_reason") (by kernel_rfl) (by kernel_rfl)
    refine ⟨short_of (by omega), 2, _, mt1, rfl, ?_⟩
    have ep : path.map W.int ++ [W.int (i : Int)] = (path ++ [(i : Int)]).map W.int := by simp
    have hpi2 : ∀ j ∈ path ++ [(i : Int)], j.natAbs < 10 ^ 12 := fun j hj => by
      rcases List.mem_append.mp hj with hj | hj
      · exact hpi j hj
      · simp at hj
        subst hj
        simp
        omega
    refine sp_find (k := k + d) hsV hs ho (by omega) fun w V1 P1 hn hw2 => ?_
    rcases hw2 with rfl | ⟨z, rfl, hz⟩
    · refine .inl ⟨rfl, ?_⟩
      have hfree := hn rfl
      have hs1 := hsV.pre P1
      have mt2 := sc_mt (cal := callI T (k + d + 8)) hs1 (mn := "enter") (n := 2) (key := "Scope.enter") (by kernel_rfl) (by kernel_rfl)
      refine ⟨2, _, mt2, rfl, ?_⟩
      rw [e_enter (k := k + d + 6) hs1 hfree, wp_ok]
      refine (show Wp (callI T (k + d + 2 + 6) "inner_bodies" [t.w] (entU s V1 t)) _ _ from ?_)
      refine sp_inner (k := k + d + 2) (by omega) fun V2 nI P2 hle gI => ?_
      rw [en_lst gI]
      have hi3 : (innerB t).length ≤ 2 := by cases t <;> simp [innerB]
      refine for_rule (innerB t).length (fun j ρ V => j ≤ (innerB t).length ∧ Pre V2 V ∧ ∃ f g, ρ = [some (.tup (St.ws body)), some (.tup (path.map W.int)), some (.ref o), some (.int i), some t.w, some (.tup (path.map W.int ++ [.int i])), some .non, f, g]) (fun j ρ V3 ⟨hj, hV3, f, g, hr⟩ => ?_) (by omega) ⟨Nat.zero_le _, .refl, _, _, rfl⟩
      subst hr
      have hs3 := (ent_at (t := t) hs1 (by omega)).pre (P2.trans hV3)
      cases e2 : (innerB t)[j]? with
      | none =>
        have hl2 := List.getElem?_eq_none_iff.mp e2
        refine .inl ⟨hj, by rw [hit_enuL (hV3.get gI), List.getElem?_map, e2]; rfl, ?_⟩
        have mt3 := sc_mt (cal := callI T (k + d + 8)) hs3 (mn := "leave") (n := 2) (key := "Scope.leave") (by kernel_rfl) (by kernel_rfl)
        refine ⟨_, rfl, 2, _, mt3, _, rfl, rfl, ?_⟩
        obtain ⟨V4, q1, q2⟩ := e_leave (k := k + d + 6) (t := t) hs1 (by omega) hfree (P2.trans hV3)
        rw [show callI T (k + d + 8) "Scope.leave" [.ref o, t.w] V3 = _ from q1, wp_ok]
        exact ⟨by omega, (hV.trans P1).trans q2, _, _, _, _, _, _, rfl⟩
      | some b =>
        have hl2 := (List.getElem?_eq_some_iff.mp e2).1
        have hbm := List.mem_of_getElem? e2
        have d1 := dp_inner hbm
        have d2 := wt_inner hbm
        refine .inr ⟨hl2, .tup [.int j, wB b], by rw [hit_enuL (hV3.get gI), List.getElem?_map, e2]; rfl, ?_⟩
        simp (decide := true)
        refine ⟨short_of (by omega), ?_⟩
        cases d with
        | zero => omega
        | succ d' =>
          have ep2 : path.map W.int ++ [W.int (i : Int), W.int (j : Int)] = (path ++ [(i : Int)] ++ [(j : Int)]).map W.int := by simp
          rw [ep2]
          have hls : (entS s t).vs.length + (entS s t).is.length ≤ s.vs.length + s.is.length + 1 := by cases t <;> simp [entS] <;> omega
          refine rec d' rfl (o := o) (s := entS s t) (body := b) (by omega) (fun t' ht' => ?_) (by omega) hs3 (by omega) (fun m hm => ?_) (by simp; omega) (fun V4 hV4 => ?_) he
          · have kb := hs.kids _ (kid_inner hbm)
            have ob := ho.kids _ (kid_inner hbm)
            exact ⟨kb.kids _ (by simp [Nd.kids]; exact ht'), ob.kids _ (by simp [Nd.kids]; exact ht')⟩
          · rcases List.mem_append.mp hm with hm | hm
            · exact hpi2 m hm
            · simp at hm
              subst hm
              simp
              omega
          · exact ⟨by omega, hV3.trans hV4⟩
    · refine .inr ⟨rfl, ?_, he _ _ rfl⟩
      rw [ep]
      exact te_ok hpi2 (by simp; omega) hz
theorem sp_body : ∀ d : Nat, CBody (k + d + 9) d E := by
  intro d
  induction d with
  | zero => exact step_body fun d' h => by omega
  | succ d ih => exact step_body fun d' h => (by cases h; exact ih)
end
end Pt

/-! ## A new Scope; the bodies of a tree; check -/
namespace Ev
open PySem
theorem dc_rule {it : ItE} {g : AG} {tt : AT} {tk tv : A} {ρ0 : Rho} {S : Sto} {E : Xn → Sto → Prop} {P : List (L2.Key × W) → Sto → Prop} (n : Nat) (I : Nat → List (L2.Key × W) → Sto → Prop)
    (step : ∀ i acc S, I i acc S → (i ≤ n ∧ it i S = some none ∧ P acc S) ∨ (i < n ∧ ∃ w, it i S = some (some w) ∧ WpS (g w ρ0 S) (fun _ ρ1 T => Wp (tt ρ1 T) (fun c U => c = true ∧ Wp (tk ρ1 U) (fun y V => Wp (tv ρ1 V) (fun z X => ∃ k, keyW y = some k ∧ acc.length + 1 ≤ 10000000 ∧ I (i + 1) (putKW acc k z) X) (fun _ _ => False)) (fun _ _ => False)) (fun _ _ => False)) (fun _ _ _ => False)))
    (hn : n ≤ 10000000) (h : I 0 [] S) : Wp (dcN it g tt tk tv ρ0 big 0 [] S) P E := by
  have key : ∀ (f i : Nat) (acc : List (L2.Key × W)) (S : Sto), n < f + i → I i acc S → Wp (dcN it g tt tk tv ρ0 f i acc S) P E := by
    intro f
    induction f with
    | zero =>
      intro i acc S hm h
      rcases step i acc S h with ⟨h1, _⟩ | ⟨h1, _⟩ <;> omega
    | succ f ih =>
      intro i acc S hm h
      rcases step i acc S h with ⟨_, h1, h2⟩ | ⟨h1, w, h2, h3⟩
      · simp only [dcN, h1, wp_ok]
        exact h2
      · simp only [dcN, h2]
        cases eg : g w ρ0 S with
        | no => rw [eg] at h3; exact False.elim h3
        | er x ρ1 T => rw [eg] at h3; exact False.elim h3
        | ok u ρ1 T =>
          rw [eg, wps_ok] at h3
          dsimp only
          cases et : tt ρ1 T with
          | no => rw [et] at h3; exact False.elim h3
          | er x U => rw [et] at h3; exact False.elim h3
          | ok c U =>
            rw [et, wp_ok] at h3
            obtain ⟨rfl, h3⟩ := h3
            dsimp only
            cases ee : tk ρ1 U with
            | no => rw [ee] at h3; exact False.elim h3
            | er x V => rw [ee] at h3; exact False.elim h3
            | ok y V =>
              rw [ee, wp_ok] at h3
              dsimp only
              cases ev : tv ρ1 V with
              | no => rw [ev] at h3; exact False.elim h3
              | er x V => rw [ev] at h3; exact False.elim h3
              | ok z X =>
                rw [ev, wp_ok] at h3
                obtain ⟨k, h4, h5, h6⟩ := h3
                dsimp only
                rw [h4]
                dsimp only
                rw [if_pos (short_of h5)]
                exact ih (i + 1) _ X (by omega) h6
  by_cases hf : n < big + 0
  · exact key big 0 [] S hf h
  · unfold big at hf
    omega
end Ev
namespace Pt
open PySem Ev ET PyProof.Rows
def putL {α : Type} (l : List (Str × α)) (z : Str) (a : α) : List (Str × α) := if (l.lookup z).isSome = true then l.map (fun p => if p.1 = z then (p.1, a) else p) else l ++ [(z, a)]
theorem putL_len {α : Type} {l : List (Str × α)} {z : Str} {a : α} : (putL l z a).length ≤ l.length + 1 := by
  unfold putL
  split <;> simp
theorem putL_all {α : Type} {Q : α → Prop} {l : List (Str × α)} {z : Str} {a : α} (h : ∀ p ∈ l, Q p.2) (ha : Q a) : ∀ p ∈ putL l z a, Q p.2 := by
  unfold putL
  split
  · intro p hp
    obtain ⟨q, h1, rfl⟩ := List.mem_map.mp hp
    split
    · exact ha
    · exact h q h1
  · intro p hp
    rcases List.mem_append.mp hp with hp | hp
    · exact h p hp
    · simp at hp
      subst hp
      exact ha
theorem any_lookup {α : Type} {f : α → W} {z : Str} : ∀ l : List (Str × α), ((l.map fun p => ((.inr p.1 : L2.Key), f p.2)).any fun kv => decide (kv.1 = .inr z)) = (l.lookup z).isSome
  | [] => rfl
  | (y, a) :: l => by
    rw [List.map_cons, List.any_cons, any_lookup l, List.lookup_cons]
    by_cases c : y = z
    · subst c
      simp
    · have c2 : (z == y) = false := beq_eq_false_iff_ne.mpr fun e => c e.symm
      rw [c2]
      simp [c]
theorem put_L {α : Type} {f : α → W} {z : Str} {a : α} {l : List (Str × α)} : putKW (l.map fun p => ((.inr p.1 : L2.Key), f p.2)) (.inr z) (f a) = (putL l z a).map fun p => ((.inr p.1 : L2.Key), f p.2) := by
  unfold putKW putL
  rw [any_lookup]
  split
  · rw [List.map_map, List.map_map]
    refine List.map_congr_left fun p _ => ?_
    by_cases c : p.1 = z
    · simp [c]
    · simp [c]
  · simp
def bld {α : Type} (kz : W → Str) (va : W → α) (ws : List W) : List (Str × α) := ws.foldl (fun l w => putL l (kz w) (va w)) []
theorem bld_len {α : Type} {kz : W → Str} {va : W → α} (ws : List W) : (bld kz va ws).length ≤ ws.length := by
  have : ∀ (ws : List W) (l : List (Str × α)), (ws.foldl (fun l w => putL l (kz w) (va w)) l).length ≤ l.length + ws.length := fun ws => by
    induction ws with
    | nil => intro l; simp
    | cons w ws ih =>
      intro l
      have h1 := ih (putL l (kz w) (va w))
      have h2 := putL_len (l := l) (z := kz w) (a := va w)
      rw [List.foldl_cons, List.length_cons]
      omega
  have := this ws []
  rw [List.length_nil, Nat.zero_add] at this
  exact this
theorem bld_all {α : Type} {kz : W → Str} {va : W → α} {Q : α → Prop} {ws : List W} (h : ∀ w ∈ ws, Q (va w)) : ∀ p ∈ bld kz va ws, Q p.2 := by
  have : ∀ (ws : List W) (l : List (Str × α)), (∀ w ∈ ws, Q (va w)) → (∀ p ∈ l, Q p.2) → ∀ p ∈ ws.foldl (fun l w => putL l (kz w) (va w)) l, Q p.2 := fun ws => by
    induction ws with
    | nil => intro l _ h; exact h
    | cons w ws ih => intro l h1 h2; exact ih _ (fun w' hw => h1 w' (by simp [hw])) (putL_all h2 (h1 w (by simp)))
  exact this ws [] h fun p hp => by cases hp
theorem dc_tup {α : Type} {S : Sto} {f : α → W} {kz : W → Str} {va : W → α} {ws : List W} {g : AG} {tk tv : A} {ρ0 : Rho} {P : List (L2.Key × W) → Sto → Prop} {E : Xn → Sto → Prop}
    (step : ∀ w ∈ ws, WpS (g w ρ0 S) (fun _ ρ1 U => Wp (tk ρ1 U) (fun y V => y = .str (kz w) ∧ Wp (tv ρ1 V) (fun z X => z = f (va w) ∧ X = S) (fun _ _ => False)) (fun _ _ => False)) (fun _ _ _ => False)) (hn : ws.length ≤ 1000000) (h : P ((bld kz va ws).map fun p => ((.inr p.1 : L2.Key), f p.2)) S) : Wp (dcN (itTup ws) g tYes tk tv ρ0 big 0 [] S) P E := by
  refine dc_rule ws.length (fun i acc T => i ≤ ws.length ∧ acc = (bld kz va (ws.take i)).map (fun p => ((.inr p.1 : L2.Key), f p.2)) ∧ T = S) (fun i acc T ⟨hi, ha, hT⟩ => ?_) (by omega) ⟨Nat.zero_le _, rfl, rfl⟩
  subst hT
  cases e : ws[i]? with
  | none =>
    have hl := List.getElem?_eq_none_iff.mp e
    refine .inl ⟨hi, by rw [hit_tup, e], ?_⟩
    rw [ha, List.take_of_length_le (by omega)]
    exact h
  | some w =>
    have hl := (List.getElem?_eq_some_iff.mp e).1
    refine .inr ⟨hl, w, by rw [hit_tup, e], ?_⟩
    refine (step w (List.mem_of_getElem? e)).imp (fun _ ρ1 U h1 => ?_) fun _ _ _ h => h
    simp only [wp_tYes, true_and]
    refine h1.imp' fun y V ⟨hy, h2⟩ => h2.imp' fun z X ⟨hz, hX⟩ => ⟨.inr (kz w), by rw [hy]; rfl, ?_, by omega, ?_, hX⟩
    · have := bld_len (kz := kz) (va := va) (ws.take i)
      rw [List.length_take] at this
      rw [ha, List.length_map]
      omega
    · rw [ha, hz, put_L, List.take_add_one, e]
      unfold bld
      rw [List.foldl_append]
      rfl
theorem cut_map {α : Type} {f : α → W} {l : List α} {lo hi : Option Int} : ∃ l' : List α, cutW (l.map f) lo hi = l'.map f ∧ (∀ x ∈ l', x ∈ l) ∧ l'.length ≤ l.length := by
  refine ⟨(l.drop (HT.sIx (l.map f).length 0 lo)).take (HT.sIx (l.map f).length (l.map f).length hi - HT.sIx (l.map f).length 0 lo), ?_, fun x hx => List.mem_of_mem_drop (List.mem_of_mem_take hx), by rw [List.length_take, List.length_drop]; omega⟩
  unfold cutW
  rw [← List.map_drop, ← List.map_take]
@[simp] theorem sl_tup {R : W → Sto → Prop} {E : Xn → Sto → Prop} {S : Sto} {ws : List W} {lo hi : Option Int} : Wp (slW (.tup ws) lo hi S) R E = R (.tup (cutW ws lo hi)) S := rfl
section
variable {R : W → Sto → Prop} {E : Xn → Sto → Prop} {S U : Sto} {k n o : Nat} {w x y : W} {s : Sco}
theorem e_fldS {f : Str} {v : W} {fs : List (Str × W)} (h : U[o]? = some (.ins "Scope" fs)) (hok : atB T f "Scope" = true) (hl : fs.length < 1000) : fldSet (atB T f) f v (.ref o) U = .ok () (U.set o (.ins "Scope" (setF f v fs))) := by
  unfold fldSet
  dsimp only
  rw [ins_get h]
  dsimp only
  rw [if_pos ⟨hok, hl⟩]
def snI : W → Int
  | .tup [_, .int n] => n
  | _ => 0
theorem fld_next {x y z : SO} (h : U[o]? = some z) (ho : S.length ≤ o) (hP : Pre S U) : ∃ V, (U ++ [x]).set o y = V ∧ V[o]? = some y ∧ V[U.length]? = some x ∧ (∀ j q, j ≠ o → U[j]? = some q → V[j]? = some q) ∧ Pre S V ∧ V.length = U.length + 1 := by
  have hl := (List.getElem?_eq_some_iff.mp h).1
  exact ⟨_, rfl, get_set (Pre.app.get h), get_set_ne get_new (by omega), fun j q hj hq => get_set_ne (Pre.app.get hq) (Ne.symm hj), (hP.trans .app).set ho, by simp⟩
theorem sp_scope {t : Tree} {i : Int} {ds : List Decl} {is : List Str} (hs : Sh (.tree t)) (hd : ds.length ≤ 2000) (hi : is.length ≤ 1000) (h : ∀ U s, Pre S U → ScAt U S.length s → s.vs.length + s.is.length ≤ 3000 → R (.ref S.length) U) :
    Wp (callI T (k + 2) "Scope.__init__" [.ref S.length, t.w, .int i, .tup (ds.map wDecl), .tup (is.map W.str)] (S ++ [.ins "Scope" []])) (fun w U => w = .non ∧ R (.ref S.length) U) E := by
  have h2 := (hs.kids (.decls t.params) (by simp [Nd.kids])).top
  have h3 := hs.kids (.procs t.procs) (by simp [Nd.kids])
  have h4 := h3.top
  simp only [Nd.sh] at h2 h4
  rw [q_Scope___init__, wp_fnE]
  simp only [b_Scope___init__, startR, Tree.w]
  simp (decide := true)
  refine dc_tup (f := W.int) (kz := hdW) (va := snI) (fun w hw => ?_) (by simp; omega) ?_
  · obtain ⟨d, _, rfl⟩ := List.mem_map.mp hw
    simp (decide := true) [wipeR, wDecl, hdW, snI]
  obtain ⟨L, eL, hL1, hL2⟩ := cut_map (f := Proc.w) (l := t.procs) (lo := none) (hi := some (i + 1))
  have q0 : (S ++ [SO.ins "Scope" []])[S.length]? = some (.ins "Scope" []) := get_new
  have p0 : Pre S (S ++ [SO.ins "Scope" []]) := .app
  have n0 : (S ++ [SO.ins "Scope" []]).length = S.length + 1 := by simp
  generalize S ++ [SO.ins "Scope" []] = U0 at *
  rw [e_fldS (Pre.app.get q0) (by kernel_rfl) (by decide), wp_ok]
  obtain ⟨U1, e1, a1, b1, c1, p1, n1⟩ := fld_next (x := dG W.int (bld hdW snI (ds.map wDecl))) (y := .ins "Scope" (setF "variables" (.ref U0.length) [])) q0 (Nat.le_refl _) p0
  refine (show Wp (dcN _ _ _ _ _ _ big 0 [] ((U0 ++ [dG W.int (bld hdW snI (ds.map wDecl))]).set S.length (.ins "Scope" (setF "variables" (.ref U0.length) [])))) _ _ from ?_)
  rw [e1]
  refine dc_tup (f := yes) (kz := fun w => match w with | .str z => z | _ => "") (va := fun _ => ()) (fun w hw => ?_) (by simp; omega) ?_
  · obtain ⟨d, _, rfl⟩ := List.mem_map.mp hw
    simp (decide := true) [wipeR, yes]
  rw [e_fldS (Pre.app.get a1) (by kernel_rfl) (by simp (decide := true) [setF]), wp_ok]
  obtain ⟨U2, e2, a2, b2, c2, p2, n2⟩ := fld_next (x := dG yes (bld (fun w => match w with | .str z => z | _ => "") (fun _ => ()) (is.map W.str))) (y := .ins "Scope" (setF "integers" (.ref U1.length) (setF "variables" (.ref U0.length) []))) a1 (Nat.le_refl _) p1
  refine (show Wp (dcN _ _ _ _ _ _ big 0 [] ((U1 ++ [dG yes (bld (fun w => match w with | .str z => z | _ => "") (fun _ => ()) (is.map W.str))]).set S.length (.ins "Scope" (setF "integers" (.ref U1.length) (setF "variables" (.ref U0.length) []))))) _ _ from ?_)
  rw [e2]
  refine dc_tup (f := yes) (kz := hdW) (va := fun _ => ()) (fun w hw => ?_) (by simp; omega) ?_
  · obtain ⟨d, _, rfl⟩ := List.mem_map.mp hw
    simp (decide := true) [wipeR, wDecl, hdW, yes]
  rw [e_fldS (Pre.app.get a2) (by kernel_rfl) (by simp (decide := true) [setF]), wp_ok]
  obtain ⟨U3, e3, a3, b3, c3, p3, n3⟩ := fld_next (x := dG yes (bld hdW (fun _ => ()) (t.params.map wDecl))) (y := .ins "Scope" (setF "params" (.ref U2.length) (setF "integers" (.ref U1.length) (setF "variables" (.ref U0.length) [])))) a2 (Nat.le_refl _) p2
  refine (show Wp (dcN _ _ _ _ _ _ big 0 [] ((U2 ++ [dG yes (bld hdW (fun _ => ()) (t.params.map wDecl))]).set S.length (.ins "Scope" (setF "params" (.ref U2.length) (setF "integers" (.ref U1.length) (setF "variables" (.ref U0.length) [])))))) _ _ from ?_)
  rw [e3]
  refine dc_tup (f := yes) (kz := hdW) (va := fun _ => ()) (fun w hw => ?_) (by simp; omega) ?_
  · obtain ⟨d, _, rfl⟩ := List.mem_map.mp hw
    simp (decide := true) [wipeR, Proc.w, hdW, yes]
  rw [e_fldS (Pre.app.get a3) (by kernel_rfl) (by simp (decide := true) [setF]), wp_ok]
  obtain ⟨U4, e4, a4, b4, c4, p4, n4⟩ := fld_next (x := dG yes (bld hdW (fun _ => ()) (t.procs.map Proc.w))) (y := .ins "Scope" (setF "procedures" (.ref U3.length) (setF "params" (.ref U2.length) (setF "integers" (.ref U1.length) (setF "variables" (.ref U0.length) []))))) a3 (Nat.le_refl _) p3
  refine (show Wp (dcN _ _ _ _ _ _ big 0 [] ((U3 ++ [dG yes (bld hdW (fun _ => ()) (t.procs.map Proc.w))]).set S.length (.ins "Scope" (setF "procedures" (.ref U3.length) (setF "params" (.ref U2.length) (setF "integers" (.ref U1.length) (setF "variables" (.ref U0.length) []))))))) _ _ from ?_)
  rw [e4, eL]
  obtain ⟨prO, hprO⟩ : ∃ f : W → Proc, ∀ p ∈ L, (f p.w).w = p.w ∧ f p.w ∈ L := by
    classical
    refine ⟨fun w => if h : ∃ p ∈ L, p.w = w then h.choose else ⟨"", [], [], []⟩, fun p hp => ?_⟩
    have hx : ∃ q ∈ L, q.w = p.w := ⟨p, hp, rfl⟩
    simp only [dif_pos hx]
    exact ⟨hx.choose_spec.2, hx.choose_spec.1⟩
  refine dc_tup (f := Proc.w) (kz := hdW) (va := prO) (fun w hw => ?_) (by simp; omega) ?_
  · obtain ⟨d, hd, rfl⟩ := List.mem_map.mp hw
    have := (hprO d hd).1
    simp (decide := true) [wipeR, this]
    simp (decide := true) [Proc.w, hdW]
  rw [e_fldS (Pre.app.get a4) (by kernel_rfl) (by simp (decide := true) [setF]), wp_ok]
  obtain ⟨U5, e5, a5, b5, c5, p5, n5⟩ := fld_next (x := dG Proc.w (bld hdW prO (L.map Proc.w))) (y := .ins "Scope" (setF "callees" (.ref U4.length) (setF "procedures" (.ref U3.length) (setF "params" (.ref U2.length) (setF "integers" (.ref U1.length) (setF "variables" (.ref U0.length) [])))))) a4 (Nat.le_refl _) p4
  refine (show R _ ((U4 ++ [dG Proc.w (bld hdW prO (L.map Proc.w))]).set S.length (.ins "Scope" (setF "callees" (.ref U4.length) (setF "procedures" (.ref U3.length) (setF "params" (.ref U2.length) (setF "integers" (.ref U1.length) (setF "variables" (.ref U0.length) []))))))) from ?_)
  rw [e5]
  have l1 := bld_len (kz := hdW) (va := snI) (ds.map wDecl)
  have l2 := bld_len (kz := fun w => match w with | .str z => z | _ => "") (va := fun _ => ()) (is.map W.str)
  rw [List.length_map] at l1 l2
  refine h U5 ⟨U0.length, U1.length, U2.length, U3.length, U4.length, bld hdW snI (ds.map wDecl), bld (fun w => match w with | .str z => z | _ => "") (fun _ => ()) (is.map W.str), bld hdW (fun _ => ()) (t.params.map wDecl), bld hdW (fun _ => ()) (t.procs.map Proc.w), bld hdW prO (L.map Proc.w)⟩ p5 ⟨?_, c5 _ _ (by first | omega | (dsimp only; omega)) (c4 _ _ (by first | omega | (dsimp only; omega)) (c3 _ _ (by first | omega | (dsimp only; omega)) (c2 _ _ (by first | omega | (dsimp only; omega)) b1))), c5 _ _ (by first | omega | (dsimp only; omega)) (c4 _ _ (by first | omega | (dsimp only; omega)) (c3 _ _ (by first | omega | (dsimp only; omega)) b2)), c5 _ _ (by first | omega | (dsimp only; omega)) (c4 _ _ (by first | omega | (dsimp only; omega)) b3), c5 _ _ (by first | omega | (dsimp only; omega)) b4, b5, ⟨?_, ?_, ?_, ?_, ?_⟩, ⟨?_, ?_, ?_, ?_⟩, ?_, ?_⟩ ?_
  · rw [a5]
    simp (decide := true) [setF, scF]
  · dsimp only; omega
  · dsimp only; omega
  · dsimp only; omega
  · dsimp only; omega
  · dsimp only; omega
  · dsimp only; omega
  · dsimp only; omega
  · dsimp only; omega
  · dsimp only; omega
  · refine bld_all (Q := fun (p : Proc) => p.idxs.length ≤ 1000 ∧ p.refs.length ≤ 1000) fun w hw => ?_
    obtain ⟨d, hd, rfl⟩ := List.mem_map.mp hw
    have hp := h3.kids (.proc (prO d.w)) (by simp [Nd.kids, hL1 _ (hprO d hd).2])
    exact ⟨(hp.kids (.names _) (by simp [Nd.kids])).top, (hp.kids (.decls (prO d.w).refs) (by simp [Nd.kids])).top⟩
  · dsimp only; omega
  · dsimp only; omega
/-- the bodies of a tree, each with the numbers and variables it sees -/
def bodW (is : List Str) (ds : List Decl) (b : List St) : W := .tup [.tup (is.map W.str), .tup (ds.map wDecl), wB b]
def bods (t : Tree) : List (List Str × List Decl × List St) := t.procs.map (fun p => (p.idxs, p.refs ++ t.params, p.body)) ++ [([], t.state ++ t.params, t.beat)]
theorem sp_bodies {t : Tree} (hs : Sh (.tree t)) (h : ∀ U n, Pre S U → U[n]? = some (.lst ((bods t).map fun q => bodW q.1 q.2.1 q.2.2)) → R (.ref n) U) : Wp (callI T (k + 2) "bodies_of" [t.w] S) R E := by
  have h1 := (hs.kids (.decls t.state) (by simp [Nd.kids])).top
  have h2 := (hs.kids (.decls t.params) (by simp [Nd.kids])).top
  have h3 := hs.kids (.procs t.procs) (by simp [Nd.kids])
  have h4 := h3.top
  simp only [Nd.sh] at h1 h2 h4
  rw [q_bodies_of, wp_fnE]
  simp only [b_bodies_of, startR, Tree.w]
  simp (decide := true)
  refine comp_map0 (f := fun w => match w with | .tup [_, a, .tup b, c] => .tup [a, .tup (b ++ t.params.map wDecl), c] | _ => .non) (fun i => hit_tup i _) (fun w hw => ?_) (by simp; omega) ?_
  · obtain ⟨p, hp, rfl⟩ := List.mem_map.mp hw
    have hpp := h3.kids (.proc p) (by simp [Nd.kids, hp])
    have r1 := (hpp.kids (.decls p.refs) (by simp [Nd.kids])).top
    simp only [Nd.sh] at r1
    simp (decide := true) [wipeR, Proc.w]
    exact short_of (by omega)
  refine ⟨short_of (by omega), ?_⟩
  rw [op_addL (ws := (t.procs.map Proc.w).map fun w => match w with | .tup [_, a, .tup b, c] => .tup [a, .tup (b ++ t.params.map wDecl), c] | _ => .non) (us := [W.tup [W.tup [], W.tup (t.state.map wDecl ++ t.params.map wDecl), W.tup (St.ws t.beat)]]) (by simp) (by simp) (by simp; omega), wp_ok]
  refine h _ _ (Pre.app.trans .app) ?_
  rw [get_new]
  unfold bods
  simp [bodW, Proc.w, wB, Function.comp_def]
theorem sp_check {t : Tree} {d : Nat} (hs : Sh (.tree t)) (hw : (Nd.tree t).wt ≤ 1000000) (hd : ∀ q ∈ bods t, dpB q.2.2 ≤ d) (hd2 : d ≤ 40) (h : ∀ U, Pre S U → Ok (.tree t) → R .non U) (he : ∀ (x : Xn) (V : Sto), x.c = ("TreeError" : Str) → E x V) : Wp (callI T (k + d + 12) "check" [t.w] S) R E := by
  have h1 := (hs.kids (.decls t.state) (by simp [Nd.kids])).top
  have h2 := (hs.kids (.decls t.params) (by simp [Nd.kids])).top
  have h3 := hs.kids (.procs t.procs) (by simp [Nd.kids])
  have h4 := h3.top
  simp only [Nd.sh] at h1 h2 h4
  rw [q_check, wp_fnE]
  simp only [b_check, startR]
  simp (decide := true)
  refine sp_has_shape (k := k + d + 4) hs hw fun b U1 P1 hb => ?_
  cases b with
  | false => exact .inl ⟨rfl, he _ _ rfl⟩
  | true =>
    refine .inr ⟨rfl, ?_⟩
    have ho := hb rfl
    refine sp_keeps_limits (k := k + d + 3) hs ho hw fun b U2 P2 => ?_
    cases b with
    | false => exact .inl ⟨rfl, he _ _ rfl⟩
    | true =>
      refine .inr ⟨rfl, ?_⟩
      refine sp_declared (k := k + d + 7) hs (fun U3 P3 => ?_) he
      refine sp_heads (k := k + d + 7) hs (fun U4 P4 => ?_) he
      refine sp_bodies (k := k + d + 9) hs fun U5 n P5 g5 => ?_
      rw [en_lst g5]
      have PP := ((P1.trans P2).trans P3).trans (P4.trans P5)
      have hbl : (bods t).length ≤ 1001 := by unfold bods; simp; omega
      refine for_rule (bods t).length (fun j ρ V => j ≤ (bods t).length ∧ Pre U5 V ∧ ∃ a b c e, ρ = [some t.w, a, b, c, e]) (fun j ρ V ⟨hj, hV, a, b, c, e, hr⟩ => ?_) (by omega) ⟨Nat.zero_le _, .refl, _, _, _, _, rfl⟩
      subst hr
      cases e2 : (bods t)[j]? with
      | none =>
        have hl2 := List.getElem?_eq_none_iff.mp e2
        exact .inl ⟨hj, by rw [hit_enuL (hV.get g5), List.getElem?_map, e2]; rfl, h V (PP.trans hV) ho⟩
      | some q =>
        have hl2 := (List.getElem?_eq_some_iff.mp e2).1
        have hq := List.mem_of_getElem? e2
        refine .inr ⟨hl2, .tup [.int j, bodW q.1 q.2.1 q.2.2], by rw [hit_enuL (hV.get g5), List.getElem?_map, e2]; rfl, ?_⟩
        simp (decide := true) [bodW]
        have hq3 : q.2.1.length ≤ 2000 ∧ q.1.length ≤ 1000 ∧ wtSts q.2.2 ≤ 1000000 ∧ ∀ s ∈ q.2.2, Sh (.st s) ∧ Ok (.st s) := by
          unfold bods at hq
          rcases List.mem_append.mp hq with hq | hq
          · obtain ⟨p, hp, rfl⟩ := List.mem_map.mp hq
            have sp := h3.kids (.proc p) (by simp [Nd.kids, hp])
            have op := (ho.kids (.procs t.procs) (by simp [Nd.kids])).kids (.proc p) (by simp [Nd.kids, hp])
            have r1 := (sp.kids (.decls p.refs) (by simp [Nd.kids])).top
            have r2 := (sp.kids (.names p.idxs) (by simp [Nd.kids])).top
            have sb := sp.kids (.body p.body) (by simp [Nd.kids])
            have ob := op.kids (.body p.body) (by simp [Nd.kids])
            simp only [Nd.sh] at r1 r2
            have w1 : wtProc p ≤ (t.procs.map wtProc).sum := by
              have : ∀ l : List Proc, p ∈ l → wtProc p ≤ (l.map wtProc).sum := fun l hl => by
                induction l with
                | nil => cases hl
                | cons x l ih =>
                  rw [List.map_cons, List.sum_cons]
                  rcases List.mem_cons.mp hl with rfl | hl
                  · omega
                  · have := ih hl; omega
              exact this _ hp
            have w2 : wtSts p.body ≤ wtProc p := by unfold wtProc; omega
            refine ⟨by simp; omega, r2, ?_, fun s hsm => ⟨sb.kids _ (by simp [Nd.kids]; exact hsm), ob.kids _ (by simp [Nd.kids]; exact hsm)⟩⟩
            simp only [Nd.wt] at hw
            dsimp only
            omega
          · simp at hq
            subst hq
            have sb := hs.kids (.body t.beat) (by simp [Nd.kids])
            have ob := ho.kids (.body t.beat) (by simp [Nd.kids])
            refine ⟨by simp; omega, by simp, ?_, fun s hsm => ⟨sb.kids _ (by simp [Nd.kids]; exact hsm), ob.kids _ (by simp [Nd.kids]; exact hsm)⟩⟩
            simp only [Nd.wt] at hw
            dsimp only
            omega
        obtain ⟨q1, q2, q3, q4⟩ := hq3
        refine sp_scope (k := k + d + 8) (S := V) (R := fun r U => Wp (callI T (k + d + 10 + 1) "check_body" [wB q.2.2, .tup [.int j], r] U) (fun x T => j + 1 ≤ (bods t).length ∧ Pre U5 T) fun x T => E x T) hs q1 q2 fun V1 s P6 a6 l6 => ?_
        have el : k + d + 10 + 1 = k + 2 + d + 9 := by omega
        rw [el]
        refine sp_body (k := k + 2) d (path := [(j : Int)]) (hd q hq) q4 q3 a6 (by omega) (fun i hi => ?_) (by simp; omega) (fun V2 P7 => ⟨by omega, (hV.trans P6).trans P7⟩) he
        simp at hi
        subst hi
        simp
        omega
end
end Pt

/-! ## The draws -/
namespace Pt
open PySem Ev ET PyProof.Rows
/-- the draws: a list of numbers from 0 on at n, the place at m -/
structure Dw (U : Sto) (n m : Nat) : Prop where
  ex : ∃ (ds : List Int) (p : Int), U[n]? = some (.lst (ds.map W.int)) ∧ U[m]? = some (.lst [.int p]) ∧ 0 ≤ p ∧ (∀ d ∈ ds, 0 ≤ d)
  ne : n ≠ m
/-- .. further on: nothing else changes -/
structure Go (U V : Sto) (n m : Nat) : Prop where
  dw : Dw V n m
  off : ∀ j q, j ≠ m → U[j]? = some q → V[j]? = some q
theorem Go.trans {U V X : Sto} {n m : Nat} (a : Go U V n m) (b : Go V X n m) : Go U X n m := ⟨b.dw, fun j q hj h => b.off j q hj (a.off j q hj h)⟩
theorem Dw.app {U J : Sto} {n m : Nat} (h : Dw U n m) : Dw (U ++ J) n m := by
  obtain ⟨⟨ds, p, h1, h2, h3⟩, hne⟩ := h
  exact ⟨⟨ds, p, Pre.app.get h1, Pre.app.get h2, h3⟩, hne⟩
theorem Go.app {U J : Sto} {n m : Nat} (h : Dw U n m) : Go U (U ++ J) n m := ⟨h.app, fun j q _ hq => Pre.app.get hq⟩
theorem Go.at_ {U V : Sto} {n m : Nat} (h : Go U V n m) {j : Nat} {q : SO} (hj : U[j]? = some q) (hm : U[m]? ≠ some q) : V[j]? = some q := h.off j q (fun e => hm (by rw [← e]; exact hj)) hj
section
variable {R : W → Sto → Prop} {E : Xn → Sto → Prop} {S U : Sto} {k n m : Nat} {w x y : W}
theorem sp_take {many : Int} (h : Dw U n m) (hm : 1 ≤ many) (q : ∀ (r : Int) V, Go U V n m → 0 ≤ r → r < many → R (.int r) V) : Wp (callI T (k + 2) "_law_take" [.ref n, .ref m, .int many] U) R E := by
  obtain ⟨⟨ds, p, h1, h2, h3, h4⟩, hne⟩ := h
  rw [q__law_take, wp_fnE]
  simp only [b__law_take, startR]
  simp (decide := true) [op_ixL h2, op_lenL h1]
  by_cases c : (ds.length : Int) ≤ p
  · refine .inr ⟨c, q 0 U ⟨⟨⟨ds, p, h1, h2, h3, h4⟩, hne⟩, fun _ _ _ h => h⟩ (Int.le_refl _) (by omega)⟩
  · refine .inl ⟨by omega, ?_⟩
    have hp : p.toNat < ds.length := by omega
    have e1 : L2.atI (ds.map W.int) p = some (.int ds[p.toNat]) := by
      have e3 : L2.atI (ds.map W.int) ((p.toNat : Nat) : Int) = some (.int ds[p.toNat]) := at_nat (by rw [List.getElem?_map, List.getElem?_eq_getElem hp]; rfl)
      have e2 : (p.toNat : Int) = p := by omega
      rw [e2] at e3
      exact e3
    simp (decide := true) [op_ixL h1, op_ixL h2, e1]
    have es : setW (.ref m) (.int 0) (.int (p + 1)) U = .ok () (U.set m (.lst [.int (p + 1)])) := by
      unfold setW
      simp only [h2]
      rfl
    rw [es, wp_ok]
    show Wp (Ev.guard (decide (0 < many)) (ret (W.int (ds[p.toNat] % many))) (U.set m (.lst [.int (p + 1)]))) _ _
    rw [wp_guard, wp_ret]
    refine ⟨decide_eq_true (by omega), q _ _ ⟨⟨⟨ds, p + 1, get_set_ne h1 (Ne.symm hne), get_set h2, by omega, h4⟩, hne⟩, fun j x hj hx => get_set_ne hx (Ne.symm hj)⟩ (Int.emod_nonneg _ (by omega)) (Int.emod_lt_of_pos _ (by omega))⟩
theorem sp_number (h : Dw U n m) (q : ∀ (r : Int) V, Go U V n m → R (.int r) V) : Wp (callI T (k + 3) "_law_number" [.ref n, .ref m] U) R E := by
  rw [q__law_number, wp_fnE]
  simp only [b__law_number, startR]
  simp (decide := true)
  refine sp_take (k := k) h (by decide) fun r V g1 r1 r2 => ?_
  rw [op_eqI, wp_ok]
  by_cases c : r = 0
  · refine .inr ⟨by rw [decide_eq_true c], ?_⟩
    have d1 : Dw (V ++ [SO.lst [W.int 2147483646, W.int 1073741824, W.int 65536, W.int 46341, W.int 0]]) n m := g1.dw.app
    refine sp_take (k := k) d1 (by decide) fun r V2 g2 r3 r4 => ?_
    have hm : V.length ≠ m := by
      obtain ⟨⟨ds, p, _, h2, _⟩, _⟩ := g1.dw
      have := (List.getElem?_eq_some_iff.mp h2).1
      omega
    have e1 := g2.off V.length _ hm get_new
    have gg := (g1.trans (Go.app g1.dw)).trans g2
    rw [op_ixL e1]
    have : r = 0 ∨ r = 1 ∨ r = 2 ∨ r = 3 ∨ r = 4 := by omega
    rcases this with rfl | rfl | rfl | rfl | rfl <;> exact ⟨_, rfl, q _ _ gg⟩
  · refine .inl ⟨by rw [decide_eq_false c], ?_⟩
    exact sp_take (k := k) g1.dw (by decide) fun r V2 g2 _ _ => q r V2 (g1.trans g2)
end
end Pt

/-! ## Drawn indexes -/
namespace Pt
open PySem Ev ET PyProof.Rows
/-- an index whose names are among these -/
def gIxR (is : List Str) : Ix → Prop
  | .var x => x ∈ is
  | .rem a _ => gIxR is a
  | .op _ a b => gIxR is a ∧ gIxR is b
  | _ => True
theorem Dw.ne_len {U : Sto} {n m : Nat} (h : Dw U n m) : U.length ≠ m := by
  obtain ⟨⟨ds, p, _, h2, _⟩, _⟩ := h
  have := (List.getElem?_eq_some_iff.mp h2).1
  omega
section
variable {R : W → Sto → Prop} {E : Xn → Sto → Prop} {S U : Sto} {k n m j : Nat} {w x y : W}
theorem sp_index {is : List Str} (hjm : j ≠ m) (hl : is.length ≤ 1000) : ∀ (d : Nat) {U : Sto} {R : W → Sto → Prop}, Dw U n m → U[j]? = some (.lst (is.map W.str)) → (∀ (i : Ix) V, Go U V n m → gIxR is i → wtIx i + 1 ≤ 3 * 2 ^ d → R i.w V) → Wp (callI T (k + d + 3) "_law_index" [.ref j, .ref n, .ref m, .int d] U) R E := by
  intro d
  induction d with
  | zero =>
    intro U R h hj q
    rw [q__law_index, wp_fnE]
    simp only [b__law_index, startR]
    simp (decide := true)
    refine sp_take (k := k) h (by decide) fun r V g1 r1 r2 => ?_
    simp (decide := true)
    have fin : Wp (callI T (k + 2) "_law_take" [.ref n, .ref m, .int 4] V) (fun w T => R (W.tup [W.str "integer", w]) T) fun x T => E x T := sp_take (k := k) g1.dw (by decide) fun r V2 g2 _ _ => q (.int r) V2 (g1.trans g2) trivial (by simp [wtIx])
    rcases Int.lt_or_le r 2 with c | c
    · exact .inr ⟨c, fin⟩
    · exact .inl ⟨c, fin⟩
  | succ d ih =>
    intro U R h hj q
    have h2d : 1 ≤ 2 ^ d := Nat.one_le_two_pow
    have h2s : 2 ^ (d + 1) = 2 * 2 ^ d := by rw [Nat.pow_succ]; omega
    rw [q__law_index, wp_fnE]
    simp only [b__law_index, startR]
    simp (decide := true)
    refine sp_take (k := k + d + 1) h (by decide) fun r V g1 r1 r2 => ?_
    simp (decide := true)
    have hjV := g1.off j _ hjm hj
    rcases Int.lt_or_le r 2 with c | c
    · refine .inr ⟨c, ?_⟩
      exact sp_take (k := k + d + 1) g1.dw (by decide) fun r V2 g2 _ _ => q (.int r) V2 (g1.trans g2) trivial (by simp [wtIx]; omega)
    refine .inl ⟨c, .inl ⟨by omega, ?_⟩⟩
    by_cases c2 : r = 2
    · exact .inr ⟨c2, q .beat V g1 trivial (by simp [wtIx]; omega)⟩
    refine .inl ⟨c2, ?_⟩
    rcases Int.lt_or_le r 5 with c5 | c5
    · refine .inr ⟨c5, ?_⟩
      cases is with
      | nil => exact .inl ⟨tr_lst hjV, q .beat V g1 trivial (by simp [wtIx]; omega)⟩
      | cons z zs =>
        refine .inr ⟨tr_lst hjV, ?_⟩
        rw [op_lenL hjV, wp_ok]
        refine sp_take (k := k + d + 1) g1.dw (by simp; omega) fun r V2 g2 r3 r4 => ?_
        have hj2 := g2.off j _ hjm hjV
        rw [op_ixL hj2]
        rw [List.length_map] at r4
        have hr : r.toNat < (z :: zs).length := by omega
        refine ⟨.str (z :: zs)[r.toNat], ?_, q (.var (z :: zs)[r.toNat]) V2 (g1.trans g2) (List.getElem_mem hr) (by simp [wtIx]; omega)⟩
        have e3 : L2.atI ((z :: zs).map W.str) ((r.toNat : Nat) : Int) = some (.str (z :: zs)[r.toNat]) := at_nat (by rw [List.getElem?_map, List.getElem?_eq_getElem hr]; rfl)
        have e2 : (r.toNat : Int) = r := by omega
        rw [e2] at e3
        exact e3
    · refine .inl ⟨c5, ?_⟩
      refine ih g1.dw hjV fun i V2 g2 gi wi => ?_
      by_cases c6 : r = 5
      · refine .inr ⟨c6, ?_⟩
        refine sp_take (k := k + d + 1) g2.dw (by decide) fun r V3 g3 _ _ => ?_
        exact q (.rem i (1 + r)) V3 ((g1.trans g2).trans g3) gi (by simp [wtIx]; omega)
      · refine .inl ⟨c6, ?_⟩
        refine sp_take (k := k + d + 1) (Dw.app g2.dw) (by decide) fun r V3 g3 r3 r4 => ?_
        have hm := g2.dw.ne_len
        have e1 := g3.off V2.length _ hm get_new
        have gg := ((g1.trans g2).trans (Go.app g2.dw)).trans g3
        rw [op_ixL e1]
        have fin : ∀ o : Io, Wp (callI T (k + d + 3) "_law_index" [.ref j, .ref n, .ref m, .int d] V3) (fun w_2 T => R (W.tup [.str o.s, i.w, w_2]) T) fun x T => E x T := fun o => ih g3.dw (gg.off j _ hjm hj) fun i2 V4 g4 gi2 wi2 => q (.op o i i2) V4 (gg.trans g4) ⟨gi, gi2⟩ (by simp [wtIx]; omega)
        have : r = 0 ∨ r = 1 ∨ r = 2 := by omega
        rcases this with rfl | rfl | rfl
        · exact ⟨_, rfl, fin .plus⟩
        · exact ⟨_, rfl, fin .minus⟩
        · exact ⟨_, rfl, fin .times⟩
end
def gIx (is : List Str) (i : Ix) : Prop := gIxR is i ∧ wtIx i ≤ 13
end Pt

/-! ## Drawn places, expressions, tests -/
namespace Pt
open PySem Ev ET PyProof.Rows
/-- a variable in scope: its name, its size, whether it is a parameter -/
abbrev Vr := Str × Int × Bool
def vW (v : Vr) : W := .tup [.str v.1, .int v.2.1, .bl v.2.2]
def gPl (vs : List Vr) (is : List Str) (x : Str) : Option Ix → Prop
  | none => ∃ b, (x, (0 : Int), b) ∈ vs
  | some i => gIx is i ∧ ∃ s b, (x, s, b) ∈ vs ∧ s ≠ 0
def gEx (vs : List Vr) (is : List Str) : Ex → Prop
  | .num _ => True
  | .place x i => gPl vs is x i
  | .op _ a b => gEx vs is a ∧ gEx vs is b
def dpE : Ex → Nat
  | .op _ a b => max (dpE a) (dpE b) + 1
  | _ => 0
def isZ : Ts → Bool
  | .zero _ => true
  | _ => false
def gTs (vs : List Vr) (is : List Str) : Ts → Prop
  | .zero e => gEx vs is e ∧ dpE e ≤ 1
  | .not t => gTs vs is t ∧ isZ t = true
  | .less a b => gIx is a ∧ gIx is b
  | .equal a b => gIx is a ∧ gIx is b
theorem gPl_mono {vs us : List Vr} {is : List Str} {x : Str} {i : Option Ix} (h : ∀ v ∈ vs, v ∈ us) (g : gPl vs is x i) : gPl us is x i := by
  cases i with
  | none => exact g.imp fun b h2 => h _ h2
  | some a => exact ⟨g.1, g.2.imp fun s h2 => h2.imp fun b h3 => ⟨h _ h3.1, h3.2⟩⟩
theorem at_map {α : Type} {f : α → W} {l : List α} {r : Int} (h0 : 0 ≤ r) (h : r < (l.length : Int)) : ∃ a ∈ l, L2.atI (l.map f) r = some (f a) := by
  have hr : r.toNat < l.length := by omega
  refine ⟨l[r.toNat], List.getElem_mem hr, ?_⟩
  have e3 : L2.atI (l.map f) ((r.toNat : Nat) : Int) = some (f l[r.toNat]) := at_nat (by rw [List.getElem?_map, List.getElem?_eq_getElem hr]; rfl)
  have e2 : (r.toNat : Int) = r := by omega
  rw [e2] at e3
  exact e3
section
variable {R : W → Sto → Prop} {E : Xn → Sto → Prop} {S U : Sto} {k n m j v : Nat} {w x y : W} {vs : List Vr} {is : List Str}
theorem sp_place {R : W → Sto → Prop} {U : Sto} (hv : v ≠ m) (hjm : j ≠ m) (hne : vs ≠ []) (hl : is.length ≤ 1000) (h : Dw U n m) (gv : U[v]? = some (.lst (vs.map vW))) (gj : U[j]? = some (.lst (is.map W.str)))
    (q : ∀ (x : Str) (i : Option Ix) V, Go U V n m → gPl vs is x i → wtOx i ≤ 14 → R (wPl x i) V) : Wp (callI T (k + 6) "_law_place" [.ref v, .ref j, .ref n, .ref m] U) R E := by
  have hlen : 1 ≤ vs.length := by cases vs with | nil => exact absurd rfl hne | cons a l => simp
  rw [q__law_place, wp_fnE]
  simp only [b__law_place, startR]
  simp (decide := true) [op_lenL gv]
  refine sp_take (k := k + 3) h (by omega) fun r V g1 r1 r2 => ?_
  rw [op_ixL (g1.off v _ hv gv)]
  obtain ⟨⟨x, s, b⟩, hm, e⟩ := at_map (f := vW) r1 r2
  refine ⟨_, e, ?_⟩
  simp (decide := true) [vW]
  by_cases c : s = 0
  · subst c
    exact .inr ⟨rfl, q x none V g1 ⟨b, hm⟩ (by simp [wtOx])⟩
  · refine .inl ⟨c, ?_⟩
    refine sp_index (k := k) hjm hl 2 g1.dw (g1.off j _ hjm gj) fun i V2 g2 gi wi => ?_
    refine sp_take (k := k + 3) g2.dw (by decide) fun r V3 g3 _ _ => ?_
    simp (decide := true)
    by_cases c2 : 0 < r
    · refine .inr ⟨c2, ?_⟩
      exact q x (some (.rem i s)) V3 ((g1.trans g2).trans g3) ⟨⟨gi, by simp [wtIx]; omega⟩, s, b, hm, c⟩ (by simp [wtOx, wtIx]; omega)
    · refine .inl ⟨by omega, ?_⟩
      exact q x (some i) V3 ((g1.trans g2).trans g3) ⟨⟨gi, by omega⟩, s, b, hm, c⟩ (by simp [wtOx]; omega)

theorem sp_expr (hv : v ≠ m) (hjm : j ≠ m) (hne : vs ≠ []) (hl : is.length ≤ 1000) : ∀ (d : Nat) {U : Sto} {R : W → Sto → Prop}, Dw U n m → U[v]? = some (.lst (vs.map vW)) → U[j]? = some (.lst (is.map W.str)) →
    (∀ (e : Ex) V, Go U V n m → gEx vs is e → wtEx e + 1 ≤ 17 * 2 ^ d → dpE e ≤ d → R e.w V) → Wp (callI T (k + d + 7) "_law_expression" [.ref v, .ref j, .ref n, .ref m, .int d] U) R E := by
  intro d
  induction d with
  | zero =>
    intro U R h gv gj q
    rw [q__law_expression, wp_fnE]
    simp only [b__law_expression, startR]
    simp (decide := true)
    refine sp_take (k := k + 4) h (by decide) fun r V g1 r1 r2 => ?_
    simp (decide := true)
    by_cases c : r = 0
    · refine .inr ⟨c, ?_⟩
      refine sp_number (k := k + 3) g1.dw fun r V2 g2 => ?_
      exact q (.num r) V2 (g1.trans g2) trivial (by simp [wtEx]) (by simp [dpE])
    refine .inl ⟨c, ?_⟩
    have fin : ∀ (x : Str) (i : Option Ix) V2, Go V V2 n m → gPl vs is x i → wtOx i ≤ 14 → R (.tup [.str "place", .str x, wO i]) V2 := fun x i V2 g2 gp wp => q (.place x i) V2 (g1.trans g2) gp (by simp [wtEx]; omega) (by simp [dpE])
    rcases Int.lt_or_le r 3 with c3 | c3
    · refine .inr ⟨c3, ?_⟩
      refine sp_place (k := k) hv hjm hne hl g1.dw (g1.off v _ hv gv) (g1.off j _ hjm gj) fun x i V2 g2 gp wp => ?_
      simp (decide := true) [wPl]
      exact fin x i V2 g2 gp wp
    · refine .inl ⟨c3, ?_⟩
      refine sp_place (k := k) hv hjm hne hl g1.dw (g1.off v _ hv gv) (g1.off j _ hjm gj) fun x i V2 g2 gp wp => ?_
      simp (decide := true) [wPl]
      exact fin x i V2 g2 gp wp
  | succ d ih =>
    intro U R h gv gj q
    have h2d : 1 ≤ 2 ^ d := Nat.one_le_two_pow
    have h2s : 2 ^ (d + 1) = 2 * 2 ^ d := by rw [Nat.pow_succ]; omega
    rw [q__law_expression, wp_fnE]
    simp only [b__law_expression, startR]
    simp (decide := true)
    refine sp_take (k := k + d + 5) h (by decide) fun r V g1 r1 r2 => ?_
    simp (decide := true)
    by_cases c : r = 0
    · refine .inr ⟨c, ?_⟩
      refine sp_number (k := k + d + 4) g1.dw fun r V2 g2 => ?_
      exact q (.num r) V2 (g1.trans g2) trivial (by simp [wtEx]; omega) (by simp [dpE])
    refine .inl ⟨c, ?_⟩
    rcases Int.lt_or_le r 3 with c3 | c3
    · refine .inr ⟨c3, ?_⟩
      refine sp_place (k := k + d + 1) hv hjm hne hl g1.dw (g1.off v _ hv gv) (g1.off j _ hjm gj) fun x i V2 g2 gp wp => ?_
      simp (decide := true) [wPl]
      exact q (.place x i) V2 (g1.trans g2) gp (by simp [wtEx]; omega) (by simp [dpE])
    refine .inl ⟨c3, .inl ⟨by omega, ?_⟩⟩
    have ng : Go U (V ++ [SO.lst [W.str "add", W.str "mul", W.str "mul", W.str "sub", W.str "div"]]) n m := g1.trans (Go.app g1.dw)
    rw [op_ixL get_new]
    have fin : ∀ o : Eo, Wp (callI T (k + d + 7) "_law_expression" [.ref v, .ref j, .ref n, .ref m, .int d] (V ++ [SO.lst [W.str "add", W.str "mul", W.str "mul", W.str "sub", W.str "div"]])) (fun w_1 T_1 => Wp (callI T (k + d + 7) "_law_expression" [.ref v, .ref j, .ref n, .ref m, .int d] T_1) (fun w_2 T_2 => R (W.tup [.str o.s, w_1, w_2]) T_2) fun x T => E x T) fun x T => E x T := fun o => by
      refine ih ng.dw (ng.off v _ hv gv) (ng.off j _ hjm gj) fun a V2 g2 ga wa da => ?_
      have g3 := ng.trans g2
      refine ih g3.dw (g3.off v _ hv gv) (g3.off j _ hjm gj) fun b V3 g4 gb wb db => ?_
      exact q (.op o a b) V3 (g3.trans g4) ⟨ga, gb⟩ (by simp [wtEx]; omega) (by simp [dpE]; omega)
    have : r = 3 ∨ r = 4 ∨ r = 5 ∨ r = 6 ∨ r = 7 := by omega
    rcases this with rfl | rfl | rfl | rfl | rfl
    · exact ⟨_, rfl, fin .add⟩
    · exact ⟨_, rfl, fin .mul⟩
    · exact ⟨_, rfl, fin .mul⟩
    · exact ⟨_, rfl, fin .sub⟩
    · exact ⟨_, rfl, fin .div⟩
theorem sp_test {U : Sto} {R : W → Sto → Prop} (hv : v ≠ m) (hjm : j ≠ m) (hne : vs ≠ []) (hl : is.length ≤ 1000) (h : Dw U n m) (gv : U[v]? = some (.lst (vs.map vW))) (gj : U[j]? = some (.lst (is.map W.str)))
    (q : ∀ (t : Ts) V, Go U V n m → gTs vs is t → wtTs t ≤ 36 → R t.w V) : Wp (callI T (k + 9) "_law_test" [.ref v, .ref j, .ref n, .ref m] U) R E := by
  rw [q__law_test, wp_fnE]
  simp only [b__law_test, startR]
  simp (decide := true)
  refine sp_take (k := k + 6) h (by decide) fun r V g1 r1 r2 => ?_
  simp (decide := true)
  by_cases c : r = 0
  · refine .inr ⟨c, ?_⟩
    refine sp_expr (k := k) hv hjm hne hl 1 g1.dw (g1.off v _ hv gv) (g1.off j _ hjm gj) fun e V2 g2 ge we de => ?_
    exact q (.zero e) V2 (g1.trans g2) ⟨ge, de⟩ (by simp [wtTs]; omega)
  refine .inl ⟨c, ?_⟩
  by_cases c1 : r = 1
  · refine .inr ⟨c1, ?_⟩
    refine sp_expr (k := k) hv hjm hne hl 1 g1.dw (g1.off v _ hv gv) (g1.off j _ hjm gj) fun e V2 g2 ge we de => ?_
    exact q (.not (.zero e)) V2 (g1.trans g2) ⟨⟨ge, de⟩, rfl⟩ (by simp [wtTs]; omega)
  refine .inl ⟨c1, ?_⟩
  have ng : Go U (V ++ [SO.lst [W.str "less", W.str "equal"]]) n m := g1.trans (Go.app g1.dw)
  rw [op_ixL get_new]
  have fin : ∀ (z : Str) (f : Ix → Ix → Ts), (∀ a b, (f a b).w = .tup [.str z, a.w, b.w]) → (∀ a b, gIx is a → gIx is b → gTs vs is (f a b)) → (∀ a b, wtTs (f a b) = wtIx a + wtIx b + 1) → Wp (callI T (k + 8) "_law_index" [.ref j, .ref n, .ref m, .int 1] (V ++ [SO.lst [W.str "less", W.str "equal"]])) (fun w_1 T_1 => Wp (callI T (k + 8) "_law_index" [.ref j, .ref n, .ref m, .int 1] T_1) (fun w_2 T_2 => R (W.tup [.str z, w_1, w_2]) T_2) fun x T => E x T) fun x T => E x T := fun z f e1 e2 e3 => by
    refine sp_index (k := k + 4) hjm hl 1 ng.dw (ng.off j _ hjm gj) fun a V2 g2 ga wa => ?_
    have g3 := ng.trans g2
    refine sp_index (k := k + 4) hjm hl 1 g3.dw (g3.off j _ hjm gj) fun b V3 g4 gb wb => ?_
    rw [← e1]
    exact q (f a b) V3 (g3.trans g4) (e2 a b ⟨ga, by omega⟩ ⟨gb, by omega⟩) (by rw [e3]; omega)
  have : r = 2 ∨ r = 3 := by omega
  rcases this with rfl | rfl
  · exact ⟨_, rfl, fin "less" .less (fun _ _ => by rfl) (fun _ _ h1 h2 => ⟨h1, h2⟩) (fun _ _ => by rfl)⟩
  · exact ⟨_, rfl, fin "equal" .equal (fun _ _ => by rfl) (fun _ _ h1 h2 => ⟨h1, h2⟩) (fun _ _ => by rfl)⟩
end
end Pt

/-! ## Drawn calls -/
namespace Ev
open PySem
theorem op_inL {S : Sto} {n : Nat} {x : W} {ws : List W} (h : S[n]? = some (.lst ws)) (hf : (flat x && ws.all flat) = true) : inO x (.ref n) S = .ok (.bl (ws.any fun z => eqF z x)) S := by
  unfold inO bd inM
  simp only [h]
  rw [if_pos hf]
  rfl
theorem op_ninL {S : Sto} {n : Nat} {x : W} {ws : List W} (h : S[n]? = some (.lst ws)) (hf : (flat x && ws.all flat) = true) : ninO x (.ref n) S = .ok (.bl (!(ws.any fun z => eqF z x))) S := by
  unfold ninO bd inM
  simp only [h]
  rw [if_pos hf]
  rfl
theorem any_str {ns : List Str} {x : Str} : ((ns.map W.str).any fun z => eqF z (.str x)) = decide (x ∈ ns) := by
  induction ns with
  | nil => rfl
  | cons a l ih =>
    rw [List.map_cons, List.any_cons, ih]
    by_cases e : a = x
    · subst e
      simp [eqF]
    · have : (a == x) = false := by simpa using e
      have e2 : ¬ x = a := fun h => e h.symm
      simp [eqF, this, e2]
theorem flat_str {ns : List Str} {x : Str} : (flat (.str x) && (ns.map W.str).all flat) = true := by
  simp [flat]
@[simp] theorem wp_rng1 {i : Int} {S : Sto} {P : ItE → Sto → Prop} {E : Xn → Sto → Prop} : Wp (rng1 (.int i) S) P E = (in62 i = true ∧ P (itRng 0 i.toNat) S) := by
  show Wp (guard _ (ret _) S) P E = _
  simp
theorem in62_of {i : Int} (h : 0 ≤ i) (h2 : i ≤ 1000000000000) : in62 i = true := by
  unfold in62
  rw [decide_eq_true (show -(2 ^ 62) ≤ i by omega), decide_eq_true (show i < 2 ^ 62 by omega)]
  rfl
theorem m_tup {S : Sto} {n : Nat} {ws : List W} (h : S[n]? = some (.lst ws)) : tupW (.ref n) S = .ok (.tup ws) S := by
  unfold tupW seqAt
  simp only [lst_get h]
/-- a walk over numbers, each turn's value as it comes -/
theorem comp_rng {n : Nat} {g : AG} {te : A} {ρ0 : Rho} {S : Sto} {E : Xn → Sto → Prop} {P : List W → Sto → Prop} (I : List W → Sto → Prop)
    (step : ∀ i acc S, i < n → acc.length = i → I acc S → WpS (g (.int i) ρ0 S) (fun _ ρ1 T => Wp (te ρ1 T) (fun y V => I (acc ++ [y]) V) (fun _ _ => False)) (fun _ _ _ => False))
    (hn : n ≤ 1000000) (h : I [] S) (fin : ∀ acc T, acc.length = n → I acc T → P acc T) : Wp (compN (itRng 0 n) g tYes te ρ0 big 0 [] S) P E := by
  refine comp_rule n (fun i acc T => i ≤ n ∧ acc.length = i ∧ I acc T) (fun i acc T ⟨h1, h2, h3⟩ => ?_) (by omega) ⟨Nat.zero_le _, rfl, h⟩
  by_cases c : i < n
  · refine .inr ⟨c, .int i, by simp [itRng, c], ?_⟩
    refine (step i acc T c h2 h3).imp (fun _ ρ1 U h4 => ?_) fun _ _ _ h => h
    simp only [wp_tYes, if_true]
    exact h4.imp' fun y V h5 => ⟨by omega, by omega, by simp [h2], h5⟩
  · have : i = n := by omega
    subst this
    exact .inl ⟨Nat.le_refl _, by simp [itRng], fin acc T h2 h3⟩
end Ev
namespace Pt
open PySem Ev ET PyProof.Rows
/-- a procedure that may be called: its name, how many integers, where its sizes stand -/
structure Kn where
  name : Str
  cnt : Nat
  a : Nat
  sizes : List Int
def kW (r : Kn) : W := .tup [.str r.name, .int r.cnt, .ref r.a]
def KnAt (U : Sto) (m : Nat) (kn : List Kn) : Prop := ∀ r ∈ kn, r.a ≠ m ∧ U[r.a]? = some (.lst (r.sizes.map W.int)) ∧ r.cnt ≤ 2 ∧ r.sizes.length ≤ 2
theorem KnAt.go {U V : Sto} {n m : Nat} {kn : List Kn} (h : KnAt U m kn) (g : Go U V n m) : KnAt V m kn := fun r hr => ⟨(h r hr).1, g.off _ _ (h r hr).1 (h r hr).2.1, (h r hr).2.2⟩
def gCall (kn : List Kn) (vs : List Vr) (is : List Str) (f : Str) (xs : List Ix) (ns : List Str) : Prop := ∃ r ∈ kn, f = r.name ∧ xs.length = r.cnt ∧ ns.length = r.sizes.length ∧ r.cnt ≤ 2 ∧ r.sizes.length ≤ 2 ∧ (∀ x ∈ xs, gIx is x) ∧ (∀ (l : Nat) x s, ns[l]? = some x → r.sizes[l]? = some s → (x, s, false) ∈ vs) ∧ ns.Nodup
def fitV (s : Int) (ns : List Str) : W → Bool
  | .tup [.str x, .int z, .bl b] => decide (z = s) && !b && !decide (x ∈ ns)
  | _ => false
section
variable {R : W → Sto → Prop} {E : Xn → Sto → Prop} {S U : Sto} {k n m j v c : Nat} {w x y : W} {vs : List Vr} {is : List Str} {kn : List Kn}
theorem sp_call (hv : v ≠ m) (hjm : j ≠ m) (hc : c ≠ m) (hl : is.length ≤ 1000) (hvl : vs.length ≤ 1000) (h : Dw U n m) (gv : U[v]? = some (.lst (vs.map vW))) (gj : U[j]? = some (.lst (is.map W.str))) (gc : U[c]? = some (.lst (kn.map kW))) (hk : KnAt U m kn)
    (q0 : ∀ V, Go U V n m → R .non V) (q : ∀ f xs ns V, Go U V n m → gCall kn vs is f xs ns → (xs.map wtIx).sum ≤ 22 → R (St.call f xs ns).w V) :
    Wp (callI T (k + 6) "_law_call" [.ref v, .ref j, .ref c, .ref n, .ref m] U) R E := by
  have g0 : Go U U n m := ⟨h, fun _ _ _ x => x⟩
  rw [q__law_call, wp_fnE]
  simp only [b__law_call, startR]
  cases kn with
  | nil =>
    simp (decide := true) [tr_lst gc]
    exact q0 U g0
  | cons r0 kn0 =>
  simp (decide := true) [tr_lst gc, op_lenL gc]
  refine sp_take (k := k + 3) h (by omega) fun r V g1 r1 r2 => ?_
  have gc1 := g1.off c _ hc gc
  rw [List.map_cons] at gc1
  rw [op_ixL gc1]
  obtain ⟨rw, hm, e⟩ := at_map (f := kW) (l := r0 :: kn0) r1 (by simpa using r2)
  refine ⟨_, e, ?_⟩
  simp (decide := true) [kW]
  obtain ⟨ha, hs, hc2, hs2⟩ := hk.go g1 rw hm
  have g2 : Go U (V ++ [SO.lst []]) n m := g1.trans (Go.app g1.dw)
  have np := g1.dw.ne_len
  have hp : (V ++ [SO.lst []])[V.length]? = some (.lst []) := get_new
  have hs1 : (V ++ [SO.lst []])[rw.a]? = some (.lst (rw.sizes.map W.int)) := Pre.app.get hs
  rw [it_lst hs1]
  have hap : rw.a ≠ V.length := by have := (List.getElem?_eq_some_iff.mp hs).1; omega
  have hlt : ∀ j q, j ≠ m → U[j]? = some q → j ≠ V.length := fun j q hj hq => by have := (List.getElem?_eq_some_iff.mp (g1.off j _ hj hq)).1; omega
  have hnp : n ≠ V.length := by
    obtain ⟨⟨ds, p, h1, _⟩, _⟩ := g1.dw
    have := (List.getElem?_eq_some_iff.mp h1).1
    omega
  generalize V.length = p at *
  generalize V ++ [SO.lst []] = U1 at *
  have mk : ∀ X, (Dw X n m ∧ ∀ j q, j ≠ m → j ≠ p → U1[j]? = some q → X[j]? = some q) → Go U X n m := fun X hX => ⟨hX.1, fun j q hj hq => hX.2 j q hj (hlt j q hj hq) (g2.off j q hj hq)⟩
  refine for_rule rw.sizes.length (fun i ρ X => i ≤ rw.sizes.length ∧ ∃ (ns : List Str) (a9 a10 a11 a12 : Option W), ρ = [some (.ref v), some (.ref j), some (.ref c), some (.ref n), some (.ref m), some (.str rw.name), some (.int rw.cnt), some (.ref rw.a), some (.ref p), a9, a10, a11, a12] ∧ ns.length = i ∧ (Dw X n m ∧ ∀ j q, j ≠ m → j ≠ p → U1[j]? = some q → X[j]? = some q) ∧ X[p]? = some (.lst (ns.map W.str)) ∧ (∀ (l : Nat) x s, ns[l]? = some x → rw.sizes[l]? = some s → (x, s, false) ∈ vs) ∧ ns.Nodup) (fun i ρ X ⟨hi, ns, a9, a10, a11, a12, hρ, hns, hX, hpX, hfit, hnd⟩ => ?_) (by omega) ⟨Nat.zero_le _, [], none, none, none, none, rfl, rfl, ⟨g2.dw, fun _ _ _ _ h => h⟩, hp, fun l x s h => by simp at h, List.nodup_nil⟩
  subst hρ
  have saX := hX.2 _ _ ha hap hs1
  have gX := mk X hX
  cases es : rw.sizes[i]? with
  | none =>
    have hl2 := List.getElem?_eq_none_iff.mp es
    have hil : ns.length = rw.sizes.length := by omega
    refine .inl ⟨hi, by rw [hit_lst saX, List.getElem?_map, es]; rfl, ?_⟩
    simp (decide := true)
    refine ⟨in62_of (by omega) (by omega), ?_⟩
    refine comp_rng (fun acc Y => ∃ xs : List Ix, acc = xs.map Ix.w ∧ (∀ x ∈ xs, gIx is x) ∧ (xs.map wtIx).sum ≤ 11 * xs.length ∧ Go X Y n m) (fun i acc Y hi2 hal ⟨xs, h1, h2, h3, h4⟩ => ?_) (by omega) ⟨[], rfl, by simp, by simp, hX.1, fun _ _ _ h => h⟩ fun acc Y hl2 ⟨xs, h1, h2, h3, h4⟩ => ?_
    · simp (decide := true) [wipeR]
      refine sp_index (k := k) hjm hl 2 h4.dw (h4.off j _ hjm (gX.off j _ hjm gj)) fun i V2 g3 gi wi => ?_
      refine ⟨xs ++ [i], by simp [h1], fun x hx => ?_, by simp; omega, h4.trans g3⟩
      rcases List.mem_append.mp hx with hx | hx
      · exact h2 x hx
      · simp at hx
        subst hx
        exact ⟨gi, by omega⟩
    · rw [show tupW (.ref Y.length) (Y ++ [SO.lst acc]) = .ok (.tup acc) (Y ++ [SO.lst acc]) from m_tup get_new, wp_ok, m_tup (Pre.app.get (h4.off p _ np hpX)), wp_ok]
      have hxl : xs.length = rw.cnt := by rw [← hl2, h1, List.length_map]
      have := q rw.name xs ns (Y ++ [SO.lst acc]) (((gX.trans h4)).trans (Go.app h4.dw)) ⟨rw, hm, rfl, hxl, hil, hc2, hs2, h2, hfit, hnd⟩ (by omega)
      rw [h1] at this ⊢
      exact this
  | some s => 
    refine .inr ⟨(List.getElem?_eq_some_iff.mp es).1, .int s, by rw [hit_lst saX, List.getElem?_map, es]; rfl, ?_⟩
    simp (decide := true)
    have gvX := gX.off v _ hv gv
    rw [it_lst gvX]
    refine comp_filt0 (pf := fitV s ns) (f := fun w => w) (hit_lst gvX) (fun w hw => ?_) (by simp; omega) ?_
    · obtain ⟨⟨x, z, b⟩, hm, rfl⟩ := List.mem_map.mp hw
      simp (decide := true) [wipeR, vW, fitV]
      rw [op_ninL hpX flat_str, any_str]
      by_cases c1 : z = s <;> cases b <;> by_cases c2 : x ∈ ns <;> simp [c1, c2]
    · have eL : (vs.map vW).filter (fitV s ns) = (vs.filter fun u => fitV s ns (vW u)).map vW := by rw [List.filter_map]; rfl
      have hL : ∀ u ∈ vs.filter (fun u => fitV s ns (vW u)), (u.1, s, false) ∈ vs ∧ u.1 ∉ ns := fun u hu => by
        obtain ⟨h1, h2⟩ := List.mem_filter.mp hu
        obtain ⟨x, z, b⟩ := u
        simp [fitV, vW] at h2
        obtain ⟨⟨rfl, rfl⟩, h3⟩ := h2
        exact ⟨h1, h3⟩
      have hll : (vs.filter fun u => fitV s ns (vW u)).length ≤ vs.length := List.length_filter_le _ _
      rw [List.map_id', eL]
      generalize (vs.filter fun u => fitV s ns (vW u)) = L at *
      have gq : Go X (X ++ [SO.lst (L.map vW)]) n m := Go.app hX.1
      cases L with
      | nil => exact .inl ⟨tr_lst get_new, q0 _ (gX.trans gq)⟩
      | cons u L =>
        refine .inr ⟨tr_lst get_new, isL (Pre.app.get hpX), ?_⟩
        rw [op_lenL get_new, wp_ok]
        refine sp_take (k := k + 3) gq.dw (by simp; omega) fun r3 X2 g3 r4 r5 => ?_
        rw [List.length_map] at r5
        have hxm : X.length ≠ m := hX.1.ne_len
        rw [op_ixL (g3.off _ _ hxm get_new)]
        obtain ⟨⟨x, z, b⟩, hm3, e3⟩ := at_map (f := vW) r4 r5
        refine ⟨_, e3, ?_⟩
        obtain ⟨h6, h7⟩ := hL _ hm3
        have hpX2 := g3.off p _ np (Pre.app.get hpX)
        simp (decide := true) [vW]
        rw [m_app hpX2 (by rw [List.length_map]; omega), wp_ok]
        have hdw : Dw (X2.set p (SO.lst (List.map W.str ns ++ [W.str x]))) n m := by
          obtain ⟨⟨ds, pp, d1, d2, d3⟩, d4⟩ := g3.dw
          exact ⟨⟨ds, pp, get_set_ne d1 (Ne.symm hnp), get_set_ne d2 np, d3⟩, d4⟩
        refine ⟨by have := (List.getElem?_eq_some_iff.mp es).1; omega, ns ++ [x], by simp [hns], ⟨hdw, fun j q hj hjp hq => get_set_ne (g3.off j _ hj (Pre.app.get (hX.2 j q hj hjp hq))) (Ne.symm hjp)⟩, ?_, fun l y s2 hy hs2 => ?_, ?_⟩
        · rw [List.map_append]
          exact get_set hpX2
        · by_cases c : l < ns.length
          · rw [List.getElem?_append_left c] at hy
            exact hfit l y s2 hy hs2
          · rw [List.getElem?_append_right (by omega)] at hy
            have : l = ns.length := by
              have := (List.getElem?_eq_some_iff.mp hy).1
              simp at this
              omega
            subst this
            simp at hy
            subst hy
            rw [hns, es] at hs2
            cases hs2
            exact h6
        · rw [List.nodup_append]
          exact ⟨hnd, by simp, fun a ha b hb => by simp at hb; subst hb; exact fun e => h7 (e ▸ ha)⟩
end
end Pt

/-! ## Drawn statements, bodies -/
namespace Pt
open PySem Ev ET PyProof.Rows
def lvl (h : Str) (n : Nat) : Str := h ++ Str.ofString (toString (n : Int))
/-- a statement by draws, of these variables, integers, procedures -/
inductive GS (kn : List Kn) : List Vr → List Str → St → Prop where
  | set {vs : List Vr} {is : List Str} {x : Str} {i : Option Ix} {e : Ex} : gPl (vs.filter fun v => !v.2.2) is x i → gEx vs is e → dpE e ≤ 2 → GS kn vs is (.set x i e)
  | call {vs : List Vr} {is : List Str} {f : Str} {xs : List Ix} {ns : List Str} : gCall kn vs is f xs ns → GS kn vs is (.call f xs ns)
  | loop {vs : List Vr} {is : List Str} {x : Str} {c : Ix} {b : List St} : x = lvl "i" (vs.length + is.length) → gIx is c → (∀ s ∈ b, GS kn vs (is ++ [x]) s) → GS kn vs is (.loop x c b)
  | ite {vs : List Vr} {is : List Str} {t : Ts} {a b : List St} : gTs vs is t → (∀ s ∈ a, GS kn vs is s) → (∀ s ∈ b, GS kn vs is s) → GS kn vs is (.ite t a b)
  | bind {vs : List Vr} {is : List Str} {x : Str} {e : Ex} {b : List St} : x = lvl "l" (vs.length + is.length) → gEx vs is e → dpE e ≤ 2 → (∀ s ∈ b, GS kn (vs ++ [(x, 0, false)]) is s) → GS kn vs is (.bind x e b)
structure Cxt (U : Sto) (m v j c : Nat) (vs : List Vr) (is : List Str) (kn : List Kn) (f : Nat) : Prop where
  gv : U[v]? = some (.lst (vs.map vW))
  gj : U[j]? = some (.lst (is.map W.str))
  gc : U[c]? = some (.lst (kn.map kW))
  hk : KnAt U m kn
  nv : v ≠ m
  nj : j ≠ m
  nc : c ≠ m
  free : ∃ x s, (x, s, false) ∈ vs
  few : vs.length + is.length + f ≤ 100
theorem Cxt.go {U V : Sto} {n m v j c f : Nat} {vs : List Vr} {is : List Str} {kn : List Kn} (h : Cxt U m v j c vs is kn f) (g : Go U V n m) : Cxt V m v j c vs is kn f :=
  ⟨g.off _ _ h.nv h.gv, g.off _ _ h.nj h.gj, g.off _ _ h.nc h.gc, h.hk.go g, h.nv, h.nj, h.nc, h.free, h.few⟩
def stB (kn : List Kn) (vs : List Vr) (is : List Str) (d : Nat) (s : St) : Prop := GS kn vs is s ∧ wtSt s + 14 ≤ 98 * 6 ^ d ∧ dpS s ≤ d
theorem stB_wt {kn : List Kn} {vs : List Vr} {is : List Str} {d : Nat} : ∀ {b : List St}, (∀ s ∈ b, stB kn vs is d s) → b.length ≤ 3 → wtSts b + 42 ≤ 294 * 6 ^ d
  | [], _, _ => by have : 1 ≤ 6 ^ d := Nat.one_le_pow _ _ (by decide); simp [wtSts]; omega
  | [a], h, _ => by have := (h a (by simp)).2.1; have : 1 ≤ 6 ^ d := Nat.one_le_pow _ _ (by decide); simp [wtSts]; omega
  | [a, b], h, _ => by have := (h a (by simp)).2.1; have := (h b (by simp)).2.1; have : 1 ≤ 6 ^ d := Nat.one_le_pow _ _ (by decide); simp [wtSts]; omega
  | [a, b, c], h, _ => by have := (h a (by simp)).2.1; have := (h b (by simp)).2.1; have := (h c (by simp)).2.1; simp [wtSts]; omega
  | _ :: _ :: _ :: _ :: _, _, h => by simp at h
theorem stB_dp {kn : List Kn} {vs : List Vr} {is : List Str} {d : Nat} : ∀ {b : List St}, (∀ s ∈ b, stB kn vs is d s) → dpB b ≤ d
  | [], _ => by simp [dpB]
  | a :: l, h => by have := (h a (by simp)).2.2; have := stB_dp (b := l) fun s hs => h s (by simp [hs]); simp [dpB]; omega
def PBody (k d : Nat) : Prop := ∀ {U : Sto} {v j c n m : Nat} {vs : List Vr} {is : List Str} {kn : List Kn} {R : W → Sto → Prop} {E : Xn → Sto → Prop}, Dw U n m → Cxt U m v j c vs is kn d →
  (∀ b V, Go U V n m → (∀ s ∈ b, stB kn vs is d s) → b.length ≤ 3 → b ≠ [] → R (wB b) V) → Wp (callI T (k + 2 * d + 11) "_law_body" [.ref v, .ref j, .ref c, .ref n, .ref m, .int d] U) R E
def PStmt (k d : Nat) : Prop := ∀ {U : Sto} {v j c n m : Nat} {vs : List Vr} {is : List Str} {kn : List Kn} {R : W → Sto → Prop} {E : Xn → Sto → Prop}, Dw U n m → Cxt U m v j c vs is kn d →
  (∀ s V, Go U V n m → stB kn vs is d s → R s.w V) → Wp (callI T (k + 2 * d + 10) "_law_statement" [.ref v, .ref j, .ref c, .ref n, .ref m, .int d] U) R E
theorem sp_body_of {k d : Nat} (hS : PStmt k d) : PBody k d := by
  intro U v j c n m vs is kn R E h cx q
  rw [q__law_body, wp_fnE]
  simp only [b__law_body, startR]
  simp (decide := true)
  refine sp_take (k := k + 2 * d + 8) h (by decide) fun r V g1 r1 r2 => ?_
  simp (decide := true)
  refine ⟨in62_of (by omega) (by omega), ?_⟩
  refine comp_rng (fun acc Y => ∃ b : List St, acc = b.map St.w ∧ (∀ s ∈ b, stB kn vs is d s) ∧ Go U Y n m) (fun i acc Y hi2 hal ⟨b, h1, h2, h4⟩ => ?_) (by omega) ⟨[], rfl, by simp, g1⟩ fun acc Y hl2 ⟨b, h1, h2, h4⟩ => ?_
  · simp (decide := true) [wipeR]
    refine hS h4.dw (cx.go h4) fun s V2 g3 hs => ?_
    refine ⟨b ++ [s], by simp [h1], fun x hx => ?_, h4.trans g3⟩
    rcases List.mem_append.mp hx with hx | hx
    · exact h2 x hx
    · simp at hx
      subst hx
      exact hs
  · rw [show tupW (.ref Y.length) (Y ++ [SO.lst acc]) = .ok (.tup acc) (Y ++ [SO.lst acc]) from m_tup get_new, wp_ok]
    have hbl : b.length = (1 + r).toNat := by rw [← hl2, h1, List.length_map]
    have := q b (Y ++ [SO.lst acc]) (h4.trans (Go.app h4.dw)) h2 (by omega) (fun e => by subst e; simp at hbl; omega)
    unfold wB at this
    rw [ws_map, ← h1] at this
    exact this
theorem op_lvl {S : Sto} {R : W → Sto → Prop} {E : Xn → Sto → Prop} {n : Nat} (hn : n ≤ 1000) (h : R (.str (Str.ofString (toString (n : Int)))) S) : Wp (strW (.int n) S) R E := by
  show Wp (Ev.guard _ (ret _) S) R E
  rw [wp_guard, wp_ret]
  refine ⟨decide_eq_true ?_, h⟩
  have : ((n : Int).natAbs).log2 ≤ n := by rw [Int.natAbs_natCast]; exact Nat.log2_le_self n
  omega
theorem if_no {t : AT} {a b : B} {ρ : Rho} {S : Sto} {PS : Fl → Rho → Sto → Prop} {ES : Xn → Rho → Sto → Prop} (h : Wp (t ρ S) (fun c T => c = false ∧ T = S) (fun _ _ => False)) (hb : WpS (b ρ S) PS ES) : WpS (bIf t a b ρ S) PS ES := by
  rw [wps_bIf]
  refine h.imp (fun c T ⟨h1, h2⟩ => ?_) fun _ _ h => h.elim
  subst h1 h2
  exact hb
theorem lv_len : ∀ n < 201, (Str.ofString (toString ((n : Nat) : Int))).length ≤ 10 := by decide +kernel
theorem at_last {α : Type} {l : List α} {x : α} : L2.atI (l ++ [x]) (-1) = some x := by
  have : (1 : Int) ≤ (l.length : Int) + 1 := by omega
  have e : ((-1 : Int) + ((l.length : Int) + 1)).toNat = l.length := by omega
  simp [L2.atI, L2.ixN, this, e]
theorem cat_len {a b : Str} : (a ++ b).length = a.length + b.length := by
  show (Array.size (a.cps ++ b.cps)) = _
  rw [Array.size_append]
  rfl
@[simp] theorem op_negI {i : Int} {S : Sto} : negW (.int i) S = .ok (.int (-i)) S := rfl
/-- the rest of a statement, no call drawn -/
def b_st_tail (cal : Str → Fn) : B := (bSeq (bAsg (aUn strW (aOp addW (aUn lenW (aVar 0)) (aUn lenW (aVar 1)))) (gNm 8))
  (bSeq (bIf (tAnd (tBool (aOp eqO (aVar 6) (aC (.int (6))))) (tBool (aOp (cmpI fun i j => decide (i > j)) (aVar 5) (aC (.int (0))))))
  (bSeq (bAsg (aOp addW (aVar 1) (aLst (aCons (aOp addW (aC (.str "i")) (aVar 8)) aNil))) (gNm 9))
  (bSeq (bAsg (aCall 4 (cal "_law_index") (aCons (aVar 1) (aCons (aVar 3) (aCons (aVar 4) (aCons (aC (.int (1))) aNil))))) (gNm 10))
  (bSeq (bRet (aTup (aCons (aC (.str "loop")) (aCons (aOp ixW (aVar 9) (aUn negW (aC (.int (1))))) (aCons (aVar 10) (aCons (aCall 6 (cal "_law_body") (aCons (aVar 0) (aCons (aVar 9) (aCons (aVar 2) (aCons (aVar 3) (aCons (aVar 4) (aCons (aOp subW (aVar 5) (aC (.int (1)))) aNil))))))) aNil))))))
  bNext)))
  bNext)
  (bSeq (bIf (tAnd (tBool (aOp eqO (aVar 6) (aC (.int (7))))) (tBool (aOp (cmpI fun i j => decide (i > j)) (aVar 5) (aC (.int (0))))))
  (bSeq (bAsg (aCall 4 (cal "_law_test") (aCons (aVar 0) (aCons (aVar 1) (aCons (aVar 3) (aCons (aVar 4) aNil))))) (gNm 11))
  (bSeq (bAsg (aCall 6 (cal "_law_body") (aCons (aVar 0) (aCons (aVar 1) (aCons (aVar 2) (aCons (aVar 3) (aCons (aVar 4) (aCons (aOp subW (aVar 5) (aC (.int (1)))) aNil))))))) (gNm 12))
  (bSeq (bRet (aTup (aCons (aC (.str "if")) (aCons (aVar 11) (aCons (aVar 12) (aCons (aCall 6 (cal "_law_body") (aCons (aVar 0) (aCons (aVar 1) (aCons (aVar 2) (aCons (aVar 3) (aCons (aVar 4) (aCons (aOp subW (aVar 5) (aC (.int (1)))) aNil))))))) aNil))))))
  bNext)))
  bNext)
  (bSeq (bIf (tAnd (tBool (aOp eqO (aVar 6) (aC (.int (8))))) (tBool (aOp (cmpI fun i j => decide (i > j)) (aVar 5) (aC (.int (0))))))
  (bSeq (bAsg (aOp addW (aVar 0) (aLst (aCons (aTup (aCons (aOp addW (aC (.str "l")) (aVar 8)) (aCons (aC (.int (0))) (aCons (aC (.bl false)) aNil)))) aNil))) (gNm 9))
  (bSeq (bAsg (aCall 5 (cal "_law_expression") (aCons (aVar 0) (aCons (aVar 1) (aCons (aVar 3) (aCons (aVar 4) (aCons (aC (.int (2))) aNil)))))) (gNm 13))
  (bSeq (bRet (aTup (aCons (aC (.str "let")) (aCons (aOp ixW (aOp ixW (aVar 9) (aUn negW (aC (.int (1))))) (aC (.int (0)))) (aCons (aVar 13) (aCons (aCall 6 (cal "_law_body") (aCons (aVar 9) (aCons (aVar 1) (aCons (aVar 2) (aCons (aVar 3) (aCons (aVar 4) (aCons (aOp subW (aVar 5) (aC (.int (1)))) aNil))))))) aNil))))))
  bNext)))
  bNext)
  (bSeq (bAsg (newL (aComp [15] (aIt (aVar 0)) (gNm 15) (tNot (tOf (aOp ixW (aVar 15) (aC (.int (2)))))) (aVar 15))) (gNm 14))
  (bSeq (bRet (aTup (aCons (aC (.str "set")) (aCons (aCall 4 (cal "_law_place") (aCons (aVar 14) (aCons (aVar 1) (aCons (aVar 3) (aCons (aVar 4) aNil))))) (aCons (aCall 5 (cal "_law_expression") (aCons (aVar 0) (aCons (aVar 1) (aCons (aVar 3) (aCons (aVar 4) (aCons (aC (.int (2))) aNil)))))) aNil)))))
  bNext))))))
theorem sp_tail {k d : Nat} (hB : ∀ d', d = d' + 1 → PBody k d') {U : Sto} {v j c n m : Nat} {vs : List Vr} {is : List Str} {kn : List Kn} {R : W → Sto → Prop} {E : Xn → Sto → Prop} {r : Int} {a8 a9 a10 a11 a12 a13 a14 a15 : Option W} (h : Dw U n m) (cx : Cxt U m v j c vs is kn d)
  (q : ∀ s V, Go U V n m → stB kn vs is d s → R s.w V) : WpS (b_st_tail (callI T (k + 2 * d + 9)) [some (.ref v), some (.ref j), some (.ref c), some (.ref n), some (.ref m), some (.int d), some (.int r), some .non, a8, a9, a10, a11, a12, a13, a14, a15] U) (fun f _ T => match f with | .nx => R .non T | .rt w => R w T | .bk => False | .ct => False) (fun x _ T => E x T) := by
  have hne : vs ≠ [] := by obtain ⟨x, s, hx⟩ := cx.free; exact List.ne_nil_of_mem hx
  have few := cx.few
  unfold b_st_tail
  rw [wps_seq]
  simp (decide := true) [-wps_seq, op_lenL cx.gv, op_lenL cx.gj]
  rw [← Int.natCast_add]
  refine op_lvl (by omega) ?_
  have h6 : 1 ≤ 6 ^ d := Nat.one_le_pow _ _ (by decide)
  have hL := lv_len (vs.length + is.length) (by omega)
  obtain ⟨L, eL⟩ : ∃ L, Str.ofString (toString ((vs.length + is.length : Nat) : Int)) = L := ⟨_, rfl⟩
  have ei : ∀ z : Str, lvl z (vs.length + is.length) = z ++ L := fun z => by rw [← eL]; rfl
  rw [eL] at hL ⊢
  by_cases c6 : r = 6 ∧ 0 < d
  · obtain ⟨rfl, hd⟩ := c6
    obtain ⟨d', rfl⟩ : ∃ d', d = d' + 1 := ⟨d - 1, by omega⟩
    have hp : 6 ^ (d' + 1) = 6 * 6 ^ d' := by rw [Nat.pow_succ]; omega
    rw [wps_seq]
    simp (decide := true) [-wps_seq]
    rw [wps_seq]
    simp (decide := true) [-wps_seq]
    refine ⟨short_of (by have : (Str.ofString "i").length = 1 := by decide +kernel
                         omega), ?_⟩
    rw [op_addL (ws := is.map W.str) (us := [W.str ("i" ++ L)]) (Pre.app.get cx.gj) get_new (by simp; omega), wp_ok]
    rw [wps_seq]
    simp (decide := true) [-wps_seq]
    have g1 : Go U (U ++ [SO.lst [W.str ("i" ++ L)], SO.lst (is.map W.str ++ [W.str ("i" ++ L)])]) n m := Go.app h
    refine sp_index (k := k + 2 * d' + 7) cx.nj (by omega) 1 g1.dw (g1.off j _ cx.nj cx.gj) fun c0 V2 g2 gc wc => ?_
    have hJ : (U ++ [SO.lst [W.str ("i" ++ L)], SO.lst (is.map W.str ++ [W.str ("i" ++ L)])])[U.length + 1]? = some (SO.lst (is.map W.str ++ [W.str ("i" ++ L)])) := by simp
    have hJm : U.length + 1 ≠ m := by have := (Go.app (J := [SO.lst []]) h).dw.ne_len; simpa using this
    have hJ2 := g2.off _ _ hJm hJ
    have g3 := g1.trans g2
    rw [wps_seq]
    simp (decide := true) [-wps_seq]
    rw [op_ixL hJ2]
    refine ⟨_, at_last, ?_⟩
    have cx3 := cx.go g3
    refine hB d' rfl (vs := vs) (is := is ++ [lvl "i" (vs.length + is.length)]) (kn := kn) g3.dw ⟨cx3.gv, by rw [List.map_append, ei]; exact hJ2, cx3.gc, cx3.hk, cx3.nv, hJm, cx3.nc, cx3.free, by simp; omega⟩ fun b V3 g4 hb hb3 hbn => ?_
    have w1 := stB_wt hb hb3
    have w2 := stB_dp hb
    have := q (.loop (lvl "i" (vs.length + is.length)) c0 b) V3 (g3.trans g4) ⟨.loop rfl ⟨gc, by omega⟩ fun s hs => (hb s hs).1, by simp [wtSt]; omega, by simp [dpS]; omega⟩
    rw [ei] at this
    exact this
  rw [wps_seq]
  refine if_no ?_ ?_
  · simp (decide := true)
    omega
  rw [wps_next]
  by_cases c7 : r = 7 ∧ 0 < d
  · obtain ⟨rfl, hd⟩ := c7
    obtain ⟨d', rfl⟩ : ∃ d', d = d' + 1 := ⟨d - 1, by omega⟩
    have hp : 6 ^ (d' + 1) = 6 * 6 ^ d' := by rw [Nat.pow_succ]; omega
    rw [wps_seq]
    simp (decide := true) [-wps_seq]
    rw [wps_seq]
    simp (decide := true) [-wps_seq]
    refine sp_test (k := k + 2 * d' + 2) cx.nv cx.nj hne (by omega) h cx.gv cx.gj fun t V g1 gt wt => ?_
    rw [wps_seq]
    simp (decide := true) [-wps_seq]
    have cx1 := cx.go g1
    refine hB d' rfl (vs := vs) (is := is) (kn := kn) g1.dw ⟨cx1.gv, cx1.gj, cx1.gc, cx1.hk, cx1.nv, cx1.nj, cx1.nc, cx1.free, by omega⟩ fun b V2 g2 hb hb3 hbn => ?_
    rw [wps_seq]
    simp (decide := true) [-wps_seq]
    have g3 := g1.trans g2
    have cx3 := cx.go g3
    refine hB d' rfl (vs := vs) (is := is) (kn := kn) g3.dw ⟨cx3.gv, cx3.gj, cx3.gc, cx3.hk, cx3.nv, cx3.nj, cx3.nc, cx3.free, by omega⟩ fun b2 V3 g4 hc hc3 hcn => ?_
    have w1 := stB_wt hb hb3
    have w2 := stB_dp hb
    have w3 := stB_wt hc hc3
    have w4 := stB_dp hc
    exact q (.ite t b b2) V3 (g3.trans g4) ⟨.ite gt (fun s hs => (hb s hs).1) fun s hs => (hc s hs).1, by simp [wtSt]; omega, by simp [dpS]; omega⟩
  rw [wps_seq]
  refine if_no ?_ ?_
  · simp (decide := true)
    omega
  rw [wps_next]
  by_cases c8 : r = 8 ∧ 0 < d
  · obtain ⟨rfl, hd⟩ := c8
    obtain ⟨d', rfl⟩ : ∃ d', d = d' + 1 := ⟨d - 1, by omega⟩
    have hp : 6 ^ (d' + 1) = 6 * 6 ^ d' := by rw [Nat.pow_succ]; omega
    rw [wps_seq]
    simp (decide := true) [-wps_seq]
    rw [wps_seq]
    simp (decide := true) [-wps_seq]
    refine ⟨short_of (by have : (Str.ofString "l").length = 1 := by decide +kernel
                         omega), ?_⟩
    rw [op_addL (ws := vs.map vW) (us := [W.tup [W.str ("l" ++ L), W.int 0, W.bl false]]) (Pre.app.get cx.gv) get_new (by simp; omega), wp_ok]
    rw [wps_seq]
    simp (decide := true) [-wps_seq]
    have g1 : Go U (U ++ [SO.lst [W.tup [W.str ("l" ++ L), W.int 0, W.bl false]], SO.lst (vs.map vW ++ [W.tup [W.str ("l" ++ L), W.int 0, W.bl false]])]) n m := Go.app h
    have cx1 := cx.go g1
    refine sp_expr (k := k + 2 * d' + 2) cx.nv cx.nj hne (by omega) 2 g1.dw cx1.gv cx1.gj fun e V2 g2 ge we de => ?_
    have hJ : (U ++ [SO.lst [W.tup [W.str ("l" ++ L), W.int 0, W.bl false]], SO.lst (vs.map vW ++ [W.tup [W.str ("l" ++ L), W.int 0, W.bl false]])])[U.length + 1]? = some (SO.lst (vs.map vW ++ [W.tup [W.str ("l" ++ L), W.int 0, W.bl false]])) := by simp
    have hJm : U.length + 1 ≠ m := by have := (Go.app (J := [SO.lst []]) h).dw.ne_len; simpa using this
    have hJ2 := g2.off _ _ hJm hJ
    have g3 := g1.trans g2
    rw [wps_seq]
    simp (decide := true) [-wps_seq]
    rw [op_ixL hJ2]
    refine ⟨_, at_last, ?_⟩
    simp (decide := true) [-wps_seq]
    have cx3 := cx.go g3
    refine hB d' rfl (vs := vs ++ [(lvl "l" (vs.length + is.length), 0, false)]) (is := is) (kn := kn) g3.dw ⟨by rw [List.map_append, ei]; exact hJ2, cx3.gj, cx3.gc, cx3.hk, hJm, cx3.nj, cx3.nc, by obtain ⟨x, s, hx⟩ := cx3.free; exact ⟨x, s, List.mem_append_left _ hx⟩, by simp; omega⟩ fun b V3 g4 hb hb3 hbn => ?_
    have w1 := stB_wt hb hb3
    have w2 := stB_dp hb
    have := q (.bind (lvl "l" (vs.length + is.length)) e b) V3 (g3.trans g4) ⟨.bind rfl ge de fun s hs => (hb s hs).1, by simp [wtSt]; omega, by simp [dpS]; omega⟩
    rw [ei] at this
    exact this
  rw [wps_seq]
  refine if_no ?_ ?_
  · simp (decide := true)
    omega
  rw [wps_next]
  rw [wps_seq]
  simp (decide := true) [-wps_seq]
  rw [it_lst cx.gv]
  refine comp_filt0 (pf := fun w => match w with | .tup [_, _, .bl b] => !b | _ => false) (f := fun w => w) (hit_lst cx.gv) (fun w hw => ?_) (by simp; omega) ?_
  · obtain ⟨⟨x, z, b⟩, hm, rfl⟩ := List.mem_map.mp hw
    simp (decide := true) [wipeR, vW]
  have eL2 : (vs.map vW).filter (fun w => match w with | .tup [_, _, .bl b] => !b | _ => false) = (vs.filter fun v => !v.2.2).map vW := by rw [List.filter_map]; rfl
  rw [List.map_id', eL2]
  rw [wps_seq]
  simp (decide := true) [-wps_seq]
  have g1 : Go U (U ++ [SO.lst ((vs.filter fun v => !v.2.2).map vW)]) n m := Go.app h
  have cx1 := cx.go g1
  have hfne : (vs.filter fun v => !v.2.2) ≠ [] := by
    obtain ⟨x, s, hx⟩ := cx.free
    exact List.ne_nil_of_mem (List.mem_filter.mpr ⟨hx, rfl⟩)
  refine sp_place (k := k + 2 * d + 3) (vs := vs.filter fun v => !v.2.2) h.ne_len cx.nj hfne (by omega) g1.dw get_new cx1.gj fun x i V2 g2 gp wp => ?_
  have g3 := g1.trans g2
  have cx3 := cx.go g3
  refine sp_expr (k := k + 2 * d) cx.nv cx.nj hne (by omega) 2 g3.dw cx3.gv cx3.gj fun e V3 g4 ge we de => ?_
  exact q (.set x i e) V3 (g3.trans g4) ⟨.set gp ge de, by simp [wtSt]; omega, by simp [dpS]⟩
theorem sp_stmt_of {k d : Nat} (hB : ∀ d', d = d' + 1 → PBody k d') : PStmt k d := by
  intro U v j c n m vs is kn R E h cx q
  have few := cx.few
  rw [q__law_statement, wp_fnE]
  simp only [b__law_statement, startR]
  rw [wps_seq]
  simp (decide := true) [-wps_seq]
  refine sp_take (k := k + 2 * d + 7) h (by decide) fun r V g1 r1 r2 => ?_
  rw [wps_seq]
  simp (decide := true) [-wps_seq]
  by_cases c9 : r = 9
  · have cx1 := cx.go g1
    rw [wps_seq]
    simp (decide := true) [-wps_seq, c9]
    rw [wps_seq]
    simp (decide := true) [-wps_seq]
    refine sp_call (k := k + 2 * d + 3) cx.nv cx.nj cx.nc (by omega) (by omega) g1.dw cx1.gv cx1.gj cx1.gc cx1.hk (fun V2 g2 => ?_) fun f xs ns V2 g2 gc ws => ?_
    · rw [wps_seq]
      simp (decide := true) [-wps_seq]
      have g3 := g1.trans g2
      exact sp_tail hB g3.dw (cx.go g3) fun s V3 g4 hs => q s V3 (g3.trans g4) hs
    · rw [wps_seq]
      simp (decide := true) [-wps_seq, St.w]
      have := q (.call f xs ns) V2 (g1.trans g2) ⟨.call gc, by
        have : 1 ≤ 6 ^ d := Nat.one_le_pow _ _ (by decide)
        obtain ⟨r, _, _, h1, h2, h3, h4, _⟩ := gc
        simp [wtSt]
        omega, by simp [dpS]⟩
      simpa [St.w] using this
  · rw [wps_seq]
    simp (decide := true) [-wps_seq, c9]
    rw [wps_seq]
    simp (decide := true) [-wps_seq]
    exact sp_tail hB g1.dw (cx.go g1) fun s V3 g4 hs => q s V3 (g1.trans g4) hs
theorem sp_stmt (k : Nat) (d : Nat) : PStmt k d ∧ PBody k d := by
  induction d with
  | zero =>
    have h : PStmt k 0 := sp_stmt_of (fun d' e => by omega)
    exact ⟨h, sp_body_of h⟩
  | succ d ih =>
    have h : PStmt k (d + 1) := sp_stmt_of (fun d' e => by
      have : d' = d := by omega
      subst this
      obtain ⟨_, hh⟩ := ih
      assumption)
    exact ⟨h, sp_body_of h⟩
end Pt

/-! ## The draws from the script -/
namespace Pt
open PySem Ev ET PyProof.Rows
theorem op_pow18 {S : Sto} : powW (.int 10) (.int 18) S = .ok (.int 1000000000000000000) S := by kernel_rfl
@[simp] theorem op_modI {i j : Int} {S : Sto} {R : W → Sto → Prop} {E : Xn → Sto → Prop} : Wp (modW (.int i) (.int j) S) R E = (0 < j ∧ R (.int (i % j)) S) := by
  show Wp (Ev.guard _ (ret _) S) R E = _
  simp
@[simp] theorem op_divI {i j : Int} {S : Sto} {R : W → Sto → Prop} {E : Xn → Sto → Prop} : Wp (divW (.int i) (.int j) S) R E = ((0 < j ∧ j < 1073741824) ∧ R (.int (i / j)) S) := by
  show Wp (Ev.guard _ (ret _) S) R E = _
  simp
theorem op_mulR {i j : Int} {S : Sto} (h : in64 j = true) : mulW (.int i) (.int j) S = .ok (.int (i * j)) S := by
  show Ev.guard _ (ret _) S = _
  unfold Ev.guard
  rw [h, Bool.or_true, if_pos rfl]
  rfl
theorem op_mulL {i j : Int} {S : Sto} (h : in64 i = true) : mulW (.int i) (.int j) S = .ok (.int (i * j)) S := by
  show Ev.guard _ (ret _) S = _
  unfold Ev.guard
  rw [h, Bool.true_or, if_pos rfl]
  rfl
@[simp] theorem op_intI {i : Int} {S : Sto} : intW (.int i) S = .ok (.int i) S := rfl
@[simp] theorem op_absI {i : Int} {S : Sto} : absW (.int i) S = .ok (.int (if i < 0 then -i else i)) S := rfl
@[simp] theorem sl_fzl {R : W → Sto → Prop} {E : Xn → Sto → Prop} {S : Sto} {ws : List W} {lo hi : Option Int} : Wp (slW (.fzl ws) lo hi S) R E = R (.ref S.length) (S ++ [.lst (cutW ws lo hi)]) := rfl
def DrI (A : W) (l p : Nat) (L : List Int) (b : Nat) (ρ : Rho) (X : Sto) : Prop := ∃ (ds : List Int) (c r k e : Option W), ρ = [some A, some (.ref p), c, r, k, e] ∧ X[p]? = some (.lst (ds.map W.int)) ∧ X[l]? = some (.lst (L.map W.int)) ∧ ds.length ≤ b ∧ ∀ d ∈ ds, 0 ≤ d
def DrA (A : W) (l p : Nat) (L : List Int) (s : Int) (b n t : Nat) (ρ : Rho) (X : Sto) : Prop := t ≤ n ∧ ∃ (y k : Option W) (e : Int), ρ = [some A, some (.ref p), some (.int s), y, k, some (.int e)] ∧ 0 ≤ e ∧ DrI A l p L (b + t) ρ X
def DrB (A : W) (l p : Nat) (L : List Int) (s : Int) (b n t : Nat) (ρ : Rho) (X : Sto) : Prop := t ≤ n ∧ ∃ (k e : Option W) (y : Int), ρ = [some A, some (.ref p), some (.int s), some (.int y), k, e] ∧ 0 ≤ y ∧ DrI A l p L (b + t) ρ X
section
variable {R : W → Sto → Prop} {E : Xn → Sto → Prop} {S U : Sto} {k : Nat}
theorem sp_draws {ns : List Int} (hl : ns.length ≤ 63) (q : ∀ V n (ds : List Int), V[n]? = some (.lst (ds.map W.int)) → (∀ d ∈ ds, 0 ≤ d) → R (.ref n) V) : Wp (callI T (k + 2) "_law_draws" [.fzl (ns.map W.int)] S) R E := by
  rw [q__law_draws, wp_fnE]
  simp only [b__law_draws, startR]
  rw [wps_seq]
  simp (decide := true) [-wps_seq]
  rw [wps_seq]
  obtain ⟨L, eL, hL1, hL2⟩ := cut_map (f := W.int) (l := ns) (lo := none) (hi := some 63)
  simp (decide := true) [-wps_seq, eL]
  have gl : (S ++ [SO.lst [], SO.lst (L.map W.int)])[S.length + 1]? = some (.lst (L.map W.int)) := by simp
  have gp : (S ++ [SO.lst [], SO.lst (L.map W.int)])[S.length]? = some (.lst []) := by simp
  rw [it_lst gl]
  have hne : S.length ≠ S.length + 1 := by omega
  generalize S.length + 1 = l at *
  generalize S.length = p at *
  generalize S ++ [SO.lst [], SO.lst (L.map W.int)] = U at *
  refine for_rule L.length (fun i ρ X => i ≤ L.length ∧ DrI (.fzl (ns.map W.int)) l p L (60 * i) ρ X) (fun i ρ X ⟨hi, ds, a2, a3, a4, a5, hr, gp, gl, hd, hd0⟩ => ?_) (by omega) ⟨Nat.zero_le _, [], _, _, _, _, rfl, gp, gl, by simp, by simp⟩
  subst hr
  cases es : L[i]? with
  | none =>
    have hl2 := List.getElem?_eq_none_iff.mp es
    refine .inl ⟨hi, by rw [hit_lst gl, List.getElem?_map, es]; rfl, ?_⟩
    simp (decide := true)
    exact q X p ds gp hd0
  | some s =>
    have hl2 := (List.getElem?_eq_some_iff.mp es).1
    refine .inr ⟨hl2, .int s, by rw [hit_lst gl, List.getElem?_map, es]; rfl, ?_⟩
    rw [wps_gNm, wps_seq]
    simp (decide := true) [-wps_seq]
    rw [wps_seq]
    simp (decide := true) [-wps_seq, op_pow18]
    generalize hx : (if s < 0 then -s else s) = x
    have hx0 : 0 ≤ x := by rw [← hx]; split <;> omega
    have fin : ∀ ρ' X', DrI (.fzl (ns.map W.int)) l p L (60 * i + 60) ρ' X' → i + 1 ≤ L.length ∧ DrI (.fzl (ns.map W.int)) l p L (60 * (i + 1)) ρ' X' := fun ρ' X' h => ⟨hl2, h⟩
    rcases Int.lt_or_le x 1000000000000000000 with c | c
    · refine .inl ⟨c, ?_⟩
      rw [wps_seq]
      simp (decide := true) [-wps_seq, op_mulR]
      rw [wps_seq]
      simp (decide := true) [-wps_seq]
      refine for_rule 7 (DrA (.fzl (ns.map W.int)) l p L s (60 * i) 7) (fun t ρ X ⟨ht, y, kk, e, hr, hy, hD⟩ => ?_) (by omega) ⟨Nat.zero_le _, _, _, _, rfl, by omega, ds, _, _, _, _, rfl, gp, gl, hd, hd0⟩
      obtain ⟨ds, b1, b2, b3, b4, h1, h2, h3, h4, h5⟩ := hD
      by_cases ct : t < 7
      · subst hr
        refine .inr ⟨ct, .int t, by simp [itRng, ct], ?_⟩
        rw [wps_gNm, wps_seq]
        simp (decide := true) [-wps_seq, op_mulR, op_mulL]
        rw [wps_seq]
        simp (decide := true) [-wps_seq, isL h2, m_app h2 (x := .int ((e * 16807 + 69621 * (t : Int) + 5) % 2147483629 / 1009)) (by simp; omega)]
        refine ⟨by omega, _, _, _, rfl, by omega, ds ++ [(e * 16807 + 69621 * (t : Int) + 5) % 2147483629 / 1009], _, _, _, _, rfl, by rw [List.map_append]; exact get_set h2, get_set_ne h3 hne, by simp; omega, fun d hd => ?_⟩
        rcases List.mem_append.mp hd with hd | hd
        · exact h5 d hd
        · simp at hd
          subst hd
          omega
      · refine .inl ⟨ht, by simp [itRng, ct], ?_⟩
        simp (decide := true)
        exact fin _ _ ⟨ds, _, _, _, _, h1, h2, h3, by omega, h5⟩
    · refine .inr ⟨c, ?_⟩
      rw [wps_seq]
      simp (decide := true) [-wps_seq]
      refine for_rule 60 (DrB (.fzl (ns.map W.int)) l p L s (60 * i) 60) (fun t ρ X ⟨ht, kk, e, y, hr, hy, hD⟩ => ?_) (by omega) ⟨Nat.zero_le _, _, _, x, rfl, hx0, ds, _, _, _, _, rfl, gp, gl, hd, hd0⟩
      obtain ⟨ds, b1, b2, b3, b4, h1, h2, h3, h4, h5⟩ := hD
      by_cases ct : t < 60
      · subst hr
        refine .inr ⟨ct, .int t, by simp [itRng, ct], ?_⟩
        rw [wps_gNm, wps_seq]
        simp (decide := true) [-wps_seq]
        by_cases cy : 0 < y
        · refine .inr ⟨cy, ?_⟩
          rw [wps_seq]
          simp (decide := true) [-wps_seq, isL h2, m_app h2 (x := .int (y % 1009)) (by simp; omega)]
          rw [wps_seq]
          simp (decide := true) [-wps_seq]
          refine ⟨by omega, _, _, _, rfl, by omega, ds ++ [y % 1009], _, _, _, _, rfl, by rw [List.map_append]; exact get_set h2, get_set_ne h3 hne, by simp; omega, fun d hd => ?_⟩
          rcases List.mem_append.mp hd with hd | hd
          · exact h5 d hd
          · simp at hd
            subst hd
            omega
        · refine .inl ⟨by omega, ?_⟩
          exact ⟨by omega, _, _, _, rfl, by omega, ds, _, _, _, _, rfl, h2, h3, by omega, h5⟩
      · refine .inl ⟨ht, by simp [itRng, ct], ?_⟩
        simp (decide := true)
        exact fin _ _ ⟨ds, _, _, _, _, h1, h2, h3, by omega, h5⟩
end
end Pt

/-! ## Drawn trees -/
namespace Pt
open PySem Ev ET PyProof.Rows
theorem cut_to {ws : List W} {j : Int} (h : 0 ≤ j) : cutW ws none (some j) = ws.take j.toNat := by
  obtain ⟨k, rfl⟩ := Int.eq_ofNat_of_zero_le h
  unfold cutW
  rw [HT.sIx_none, HT.sIx_nat, List.drop_zero, Nat.sub_zero, Int.toNat_natCast]
  rcases Nat.le_total k ws.length with c | c
  · rw [Nat.min_eq_left c]
  · rw [Nat.min_eq_right c, List.take_of_length_le (Nat.le_refl _), List.take_of_length_le c]
theorem cut_from {ws : List W} {j : Int} (h : 0 ≤ j) : cutW ws (some j) none = ws.drop j.toNat := by
  obtain ⟨k, rfl⟩ := Int.eq_ofNat_of_zero_le h
  unfold cutW
  rw [HT.sIx_none, HT.sIx_nat, Int.toNat_natCast]
  rcases Nat.le_total k ws.length with c | c
  · rw [Nat.min_eq_left c, List.take_of_length_le (by rw [List.length_drop]; omega)]
  · rw [Nat.min_eq_right c, List.drop_of_length_le (Nat.le_refl _), List.drop_of_length_le c]
    simp
theorem sl_lst {R : W → Sto → Prop} {E : Xn → Sto → Prop} {S : Sto} {n : Nat} {ws : List W} {lo hi : Option Int} (h : S[n]? = some (.lst ws)) : Wp (slW (.ref n) lo hi S) R E = R (.ref S.length) (S ++ [.lst (cutW ws lo hi)]) := by
  unfold slW
  simp only [lst_get h]
  rfl
def vsOf (ds ps : List Decl) : List Vr := ds.map (fun d => (d.1, d.2, false)) ++ ps.map fun d => (d.1, d.2, true)
def KnOk (ps : List Proc) (kn : List Kn) : Prop := ∀ r ∈ kn, ∃ p ∈ ps, r.name = p.name ∧ r.cnt = p.idxs.length ∧ r.sizes = p.refs.map (·.2)
structure GP (ps : List Proc) (params : List Decl) (i : Nat) (p : Proc) : Prop where
  name : p.name = lvl "f" i
  idxs : ∃ c, c ≤ 2 ∧ p.idxs = (List.range c).map (lvl "n")
  refs : p.refs ≠ [] ∧ ∃ s : Int, (s = 0 ∨ s = 2 ∨ s = 3) ∧ p.refs.Sublist [("u", 0), ("v", s)]
  wt : wtSts p.body ≤ 20000
  dp : dpB p.body ≤ 3
  len : p.body.length ≤ 4
  body : ∃ kn, KnOk ps kn ∧ ∀ s ∈ p.body, GS kn (vsOf p.refs params) p.idxs s
structure GT (t : Tree) : Prop where
  state : t.state ≠ [] ∧ ∃ s : Int, 1 ≤ s ∧ s ≤ 3 ∧ t.state.Sublist [("x", 0), ("y", 0), ("r", s), ("z", 0)]
  params : t.params.Sublist [("p", 0), ("q", 2)]
  few : t.procs.length ≤ 2
  procs : ∀ i p, t.procs[i]? = some p → GP t.procs t.params i p
  wt : wtSts t.beat ≤ 70000
  dp : dpB t.beat ≤ 3
  len : t.beat.length ≤ 3
  body : ∃ kn, KnOk t.procs kn ∧ ∀ s ∈ t.beat, GS kn (vsOf t.state t.params) [] s
theorem gCall_mono {k1 k2 : List Kn} (h : ∀ r ∈ k1, r ∈ k2) {vs : List Vr} {is : List Str} {f : Str} {xs : List Ix} {ns : List Str} : gCall k1 vs is f xs ns → gCall k2 vs is f xs ns
  | ⟨r, h1, h2⟩ => ⟨r, h r h1, h2⟩
theorem GS.mono {k1 k2 : List Kn} (h : ∀ r ∈ k1, r ∈ k2) {vs : List Vr} {is : List Str} {s : St} (g : GS k1 vs is s) : GS k2 vs is s := by
  induction g with
  | set a b c => exact .set a b c
  | call a => exact .call (gCall_mono h a)
  | loop a b _ ih => exact .loop a b ih
  | ite a _ _ ih1 ih2 => exact .ite a ih1 ih2
  | bind a b c _ ih => exact .bind a b c ih
/-- the walk over the procedures -/
def TrI (U : Sto) (n m st pa fx pc : Nat) (state params : List Decl) (N i : Nat) (ρ : Rho) (X : Sto) : Prop := i ≤ N ∧ ∃ (kr : Nat) (kn : List Kn) (ps : List Proc) (a5 a6 a9 a10 a11 a12 a13 a14 a15 a16 a17 a18 : Option W), ρ = [some (.ref n), some (.ref m), some (.ref st), some (.ref pa), some (.ref fx), a5, a6, some (.ref kr), some (.ref pc), a9, a10, a11, a12, a13, a14, a15, a16, a17, a18] ∧
  Dw X n m ∧ X[st]? = some (.lst (state.map wDecl)) ∧ X[pa]? = some (.lst (params.map wDecl)) ∧ X[fx]? = some (.lst (params.map fun d => vW (d.1, d.2, true))) ∧ X[kr]? = some (.lst (kn.map kW)) ∧ X[pc]? = some (.lst (ps.map Proc.w)) ∧ KnAt X m kn ∧ KnOk ps kn ∧ kn.length = i ∧ ps.length = i ∧ (∀ j p, ps[j]? = some p → GP ps params j p) ∧
  ((∀ r ∈ kn, r.a ≠ pc) ∧ kr ≠ m ∧ kr ≠ pc) ∧ (∀ j q, U[j]? = some q → j ≠ m → j ≠ pc → X[j]? = some q)
theorem KnOk.mono {ps qs : List Proc} {kn : List Kn} (h : ∀ p ∈ ps, p ∈ qs) (g : KnOk ps kn) : KnOk qs kn := fun r hr => (g r hr).imp fun p hp => ⟨h p hp.1, hp.2⟩
theorem GP.mono {ps qs : List Proc} {params : List Decl} {i : Nat} {p : Proc} (h : ∀ p ∈ ps, p ∈ qs) (g : GP ps params i p) : GP qs params i p := ⟨g.name, g.idxs, g.refs, g.wt, g.dp, g.len, g.body.imp fun kn hk => ⟨hk.1.mono h, hk.2⟩⟩
/-- the call that a procedure makes of itself -/
def againS (f : Str) (is : List Str) (refs : List Decl) : St := .ite (.less (.int 0) (.var "n0")) [.call f (Ix.op .minus (.var "n0") (.int 1) :: is.map Ix.var) (refs.map (·.1))] []
theorem again_gs {kn : List Kn} {row : Kn} {refs params : List Decl} {is : List Str} {z : Int} (hr : row ∈ kn) (hc : row.cnt = is.length + 1) (hs : row.sizes = refs.map (·.2)) (hisl : is.length + 1 ≤ 2) (hrl : refs.length ≤ 2) (hrf : refs.Sublist [("u", 0), ("v", z)]) : GS kn (vsOf refs params) ("n0" :: is) (againS row.name is refs) := by
  refine .ite ⟨⟨trivial, by simp [wtIx]⟩, ⟨List.mem_cons_self, by simp [wtIx]⟩⟩ (fun s hs => ?_) (fun s hs => by cases hs)
  rw [List.mem_singleton] at hs
  subst hs
  refine .call ⟨row, hr, rfl, by rw [hc, List.length_cons, List.length_map], by rw [hs, List.length_map, List.length_map], by omega, by rw [hs, List.length_map]; exact hrl, fun x hx => ?_, fun l x s hx hs2 => ?_, ?_⟩
  · rcases List.mem_cons.mp hx with rfl | hx
    · exact ⟨⟨List.mem_cons_self, trivial⟩, by simp [wtIx]⟩
    · obtain ⟨y, hy, rfl⟩ := List.mem_map.mp hx
      exact ⟨List.mem_cons_of_mem _ hy, by simp [wtIx]⟩
  · rw [hs, List.getElem?_map] at hs2
    rw [List.getElem?_map] at hx
    cases e : refs[l]? with
    | none => rw [e] at hx; cases hx
    | some d =>
      rw [e] at hx hs2
      cases hx
      cases hs2
      exact List.mem_append_left _ (List.mem_map.mpr ⟨d, List.mem_of_getElem? e, rfl⟩)
  · have := hrf.map (·.1)
    refine this.nodup ?_
    show (["u", "v"] : List Str).Nodup
    decide +kernel
theorem again_wt {f : Str} {refs : List Decl} {is : List Str} (h : is.length + 1 ≤ 2) (hrl : refs.length ≤ 2) : wtSt (againS f is refs) ≤ 40 := by
  have e2 : ((is.map Ix.var).map wtIx).sum = 2 * is.length := by rw [List.map_map]; exact sum_const 2 is
  simp only [againS, wtSt, wtSts, wtTs, wtIx, List.map_cons, List.sum_cons, e2, List.length_map]
  omega
theorem again_dp {f : Str} {refs : List Decl} {is : List Str} : dpS (againS f is refs) ≤ 1 := by simp [againS, dpS, dpB]
theorem wt_app {a b : List St} : wtSts (a ++ b) = wtSts a + wtSts b := by rw [wtSts_map, wtSts_map, wtSts_map, List.map_append, List.sum_append]
theorem dp_app {a b : List St} : dpB (a ++ b) = max (dpB a) (dpB b) := by
  induction a with
  | nil => simp [dpB]
  | cons x l ih => simp only [List.cons_append, dpB, ih]; omega
theorem again_w {f : Str} {refs : List Decl} {is : List Str} {body : List St} : W.tup (St.ws body ++ [W.tup [W.str "if", W.tup [W.str "less", W.tup [W.str "integer", W.int 0], W.tup [W.str "index", W.str "n0"]], W.tup [W.tup [W.str "call", W.str f, W.tup ((Ix.op .minus (.var "n0") (.int 1) :: is.map Ix.var).map Ix.w), W.tup ((refs.map (·.1)).map W.str)]], W.tup []]]) = wB (body ++ [againS f is refs]) := by
  unfold wB
  rw [ws_map, ws_map, List.map_append]
  rfl
/-- the end of a procedure's turn -/
def b_tr_rest (cal : Str → Fn) : B := (bSeq (bExpr (aBM isLst appW (aVar 8) (aCons (aTup (aCons (aOp ixW (aVar 14) (aC (.int (0)))) (aCons (aUn tupW (aVar 10)) (aCons (aUn tupW (aVar 12)) (aCons (aVar 15) aNil))))) aNil)))
  (bSeq (bAsg (aOp addW (aVar 7) (aLst (aCons (aVar 14) aNil))) (gNm 7))
  bNext))
section
variable {R : W → Sto → Prop} {E : Xn → Sto → Prop} {S U : Sto} {k n m : Nat}
theorem sp_tree (h : Dw U n m) (q : ∀ t V, Go U V n m → GT t → R t.w V) : Wp (callI T (k + 20) "_law_tree" [.ref n, .ref m] U) R E := by
  rw [q__law_tree, wp_fnE]
  simp only [b__law_tree, startR]
  rw [wps_seq]
  simp (decide := true) [-wps_seq]
  refine sp_take (k := k + 17) h (by decide) fun r1 U1 g1 r1a r1b => ?_
  simp (decide := true) [-wps_seq]
  have gA : Go U (U1 ++ [SO.lst [W.tup [W.str "x", W.int 0], W.tup [W.str "y", W.int 0], W.tup [W.str "r", W.int (1 + r1)], W.tup [W.str "z", W.int 0]]]) n m := g1.trans (Go.app g1.dw)
  refine sp_take (k := k + 17) gA.dw (by decide) fun r2 U2 g2 r2a r2b => ?_
  simp (decide := true) [-wps_seq]
  rw [sl_lst (g2.off _ _ g1.dw.ne_len get_new), cut_from r2a]
  obtain ⟨D0, eD0⟩ : ∃ D : List Decl, D = [(("x" : Str), (0 : Int)), (("y" : Str), 0), (("r" : Str), 1 + r1), (("z" : Str), 0)] := ⟨_, rfl⟩
  rw [show [W.tup [W.str "x", W.int 0], W.tup [W.str "y", W.int 0], W.tup [W.str "r", W.int (1 + r1)], W.tup [W.str "z", W.int 0]] = D0.map wDecl by rw [eD0]; rfl, ← List.map_drop]
  have gB : Go U (U2 ++ [SO.lst ((D0.drop r2.toNat).map wDecl)]) n m := (gA.trans g2).trans (Go.app g2.dw)
  have sB := get_new (S := U2) (o := SO.lst ((D0.drop r2.toNat).map wDecl))
  have nB := g2.dw.ne_len
  generalize U2.length = s0 at *
  generalize U2 ++ [SO.lst ((D0.drop r2.toNat).map wDecl)] = U3 at *
  rw [wps_seq]
  simp (decide := true) [-wps_seq]
  refine sp_take (k := k + 17) gB.dw (by decide) fun r3 U4 g3 r3a r3b => ?_
  simp (decide := true) [-wps_seq]
  rw [sl_lst (g3.off _ _ nB sB), cut_to (by omega), ← List.map_take]
  have hst1 : (D0.drop r2.toNat).take (1 + r3).toNat ≠ [] := by
    intro e
    have e2 := congrArg List.length e
    rw [List.length_take, List.length_drop, eD0] at e2
    simp at e2
    omega
  have hst2 : ((D0.drop r2.toNat).take (1 + r3).toNat).Sublist D0 := (List.take_sublist _ _).trans (List.drop_sublist _ _)
  generalize (D0.drop r2.toNat).take (1 + r3).toNat = state at *
  have gC : Go U (U4 ++ [SO.lst (state.map wDecl)]) n m := (gB.trans g3).trans (Go.app g3.dw)
  have sC := get_new (S := U4) (o := SO.lst (state.map wDecl))
  have nC := g3.dw.ne_len
  generalize U4.length = st at *
  generalize U4 ++ [SO.lst (state.map wDecl)] = U5 at *
  rw [wps_seq]
  simp (decide := true) [-wps_seq]
  have gD : Go U5 (U5 ++ [SO.lst [W.tup [W.str "p", W.int 0], W.tup [W.str "q", W.int 2]]]) n m := Go.app gC.dw
  refine sp_take (k := k + 17) gD.dw (by decide) fun r4 U6 g4 r4a r4b => ?_
  simp (decide := true) [-wps_seq]
  rw [sl_lst (g4.off _ _ gC.dw.ne_len get_new), cut_to (by omega)]
  rw [show [W.tup [W.str "p", W.int 0], W.tup [W.str "q", W.int 2]] = ([("p", 0), ("q", 2)] : List Decl).map wDecl from rfl, ← List.map_take]
  have hpa : (([("p", 0), ("q", 2)] : List Decl).take r4.toNat).Sublist [("p", 0), ("q", 2)] := List.take_sublist _ _
  generalize (([("p", 0), ("q", 2)] : List Decl).take r4.toNat) = params at *
  have gE := (gD.trans g4).trans (Go.app (J := [SO.lst (params.map wDecl)]) g4.dw)
  have gE' := gC.trans gE
  have sE := get_new (S := U6) (o := SO.lst (params.map wDecl))
  have nE := g4.dw.ne_len
  have tE := gE.off _ _ nC sC
  have dE : st ≠ U6.length := by
    have := g4.off _ _ nC (Pre.app.get sC (S' := U5 ++ [SO.lst [W.tup [W.str "p", W.int 0], W.tup [W.str "q", W.int 2]]]))
    have := (List.getElem?_eq_some_iff.mp this).1
    omega
  clear gD
  generalize U6.length = pa at *
  generalize U6 ++ [SO.lst (params.map wDecl)] = U7 at *
  rw [wps_seq]
  simp (decide := true) [-wps_seq]
  rw [it_lst sE]
  have hpl : params.length ≤ 2 := by simpa using hpa.length_le
  refine comp_map0 (f := fun w => match w with | .tup [a, b] => .tup [a, b, .bl true] | _ => .non) (hit_lst sE) (fun w hw => ?_) (by simp; omega) ?_
  · obtain ⟨d, _, rfl⟩ := List.mem_map.mp hw
    simp (decide := true) [wipeR, wDecl]
  rw [List.map_map, show ((fun w => match w with | .tup [a, b] => .tup [a, b, .bl true] | _ => W.non) ∘ wDecl) = fun d : Decl => vW (d.1, d.2, true) from rfl]
  rw [wps_seq]
  simp (decide := true) [-wps_seq]
  rw [wps_seq]
  simp (decide := true) [-wps_seq]
  have gF : Go U (U7 ++ [SO.lst (params.map fun d : Decl => vW (d.1, d.2, true)), SO.lst [], SO.lst []]) n m := gE'.trans (Go.app gE'.dw)
  have l0 : ∀ {j : Nat} {q : SO}, U7[j]? = some q → j < U7.length := fun h => (List.getElem?_eq_some_iff.mp h).1
  have gst := Pre.app.get tE (S' := U7 ++ [SO.lst (params.map fun d : Decl => vW (d.1, d.2, true)), SO.lst [], SO.lst []])
  have gpa := Pre.app.get sE (S' := U7 ++ [SO.lst (params.map fun d : Decl => vW (d.1, d.2, true)), SO.lst [], SO.lst []])
  have gfx : (U7 ++ [SO.lst (params.map fun d : Decl => vW (d.1, d.2, true)), SO.lst [], SO.lst []])[U7.length]? = some (.lst (params.map fun d : Decl => vW (d.1, d.2, true))) := by simp
  have gkr : (U7 ++ [SO.lst (params.map fun d : Decl => vW (d.1, d.2, true)), SO.lst [], SO.lst []])[U7.length + 1]? = some (.lst []) := by simp
  have gpc : (U7 ++ [SO.lst (params.map fun d : Decl => vW (d.1, d.2, true)), SO.lst [], SO.lst []])[U7.length + 2]? = some (.lst []) := by simp
  have m7 : m < U7.length ∧ n < U7.length := by
    obtain ⟨⟨ds, p, d1, d2, _⟩, _⟩ := gE'.dw
    exact ⟨l0 d2, l0 d1⟩
  have s7 := l0 tE
  have p7 := l0 sE
  have off7 : ∀ j q, U[j]? = some q → j ≠ m → j < U7.length := fun j q hj hq => l0 (gE'.off j q hq hj)
  obtain ⟨pc, epc⟩ : ∃ pc, pc = U7.length + 2 := ⟨_, rfl⟩
  rw [← epc] at gpc
  generalize hU7 : U7.length = fx at *
  generalize U7 ++ [SO.lst (params.map fun d : Decl => vW (d.1, d.2, true)), SO.lst [], SO.lst []] = U8 at *
  rw [wps_seq]
  simp (decide := true) [-wps_seq]
  rw [← epc]
  refine sp_take (k := k + 17) gF.dw (by decide) fun r5 U9 g5 r5a r5b => ?_
  simp (decide := true) [-wps_seq]
  refine ⟨in62_of (by omega) (by omega), ?_⟩
  have gG := gF.trans g5
  have ne7 : pc ≠ m ∧ pc ≠ n ∧ pc ≠ st ∧ pc ≠ pa ∧ pc ≠ fx := ⟨by omega, by omega, by omega, by omega, by omega⟩
  refine for_rule r5.toNat (TrI U n m st pa fx pc state params r5.toNat) (fun i ρ X ⟨hi, kr, kn, ps, a5, a6, a9, a10, a11, a12, a13, a14, a15, a16, a17, a18, hr, hD, hst, hpp, hfx, hkr, hpc, hka, hko, hkl, hpl2, hgp, ⟨n6, n7, n8⟩, hoff⟩ => ?_) (by omega) ⟨Nat.zero_le _, fx + 1, [], [], _, _, _, _, _, _, _, _, _, _, _, _, rfl, gG.dw, g5.off _ _ nC gst, g5.off _ _ nE gpa, g5.off _ _ (by omega) gfx, g5.off _ _ (by omega) gkr, g5.off _ _ (by omega) gpc, fun _ h => by simp at h, fun _ h => by simp at h, rfl, rfl, fun _ _ h => by simp at h, ⟨fun _ h => by simp at h, by omega, by omega⟩, fun j q hj hm _ => gG.off j q hm hj⟩
  subst hr
  obtain ⟨p1, p2, p3, p4, p5⟩ := ne7
  by_cases ct : i < r5.toNat
  · refine .inr ⟨ct, .int i, by simp [itRng, ct], ?_⟩
    rw [wps_gNm, wps_seq]
    simp (decide := true) [-wps_seq]
    refine sp_take (k := k + 17) hD (by decide) fun c0 X1 x1 c0a c0b => ?_
    simp (decide := true) [-wps_seq]
    refine ⟨in62_of (by omega) (by omega), ?_⟩
    refine comp_rng (fun acc Y => acc = (List.range acc.length).map (fun j => W.str (lvl "n" j)) ∧ Y = X1) (fun j acc Y hj hal ⟨h1, h2⟩ => ?_) (by omega) ⟨rfl, rfl⟩ fun acc Y hl ⟨h1, h2⟩ => ?_
    · subst h2
      simp (decide := true) [wipeR]
      refine op_lvl (by omega) ?_
      rw [op_addS]
      have := lv_len j (by omega)
      refine ⟨short_of (by have : (Str.ofString "n").length = 1 := by decide +kernel
                           omega), ?_, rfl⟩
      rw [List.range_succ, List.map_append, ← h1]
      subst hal
      rfl
    subst h2
    rw [hl, show (fun j => W.str (lvl "n" j)) = W.str ∘ lvl "n" from rfl, ← List.map_map] at h1
    have hisl : ((List.range c0.toNat).map (lvl "n")).length ≤ 2 := by simp; omega
    have ex1 : ∃ c, c ≤ 2 ∧ (List.range c0.toNat).map (lvl "n") = (List.range c).map (lvl "n") := ⟨c0.toNat, by omega, rfl⟩
    subst h1
    generalize (List.range c0.toNat).map (lvl "n") = is at *
    have xA : Go X (Y ++ [SO.lst (is.map W.str)]) n m := x1.trans (Go.app x1.dw)
    have iA := get_new (S := Y) (o := SO.lst (is.map W.str))
    have niA := x1.dw.ne_len
    have ltX : ∀ {V : Sto} {j : Nat} {o : SO}, V[j]? = some o → j < V.length := fun h => (List.getElem?_eq_some_iff.mp h).1
    have pcY := ltX (x1.off _ _ p1 hpc)
    generalize hj0 : Y.length = j0 at *
    generalize Y ++ [SO.lst (is.map W.str)] = X2 at *
    rw [wps_seq]
    simp (decide := true) [-wps_seq]
    have xB : Go X2 (X2 ++ [SO.lst [W.int 0, W.int 2, W.int 3]]) n m := Go.app xA.dw
    refine sp_take (k := k + 17) xB.dw (by decide) fun r6 X3 x3 r6a r6b => ?_
    rw [op_ixL (x3.off _ _ xA.dw.ne_len get_new)]
    obtain ⟨z, hz, ez⟩ : ∃ z : Int, (z = 0 ∨ z = 2 ∨ z = 3) ∧ L2.atI [W.int 0, W.int 2, W.int 3] r6 = some (.int z) := by
      have : r6 = 0 ∨ r6 = 1 ∨ r6 = 2 := by omega
      rcases this with rfl | rfl | rfl
      · exact ⟨0, .inl rfl, rfl⟩
      · exact ⟨2, .inr (.inl rfl), rfl⟩
      · exact ⟨3, .inr (.inr rfl), rfl⟩
    refine ⟨_, ez, ?_⟩
    have x3' := xB.trans x3
    have xC : Go X2 (X3 ++ [SO.lst [W.tup [W.str "u", W.int 0], W.tup [W.str "v", W.int z]]]) n m := x3'.trans (Go.app x3.dw)
    refine sp_take (k := k + 17) xC.dw (by decide) fun r7 X4 x4 r7a r7b => ?_
    simp (decide := true) [-wps_seq]
    rw [sl_lst (x4.off _ _ x3.dw.ne_len get_new), cut_to (by omega)]
    rw [show [W.tup [W.str "u", W.int 0], W.tup [W.str "v", W.int z]] = ([(("u" : Str), (0 : Int)), ("v", z)] : List Decl).map wDecl from rfl, ← List.map_take]
    have hrf : (([(("u" : Str), (0 : Int)), ("v", z)] : List Decl).take (1 + r7).toNat).Sublist [("u", 0), ("v", z)] := List.take_sublist _ _
    have hrn : (([(("u" : Str), (0 : Int)), ("v", z)] : List Decl).take (1 + r7).toNat) ≠ [] := by
      intro e
      have e2 := congrArg List.length e
      rw [List.length_take] at e2
      simp at e2
      omega
    generalize (([(("u" : Str), (0 : Int)), ("v", z)] : List Decl).take (1 + r7).toNat) = refs at *
    have hrl : refs.length ≤ 2 := by simpa using hrf.length_le
    have xD := (xC.trans x4).trans (Go.app (J := [SO.lst (refs.map wDecl)]) x4.dw)
    have rD := get_new (S := X4) (o := SO.lst (refs.map wDecl))
    have nD := x4.dw.ne_len
    clear xB x3 x3' xC
    generalize hrr : X4.length = rr at *
    generalize X4 ++ [SO.lst (refs.map wDecl)] = X5 at *
    have xE := xA.trans xD
    have iD := xD.off _ _ niA iA
    rw [wps_seq]
    simp (decide := true) [-wps_seq]
    rw [it_lst rD]
    refine comp_map0 (f := fun w => match w with | .tup [a, b] => .tup [a, b, .bl false] | _ => .non) (hit_lst rD) (fun w hw => ?_) (by simp; omega) ?_
    · obtain ⟨d, _, rfl⟩ := List.mem_map.mp hw
      simp (decide := true) [wipeR, wDecl]
    rw [List.map_map, show ((fun w => match w with | .tup [a, b] => .tup [a, b, .bl false] | _ => W.non) ∘ wDecl) = fun d : Decl => vW (d.1, d.2, false) from rfl]
    have nfx : fx ≠ m := by omega
    rw [op_addL (ws := refs.map fun d : Decl => vW (d.1, d.2, false)) (us := params.map fun d => vW (d.1, d.2, true)) get_new (Pre.app.get (xE.off _ _ nfx hfx)) (by simp; omega), wp_ok]
    rw [show (refs.map fun d : Decl => vW (d.1, d.2, false)) ++ (params.map fun d => vW (d.1, d.2, true)) = (vsOf refs params).map vW by simp [vsOf, Function.comp_def]]
    have hvl : (vsOf refs params).length ≤ 4 := by simp [vsOf]; omega
    have hvf : ∃ x s, (x, s, false) ∈ vsOf refs params := by
      cases refs with
      | nil => exact absurd rfl hrn
      | cons d l => exact ⟨d.1, d.2, by simp [vsOf]⟩
    have xF : Go X5 (X5 ++ [SO.lst (refs.map fun d : Decl => vW (d.1, d.2, false)), SO.lst ((vsOf refs params).map vW)]) n m := Go.app xE.dw
    rw [show X5 ++ [SO.lst (refs.map fun d : Decl => vW (d.1, d.2, false))] ++ [SO.lst ((vsOf refs params).map vW)] = X5 ++ [SO.lst (refs.map fun d : Decl => vW (d.1, d.2, false)), SO.lst ((vsOf refs params).map vW)] by simp]
    have vF : (X5 ++ [SO.lst (refs.map fun d : Decl => vW (d.1, d.2, false)), SO.lst ((vsOf refs params).map vW)])[(X5 ++ [SO.lst (refs.map fun d : Decl => vW (d.1, d.2, false))]).length]? = some (.lst ((vsOf refs params).map vW)) := by simp
    have nF : (X5 ++ [SO.lst (refs.map fun d : Decl => vW (d.1, d.2, false))]).length ≠ m := (Dw.app xE.dw).ne_len
    have rF := xF.off _ _ nD rD
    have iF := xF.off _ _ niA iD
    have xG := xE.trans xF
    clear xF xD
    generalize (X5 ++ [SO.lst (refs.map fun d : Decl => vW (d.1, d.2, false))]).length = vv at *
    generalize X5 ++ [SO.lst (refs.map fun d : Decl => vW (d.1, d.2, false)), SO.lst ((vsOf refs params).map vW)] = X6 at *
    rw [wps_seq]
    simp (decide := true) [-wps_seq, op_lenL iF]
    refine op_lvl (by omega) ?_
    have hLf := lv_len i (by omega)
    rw [op_addS]
    refine ⟨short_of (by have : (Str.ofString "f").length = 1 := by decide +kernel
                         omega), ?_⟩
    rw [show (Str.ofString "f" ++ Str.ofString (toString (i : Int))) = lvl "f" i from rfl]
    rw [op_lenL iF, wp_ok, it_lst rF]
    refine comp_map0 (f := fun w => match w with | .tup [a, b] => b | _ => .non) (hit_lst rF) (fun w hw => ?_) (by simp; omega) ?_
    · obtain ⟨d, _, rfl⟩ := List.mem_map.mp hw
      simp (decide := true) [wipeR, wDecl]
    rw [List.map_map, show ((fun w => match w with | .tup [a, b] => b | _ => W.non) ∘ wDecl) = W.int ∘ (fun d : Decl => d.2) from rfl, ← List.map_map]
    have xH : Go X6 (X6 ++ [SO.lst ((refs.map (·.2)).map W.int)]) n m := Go.app xG.dw
    have zH := get_new (S := X6) (o := SO.lst ((refs.map (·.2)).map W.int))
    have nH := xG.dw.ne_len
    have pcZ : pc < X6.length := ltX (xG.off _ _ p1 hpc)
    have vH := xH.off _ _ nF vF
    have rH := xH.off _ _ nD rF
    have iH := xH.off _ _ niA iF
    have xI := xG.trans xH
    clear xH
    have npz : X6.length ≠ pc := by omega
    have nkr : kr ≠ X6.length := by have := ltX (xG.off _ _ n7 hkr); omega
    generalize X6.length = zz at *
    generalize X6 ++ [SO.lst ((refs.map (·.2)).map W.int)] = X7 at *
    obtain ⟨row, hrow⟩ : ∃ r : Kn, r = ⟨lvl "f" i, is.length, zz, refs.map (·.2)⟩ := ⟨_, rfl⟩
    have hrw : W.tup [W.str (lvl "f" i), W.int (is.length : Int), W.ref zz] = kW row := by rw [hrow]; rfl
    rw [List.length_map, hrw]
    have hkI : KnAt X7 m (kn ++ [row]) := by
      intro r hr
      rcases List.mem_append.mp hr with hr | hr
      · exact hka.go xI r hr
      · simp at hr
        subst hr
        rw [hrow]
        exact ⟨nH, zH, hisl, by simpa using hrl⟩
    rw [wps_seq]
    simp (decide := true) [-wps_seq]
    have xJ : Go X7 (X7 ++ [SO.lst [kW row]]) n m := Go.app xI.dw
    refine sp_take (k := k + 17) xJ.dw (by decide) fun r8 X8 x8 r8a r8b => ?_
    refine ⟨_, rfl, ?_⟩
    rw [sl_lst (x8.off _ _ xI.dw.ne_len get_new), cut_to (by omega), show [kW row] = [row].map kW from rfl, ← List.map_take]
    have hsub : ∀ r ∈ [row].take r8.toNat, r = row := fun r hr => by simpa using List.mem_of_mem_take hr
    have hsl : ([row].take r8.toNat).length ≤ 1 := by rw [List.length_take]; simp; omega
    generalize [row].take r8.toNat = sub at *
    have xK : Go X7 (X8 ++ [SO.lst (sub.map kW)]) n m := (xJ.trans x8).trans (Go.app x8.dw)
    have krK := xK.off _ _ n7 (xI.off _ _ n7 hkr)
    rw [op_addL (ws := kn.map kW) (us := sub.map kW) (n := kr) (by simpa using krK) (by simp) (by simp; omega), wp_ok, ← List.map_append]
    have gL := get_new (S := X8 ++ [SO.lst (sub.map kW)]) (o := SO.lst ((kn ++ sub).map kW))
    have nL := xK.dw.ne_len
    have xL := xK.trans (Go.app (J := [SO.lst ((kn ++ sub).map kW)]) xK.dw)
    clear xJ x8 xK
    generalize (X8 ++ [SO.lst (sub.map kW)]).length = kk at *
    generalize X8 ++ [SO.lst (sub.map kW)] ++ [SO.lst ((kn ++ sub).map kW)] = X9 at *
    have hmono : ∀ r ∈ kn ++ sub, r ∈ kn ++ [row] := fun r hr => by
      rcases List.mem_append.mp hr with hr | hr
      · exact List.mem_append_left _ hr
      · rw [hsub r hr]; simp
    have cx : Cxt X9 m vv j0 kk (vsOf refs params) is (kn ++ sub) 2 := ⟨xL.off _ _ nF vH, xL.off _ _ niA iH, gL, fun r hr => (hkI.go xL) r (hmono r hr), nF, niA, nL, hvf, by omega⟩
    have fin : ∀ (body : List St) (Y : Sto) (a16 a17 a18 : Option W), Go X7 Y n m → (∀ s ∈ body, GS (kn ++ [row]) (vsOf refs params) is s) → wtSts body ≤ 20000 → dpB body ≤ 3 → body.length ≤ 4 →
        WpS (b_tr_rest (callI T (k + 19)) [some (.ref n), some (.ref m), some (.ref st), some (.ref pa), some (.ref fx), a5, a6, some (.ref kr), some (.ref pc), some (.int i), some (.ref j0), a11, some (.ref rr), some (.ref vv), some (kW row), some (wB body), a16, a17, a18] Y) (fun fl ρ V => fl = .nx ∧ TrI U n m st pa fx pc state params r5.toNat (i + 1) ρ V) (fun _ _ _ => False) := by
      intro body Y a16 a17 a18 y1 hb1 hb2 hb3 hb4
      have yX := xI.trans y1
      have hpcY := yX.off _ _ p1 hpc
      unfold b_tr_rest
      rw [wps_seq]
      have ek : ∀ S, ixW (kW row) (.int 0) S = .ok (.str row.name) S := fun _ => rfl
      simp (decide := true) [-wps_seq, isL hpcY, ek, m_tup (y1.off _ _ niA iH), m_tup (y1.off _ _ nD rH)]
      rw [m_app hpcY (by simp; omega), wp_ok]
      have hdw : Dw (Y.set pc (SO.lst (ps.map Proc.w ++ [.tup [.str row.name, .tup (is.map W.str), .tup (refs.map wDecl), wB body]]))) n m := by
        obtain ⟨⟨ds, pp, d1, d2, d3⟩, d4⟩ := yX.dw
        exact ⟨⟨ds, pp, get_set_ne d1 p2, get_set_ne d2 p1, d3⟩, d4⟩
      have hoff2 : ∀ j o, j ≠ pc → Y[j]? = some o → (Y.set pc (SO.lst (ps.map Proc.w ++ [.tup [.str row.name, .tup (is.map W.str), .tup (refs.map wDecl), wB body]])))[j]? = some o := fun j o hj ho => get_set_ne ho (Ne.symm hj)
      have hpc2 : (Y.set pc (SO.lst (ps.map Proc.w ++ [.tup [.str row.name, .tup (is.map W.str), .tup (refs.map wDecl), wB body]])))[pc]? = some (SO.lst ((ps ++ [(⟨row.name, is, refs, body⟩ : Proc)]).map Proc.w)) := by
        rw [List.map_append]
        exact get_set hpcY
      generalize Y.set pc (SO.lst (ps.map Proc.w ++ [.tup [.str row.name, .tup (is.map W.str), .tup (refs.map wDecl), wB body]])) = Z at *
      rw [wps_seq]
      simp (decide := true) [-wps_seq]
      rw [op_addL (ws := kn.map kW) (us := [kW row]) (Pre.app.get (hoff2 _ _ n8 (yX.off _ _ n7 hkr))) get_new (by simp; omega), wp_ok]
      have pre : Pre Z (Z ++ [SO.lst [kW row]] ++ [SO.lst (kn.map kW ++ [kW row])]) := Pre.app.trans .app
      have lpc := ltX hpc2
      have lm : m < Z.length := by obtain ⟨⟨ds, pp, d1, d2, d3⟩, d4⟩ := hdw; exact ltX d2
      have hpn : (⟨row.name, is, refs, body⟩ : Proc) ∈ ps ++ [⟨row.name, is, refs, body⟩] := by simp
      have hsu : ∀ p ∈ ps, p ∈ ps ++ [(⟨row.name, is, refs, body⟩ : Proc)] := fun p hp => List.mem_append_left _ hp
      have hko2 : KnOk (ps ++ [(⟨row.name, is, refs, body⟩ : Proc)]) (kn ++ [row]) := fun r hr => by
        rcases List.mem_append.mp hr with hr | hr
        · exact hko.mono hsu r hr
        · simp at hr
          subst hr
          exact ⟨_, hpn, rfl, by rw [hrow], by rw [hrow]⟩
      refine ⟨ct, (Z ++ [SO.lst [kW row]]).length, kn ++ [row], ps ++ [⟨row.name, is, refs, body⟩], _, _, _, _, _, _, _, _, _, _, _, _, rfl, ?_, pre.get (hoff2 _ _ (Ne.symm p3) (yX.off _ _ nC hst)), pre.get (hoff2 _ _ (Ne.symm p4) (yX.off _ _ nE hpp)), pre.get (hoff2 _ _ (Ne.symm p5) (yX.off _ _ nfx hfx)), ?_, pre.get hpc2, fun r hr => ?_, hko2, by simp [hkl], by simp [hpl2], fun j p hj => ?_, ⟨fun r hr => ?_, ?_, ?_⟩, fun j o hj hm hp => pre.get (hoff2 _ _ hp (yX.off _ _ hm (hoff j o hj hm hp)))⟩
      · rw [List.append_assoc]
        exact hdw.app
      · rw [List.map_append]
        exact get_new
      · have h1 := hkI.go y1 r hr
        refine ⟨h1.1, pre.get (hoff2 _ _ ?_ h1.2.1), h1.2.2⟩
        rcases List.mem_append.mp hr with hr | hr
        · exact n6 r hr
        · simp at hr
          subst hr
          rw [hrow]
          exact npz
      · by_cases cj : j < ps.length
        · rw [List.getElem?_append_left cj] at hj
          exact (hgp j p hj).mono hsu
        · rw [List.getElem?_append_right (by omega)] at hj
          have hj2 : j = ps.length := by
            have := (List.getElem?_eq_some_iff.mp hj).1
            simp at this
            omega
          subst hj2
          simp at hj
          subst hj
          refine ⟨by rw [hrow, hpl2], ex1, ⟨hrn, z, hz, hrf⟩, hb2, hb3, hb4, kn ++ [row], hko2, hb1⟩
      · rcases List.mem_append.mp hr with hr | hr
        · exact n6 r hr
        · simp at hr
          subst hr
          rw [hrow]
          exact npz
      · simp; omega
      · simp; omega
    refine (sp_stmt (k + 4) 2).2 xL.dw cx fun body X10 x10 hbs hbl hbn => ?_
    have w1 := stB_wt hbs hbl
    have w2 := stB_dp hbs
    have hbG : ∀ s ∈ body, GS (kn ++ [row]) (vsOf refs params) is s := fun s hs => (hbs s hs).1.mono hmono
    have xM := xL.trans x10
    rw [wps_seq]
    cases is with
    | nil =>
      refine if_no ?_ ?_
      · simp (decide := true) [tr_lst (xM.off _ _ niA iH)]
      rw [wps_next]
      exact (fin body X10 _ _ _ xM hbG (by omega) (by omega) (by omega)).imp (fun fl ρ V ⟨e, h⟩ => by subst e; exact h) (fun _ _ _ h => h.elim)
    | cons i0 is =>
      rw [wps_bIf]
      simp (decide := true) [-wps_seq, tr_lst (xM.off _ _ niA iH)]
      refine sp_take (k := k + 17) xM.dw (by decide) fun r9 X11 x11 r9a r9b => ?_
      have xN := xM.trans x11
      rw [op_eqI, wp_ok]
      by_cases c9 : r9 = 1
      · refine .inr ⟨by rw [decide_eq_true c9], ?_⟩
        have iN := xN.off _ _ niA iH
        have rN := xN.off _ _ nD rH
        rw [wps_seq]
        simp (decide := true) [-wps_seq]
        rw [sl_lst iN, cut_from (by decide)]
        rw [show ((i0 :: is).map W.str).drop (Int.toNat 1) = is.map W.str from rfl, it_lst get_new]
        refine comp_map0 (f := fun w => .tup [.str "index", w]) (hit_lst get_new) (fun w hw => ?_) (by simp at hisl ⊢; omega) ?_
        · simp (decide := true) [wipeR]
        rw [m_tup get_new, wp_ok, op_addT]
        refine ⟨short_of (by simp at hisl ⊢; omega), ?_⟩
        have ei0 : i0 = "n0" := by
          obtain ⟨c, _, e⟩ := ex1
          cases c with
          | zero => cases e
          | succ c =>
            rw [List.range_succ_eq_map, List.map_cons] at e
            rw [(List.cons.inj e).1]
            decide +kernel
        have exs : ([W.tup [.str "minus", .tup [.str "index", .str "n0"], .tup [.str "integer", .int 1]]] ++ (is.map W.str).map fun w => W.tup [.str "index", w]) = ((Ix.op .minus (.var "n0") (.int 1) :: is.map Ix.var).map Ix.w) := by
          rw [List.map_cons, List.map_map, List.map_map]
          rfl
        rw [exs]
        generalize hXS : ((Ix.op .minus (.var "n0") (.int 1) :: is.map Ix.var).map Ix.w) = XS
        have xO : Go X7 (X11 ++ [SO.lst (is.map W.str)] ++ [SO.lst ((is.map W.str).map fun w => W.tup [.str "index", w])]) n m := (xN.trans (Go.app xN.dw)).trans (Go.app (Dw.app xN.dw))
        have rO := xO.off _ _ nD rH
        generalize X11 ++ [SO.lst (is.map W.str)] ++ [SO.lst ((is.map W.str).map fun w => W.tup [.str "index", w])] = X12 at *
        have ek : ∀ S, ixW (kW row) (.int 0) S = .ok (.str row.name) S := fun _ => rfl
        rw [wps_seq]
        simp (decide := true) [-wps_seq, ek]
        rw [it_lst rO]
        refine comp_map0 (f := fun w => match w with | .tup [a, b] => a | _ => .non) (hit_lst rO) (fun w hw => ?_) (by simp; omega) ?_
        · obtain ⟨d, _, rfl⟩ := List.mem_map.mp hw
          simp (decide := true) [wipeR, wDecl]
        rw [List.map_map, show ((fun w => match w with | .tup [a, b] => a | _ => W.non) ∘ wDecl) = W.str ∘ (fun d : Decl => d.1) from rfl, ← List.map_map]
        rw [m_tup get_new, wp_ok]
        generalize hNS : (refs.map (·.1)).map W.str = NS
        have xP : Go X7 (X12 ++ [SO.lst NS]) n m := xO.trans (Go.app xO.dw)
        generalize X12 ++ [SO.lst NS] = X13 at *
        rw [wps_seq]
        simp (decide := true) [-wps_seq, wB]
        refine ⟨short_of (by rw [ws_map, List.length_map]; omega), ?_⟩
        have hpost := (fin (body ++ [againS row.name is refs]) X13 (some (.tup ((Ix.op .minus (.var "n0") (.int 1) :: is.map Ix.var).map Ix.w))) (some (W.tup [W.str "call", W.str row.name, W.tup ((Ix.op .minus (.var "n0") (.int 1) :: is.map Ix.var).map Ix.w), W.tup ((refs.map (·.1)).map W.str)])) a18 xP (fun s hs => by
          rcases List.mem_append.mp hs with hs | hs
          · exact hbG s hs
          · rw [List.mem_singleton.mp hs, ei0]
            exact again_gs (by simp) (by rw [hrow]; rfl) (by rw [hrow]) hisl hrl hrf) (by rw [wt_app]; have := again_wt (f := row.name) (refs := refs) hisl hrl; simp only [wtSts]; omega) (by rw [dp_app]; have := again_dp (f := row.name) (refs := refs) (is := is); simp only [dpB]; omega) (by rw [List.length_append, List.length_singleton]; omega))
        rw [← again_w, hXS, hNS] at hpost
        exact hpost.imp (fun fl ρ V ⟨e, h⟩ => by subst e; exact h) (fun _ _ _ h => h.elim)
      · refine .inl ⟨by rw [decide_eq_false c9], ?_⟩
        exact (fin body X11 _ _ _ xN hbG (by omega) (by omega) (by omega)).imp (fun fl ρ V ⟨e, h⟩ => by subst e; exact h) (fun _ _ _ h => h.elim)
  · have hiN : i = r5.toNat := by omega
    refine .inl ⟨hi, by simp [itRng, ct], ?_⟩
    have nfx : fx ≠ m := by omega
    have hsl : state.length ≤ 4 := by have := hst2.length_le; rw [eD0] at this; simpa using this
    dsimp only
    rw [wps_seq]
    simp (decide := true) [-wps_seq]
    rw [it_lst hst]
    refine comp_map0 (f := fun w => match w with | .tup [a, b] => .tup [a, b, .bl false] | _ => .non) (hit_lst hst) (fun w hw => ?_) (by simp; omega) ?_
    · obtain ⟨d, _, rfl⟩ := List.mem_map.mp hw
      simp (decide := true) [wipeR, wDecl]
    rw [List.map_map, show ((fun w => match w with | .tup [a, b] => .tup [a, b, .bl false] | _ => W.non) ∘ wDecl) = fun d : Decl => vW (d.1, d.2, false) from rfl]
    rw [op_addL (ws := state.map fun d : Decl => vW (d.1, d.2, false)) (us := params.map fun d => vW (d.1, d.2, true)) get_new (Pre.app.get hfx) (by simp; omega), wp_ok]
    rw [show (state.map fun d : Decl => vW (d.1, d.2, false)) ++ (params.map fun d => vW (d.1, d.2, true)) = (vsOf state params).map vW by simp [vsOf, Function.comp_def]]
    have hvl : (vsOf state params).length ≤ 6 := by simp [vsOf]; omega
    have hvf : ∃ x s, (x, s, false) ∈ vsOf state params := by
      cases state with
      | nil => exact absurd rfl hst1
      | cons d l => exact ⟨d.1, d.2, by simp [vsOf]⟩
    have vF := get_new (S := X ++ [SO.lst (state.map fun d : Decl => vW (d.1, d.2, false))]) (o := SO.lst ((vsOf state params).map vW))
    have nF := (Dw.app (J := [SO.lst (state.map fun d : Decl => vW (d.1, d.2, false))]) hD).ne_len
    have xF : Go X (X ++ [SO.lst (state.map fun d : Decl => vW (d.1, d.2, false))] ++ [SO.lst ((vsOf state params).map vW)]) n m := (Go.app hD).trans (Go.app hD.app)
    generalize (X ++ [SO.lst (state.map fun d : Decl => vW (d.1, d.2, false))]).length = vv at *
    generalize X ++ [SO.lst (state.map fun d : Decl => vW (d.1, d.2, false))] ++ [SO.lst ((vsOf state params).map vW)] = X1 at *
    rw [wps_seq]
    simp (decide := true) [-wps_seq]
    have xG : Go X (X1 ++ [SO.lst []]) n m := xF.trans (Go.app xF.dw)
    have cx : Cxt (X1 ++ [SO.lst []]) m vv X1.length kr (vsOf state params) [] kn 3 := ⟨Pre.app.get vF, get_new, xG.off _ _ n7 hkr, hka.go xG, nF, xF.dw.ne_len, n7, hvf, by simp; omega⟩
    refine (sp_stmt (k + 2) 3).2 xG.dw cx fun body X10 x10 hbs hbl hbn => ?_
    have w1 := stB_wt hbs hbl
    have w2 := stB_dp hbs
    have xM := xG.trans x10
    rw [wps_seq]
    simp (decide := true) [-wps_seq, m_tup (xM.off _ _ nC hst), m_tup (xM.off _ _ nE hpp), m_tup (xM.off _ _ p1 hpc)]
    refine q ⟨state, params, ps, body⟩ X10 ⟨xM.dw, fun j o hj ho => xM.off _ _ hj (hoff j o ho hj (by have := off7 j o ho hj; omega))⟩ ⟨⟨hst1, 1 + r1, by omega, by omega, by rw [eD0] at hst2; exact hst2⟩, hpa, (by show ps.length ≤ 2; omega), hgp, (by show wtSts body ≤ 70000; omega), w2, hbl, kn, hko, fun s hs => (hbs s hs).1⟩
end
end Pt

/-! ## Drawn trees are within bounds -/
namespace Pt
open PySem Ev ET PyProof.Rows
theorem sh_leafN {n : Nd} (h : n.sh) (hk : n.kids = []) : Sh n := .mk h fun k h => by rw [hk] at h; cases h
theorem sh_name {x : Str} (h : x.length ≤ lim) : Sh (.name x) := sh_leafN h rfl
theorem sh_ixR {is : List Str} (h : ∀ x ∈ is, x.length ≤ lim) : ∀ i, gIxR is i → Sh (.ix i)
  | .int n, _ => .mk trivial fun k hk => by simp [Nd.kids, kidsIx] at hk; subst hk; exact sh_leafN trivial rfl
  | .beat, _ => .mk trivial fun k hk => by simp [Nd.kids, kidsIx] at hk
  | .var x, g => .mk trivial fun k hk => by simp [Nd.kids, kidsIx] at hk; subst hk; exact sh_name (h x g)
  | .rem a n, g => .mk trivial fun k hk => by
    simp [Nd.kids, kidsIx] at hk
    rcases hk with rfl | rfl
    · exact sh_ixR h a g
    · exact sh_leafN trivial rfl
  | .op o a b, g => .mk trivial fun k hk => by
    simp [Nd.kids, kidsIx] at hk
    rcases hk with rfl | rfl
    · exact sh_ixR h a g.1
    · exact sh_ixR h b g.2
theorem sh_ix {is : List Str} (h : ∀ x ∈ is, x.length ≤ lim) (i : Ix) (g : gIx is i) : Sh (.ix i) := sh_ixR h i g.1
theorem sh_sub {is : List Str} {vs : List Vr} (h : ∀ x ∈ is, x.length ≤ lim) {x : Str} : ∀ {i : Option Ix}, gPl vs is x i → Sh (.sub i)
  | none, _ => .mk trivial fun k hk => by simp [Nd.kids] at hk
  | some i, g => .mk trivial fun k hk => by simp [Nd.kids] at hk; subst hk; exact sh_ix h i g.1
theorem pl_mem {is : List Str} {vs : List Vr} {x : Str} : ∀ {i : Option Ix}, gPl vs is x i → ∃ v ∈ vs, v.1 = x
  | none, ⟨b, h⟩ => ⟨_, h, rfl⟩
  | some i, ⟨_, s, b, h, _⟩ => ⟨_, h, rfl⟩
section
variable {kn : List Kn} {vs : List Vr} {is : List Str}
theorem sh_ex (hv : ∀ v ∈ vs, v.1.length ≤ lim) (h : ∀ x ∈ is, x.length ≤ lim) : ∀ e, gEx vs is e → Sh (.ex e)
  | .num n, _ => .mk trivial fun k hk => by simp [Nd.kids, kidsEx] at hk; subst hk; exact sh_leafN trivial rfl
  | .place x i, g => .mk trivial fun k hk => by
    simp [Nd.kids, kidsEx] at hk
    rcases hk with rfl | rfl
    · obtain ⟨v, hm, rfl⟩ := pl_mem g
      exact sh_name (hv v hm)
    · exact sh_sub h g
  | .op o a b, g => .mk trivial fun k hk => by
    simp [Nd.kids, kidsEx] at hk
    rcases hk with rfl | rfl
    · exact sh_ex hv h a g.1
    · exact sh_ex hv h b g.2
theorem sh_ts (hv : ∀ v ∈ vs, v.1.length ≤ lim) (h : ∀ x ∈ is, x.length ≤ lim) : ∀ t, gTs vs is t → Sh (.ts t)
  | .zero e, g => .mk trivial fun k hk => by simp [Nd.kids, kidsTs] at hk; subst hk; exact sh_ex hv h e g.1
  | .not t, g => .mk trivial fun k hk => by simp [Nd.kids, kidsTs] at hk; subst hk; exact sh_ts hv h t g.1
  | .less a b, g => .mk trivial fun k hk => by
    simp [Nd.kids, kidsTs] at hk
    rcases hk with rfl | rfl
    · exact sh_ix h a g.1
    · exact sh_ix h b g.2
  | .equal a b, g => .mk trivial fun k hk => by
    simp [Nd.kids, kidsTs] at hk
    rcases hk with rfl | rfl
    · exact sh_ix h a g.1
    · exact sh_ix h b g.2
theorem sh_pl (hv : ∀ v ∈ vs, v.1.length ≤ lim) (h : ∀ x ∈ is, x.length ≤ lim) {x : Str} {i : Option Ix} (g : gPl vs is x i) : Sh (.pl x i) := .mk trivial fun k hk => by
  simp [Nd.kids] at hk
  rcases hk with rfl | rfl
  · obtain ⟨v, hm, rfl⟩ := pl_mem g
    exact sh_name (hv v hm)
  · exact sh_sub h g
theorem num_len0 {i : Nat} (h : i < 10 ^ 20) : (Str.ofString (toString (i : Int))).length ≤ 20 := by
  rw [Str.ofString_eq_toList]
  show (Array.size _) ≤ 20
  rw [List.size_toArray, List.length_map, show (toString (i : Int)) = i.repr from rfl, Nat.toList_repr]
  exact (Nat.length_toDigits_le_iff (by decide) (by decide)).mpr h
theorem lvl_len {z : Str} {n : Nat} (hz : z.length ≤ 100) (hn : n ≤ 1000000) : (lvl z n).length ≤ lim := by
  have := num_len0 (i := n) (by omega)
  unfold lvl
  rw [cat_len]
  unfold lim
  omega
theorem sh_body {b : List St} (h : ∀ s ∈ b, Sh (.st s)) : Sh (.body b) := .mk trivial fun k hk => by
  simp [Nd.kids] at hk
  obtain ⟨s, hs, rfl⟩ := hk
  exact h s hs
theorem GS.sh {s : St} (g : GS kn vs is s) : vs.length + is.length + dpS s ≤ 1000 → (∀ v ∈ vs, v.1.length ≤ lim) → (∀ x ∈ is, x.length ≤ lim) → (∀ r ∈ kn, r.name.length ≤ lim) → Sh (.st s) := by
  induction g with
  | set a b c =>
    intro _ hv hi _
    refine .mk trivial fun k hk => ?_
    simp [Nd.kids, kidsSt] at hk
    rcases hk with rfl | rfl
    · exact sh_pl (fun v hm => hv v (List.mem_filter.mp hm).1) hi a
    · exact sh_ex hv hi _ b
  | call a =>
    intro _ hv hi hk0
    obtain ⟨r, hr, rfl, h1, h2, h3, h4, h5, h6, _⟩ := a
    refine .mk trivial fun k hk => ?_
    simp [Nd.kids, kidsSt] at hk
    rcases hk with rfl | rfl | rfl
    · exact sh_name (hk0 r hr)
    · refine .mk (by simp only [Nd.sh]) fun k hk => ?_
      simp [Nd.kids] at hk
      obtain ⟨x, hx, rfl⟩ := hk
      exact sh_ix hi x (h5 x hx)
    · refine .mk (by simp only [Nd.sh]; omega) fun k hk => ?_
      simp [Nd.kids] at hk
      obtain ⟨x, hx, rfl⟩ := hk
      obtain ⟨l, hl⟩ := List.getElem?_of_mem hx
      have hl2 := (List.getElem?_eq_some_iff.mp hl).1
      have := h6 l x _ hl (List.getElem?_eq_getElem (by omega))
      exact sh_name (hv _ this)
  | @loop vs is x c bb a b _ ih =>
    intro hd hv hi hk0
    simp only [dpS] at hd
    subst a
    have hx := lvl_len (z := "i") (n := vs.length + is.length) (by decide +kernel) (by omega)
    refine .mk trivial fun k hk => ?_
    simp [Nd.kids, kidsSt] at hk
    rcases hk with rfl | rfl | rfl
    · exact sh_name hx
    · exact sh_ix hi _ b
    · refine sh_body fun s hs => ih s hs ?_ hv (fun x hx2 => ?_) hk0
      · have := dp_mem hs
        simp
        omega
      · rcases List.mem_append.mp hx2 with hx2 | hx2
        · exact hi x hx2
        · rw [List.mem_singleton.mp hx2]; exact hx
  | ite a _ _ ih1 ih2 =>
    intro hd hv hi hk0
    simp only [dpS] at hd
    refine .mk trivial fun k hk => ?_
    simp [Nd.kids, kidsSt] at hk
    rcases hk with rfl | rfl | rfl
    · exact sh_ts hv hi _ a
    · exact sh_body fun s hs => ih1 s hs (by have := dp_mem hs; omega) hv hi hk0
    · exact sh_body fun s hs => ih2 s hs (by have := dp_mem hs; omega) hv hi hk0
  | @bind vs is x e bb a b c _ ih =>
    intro hd hv hi hk0
    simp only [dpS] at hd
    subst a
    have hx := lvl_len (z := "l") (n := vs.length + is.length) (by decide +kernel) (by omega)
    refine .mk trivial fun k hk => ?_
    simp [Nd.kids, kidsSt] at hk
    rcases hk with rfl | rfl | rfl
    · exact sh_name hx
    · exact sh_ex hv hi _ b
    · refine sh_body fun s hs => ih s hs ?_ (fun v hv2 => ?_) hi hk0
      · have := dp_mem hs
        simp
        omega
      · rcases List.mem_append.mp hv2 with hv2 | hv2
        · exact hv v hv2
        · rw [List.mem_singleton.mp hv2]; exact hx
end
theorem GT.sh0 {t : Tree} (h : GT t) : Sh (.tree t) ∧ (Nd.tree t).wt ≤ 112200 ∧ (∀ q ∈ bods t, dpB q.2.2 ≤ 3) ∧ (∀ q ∈ bods t, q.2.1.length ≤ 10 ∧ wtSts q.2.2 ≤ 70000) := by
  obtain ⟨hs1, s, hs2, hs3, hs4⟩ := h.state
  have hsm : ∀ d ∈ t.state, d.1.length ≤ lim := fun d hd => by
    have := hs4.subset hd
    simp at this
    rcases this with rfl | rfl | rfl | rfl <;> (dsimp only; decide +kernel)
  have hpm : ∀ d ∈ t.params, d.1.length ≤ lim := fun d hd => by
    have := h.params.subset hd
    simp at this
    rcases this with rfl | rfl <;> (dsimp only; decide +kernel)
  have hsl : t.state.length ≤ 4 := by simpa using hs4.length_le
  have hpl : t.params.length ≤ 2 := by simpa using h.params.length_le
  have hds : ∀ ds : List Decl, ds.length ≤ 1000 → (∀ d ∈ ds, d.1.length ≤ lim) → Sh (.decls ds) := fun ds hl hd => .mk hl fun k hk => by
    simp only [Nd.kids, List.mem_map] at hk
    obtain ⟨d, hm, rfl⟩ := hk
    refine .mk trivial fun k hk => ?_
    simp [Nd.kids] at hk
    rcases hk with rfl | rfl
    · exact sh_name (hd d hm)
    · exact sh_leafN trivial rfl
  have hvs : ∀ ds : List Decl, (∀ d ∈ ds, d.1.length ≤ lim) → ∀ v ∈ vsOf ds t.params, v.1.length ≤ lim := fun ds hd v hv => by
    rcases List.mem_append.mp hv with hv | hv
    · obtain ⟨d, hm, rfl⟩ := List.mem_map.mp hv; exact hd d hm
    · obtain ⟨d, hm, rfl⟩ := List.mem_map.mp hv; exact hpm d hm
  have hprocs : ∀ p ∈ t.procs, ∃ i, t.procs[i]? = some p ∧ i < 2 ∧ GP t.procs t.params i p := fun p hp => by
    obtain ⟨i, hi⟩ := List.getElem?_of_mem hp
    have := (List.getElem?_eq_some_iff.mp hi).1
    have := h.few
    exact ⟨i, hi, by omega, h.procs i p hi⟩
  have hpn : ∀ p ∈ t.procs, p.name.length ≤ lim := fun p hp => by
    obtain ⟨i, _, hi, g⟩ := hprocs p hp
    rw [g.name]
    exact lvl_len (by decide +kernel) (by omega)
  have hkn : ∀ kn, KnOk t.procs kn → ∀ r ∈ kn, r.name.length ≤ lim := fun kn hk r hr => by
    obtain ⟨p, hp, e, _⟩ := hk r hr
    rw [e]
    exact hpn p hp
  have hrf : ∀ p ∈ t.procs, p.refs.length ≤ 2 ∧ (∀ d ∈ p.refs, d.1.length ≤ lim) ∧ p.idxs.length ≤ 2 ∧ ∀ x ∈ p.idxs, x.length ≤ lim := fun p hp => by
    obtain ⟨i, _, hi, g⟩ := hprocs p hp
    obtain ⟨_, z, _, hz⟩ := g.refs
    obtain ⟨c, hc, hi2⟩ := g.idxs
    refine ⟨by simpa using hz.length_le, fun d hd => ?_, by rw [hi2]; simpa using hc, fun x hx => ?_⟩
    · have := hz.subset hd
      simp at this
      rcases this with rfl | rfl <;> (dsimp only; decide +kernel)
    · rw [hi2] at hx
      obtain ⟨j, hj, rfl⟩ := List.mem_map.mp hx
      have := List.mem_range.mp hj
      exact lvl_len (by decide +kernel) (by omega)
  have hvl : ∀ ds : List Decl, (vsOf ds t.params).length = ds.length + t.params.length := fun ds => by simp [vsOf]
  refine ⟨?_, ?_, ?_, ?_⟩
  · refine .mk trivial fun k hk => ?_
    simp [Nd.kids] at hk
    rcases hk with rfl | rfl | rfl | rfl
    · exact hds _ (by omega) hsm
    · exact hds _ (by omega) hpm
    · refine .mk (by have := h.few; simp only [Nd.sh]; omega) fun k hk => ?_
      simp [Nd.kids] at hk
      obtain ⟨p, hp, rfl⟩ := hk
      obtain ⟨r1, r2, r3, r4⟩ := hrf p hp
      obtain ⟨i, _, hi, g⟩ := hprocs p hp
      refine .mk trivial fun k hk => ?_
      simp [Nd.kids] at hk
      rcases hk with rfl | rfl | rfl | rfl
      · exact sh_name (hpn p hp)
      · refine .mk (by simp only [Nd.sh]; omega) fun k hk => ?_
        simp [Nd.kids] at hk
        obtain ⟨x, hx, rfl⟩ := hk
        exact sh_name (r4 x hx)
      · exact hds _ (by omega) r2
      · obtain ⟨kn, hk, hb⟩ := g.body
        refine sh_body fun s hs => (hb s hs).sh ?_ (hvs _ r2) r4 (hkn kn hk)
        have := dp_mem hs
        have := g.dp
        rw [hvl]
        omega
    · obtain ⟨kn, hk, hb⟩ := h.body
      refine sh_body fun s hs => (hb s hs).sh ?_ (hvs _ hsm) (fun _ h => by cases h) (hkn kn hk)
      have := dp_mem hs
      have := h.dp
      rw [hvl, List.length_nil]
      omega
  · have hpw : ∀ p ∈ t.procs, wtProc p ≤ 21000 := fun p hp => by
      obtain ⟨i, _, hi, g⟩ := hprocs p hp
      obtain ⟨r1, r2, r3, r4⟩ := hrf p hp
      have := g.wt
      unfold wtProc
      omega
    have h1 : (t.procs.map wtProc).sum ≤ 42000 := by
      have hf := h.few
      cases e : t.procs with
      | nil => simp
      | cons a l =>
        rw [e] at hpw hf
        cases l with
        | nil => have := hpw a (by simp); simp; omega
        | cons b l =>
          cases l with
          | nil => have := hpw a (by simp); have := hpw b (by simp); simp; omega
          | cons c l => simp at hf
    have := h.wt
    simp only [Nd.wt]
    omega
  · intro q hq
    unfold bods at hq
    rcases List.mem_append.mp hq with hq | hq
    · obtain ⟨p, hp, rfl⟩ := List.mem_map.mp hq
      obtain ⟨i, _, hi, g⟩ := hprocs p hp
      exact g.dp
    · simp at hq; subst hq; exact h.dp
  · intro q hq
    unfold bods at hq
    rcases List.mem_append.mp hq with hq | hq
    · obtain ⟨p, hp, rfl⟩ := List.mem_map.mp hq
      obtain ⟨r1, r2, r3, r4⟩ := hrf p hp
      obtain ⟨i, _, hi, g⟩ := hprocs p hp
      have := g.wt
      dsimp only
      rw [List.length_append]
      omega
    · simp at hq
      subst hq
      have := h.wt
      dsimp only
      rw [List.length_append]
      omega
end Pt

/-! ## The names' signs -/
namespace Pt
open PySem Ev ET PyProof.Rows
def Nd.sk : Nd → Prop
  | .name s => PyData.strOk s = true
  | _ => True
inductive Sk : Nd → Prop where
  | mk {n : Nd} : n.sk → (∀ k ∈ n.kids, Sk k) → Sk n
theorem Sk.top {n : Nd} : Sk n → n.sk
  | .mk h _ => h
theorem Sk.kids {n : Nd} : Sk n → ∀ k ∈ n.kids, Sk k
  | .mk _ h => h
theorem ok_cat {a b : Str} (ha : PyData.strOk a = true) (hb : PyData.strOk b = true) : PyData.strOk (a ++ b) = true := by
  unfold PyData.strOk at *
  show (a.cps ++ b.cps).all _ = true
  rw [Array.all_append, ha, hb]
  rfl
theorem ok_str (s : String) : PyData.strOk (Str.ofString s) = true := by
  rw [Str.ofString_eq_toList]
  unfold PyData.strOk
  rw [List.all_toArray, List.all_map, List.all_eq_true]
  intro c _
  have := c.valid
  simp only [Function.comp_def, decide_eq_true_eq]
  rcases this with h | h
  · exact Nat.lt_trans h (by decide)
  · exact h.2
theorem lvl_ok {z : Str} {n : Nat} (h : PyData.strOk z = true) : PyData.strOk (lvl z n) = true := ok_cat h (ok_str _)
theorem sk_leafN {n : Nd} (h : n.sk) (hk : n.kids = []) : Sk n := .mk h fun k h => by rw [hk] at h; cases h
theorem sk_name {x : Str} (h : PyData.strOk x = true) : Sk (.name x) := sk_leafN h rfl
theorem sk_ixR {is : List Str} (h : ∀ x ∈ is, PyData.strOk x = true) : ∀ i, gIxR is i → Sk (.ix i)
  | .int n, _ => .mk trivial fun k hk => by simp [Nd.kids, kidsIx] at hk; subst hk; exact sk_leafN trivial rfl
  | .beat, _ => .mk trivial fun k hk => by simp [Nd.kids, kidsIx] at hk
  | .var x, g => .mk trivial fun k hk => by simp [Nd.kids, kidsIx] at hk; subst hk; exact sk_name (h x g)
  | .rem a n, g => .mk trivial fun k hk => by
    simp [Nd.kids, kidsIx] at hk
    rcases hk with rfl | rfl
    · exact sk_ixR h a g
    · exact sk_leafN trivial rfl
  | .op o a b, g => .mk trivial fun k hk => by
    simp [Nd.kids, kidsIx] at hk
    rcases hk with rfl | rfl
    · exact sk_ixR h a g.1
    · exact sk_ixR h b g.2
theorem sk_ix {is : List Str} (h : ∀ x ∈ is, PyData.strOk x = true) (i : Ix) (g : gIx is i) : Sk (.ix i) := sk_ixR h i g.1
theorem sk_sub {is : List Str} {vs : List Vr} (h : ∀ x ∈ is, PyData.strOk x = true) {x : Str} : ∀ {i : Option Ix}, gPl vs is x i → Sk (.sub i)
  | none, _ => .mk trivial fun k hk => by simp [Nd.kids] at hk
  | some i, g => .mk trivial fun k hk => by simp [Nd.kids] at hk; subst hk; exact sk_ix h i g.1
section
variable {kn : List Kn} {vs : List Vr} {is : List Str}
theorem sk_ex (hv : ∀ v ∈ vs, PyData.strOk v.1 = true) (h : ∀ x ∈ is, PyData.strOk x = true) : ∀ e, gEx vs is e → Sk (.ex e)
  | .num n, _ => .mk trivial fun k hk => by simp [Nd.kids, kidsEx] at hk; subst hk; exact sk_leafN trivial rfl
  | .place x i, g => .mk trivial fun k hk => by
    simp [Nd.kids, kidsEx] at hk
    rcases hk with rfl | rfl
    · obtain ⟨v, hm, rfl⟩ := pl_mem g
      exact sk_name (hv v hm)
    · exact sk_sub h g
  | .op o a b, g => .mk trivial fun k hk => by
    simp [Nd.kids, kidsEx] at hk
    rcases hk with rfl | rfl
    · exact sk_ex hv h a g.1
    · exact sk_ex hv h b g.2
theorem sk_ts (hv : ∀ v ∈ vs, PyData.strOk v.1 = true) (h : ∀ x ∈ is, PyData.strOk x = true) : ∀ t, gTs vs is t → Sk (.ts t)
  | .zero e, g => .mk trivial fun k hk => by simp [Nd.kids, kidsTs] at hk; subst hk; exact sk_ex hv h e g.1
  | .not t, g => .mk trivial fun k hk => by simp [Nd.kids, kidsTs] at hk; subst hk; exact sk_ts hv h t g.1
  | .less a b, g => .mk trivial fun k hk => by
    simp [Nd.kids, kidsTs] at hk
    rcases hk with rfl | rfl
    · exact sk_ix h a g.1
    · exact sk_ix h b g.2
  | .equal a b, g => .mk trivial fun k hk => by
    simp [Nd.kids, kidsTs] at hk
    rcases hk with rfl | rfl
    · exact sk_ix h a g.1
    · exact sk_ix h b g.2
theorem sk_pl (hv : ∀ v ∈ vs, PyData.strOk v.1 = true) (h : ∀ x ∈ is, PyData.strOk x = true) {x : Str} {i : Option Ix} (g : gPl vs is x i) : Sk (.pl x i) := .mk trivial fun k hk => by
  simp [Nd.kids] at hk
  rcases hk with rfl | rfl
  · obtain ⟨v, hm, rfl⟩ := pl_mem g
    exact sk_name (hv v hm)
  · exact sk_sub h g
theorem sk_body {b : List St} (h : ∀ s ∈ b, Sk (.st s)) : Sk (.body b) := .mk trivial fun k hk => by
  simp [Nd.kids] at hk
  obtain ⟨s, hs, rfl⟩ := hk
  exact h s hs
theorem GS.sk {s : St} (g : GS kn vs is s) : vs.length + is.length + dpS s ≤ 1000 → (∀ v ∈ vs, PyData.strOk v.1 = true) → (∀ x ∈ is, PyData.strOk x = true) → (∀ r ∈ kn, PyData.strOk r.name = true) → Sk (.st s) := by
  induction g with
  | set a b c =>
    intro _ hv hi _
    refine .mk trivial fun k hk => ?_
    simp [Nd.kids, kidsSt] at hk
    rcases hk with rfl | rfl
    · exact sk_pl (fun v hm => hv v (List.mem_filter.mp hm).1) hi a
    · exact sk_ex hv hi _ b
  | call a =>
    intro _ hv hi hk0
    obtain ⟨r, hr, rfl, h1, h2, h3, h4, h5, h6, _⟩ := a
    refine .mk trivial fun k hk => ?_
    simp [Nd.kids, kidsSt] at hk
    rcases hk with rfl | rfl | rfl
    · exact sk_name (hk0 r hr)
    · refine .mk trivial fun k hk => ?_
      simp [Nd.kids] at hk
      obtain ⟨x, hx, rfl⟩ := hk
      exact sk_ix hi x (h5 x hx)
    · refine .mk trivial fun k hk => ?_
      simp [Nd.kids] at hk
      obtain ⟨x, hx, rfl⟩ := hk
      obtain ⟨l, hl⟩ := List.getElem?_of_mem hx
      have hl2 := (List.getElem?_eq_some_iff.mp hl).1
      have := h6 l x _ hl (List.getElem?_eq_getElem (by omega))
      exact sk_name (hv _ this)
  | @loop vs is x c bb a b _ ih =>
    intro hd hv hi hk0
    simp only [dpS] at hd
    subst a
    have hx := lvl_ok (z := "i") (n := vs.length + is.length) (by decide +kernel)
    refine .mk trivial fun k hk => ?_
    simp [Nd.kids, kidsSt] at hk
    rcases hk with rfl | rfl | rfl
    · exact sk_name hx
    · exact sk_ix hi _ b
    · refine sk_body fun s hs => ih s hs ?_ hv (fun x hx2 => ?_) hk0
      · have := dp_mem hs
        simp
        omega
      · rcases List.mem_append.mp hx2 with hx2 | hx2
        · exact hi x hx2
        · rw [List.mem_singleton.mp hx2]; exact hx
  | ite a _ _ ih1 ih2 =>
    intro hd hv hi hk0
    simp only [dpS] at hd
    refine .mk trivial fun k hk => ?_
    simp [Nd.kids, kidsSt] at hk
    rcases hk with rfl | rfl | rfl
    · exact sk_ts hv hi _ a
    · exact sk_body fun s hs => ih1 s hs (by have := dp_mem hs; omega) hv hi hk0
    · exact sk_body fun s hs => ih2 s hs (by have := dp_mem hs; omega) hv hi hk0
  | @bind vs is x e bb a b c _ ih =>
    intro hd hv hi hk0
    simp only [dpS] at hd
    subst a
    have hx := lvl_ok (z := "l") (n := vs.length + is.length) (by decide +kernel)
    refine .mk trivial fun k hk => ?_
    simp [Nd.kids, kidsSt] at hk
    rcases hk with rfl | rfl | rfl
    · exact sk_name hx
    · exact sk_ex hv hi _ b
    · refine sk_body fun s hs => ih s hs ?_ (fun v hv2 => ?_) hi hk0
      · have := dp_mem hs
        simp
        omega
      · rcases List.mem_append.mp hv2 with hv2 | hv2
        · exact hv v hv2
        · rw [List.mem_singleton.mp hv2]; exact hx
end
theorem GT.sk {t : Tree} (h : GT t) : Sk (.tree t) := by
  obtain ⟨hs1, s, hs2, hs3, hs4⟩ := h.state
  have hsm : ∀ d ∈ t.state, PyData.strOk d.1 = true := fun d hd => by
    have := hs4.subset hd
    simp at this
    rcases this with rfl | rfl | rfl | rfl <;> (dsimp only; decide +kernel)
  have hpm : ∀ d ∈ t.params, PyData.strOk d.1 = true := fun d hd => by
    have := h.params.subset hd
    simp at this
    rcases this with rfl | rfl <;> (dsimp only; decide +kernel)
  have hsl : t.state.length ≤ 4 := by simpa using hs4.length_le
  have hpl : t.params.length ≤ 2 := by simpa using h.params.length_le
  have hds : ∀ ds : List Decl, (∀ d ∈ ds, PyData.strOk d.1 = true) → Sk (.decls ds) := fun ds hd => .mk trivial fun k hk => by
    simp only [Nd.kids, List.mem_map] at hk
    obtain ⟨d, hm, rfl⟩ := hk
    refine .mk trivial fun k hk => ?_
    simp [Nd.kids] at hk
    rcases hk with rfl | rfl
    · exact sk_name (hd d hm)
    · exact sk_leafN trivial rfl
  have hvs : ∀ ds : List Decl, (∀ d ∈ ds, PyData.strOk d.1 = true) → ∀ v ∈ vsOf ds t.params, PyData.strOk v.1 = true := fun ds hd v hv => by
    rcases List.mem_append.mp hv with hv | hv
    · obtain ⟨d, hm, rfl⟩ := List.mem_map.mp hv; exact hd d hm
    · obtain ⟨d, hm, rfl⟩ := List.mem_map.mp hv; exact hpm d hm
  have hprocs : ∀ p ∈ t.procs, ∃ i, t.procs[i]? = some p ∧ i < 2 ∧ GP t.procs t.params i p := fun p hp => by
    obtain ⟨i, hi⟩ := List.getElem?_of_mem hp
    have := (List.getElem?_eq_some_iff.mp hi).1
    have := h.few
    exact ⟨i, hi, by omega, h.procs i p hi⟩
  have hpn : ∀ p ∈ t.procs, PyData.strOk p.name = true := fun p hp => by
    obtain ⟨i, _, hi, g⟩ := hprocs p hp
    rw [g.name]
    exact lvl_ok (by decide +kernel)
  have hkn : ∀ kn, KnOk t.procs kn → ∀ r ∈ kn, PyData.strOk r.name = true := fun kn hk r hr => by
    obtain ⟨p, hp, e, _⟩ := hk r hr
    rw [e]
    exact hpn p hp
  have hrf : ∀ p ∈ t.procs, p.refs.length ≤ 2 ∧ (∀ d ∈ p.refs, PyData.strOk d.1 = true) ∧ p.idxs.length ≤ 2 ∧ ∀ x ∈ p.idxs, PyData.strOk x = true := fun p hp => by
    obtain ⟨i, _, hi, g⟩ := hprocs p hp
    obtain ⟨_, z, _, hz⟩ := g.refs
    obtain ⟨c, hc, hi2⟩ := g.idxs
    refine ⟨by simpa using hz.length_le, fun d hd => ?_, by rw [hi2]; simpa using hc, fun x hx => ?_⟩
    · have := hz.subset hd
      simp at this
      rcases this with rfl | rfl <;> (dsimp only; decide +kernel)
    · rw [hi2] at hx
      obtain ⟨j, hj, rfl⟩ := List.mem_map.mp hx
      exact lvl_ok (by decide +kernel)
  have hvl : ∀ ds : List Decl, (vsOf ds t.params).length = ds.length + t.params.length := fun ds => by simp [vsOf]
  refine .mk trivial fun k hk => ?_
  simp [Nd.kids] at hk
  rcases hk with rfl | rfl | rfl | rfl
  · exact hds _ hsm
  · exact hds _ hpm
  · refine .mk trivial fun k hk => ?_
    simp [Nd.kids] at hk
    obtain ⟨p, hp, rfl⟩ := hk
    obtain ⟨r1, r2, r3, r4⟩ := hrf p hp
    obtain ⟨i, _, hi, g⟩ := hprocs p hp
    refine .mk trivial fun k hk => ?_
    simp [Nd.kids] at hk
    rcases hk with rfl | rfl | rfl | rfl
    · exact sk_name (hpn p hp)
    · refine .mk trivial fun k hk => ?_
      simp [Nd.kids] at hk
      obtain ⟨x, hx, rfl⟩ := hk
      exact sk_name (r4 x hx)
    · exact hds _ r2
    · obtain ⟨kn, hk, hb⟩ := g.body
      refine sk_body fun s hs => (hb s hs).sk ?_ (hvs _ r2) r4 (hkn kn hk)
      have := dp_mem hs
      have := g.dp
      rw [hvl]
      omega
  · obtain ⟨kn, hk, hb⟩ := h.body
    refine sk_body fun s hs => (hb s hs).sk ?_ (hvs _ hsm) (fun _ h => by cases h) (hkn kn hk)
    have := dp_mem hs
    have := h.dp
    rw [hvl, List.length_nil]
    omega
end Pt

/-! ## Data -/
namespace Pt
open PySem Ev ET PyProof.Rows
mutual
/-- plain data: tuples not too long, texts of signs -/
def daW : W → Bool
  | .non => true
  | .bl _ => true
  | .int _ => true
  | .str s => PyData.strOk s
  | .tup ws => decide (ws.length ≤ 1000000) && daWs ws
  | _ => false
def daWs : List W → Bool
  | [] => true
  | w :: r => daW w && daWs r
end
mutual
def dpW : W → Nat
  | .tup ws => dpWs ws + 1
  | _ => 0
def dpWs : List W → Nat
  | [] => 0
  | w :: r => max (dpW w) (dpWs r)
end
mutual
def toD : W → PyData
  | .bl b => .bool b
  | .int i => .int i
  | .str s => .str s
  | .tup ws => .tuple (toDs ws)
  | _ => .none
def toDs : List W → List PyData
  | [] => []
  | w :: r => toD w :: toDs r
end
mutual
theorem dat_n : ∀ {w : W} {n : Nat} {S : Sto}, daW w = true → dpW w < n → datN n S w = some (toD w)
  | .non, n + 1, S, _, _ => by simp [datN, toD]
  | .bl _, n + 1, S, _, _ => by simp [datN, toD]
  | .int _, n + 1, S, _, _ => by simp [datN, toD]
  | .str _, n + 1, S, _, _ => by simp [datN, toD]
  | .tup ws, n + 1, S, h, hd => by
    simp only [daW, Bool.and_eq_true] at h
    simp only [dpW] at hd
    have := dat_ns (ws := ws) (n := n) (S := S) h.2 (by omega)
    simp only [datN, this, Option.map_some, toD]
  | .ref _, _, _, h, _ => by simp [daW] at h
  | .glo _, _, _, h, _ => by simp [daW] at h
  | .ty _, _, _, h, _ => by simp [daW] at h
  | .fzl _, _, _, h, _ => by simp [daW] at h
theorem dat_ns : ∀ {ws : List W} {n : Nat} {S : Sto}, daWs ws = true → dpWs ws < n → ws.mapM (datN n S) = some (toDs ws)
  | [], n, S, _, _ => by simp [toDs]
  | w :: r, n, S, h, hd => by
    simp only [daWs, Bool.and_eq_true] at h
    simp only [dpWs] at hd
    have h1 := dat_n (w := w) (n := n) (S := S) h.1 (by omega)
    have h2 := dat_ns (ws := r) (n := n) (S := S) h.2 (by omega)
    rw [List.mapM_cons, h1, h2]
    simp [toDs]
end
mutual
theorem lay_D : ∀ {w : W}, daW w = true → (toD w).canLay0 = true ∧ (toD w).depth = dpW w
  | .non, _ => by simp [toD, PyData.canLay0, PyData.depth, dpW]
  | .bl _, _ => by simp [toD, PyData.canLay0, PyData.depth, dpW]
  | .int _, _ => by simp [toD, PyData.canLay0, PyData.depth, dpW]
  | .str s, h => by simp only [daW] at h; simp [toD, PyData.canLay0, PyData.depth, dpW, h]
  | .tup ws, h => by
    simp only [daW, Bool.and_eq_true] at h
    have := lay_Ds (ws := ws) h.2
    simp [toD, PyData.canLay0, PyData.depth, dpW, this]
  | .ref _, h => by simp [daW] at h
  | .glo _, h => by simp [daW] at h
  | .ty _, h => by simp [daW] at h
  | .fzl _, h => by simp [daW] at h
theorem lay_Ds : ∀ {ws : List W}, daWs ws = true → PyData.canLayAll0 (toDs ws) = true ∧ PyData.depthAll (toDs ws) = dpWs ws
  | [], _ => by simp [toDs, PyData.canLayAll0, PyData.depthAll, dpWs]
  | w :: r, h => by
    simp only [daWs, Bool.and_eq_true] at h
    have h1 := lay_D (w := w) h.1
    have h2 := lay_Ds (ws := r) h.2
    simp [toDs, PyData.canLayAll0, PyData.depthAll, dpWs, h1, h2]
end
theorem dat_pl {w : W} {S : Sto} (h : daW w = true) (hd : dpW w ≤ 64) : dat S w = some (toD w) := by
  unfold dat
  rw [dat_n h (by omega)]
  dsimp only
  obtain ⟨h1, h2⟩ := lay_D h
  rw [if_pos]
  unfold SeqAt.shaped
  rw [h1, h2, Bool.true_and, decide_eq_true_eq]
  exact hd
theorem daWs_mem : ∀ {ws : List W} {w : W}, daWs ws = true → w ∈ ws → daW w = true
  | x :: r, w, h, hm => by
    simp only [daWs, Bool.and_eq_true] at h
    rcases List.mem_cons.mp hm with rfl | hm
    · exact h.1
    · exact daWs_mem h.2 hm
theorem dpWs_mem : ∀ {ws : List W} {w : W}, w ∈ ws → dpW w ≤ dpWs ws
  | x :: r, w, hm => by
    simp only [dpWs]
    rcases List.mem_cons.mp hm with rfl | hm
    · omega
    · have := dpWs_mem hm; omega
end Pt

/-! ## repr of data -/
namespace Pt
open PySem Ev ET PyProof.Rows
mutual
/-- leaves that are shown in few signs -/
def lfW : W → Bool
  | .non => true
  | .bl _ => true
  | .int i => decide (i.natAbs < 10 ^ 12)
  | .str s => PyData.strOk s
  | .tup ws => lfWs ws
  | _ => false
def lfWs : List W → Bool
  | [] => true
  | w :: r => lfW w && lfWs r
end
mutual
/-- how long it is shown, at most -/
def lnW : W → Nat
  | .non => 4
  | .bl _ => 5
  | .int _ => 13
  | .str s => 10 * s.length + 2
  | .tup ws => lnWs ws + 3
  | _ => 0
def lnWs : List W → Nat
  | [] => 0
  | w :: r => lnW w + 2 + lnWs r
end
theorem log_small {i : Int} (h : i.natAbs < 10 ^ 12) : i.natAbs.log2 < 1920 := by
  by_cases c : i.natAbs = 0
  · rw [c]; decide
  · have := (Nat.log2_lt c (k := 41)).mpr (Nat.lt_of_lt_of_le h (by decide))
    omega
mutual
theorem shown_le : ∀ {w : W}, lfW w = true → (toD w).showable = true ∧ (toD w).shown.length ≤ lnW w
  | .non, _ => ⟨rfl, by simp only [toD, lnW]; decide +kernel⟩
  | .bl b, _ => ⟨rfl, by cases b <;> (simp only [toD, lnW]; decide +kernel)⟩
  | .int i, h => by
    simp only [lfW, decide_eq_true_eq] at h
    refine ⟨?_, ?_⟩
    · simp only [toD]
      show decide (i.natAbs.log2 < 1920) = true
      exact decide_eq_true (log_small h)
    · simp only [toD, lnW]
      exact PyData.shown_int_le h
  | .str s, h => by
    simp only [lfW] at h
    refine ⟨rfl, ?_⟩
    simp only [toD, lnW, PyData.shown]
    refine StrLaws.reprText_len s fun c m => ?_
    unfold PyData.strOk at h
    rw [Array.all_eq_true'] at h
    have := h c (Array.mem_toList_iff.mp m)
    simp only [decide_eq_true_eq] at this
    exact Nat.lt_trans this (by decide)
  | .tup ws, h => by
    simp only [lfW] at h
    obtain ⟨h1, h2⟩ := shown_les h
    refine ⟨by simp only [toD]; exact h1, ?_⟩
    simp only [toD, lnW, PyData.shown]
    have := tupleText_len_le (PyData.shownAll (toDs ws))
    omega
  | .ref _, h => by simp [lfW] at h
  | .glo _, h => by simp [lfW] at h
  | .ty _, h => by simp [lfW] at h
  | .fzl _, h => by simp [lfW] at h
theorem shown_les : ∀ {ws : List W}, lfWs ws = true → PyData.showableAll (toDs ws) = true ∧ ((PyData.shownAll (toDs ws)).map (·.length)).sum + 2 * (PyData.shownAll (toDs ws)).length ≤ lnWs ws
  | [], _ => ⟨by simp only [toDs]; rfl, by simp only [toDs, PyData.shownAll, lnWs]; decide⟩
  | w :: r, h => by
    simp only [lfWs, Bool.and_eq_true] at h
    obtain ⟨h1, h2⟩ := shown_le (w := w) h.1
    obtain ⟨h3, h4⟩ := shown_les (ws := r) h.2
    refine ⟨?_, ?_⟩
    · simp only [toDs]
      show ((toD w).showable && PyData.showableAll (toDs r)) = true
      rw [h1, h3]
      rfl
    · simp only [toDs, PyData.shownAll, lnWs, List.map_cons, List.sum_cons, List.length_cons]
      omega
end
/-- repr of data that is not too long -/
theorem e_repr {w : W} {S : Sto} (hs : isSeqW w = true) (hd : daW w = true) (hp : dpW w ≤ 64) (hl : lfW w = true) (hn : lnW w ≤ 10000000) : reprW w S = .ok (.str (toD w).shown) S := by
  obtain ⟨h1, h2⟩ := shown_le hl
  unfold reprW
  rw [if_pos hs, dat_pl hd hp]
  dsimp only
  rw [if_pos]
  rw [h1, Bool.true_and, decide_eq_true_eq]
  unfold lim
  omega
/-- data equal to itself -/
theorem e_ne {w : W} {S : Sto} (hs : isSeqW w = true) (hd : daW w = true) (hp : dpW w ≤ 64) : neO w w S = .ok (.bl false) S := by
  have h := dat_pl (S := S) hd hp
  have e : eqW w w S = .ok true S := by
    cases w <;> first | exact (Bool.false_ne_true hs).elim | skip
    · unfold eqW
      simp only [h]
      rw [SeqAt.eqv_refl _ (lay_D hd).1]
    · simp [daW] at hd
  unfold neO bd
  rw [e]
  rfl
theorem e_eq {w : W} {S : Sto} (hs : isSeqW w = true) (hd : daW w = true) (hp : dpW w ≤ 64) : eqO w w S = .ok (.bl true) S := by
  have h := dat_pl (S := S) hd hp
  have e : eqW w w S = .ok true S := by
    cases w <;> first | exact (Bool.false_ne_true hs).elim | skip
    · unfold eqW
      simp only [h]
      rw [SeqAt.eqv_refl _ (lay_D hd).1]
    · simp [daW] at hd
  unfold eqO bd
  rw [e]
  rfl
/-! ### lists of declarations -/
structure DsOk (ds : List Decl) : Prop where
  nm : ∀ d ∈ ds, PyData.strOk d.1 = true ∧ d.1.length ≤ 8 ∧ d.2.natAbs < 10 ^ 12
  len : ds.length ≤ 4000
theorem ds_w : ∀ {ds : List Decl}, (∀ d ∈ ds, PyData.strOk d.1 = true ∧ d.1.length ≤ 8 ∧ d.2.natAbs < 10 ^ 12) → daWs (ds.map wDecl) = true ∧ dpWs (ds.map wDecl) ≤ 1 ∧ lfWs (ds.map wDecl) = true ∧ lnWs (ds.map wDecl) ≤ 104 * ds.length
  | [], _ => ⟨rfl, by simp [dpWs], rfl, by simp [lnWs]⟩
  | d :: ds, h => by
    obtain ⟨h1, h2, h3⟩ := h d (by simp)
    obtain ⟨a, b, c, e⟩ := ds_w (ds := ds) fun d hd => h d (by simp [hd])
    refine ⟨?_, ?_, ?_, ?_⟩
    · simp [daWs, wDecl, daW, h1, a]
    · simp [dpWs, wDecl, dpW]
      omega
    · simp [lfWs, wDecl, lfW, h1, c]
      omega
    · simp [lnWs, wDecl, lnW]
      omega
theorem DsOk.tup {ds : List Decl} (h : DsOk ds) : daW (.tup (ds.map wDecl)) = true ∧ dpW (.tup (ds.map wDecl)) ≤ 64 ∧ lfW (.tup (ds.map wDecl)) = true ∧ lnW (.tup (ds.map wDecl)) ≤ 10000000 := by
  obtain ⟨a, b, c, e⟩ := ds_w h.nm
  have := h.len
  refine ⟨?_, ?_, ?_, ?_⟩
  · simp [daW, a]
    omega
  · simp only [dpW]; omega
  · simp only [lfW]; exact c
  · simp only [lnW]; omega
end Pt

/-! ## layout, the law's own layout, its scopes -/
namespace Pt
open PySem Ev ET PyProof.Rows
/-- the cells that a declaration takes -/
def cz (d : Decl) : Int := if d.2 > 1 then d.2 else 1
def layL : List Decl → Int → List W
  | [], _ => []
  | d :: r, f => .tup [.str d.1, .int f, .int d.2] :: layL r (f + cz d)
theorem cells_cz (l : List Decl) : cellsI l = (l.map cz).sum := rfl
theorem layL_len : ∀ (l : List Decl) (f : Int), (layL l f).length = l.length
  | [], _ => rfl
  | d :: r, f => by rw [layL, List.length_cons, layL_len r, List.length_cons]
theorem layL_app : ∀ (l r : List Decl) (f : Int), layL (l ++ r) f = layL l f ++ layL r (f + (l.map cz).sum)
  | [], r, f => by simp [layL]
  | d :: l, r, f => by
    rw [List.cons_append, layL, layL_app l r, layL, List.cons_append, List.map_cons, List.sum_cons, Int.add_assoc]
theorem take_dc {l : List Decl} {i : Nat} {d : Decl} (h : l[i]? = some d) : l.take (i + 1) = l.take i ++ [d] := by rw [List.take_add_one, h]; rfl
/-- a loop over declarations -/
theorem for_dc {PS : Fl → Rho → Sto → Prop} {ES : Xn → Rho → Sto → Prop} {g : AG} {b : B} {ρ : Rho} {S : Sto} {ds : List Decl} (I : Nat → Rho → Sto → Prop)
    (step : ∀ i d ρ V, ds[i]? = some d → I i ρ V → WpS (g (wDecl d) ρ V) (fun _ ρ' T => WpS (b ρ' T) (fun fl ρ'' U => match fl with | .nx => I (i + 1) ρ'' U | .ct => I (i + 1) ρ'' U | .bk => PS .nx ρ'' U | .rt w => PS (.rt w) ρ'' U) ES) ES)
    (done : ∀ ρ V, I ds.length ρ V → PS .nx ρ V) (hn : ds.length ≤ 1000000) (h : I 0 ρ S) : WpS (forN (itTup (ds.map wDecl)) g b big 0 ρ S) PS ES := by
  refine for_rule ds.length (fun i ρ V => i ≤ ds.length ∧ I i ρ V) (fun i ρ V ⟨hi, h⟩ => ?_) (by omega) ⟨Nat.zero_le _, h⟩
  cases e : ds[i]? with
  | none =>
    have hl := List.getElem?_eq_none_iff.mp e
    have : i = ds.length := by omega
    subst this
    exact .inl ⟨hi, by rw [hit_tup, List.getElem?_map, e]; rfl, done ρ V h⟩
  | some d =>
    have hl := (List.getElem?_eq_some_iff.mp e).1
    refine .inr ⟨hl, wDecl d, by rw [hit_tup, List.getElem?_map, e]; rfl, (step i d ρ V e h).imp (fun _ ρ' T h2 => h2.imp (fun fl ρ'' U h3 => ?_) fun _ _ _ h => h) fun _ _ _ h => h⟩
    cases fl with
    | nx => exact ⟨by omega, h3⟩
    | ct => exact ⟨by omega, h3⟩
    | bk => exact h3
    | rt w => exact h3
/-- the cells of the first i -/
def smC (ds : List Decl) (i : Nat) : Int := ((ds.take i).map cz).sum
def LyI (ds : List Decl) (S : Sto) (p : Nat) (i : Nat) (ρ : Rho) (V : Sto) : Prop := ∃ a b, ρ = [some (.tup (ds.map wDecl)), some (.ref p), some (.int (smC ds i)), a, b] ∧ Pre S V ∧ S.length ≤ p ∧ V[p]? = some (.lst (layL (ds.take i) 0))
section
variable {R : W → Sto → Prop} {E : Xn → Sto → Prop} {S : Sto} {k n : Nat} {w x y : W}
theorem ly_step {ds : List Decl} {i : Nat} {d : Decl} (e : ds[i]? = some d) : layL (ds.take (i + 1)) 0 = layL (ds.take i) 0 ++ [.tup [.str d.1, .int (smC ds i), .int d.2]] ∧ smC ds (i + 1) = smC ds i + cz d := by
  unfold smC
  rw [take_dc e]
  refine ⟨?_, ?_⟩
  · rw [layL_app, Int.zero_add]
    simp [layL]
  · simp
theorem sp_layout {ds : List Decl} (hl : ds.length ≤ 1000000) (q : ∀ V, Pre S V → R (.tup (layL ds 0)) V) : Wp (callI T (k + 2) "layout" [.tup (ds.map wDecl)] S) R E := by
  rw [q_layout, wp_fnE]
  simp only [b_layout, startR]
  rw [wps_seq]
  simp (decide := true) [-wps_seq]
  rw [wps_seq]
  simp (decide := true) [-wps_seq]
  rw [wps_seq]
  simp (decide := true) [-wps_seq]
  refine for_dc (LyI ds S S.length) (fun i d ρ V hd ⟨a, b, hr, hP, hp, hg⟩ => ?_) (fun ρ V ⟨a, b, hr, hP, hp, hg⟩ => ?_) hl ⟨none, none, rfl, .app, Nat.le_refl _, get_new⟩
  · subst hr
    have hl2 := (List.getElem?_eq_some_iff.mp hd).1
    simp (decide := true) [wDecl, isL hg]
    rw [m_app hg (by rw [layL_len, List.length_take]; omega), wp_ok]
    obtain ⟨e1, e2⟩ := ly_step hd
    rw [aug_I, wp_ok]
    exact ⟨_, _, by rw [e2]; rfl, hP.set hp, hp, by rw [e1]; exact get_set hg⟩
  · subst hr
    rw [List.take_length] at hg
    rw [wps_seq]
    simp (decide := true) [-wps_seq]
    rw [m_tup hg, wp_ok]
    exact q V hP
theorem sp_llayout {ds : List Decl} (hl : ds.length ≤ 1000000) (q : ∀ V p, Pre S V → S.length ≤ p → V[p]? = some (.lst (layL ds 0)) → R (.tup [.ref p, .int (cellsI ds)]) V) : Wp (callI T (k + 2) "_law_layout" [.tup (ds.map wDecl)] S) R E := by
  rw [q__law_layout, wp_fnE]
  simp only [b__law_layout, startR]
  rw [wps_seq]
  simp (decide := true) [-wps_seq]
  rw [wps_seq]
  simp (decide := true) [-wps_seq]
  rw [wps_seq]
  simp (decide := true) [-wps_seq]
  refine for_dc (LyI ds S S.length) (fun i d ρ V hd ⟨a, b, hr, hP, hp, hg⟩ => ?_) (fun ρ V ⟨a, b, hr, hP, hp, hg⟩ => ?_) hl ⟨none, none, rfl, .app, Nat.le_refl _, get_new⟩
  · subst hr
    have hl2 := (List.getElem?_eq_some_iff.mp hd).1
    simp (decide := true) [wDecl, isL hg]
    rw [m_app hg (by rw [layL_len, List.length_take]; omega), wp_ok]
    obtain ⟨e1, e2⟩ := ly_step hd
    exact ⟨_, _, by rw [e2]; rfl, hP.set hp, hp, by rw [e1]; exact get_set hg⟩
  · subst hr
    rw [List.take_length] at hg
    rw [wps_seq]
    simp (decide := true) [-wps_seq]
    have e3 : smC ds ds.length = cellsI ds := by unfold smC; rw [List.take_length, cells_cz]
    rw [e3]
    exact q V _ hP hp hg
end
end Pt

/-! ## _law_scopes -/
namespace Pt
open PySem Ev ET PyProof.Rows
abbrev En := List Int × List Decl
def enW (e : En) : W := .tup [.tup (e.1.map W.int), .tup (e.2.map wDecl)]
mutual
def scS : St → List Int → List Decl → List En
  | .loop _ _ b, p, sc => scB b (p ++ [0]) sc 0
  | .ite _ a b, p, sc => scB a (p ++ [0]) sc 0 ++ scB b (p ++ [1]) sc 0
  | .bind x _ b, p, sc => scB b (p ++ [0]) (sc ++ [(x, 0)]) 0
  | .set _ _ _, _, _ => []
  | .call _ _ _, _, _ => []
def scB : List St → List Int → List Decl → Nat → List En
  | [], _, _, _ => []
  | s :: r, p, sc, k => (p ++ [(k : Int)], sc) :: (scS s (p ++ [(k : Int)]) sc ++ scB r p sc (k + 1))
end
mutual
theorem scS_len : ∀ (s : St) (p : List Int) (sc : List Decl), (scS s p sc).length + 1 ≤ wtSt s
  | .loop x c b, p, sc => by have := scB_len b (p ++ [0]) sc 0; simp only [scS, wtSt]; omega
  | .ite t a b, p, sc => by have := scB_len a (p ++ [0]) sc 0; have := scB_len b (p ++ [1]) sc 0; simp only [scS, wtSt, List.length_append]; omega
  | .bind x e b, p, sc => by have := scB_len b (p ++ [0]) (sc ++ [(x, 0)]) 0; simp only [scS, wtSt]; omega
  | .set _ _ _, p, sc => by simp only [scS, wtSt, List.length_nil]; omega
  | .call _ _ _, p, sc => by simp only [scS, wtSt, List.length_nil]; omega
theorem scB_len : ∀ (b : List St) (p : List Int) (sc : List Decl) (k : Nat), (scB b p sc k).length ≤ wtSts b
  | [], p, sc, k => by simp only [scB, wtSts, List.length_nil]; omega
  | s :: r, p, sc, k => by
    have := scS_len s (p ++ [(k : Int)]) sc
    have := scB_len r p sc (k + 1)
    simp only [scB, wtSts, List.length_cons, List.length_append]
    omega
end
theorem scB_app : ∀ (b r : List St) (p : List Int) (sc : List Decl) (k : Nat), scB (b ++ r) p sc k = scB b p sc k ++ scB r p sc (k + b.length)
  | [], r, p, sc, k => by simp [scB]
  | s :: b, r, p, sc, k => by
    rw [List.cons_append, scB, scB_app b r p sc (k + 1), scB, List.length_cons, show k + 1 + b.length = k + (b.length + 1) by omega]
    simp
theorem scB_step {b : List St} {i : Nat} {s : St} (h : b[i]? = some s) (p : List Int) (sc : List Decl) : scB (b.take (i + 1)) p sc 0 = scB (b.take i) p sc 0 ++ (p ++ [(i : Int)], sc) :: scS s (p ++ [(i : Int)]) sc := by
  have hl := (List.getElem?_eq_some_iff.mp h).1
  rw [show b.take (i + 1) = b.take i ++ [s] by rw [List.take_add_one, h]; rfl, scB_app, List.length_take, show 0 + min i b.length = i by omega]
  simp [scB]
theorem Of2.refl {X : List Nat} {U : Sto} : ∀ j q, j ∉ X → U[j]? = some q → U[j]? = some q := fun _ _ _ h => h
/-- all but f stays -/
def Off (f : Nat) (U V : Sto) : Prop := ∀ (j : Nat) q, j ≠ f → U[j]? = some q → V[j]? = some q
theorem Off.refl {f : Nat} {U : Sto} : Off f U U := fun _ _ _ h => h
theorem Off.trans {f : Nat} {U V Z : Sto} (a : Off f U V) (b : Off f V Z) : Off f U Z := fun j q h1 h2 => b j q h1 (a j q h1 h2)
theorem Off.pre {f : Nat} {U V : Sto} (h : Pre U V) : Off f U V := fun _ _ _ hq => h.get hq
theorem Off.set {f : Nat} {U : Sto} {o : SO} : Off f U (U.set f o) := fun _ _ hj hq => get_set_ne hq (Ne.symm hj)
theorem sum_take : ∀ (l : List Nat) (n : Nat), (l.take n).sum ≤ l.sum
  | [], n => by simp
  | a :: l, 0 => by simp
  | a :: l, n + 1 => by have := sum_take l n; simp; omega
theorem sum_take1 : ∀ {l : List Nat} {n x : Nat}, l[n]? = some x → (l.take n).sum + x ≤ l.sum
  | a :: l, 0, x, h => by simp at h; simp; omega
  | a :: l, n + 1, x, h => by have := sum_take1 (l := l) (n := n) (x := x) (by simpa using h); simp; omega
@[irreducible] def PScp (L d : Nat) : Prop := ∀ (b : List St) (p : List Int) (sc : List Decl) (U : Sto) (s f : Nat) (fs : List En) (R : W → Sto → Prop) (E : Xn → Sto → Prop), dpB b ≤ d → p.length + 2 * d ≤ 1000 → sc.length + d ≤ 4000 → fs.length + wtSts b ≤ 1000000 → s ≠ f → U[s]? = some (.lst (sc.map wDecl)) → U[f]? = some (.lst (fs.map enW)) →
  (∀ V, V[f]? = some (.lst ((fs ++ scB b p sc 0).map enW)) → Off f U V → R .non V) → Wp (callI T L "_law_scopes" [wB b, .tup (p.map W.int), .ref s, .ref f] U) R E
def ScI (b : List St) (p : List Int) (sc : List Decl) (s f : Nat) (fs : List En) (U : Sto) (i : Nat) (ρ : Rho) (V : Sto) : Prop := ∃ a4 a5 a6, ρ = [some (wB b), some (.tup (p.map W.int)), some (.ref s), some (.ref f), a4, a5, a6] ∧ V[f]? = some (.lst ((fs ++ scB (b.take i) p sc 0).map enW)) ∧ Off f U V
def sHd : St → Str
  | .set _ _ _ => "set" | .loop _ _ _ => "loop" | .ite _ _ _ => "if" | .call _ _ _ => "call" | .bind _ _ _ => "let"
theorem ix_st0 {s : St} {V : Sto} : ixW s.w (.int 0) V = .ok (.str (sHd s)) V := by cases s <;> kernel_rfl
theorem ix_l3 {x : Str} {c : Ix} {b : List St} {V : Sto} : ixW (St.loop x c b).w (.int 3) V = .ok (wB b) V := by kernel_rfl
theorem ix_b3 {x : Str} {e : Ex} {b : List St} {V : Sto} : ixW (St.bind x e b).w (.int 3) V = .ok (wB b) V := by kernel_rfl
theorem ix_b1 {x : Str} {e : Ex} {b : List St} {V : Sto} : ixW (St.bind x e b).w (.int 1) V = .ok (.str x) V := by kernel_rfl
theorem ix_i2 {t : Ts} {a b : List St} {V : Sto} : ixW (St.ite t a b).w (.int 2) V = .ok (wB a) V := by kernel_rfl
theorem ix_i3 {t : Ts} {a b : List St} {V : Sto} : ixW (St.ite t a b).w (.int 3) V = .ok (wB b) V := by kernel_rfl
theorem map_snoc {p : List Int} {n : Int} : p.map W.int ++ [W.int n] = (p ++ [n]).map W.int := by simp
section
variable {R : W → Sto → Prop} {E : Xn → Sto → Prop} {S : Sto} {k n : Nat} {w x y : W}
theorem sp_scp_of {d : Nat} (H : 0 < d → PScp (k + d + 1) (d - 1)) : PScp (k + d + 2) d := by
  unfold PScp at H ⊢
  intro b p sc U s f fs R E hd hp hsc hfs hsf gs gf q
  have hbl : b.length ≤ wtSts b := by
    have : ∀ l : List St, l.length ≤ wtSts l := fun l => by
      induction l with
      | nil => simp
      | cons a l ih =>
        have := scS_len a [] []
        simp only [wtSts, List.length_cons]
        omega
    exact this b
  rw [q__law_scopes, wp_fnE]
  simp only [b__law_scopes, startR]
  rw [wps_seq, wps_bFor, wp_aRng1, wp_aUn, wp_aVar]
  refine ⟨_, rfl, ?_⟩
  have e0 : ∀ V, lenW (wB b) V = .ok (.int (b.length : Nat)) V := fun V => by
    unfold wB
    rw [ws_map, op_lenT, List.length_map]
  rw [e0, wp_ok, wp_rng1]
  refine ⟨in62_of (by omega) (by omega), ?_⟩
  rw [Int.toNat_natCast]
  refine for_rule b.length (fun i ρ V => i ≤ b.length ∧ ScI b p sc s f fs U i ρ V) (fun i ρ V ⟨hi, a4, a5, a6, hr, hg, hO⟩ => ?_) (by omega) ⟨Nat.zero_le _, none, none, none, rfl, by simpa [scB] using gf, .refl⟩
  by_cases ci : i < b.length
  · refine .inr ⟨ci, .int i, by simp [itRng, ci], ?_⟩
    subst hr
    have hb : b[i]? = some b[i] := List.getElem?_eq_getElem ci
    generalize hst : b[i] = st at hb
    have hm := List.mem_of_getElem? hb
    have hds := dp_mem hm
    have hws := wt_mem hm
    have gsV := hO s _ hsf gs
    have htk := scB_step hb p sc
    have hfl : (fs ++ scB (b.take i) p sc 0).length + wtSt st ≤ 1000000 := by
      have h1 := scB_len (b.take i) p sc 0
      have h2 : wtSts (b.take i) + wtSt st ≤ wtSts b := by
        rw [wtSts_map, wtSts_map, List.map_take]
        exact sum_take1 (by rw [List.getElem?_map, hb]; rfl)
      rw [List.length_append]
      omega
    have hst1 := scS_len st (p ++ [(i : Int)]) sc
    have eix : ∀ V, ixW (wB b) (.int (i : Int)) V = .ok st.w V := fun V => by
      have : L2.atI (b.map St.w) (i : Int) = some st.w := at_nat (by rw [List.getElem?_map, hb]; rfl)
      unfold wB
      rw [ws_map]
      show opt (L2.atI (b.map St.w) (i : Int)) V = _
      rw [this]
      rfl
    have fin : ∀ (a4 a5 a6 : Option W) (V2 : Sto), V2[f]? = some (.lst (((fs ++ scB (b.take i) p sc 0) ++ (p ++ [(i : Int)], sc) :: scS st (p ++ [(i : Int)]) sc).map enW)) → Off f V V2 → i + 1 ≤ b.length ∧ ScI b p sc s f fs U (i + 1) [some (wB b), some (.tup (p.map W.int)), some (.ref s), some (.ref f), a4, a5, a6] V2 := fun a4 a5 a6 V2 h1 h2 => ⟨by omega, _, _, _, rfl, by rw [htk, ← List.append_assoc]; exact h1, hO.trans h2⟩
    generalize hfs2 : fs ++ scB (b.take i) p sc 0 = fs2 at *
    generalize wB b = Bw at *
    rw [wps_gNm, wps_seq]
    simp (decide := true) [-wps_seq, eix]
    rw [wps_seq]
    simp (decide := true) [-wps_seq]
    refine ⟨short_of (by omega), ?_⟩
    rw [wps_seq]
    simp (decide := true) [-wps_seq, isL hg, m_tup gsV]
    rw [m_app hg (by simp; omega), wp_ok]
    have g2 : (V.set f (.lst (fs2.map enW ++ [.tup [.tup (p.map W.int ++ [.int (i : Int)]), .tup (sc.map wDecl)]])))[f]? = some (.lst ((fs2 ++ [(p ++ [(i : Int)], sc)]).map enW)) := by
      rw [get_set hg]
      simp [enW]
    have o2 : Off f V (V.set f (.lst (fs2.map enW ++ [.tup [.tup (p.map W.int ++ [.int (i : Int)]), .tup (sc.map wDecl)]]))) := .set
    have gs2 := o2 s _ hsf gsV
    generalize V.set f (.lst (fs2.map enW ++ [.tup [.tup (p.map W.int ++ [.int (i : Int)]), .tup (sc.map wDecl)]])) = V2 at *
    cases st with
    | set x j e =>
      rw [wps_seq]
      simp (decide := true) [-wps_seq, ix_st0, sHd]
      rw [wps_seq]
      simp (decide := true) [-wps_seq, ix_st0, sHd]
      rw [wps_seq]
      simp (decide := true) [-wps_seq, ix_st0, sHd]
      exact fin _ _ _ _ (by simpa [scS] using g2) o2
    | call x j e =>
      rw [wps_seq]
      simp (decide := true) [-wps_seq, ix_st0, sHd]
      rw [wps_seq]
      simp (decide := true) [-wps_seq, ix_st0, sHd]
      rw [wps_seq]
      simp (decide := true) [-wps_seq, ix_st0, sHd]
      exact fin _ _ _ _ (by simpa [scS] using g2) o2
    | loop x c b2 =>
      simp only [dpS] at hds
      simp only [wtSt] at hfl
      rw [wps_seq]
      simp (decide := true) [-wps_seq, ix_st0, sHd]
      rw [wps_seq]
      simp (decide := true) [-wps_seq, ix_st0, sHd]
      rw [wps_seq]
      simp (decide := true) [-wps_seq, ix_l3]
      refine ⟨short_of (by omega), ?_⟩
      rw [show p.map W.int ++ [W.int (i : Int), W.int 0] = (p ++ [(i : Int)] ++ [0]).map W.int by simp]
      refine H (by omega) b2 (p ++ [(i : Int)] ++ [0]) sc V2 s f (fs2 ++ [(p ++ [(i : Int)], sc)]) _ _ (by omega) (by simp; omega) (by omega) (by simp at hfl ⊢; omega) hsf gs2 g2 fun V3 g3 o3 => ?_
      rw [wps_seq]
      simp (decide := true) [-wps_seq, ix_st0, sHd]
      exact fin _ _ _ _ (by simpa [scS] using g3) (o2.trans o3)
    | ite t b1 b2 =>
      simp only [dpS] at hds
      simp only [wtSt] at hfl
      have hl1 := scB_len b1 (p ++ [(i : Int)] ++ [0]) sc 0
      rw [wps_seq]
      simp (decide := true) [-wps_seq, ix_st0, sHd]
      rw [wps_seq]
      simp (decide := true) [-wps_seq, ix_i2]
      refine ⟨short_of (by omega), ?_⟩
      rw [show p.map W.int ++ [W.int (i : Int), W.int 0] = (p ++ [(i : Int)] ++ [0]).map W.int by simp]
      refine H (by omega) b1 (p ++ [(i : Int)] ++ [0]) sc V2 s f (fs2 ++ [(p ++ [(i : Int)], sc)]) _ _ (by omega) (by simp; omega) (by omega) (by simp at hfl ⊢; omega) hsf gs2 g2 fun V3 g3 o3 => ?_
      have gs3 := o3 s _ hsf gs2
      rw [wps_seq]
      simp (decide := true) [-wps_seq, ix_i3]
      refine ⟨short_of (by omega), ?_⟩
      rw [show p.map W.int ++ [W.int (i : Int), W.int 1] = (p ++ [(i : Int)] ++ [1]).map W.int by simp]
      refine H (by omega) b2 (p ++ [(i : Int)] ++ [1]) sc V3 s f _ _ _ (by omega) (by simp; omega) (by omega) (by simp at hfl hl1 ⊢; omega) hsf gs3 g3 fun V4 g4 o4 => ?_
      rw [wps_seq]
      simp (decide := true) [-wps_seq, ix_st0, sHd]
      rw [wps_seq]
      simp (decide := true) [-wps_seq, ix_st0, sHd]
      exact fin _ _ _ _ (by simpa [scS] using g4) ((o2.trans o3).trans o4)
    | bind x e b2 =>
      simp only [dpS] at hds
      simp only [wtSt] at hfl
      rw [wps_seq]
      simp (decide := true) [-wps_seq, ix_st0, sHd]
      rw [wps_seq]
      simp (decide := true) [-wps_seq, ix_st0, sHd]
      rw [wps_seq]
      simp (decide := true) [-wps_seq, ix_st0, sHd]
      rw [wps_seq]
      simp (decide := true) [-wps_seq, ix_b3, ix_b1]
      refine ⟨short_of (by omega), ?_⟩
      have g3 : (V2 ++ [SO.lst [W.tup [W.str x, W.int 0]]])[s]? = some (.lst (sc.map wDecl)) := Pre.app.get gs2
      rw [op_addL g3 get_new (by simp; omega), wp_ok]
      have e1 : sc.map wDecl ++ [W.tup [W.str x, W.int 0]] = (sc ++ [(x, (0 : Int))]).map wDecl := by simp [wDecl]
      rw [e1]
      have pr : Pre V2 (V2 ++ [SO.lst [W.tup [W.str x, W.int 0]]] ++ [SO.lst ((sc ++ [(x, (0 : Int))]).map wDecl)]) := Pre.app.trans .app
      have gf3 := pr.get g2
      have gs3 := get_new (S := V2 ++ [SO.lst [W.tup [W.str x, W.int 0]]]) (o := SO.lst ((sc ++ [(x, (0 : Int))]).map wDecl))
      have hfV := (List.getElem?_eq_some_iff.mp g2).1
      have o3 : Off f V2 _ := .pre pr
      generalize V2 ++ [SO.lst [W.tup [W.str x, W.int 0]]] ++ [SO.lst ((sc ++ [(x, (0 : Int))]).map wDecl)] = V3 at *
      have hn : (V2 ++ [SO.lst [W.tup [W.str x, W.int 0]]]).length ≠ f := by simp; omega
      generalize (V2 ++ [SO.lst [W.tup [W.str x, W.int 0]]]).length = s3 at *
      rw [show p.map W.int ++ [W.int (i : Int), W.int 0] = (p ++ [(i : Int)] ++ [0]).map W.int by simp]
      refine H (by omega) b2 (p ++ [(i : Int)] ++ [0]) (sc ++ [(x, (0 : Int))]) V3 s3 f _ _ _ (by omega) (by simp; omega) (by simp; omega) (by simp at hfl ⊢; omega) hn gs3 gf3 fun V4 g4 o4 => ?_
      exact fin _ _ _ _ (by simpa [scS] using g4) ((o2.trans o3).trans o4)
  · have hib : i = b.length := by omega
    subst hib
    refine .inl ⟨hi, by simp [itRng], ?_⟩
    rw [List.take_length] at hg
    subst hr
    exact q V hg hO
theorem sp_scp (k d : Nat) : PScp (k + d + 2) d := by
  induction d with
  | zero => exact sp_scp_of (k := k) (d := 0) (fun h => (Nat.lt_irrefl 0 h).elim)
  | succ d ih =>
    have h2 : 0 < d + 1 → PScp (k + (d + 1) + 1) (d + 1 - 1) := fun _ => ih
    exact sp_scp_of (k := k) (d := d + 1) h2
end
end Pt

/-! ## variables_at -/
namespace Pt
open PySem Ev ET PyProof.Rows
def letOf : St → List Decl
  | .bind x _ _ => [(x, 0)]
  | _ => []
/-- the lets on the way -/
def walkL : List St → List (Nat × Nat) → Option (List Decl)
  | _, [] => some []
  | b, (a, n) :: r => match b[a]? with
    | some s => (match (innerB s)[n]? with
      | some b2 => (walkL b2 r).map (letOf s ++ ·)
      | none => none)
    | none => none
def flatP : List (Nat × Nat) → List Int
  | [] => []
  | (a, n) :: r => (a : Int) :: (n : Int) :: flatP r
theorem flatP_len : ∀ l, (flatP l).length = 2 * l.length
  | [] => rfl
  | (a, n) :: r => by simp only [flatP, List.length_cons, flatP_len r]; omega
/-- an entry: where a statement stands, what it sees -/
def EnOk (b : List St) (p : List Int) (sc : List Decl) (e : En) : Prop := ∃ (ps : List (Nat × Nat)) (k : Nat) (ls : List Decl), e.1 = p ++ flatP ps ++ [(k : Int)] ∧ walkL b ps = some ls ∧ e.2 = sc ++ ls ∧ ps.length ≤ dpB b
theorem en_in {b b2 : List St} {p : List Int} {sc : List Decl} {e : En} {i n : Nat} {s : St} (hb : b[i]? = some s) (h2 : (innerB s)[n]? = some b2) (h : EnOk b2 (p ++ [(i : Int)] ++ [(n : Int)]) (sc ++ letOf s) e) : EnOk b p sc e := by
  obtain ⟨ps, k, ls, h1, h3, h4, h5⟩ := h
  refine ⟨(i, n) :: ps, k, letOf s ++ ls, ?_, ?_, ?_, ?_⟩
  · rw [h1]
    simp [flatP]
  · simp only [walkL, hb, h2, h3]
    rfl
  · rw [h4, List.append_assoc]
  · have m1 := dp_mem (List.mem_of_getElem? hb)
    have m2 := dp_inner (List.mem_of_getElem? h2)
    simp
    omega
mutual
theorem scS_ok : ∀ (s : St) (b : List St) (i : Nat) (p : List Int) (sc : List Decl), b[i]? = some s → ∀ e ∈ scS s (p ++ [(i : Int)]) sc, EnOk b p sc e
  | .loop x c b2, b, i, p, sc, hb, e, he => by
    simp only [scS] at he
    have := scB_ok b2 (p ++ [(i : Int)] ++ [0]) sc b2 0 (by simp) e he
    exact en_in (b2 := b2) hb (n := 0) (by simp [innerB]) (by simpa [letOf] using this)
  | .ite t b1 b2, b, i, p, sc, hb, e, he => by
    simp only [scS] at he
    rcases List.mem_append.mp he with he | he
    · have := scB_ok b1 (p ++ [(i : Int)] ++ [0]) sc b1 0 (by simp) e he
      exact en_in (b2 := b1) hb (n := 0) (by simp [innerB]) (by simpa [letOf] using this)
    · have := scB_ok b2 (p ++ [(i : Int)] ++ [1]) sc b2 0 (by simp) e he
      exact en_in (b2 := b2) hb (n := 1) (by simp [innerB]) (by simpa [letOf] using this)
  | .bind x a b2, b, i, p, sc, hb, e, he => by
    simp only [scS] at he
    have := scB_ok b2 (p ++ [(i : Int)] ++ [0]) (sc ++ [(x, 0)]) b2 0 (by simp) e he
    exact en_in (b2 := b2) hb (n := 0) (by simp [innerB]) (by simpa [letOf] using this)
  | .set _ _ _, _, _, _, _, _, e, he => by simp [scS] at he
  | .call _ _ _, _, _, _, _, _, e, he => by simp [scS] at he
theorem scB_ok : ∀ (r : List St) (p : List Int) (sc : List Decl) (b : List St) (k : Nat), b.drop k = r → ∀ e ∈ scB r p sc k, EnOk b p sc e
  | [], _, _, _, _, _, e, he => by simp [scB] at he
  | s :: r, p, sc, b, k, hd, e, he => by
    have hb : b[k]? = some s := by
      have : (b.drop k)[0]? = some s := by rw [hd]; rfl
      rw [List.getElem?_drop] at this
      simpa using this
    simp only [scB] at he
    rcases List.mem_cons.mp he with rfl | he
    · exact ⟨[], k, [], by simp [flatP], rfl, by simp, Nat.zero_le _⟩
    · rcases List.mem_append.mp he with he | he
      · exact scS_ok s b k p sc hb e he
      · refine scB_ok r p sc b (k + 1) ?_ e he
        rw [← List.drop_drop, hd]
        rfl
end
theorem ev2_a : ∀ (ps : List (Nat × Nat)) (k : Int), Stp.every2 (flatP ps ++ [k]) = ps.map (fun q => (q.1 : Int)) ++ [k]
  | [], k => by simp [flatP, Stp.every2]
  | (a, n) :: r, k => by
    rw [flatP, List.cons_append, List.cons_append, Stp.every2, ev2_a r k]
    rfl
theorem ev2_b : ∀ (ps : List (Nat × Nat)) (k : Int), Stp.every2 ((flatP ps ++ [k]).drop 1) = ps.map (fun q => (q.2 : Int))
  | [], k => by simp [flatP, Stp.every2]
  | (a, n) :: r, k => by
    have ih := ev2_b r k
    cases r with
    | nil => simp [flatP, Stp.every2]
    | cons q r =>
      obtain ⟨a2, n2⟩ := q
      simp only [flatP, List.cons_append, List.drop_succ_cons, List.drop_zero] at ih ⊢
      rw [Stp.every2, ih]
      rfl
theorem every2_map {α β : Type} (f : α → β) : ∀ l : List α, Stp.every2 (l.map f) = (Stp.every2 l).map f
  | [] => by simp [Stp.every2]
  | [a] => by simp [Stp.every2]
  | a :: b :: r => by
    rw [List.map_cons, List.map_cons, Stp.every2, every2_map f r, Stp.every2]
    rfl
def VaI (t : Tree) (path : List Int) (ds : List Decl) (S : Sto) (p : Nat) (ps : List (Nat × Nat)) (ls : List Decl) (i : Nat) (ρ : Rho) (V : Sto) : Prop := ∃ (b : List St) (l1 l2 : List Decl) (a2 a6 a7 a8 : Option W), ρ = [some t.w, some (.tup (path.map W.int)), a2, some (.tup (ds.map wDecl)), some (wB b), some (.ref p), a6, a7, a8] ∧ Pre S V ∧ S.length ≤ p ∧ V[p]? = some (.lst (l1.map wDecl)) ∧ walkL b (ps.drop i) = some l2 ∧ l1 ++ l2 = ls ∧ l1.length ≤ i ∧ wtSts b ≤ 1000000
section
variable {R : W → Sto → Prop} {E : Xn → Sto → Prop} {S : Sto} {k n : Nat} {w x y : W}
theorem walk_step {b : List St} {ps : List (Nat × Nat)} {i a n : Nat} {l2 : List Decl} (hp : ps[i]? = some (a, n)) (h : walkL b (ps.drop i) = some l2) : ∃ s b2 l3, b[a]? = some s ∧ (innerB s)[n]? = some b2 ∧ walkL b2 (ps.drop (i + 1)) = some l3 ∧ l2 = letOf s ++ l3 := by
  have hl := (List.getElem?_eq_some_iff.mp hp).1
  have e : ps.drop i = (a, n) :: ps.drop (i + 1) := by
    rw [List.drop_eq_getElem_cons hl]
    have := (List.getElem?_eq_some_iff.mp hp).2
    rw [this]
  rw [e] at h
  unfold walkL at h
  cases h1 : b[a]? with
  | none => rw [h1] at h; cases h
  | some s =>
    rw [h1] at h
    dsimp only at h
    cases h2 : (innerB s)[n]? with
    | none => rw [h2] at h; cases h
    | some b2 =>
      rw [h2] at h
      dsimp only at h
      cases h3 : walkL b2 (ps.drop (i + 1)) with
      | none => rw [h3] at h; cases h
      | some l3 =>
        rw [h3] at h
        cases h
        exact ⟨s, b2, l3, rfl, h2, h3, rfl⟩
theorem walk_end {b : List St} {ps : List (Nat × Nat)} {i : Nat} {l2 : List Decl} (hi : ps.length ≤ i) (h : walkL b (ps.drop i) = some l2) : l2 = [] := by
  rw [List.drop_eq_nil_of_le hi] at h
  unfold walkL at h
  cases h
  rfl
theorem wp_aZip {a b : A} {ρ : Rho} {P : ItE → Sto → Prop} : Wp (aZip a b ρ S) P E = Wp (a ρ S) (fun x T => Wp (b ρ T) (fun y U => Wp (zipW x y U) P E) E) E := by
  unfold aZip
  simp only [wp_bd]
theorem ix_path {q : Int} {l : List Int} {V : Sto} : ixW (.tup ((q :: l).map W.int)) (.int 0) V = .ok (.int q) V := by
  show opt (L2.atI ((q :: l).map W.int) 0) V = _
  rw [List.map_cons, at_0]
  rfl
theorem e_step {c : Nat} {l : List Int} {V : Sto} : stepW c (.tup (l.map W.int)) V = .ok (.tup ((Stp.every2 (l.drop c)).map W.int)) V := by
  show ret _ V = _
  rw [← List.map_drop, every2_map]
  rfl
theorem e_zip {A B : List W} {V : Sto} : zipW (.tup A) (.tup B) V = .ok (itZip (itTup A) (itTup B)) V := rfl
theorem ix_inner {s : St} {a : Nat} {b : List St} {V : Sto} (h : b[a]? = some s) : ixW (wB b) (.int (a : Int)) V = .ok s.w V := by
  have : L2.atI (b.map St.w) (a : Int) = some s.w := at_nat (by rw [List.getElem?_map, h]; rfl)
  unfold wB
  rw [ws_map]
  show opt (L2.atI (b.map St.w) (a : Int)) V = _
  rw [this]
  rfl
def b_vaL (cal : Str → Fn) : B := (bSeq (bAsg (aOp ixW (aVar 4) (aVar 6)) (gNm 8))
  (bSeq (bIf (tBool (aOp eqO (aOp ixW (aVar 8) (aC (.int (0)))) (aC (.str "let"))))
  (bSeq (bExpr (aBM isLst appW (aVar 5) (aCons (aTup (aCons (aOp ixW (aVar 8) (aC (.int (1)))) (aCons (aC (.int (0))) aNil))) aNil)))
  bNext)
  bNext)
  (bSeq (bAsg (aOp ixW (aCall 1 (cal "inner_bodies") (aCons (aVar 8) aNil)) (aVar 7)) (gNm 4))
  bNext)))
theorem va_step {t : Tree} {path : List Int} {ds : List Decl} {p : Nat} {ps : List (Nat × Nat)} {ls : List Decl} {i a n : Nat} {ρ : Rho} {V : Sto} (hp : ps[i]? = some (a, n)) (hps : ps.length ≤ 1000) (h : VaI t path ds S p ps ls i ρ V) :
    WpS (gTu [(gNm 6), (gNm 7)] (.tup [.int a, .int n]) ρ V) (fun _ ρ' U => WpS (b_vaL (callI T (k + 6)) ρ' U) (fun fl ρ'' U => fl = .nx ∧ VaI t path ds S p ps ls (i + 1) ρ'' U) (fun _ _ _ => False)) (fun _ _ _ => False) := by
  obtain ⟨b, l1, l2, a2, a6, a7, a8, hr, hP, hS, hg, hw, hl, hn, hwt⟩ := h
  obtain ⟨s, b2, l3, h1, h2, h3, h4⟩ := walk_step hp hw
  have hil := (List.getElem?_eq_some_iff.mp hp).1
  have ms := wt_mem (List.mem_of_getElem? h1)
  have mb := wt_inner (List.mem_of_getElem? h2)
  subst hr
  rw [wps_gTu]
  refine ⟨_, rfl, rfl, ?_⟩
  rw [wps_gAll_cons, wps_gNm, wps_gAll_cons, wps_gNm, wps_gAll_nil]
  dsimp only [List.set]
  unfold b_vaL
  rw [wps_seq, wps_bAsg, wp_aOp, wp_aVar]
  refine ⟨_, rfl, ?_⟩
  rw [wp_aVar]
  refine ⟨_, rfl, ?_⟩
  rw [ix_inner h1, wp_ok, wps_gNm]
  dsimp only [List.set]
  have tail : ∀ (V2 : Sto) (l1b : List Decl), Pre S V2 → V2[p]? = some (.lst (l1b.map wDecl)) → l1b = l1 ++ letOf s → WpS (bSeq (bAsg (aOp ixW (aCall 1 (callI T (k + 6) "inner_bodies") (aCons (aVar 8) aNil)) (aVar 7)) (gNm 4)) bNext [some t.w, some (.tup (path.map W.int)), a2, some (.tup (ds.map wDecl)), some (wB b), some (.ref p), some (.int a), some (.int n), some s.w] V2) (fun fl ρ'' U => fl = .nx ∧ VaI t path ds S p ps ls (i + 1) ρ'' U) (fun _ _ _ => False) := fun V2 l1b hP2 hg2 e2 => by
    rw [wps_seq, wps_bAsg, wp_aOp, wp_aCall, wp_aCons, wp_aVar]
    refine ⟨_, rfl, ?_⟩
    rw [wp_aNil]
    refine ⟨rfl, ?_⟩
    refine sp_inner (k := k) (s := s) (by omega) fun U m hU hm hgm => ?_
    rw [wp_aVar]
    refine ⟨_, rfl, ?_⟩
    rw [op_ixL hgm]
    refine ⟨wB b2, at_nat (by rw [List.getElem?_map, h2]; rfl), ?_⟩
    rw [wps_gNm]
    dsimp only [List.set]
    rw [wps_next]
    refine ⟨rfl, b2, l1b, l3, _, _, _, _, rfl, hP2.trans hU, hS, hU.get hg2, h3, ?_, ?_, by omega⟩
    · rw [e2, List.append_assoc, ← h4, hl]
    · rw [e2, List.length_append]
      have : (letOf s).length ≤ 1 := by cases s <;> simp [letOf]
      omega
  rw [wps_seq, wps_bIf, wp_tBool, wp_aOp, wp_aOp, wp_aVar]
  refine ⟨_, rfl, ?_⟩
  rw [wp_aC, ix_st0, wp_ok, wp_aC, op_eqS, wp_ok]
  refine ⟨_, rfl, ?_⟩
  cases s with
  | bind x e b3 =>
    rw [if_pos (by simp (decide := true) [sHd]), wps_seq, wps_bExpr, wp_aBM, wp_aVar]
    refine ⟨_, rfl, isL hg, ?_⟩
    rw [wp_aCons, wp_aTup, wp_aCons, wp_aOp, wp_aVar]
    refine ⟨_, rfl, ?_⟩
    rw [wp_aC, ix_b1, wp_ok, wp_aCons, wp_aC, wp_aNil]
    refine ⟨short_of (by simp), ?_⟩
    rw [wp_aNil, m_app hg (by rw [List.length_map]; omega), wp_ok]
    rw [wps_next]
    refine tail _ (l1 ++ [(x, 0)]) (hP.set hS) ?_ rfl
    rw [get_set hg]
    simp [wDecl]
  | set _ _ _ =>
    rw [if_neg (by simp (decide := true) [sHd]), wps_next]
    exact tail V l1 hP hg (by simp [letOf])
  | loop _ _ _ =>
    rw [if_neg (by simp (decide := true) [sHd]), wps_next]
    exact tail V l1 hP hg (by simp [letOf])
  | ite _ _ _ =>
    rw [if_neg (by simp (decide := true) [sHd]), wps_next]
    exact tail V l1 hP hg (by simp [letOf])
  | call _ _ _ =>
    rw [if_neg (by simp (decide := true) [sHd]), wps_next]
    exact tail V l1 hP hg (by simp [letOf])
theorem hit_zip {A B : List W} {i : Nat} {V : Sto} : itZip (itTup A) (itTup B) i V = (match A[i]?, B[i]? with | some x, some y => some (some (.tup [x, y])) | none, some _ => some none | some _, none => some none | none, none => some none) := by
  unfold itZip itTup
  cases A[i]? <;> cases B[i]? <;> rfl
theorem sp_varat {t : Tree} {path : List Int} {q : Nat} {ps : List (Nat × Nat)} {kk : Nat} {is : List Str} {ds ls : List Decl} {b : List St} (hpath : path = (q : Int) :: (flatP ps ++ [(kk : Int)])) (hs : Sh (.tree t)) (hq : (bods t)[q]? = some (is, ds, b)) (hw : walkL b ps = some ls) (hps : ps.length ≤ 1000) (hds : ds.length ≤ 3000) (hwt : wtSts b ≤ 1000000)
    (h : ∀ V, Pre S V → R (.tup ((ds ++ ls).map wDecl)) V) : Wp (callI T (k + 7) "variables_at" [t.w, .tup (path.map W.int)] S) R E := by
  rw [show k + 7 = k + 5 + 2 from rfl, q_variables_at, wp_fnE]
  simp only [b_variables_at, startR]
  rw [wps_seq, wps_bAsg, wp_aOp, wp_aCall, wp_aCons, wp_aVar]
  refine ⟨_, rfl, ?_⟩
  rw [wp_aNil]
  refine ⟨rfl, ?_⟩
  refine sp_bodies (k := k + 4) hs fun U n hP hg => ?_
  rw [wp_aOp, wp_aVar]
  refine ⟨_, rfl, ?_⟩
  have e0 : ∀ V, ixW (.tup (path.map W.int)) (.int 0) V = .ok (.int q) V := fun V => by
    rw [hpath, ix_path]
  rw [wp_aC, e0, wp_ok, op_ixL hg]
  refine ⟨bodW is ds b, at_nat (by rw [List.getElem?_map, hq]; rfl), ?_⟩
  unfold bodW
  rw [wps_gTu]
  refine ⟨_, rfl, rfl, ?_⟩
  rw [wps_gAll_cons, wps_gNm, wps_gAll_cons, wps_gNm, wps_gAll_cons, wps_gNm, wps_gAll_nil]
  rw [wps_seq, wps_bAsg, wp_aLst, wp_aNil]
  refine ⟨short_of (by simp), ?_⟩
  rw [wps_gNm]
  dsimp only [List.set]
  rw [wps_seq, wps_bFor, wp_aZip, wp_aUn, wp_aVar]
  refine ⟨_, rfl, ?_⟩
  rw [e_step, wp_ok, wp_aUn, wp_aVar]
  refine ⟨_, rfl, ?_⟩
  rw [e_step, wp_ok, e_zip, wp_ok]
  have eA : Stp.every2 (path.drop 1) = ps.map (fun q => (q.1 : Int)) ++ [(kk : Int)] := by rw [hpath]; exact ev2_a ps kk
  have eB : Stp.every2 (path.drop 2) = ps.map (fun q => (q.2 : Int)) := by rw [hpath]; exact ev2_b ps kk
  rw [eA, eB]
  have g0 := get_new (S := U) (o := SO.lst [])
  have p0 : Pre S (U ++ [SO.lst []]) := hP.trans .app
  have l0 : S.length ≤ U.length := hP.len
  generalize U ++ [SO.lst []] = U1 at *
  generalize U.length = p at *
  refine for_rule (b := b_vaL (callI T (k + 6))) ps.length (fun i ρ V => i ≤ ps.length ∧ VaI t path ds S p ps ls i ρ V) (fun i ρ V ⟨hi, hI⟩ => ?_) (by omega) ⟨Nat.zero_le _, b, [], ls, _, none, none, none, rfl, p0, l0, g0, hw, rfl, Nat.le_refl _, hwt⟩
  cases e : ps[i]? with
  | none =>
    have hl := List.getElem?_eq_none_iff.mp e
    have hie : i = ps.length := by omega
    refine .inl ⟨hi, ?_, ?_⟩
    · rw [hit_zip, hie]
      simp
    · obtain ⟨b, l1, l2, a2, a6, a7, a8, hr, hP, hS, hg, hw, hl2, hn, hwt⟩ := hI
      have := walk_end (by omega) hw
      subst this hr
      rw [List.append_nil] at hl2
      subst hl2
      dsimp only
      rw [wps_seq, wps_bRet, wp_aOp, wp_aVar]
      refine ⟨_, rfl, ?_⟩
      rw [wp_aUn, wp_aVar]
      refine ⟨_, rfl, ?_⟩
      rw [m_tup hg, wp_ok, op_addT, ← List.map_append]
      exact ⟨short_of (by simp; omega), h V hP⟩
  | some an =>
    obtain ⟨a, n⟩ := an
    have hl := (List.getElem?_eq_some_iff.mp e).1
    refine .inr ⟨hl, .tup [.int a, .int n], ?_, ?_⟩
    · rw [hit_zip, List.map_append, List.getElem?_append_left (by simp; omega)]
      simp [e]
    · refine (va_step (k := k) e hps hI).imp (fun _ ρ' T h2 => h2.imp (fun fl ρ'' U h3 => ?_) fun _ _ _ h => h.elim) fun _ _ _ h => h.elim
      obtain ⟨e3, h3⟩ := h3
      subst e3
      exact ⟨hl, h3⟩
end
end Pt

/-! ## law_k08 -/
namespace Pt
open PySem Ev ET PyProof.Rows
def LawOk (f : Fl) (_ : Rho) (_ : Sto) : Prop := f = .rt (.bl true)
theorem w_seq {a b : B} {ρ : Rho} {S : Sto} {PS : Fl → Rho → Sto → Prop} {ES : Xn → Rho → Sto → Prop} (h : WpS (a ρ S) (fun f ρ' T => match f with | .nx => WpS (b ρ' T) PS ES | .rt w => PS (.rt w) ρ' T | .bk => PS .bk ρ' T | .ct => PS .ct ρ' T) ES) : WpS (bSeq a b ρ S) PS ES := by
  rw [wps_seq]
  exact h
def b_cmp (cal : Str → Fn) : B := (bSeq (bIf (tBool (aOp neO (aUn reprW (aCall 2 (cal "variables_at") (aCons (aVar 3) (aCons (aVar 10) aNil)))) (aUn reprW (aVar 11))))
  (bSeq (bRet (aC (.bl false)))
  bNext)
  bNext)
  bNext)
def b_7 (cal : Str → Fn) : B := (bSeq (bFor (aIt (aVar 8)) (gTu [(gNm 10), (gNm 11)])
  (b_cmp cal))
  (bSeq (bRet (aC (.bl true)))
  bNext))
def b_6 (cal : Str → Fn) : B := (bSeq (bExpr (aCall 4 (cal "_law_scopes") (aCons (aOp ixW (aVar 3) (aC (.int (3)))) (aCons (aTup (aCons (aUn lenW (aOp ixW (aVar 3) (aC (.int (2))))) aNil)) (aCons (aOp addW (aUn lstW (aOp ixW (aVar 3) (aC (.int (0))))) (aUn lstW (aOp ixW (aVar 3) (aC (.int (1)))))) (aCons (aVar 8) aNil))))))
  (b_7 cal))
def b_scl (cal : Str → Fn) : B := (bSeq (bExpr (aCall 4 (cal "_law_scopes") (aCons (aOp ixW (aOp ixW (aOp ixW (aVar 3) (aC (.int (2)))) (aVar 9)) (aC (.int (3)))) (aCons (aTup (aCons (aVar 9) aNil)) (aCons (aOp addW (aUn lstW (aOp ixW (aOp ixW (aOp ixW (aVar 3) (aC (.int (2)))) (aVar 9)) (aC (.int (2))))) (aUn lstW (aOp ixW (aVar 3) (aC (.int (1)))))) (aCons (aVar 8) aNil))))))
  bNext)
def b_5 (cal : Str → Fn) : B := (bSeq (bFor (aRng1 (aUn lenW (aOp ixW (aVar 3) (aC (.int (2)))))) (gNm 9)
  (b_scl cal))
  (b_6 cal))
def b_4 (cal : Str → Fn) : B := (bSeq (bAsg (aLst aNil) (gNm 8))
  (b_5 cal))
def b_lay (cal : Str → Fn) : B := (bSeq (bAsg (aCall 1 (cal "_law_layout") (aCons (aVar 4) aNil)) (gTu [(gNm 5), (gNm 6)]))
  (bSeq (bAsg (aCall 1 (cal "cells") (aCons (aVar 4) aNil)) (gNm 7))
  (bSeq (bIf (tOr (tNot (tOf (aOp isiW (aVar 7) (aC (.ty "int"))))) (tOr (tOf (aOp isiW (aVar 7) (aC (.ty "bool")))) (tBool (aOp neO (aVar 7) (aVar 6)))))
  (bSeq (bRet (aC (.bl false)))
  bNext)
  bNext)
  (bSeq (bIf (tOr (tNot (tOf (aOp isiW (aCall 1 (cal "layout") (aCons (aVar 4) aNil)) (aC (.ty "tuple"))))) (tBool (aOp neO (aUn lstW (aCall 1 (cal "layout") (aCons (aVar 4) aNil))) (aVar 5))))
  (bSeq (bRet (aC (.bl false)))
  bNext)
  bNext)
  bNext))))
def b_3 (cal : Str → Fn) : B := (bSeq (bFor (aIt (aTup (aCons (aOp ixW (aVar 3) (aC (.int (0)))) (aCons (aOp ixW (aVar 3) (aC (.int (1)))) (aCons (aTup aNil) aNil))))) (gNm 4)
  (b_lay cal))
  (b_4 cal))
def b_T (cal : Str → Fn) : B := (bSeq (bTryO (fun y => (subT "TreeError").lookup y) (bSeq (bIf (tBool (aOp isnW (aCall 1 (cal "check") (aCons (aVar 3) aNil)) (aC .non)))
  (bSeq (bRet (aC (.bl false)))
  bNext)
  bNext)
  bNext) (bSeq (bRet (aC (.bl true)))
  bNext))
  (b_3 cal))
section
variable {R : W → Sto → Prop} {E : Xn → Sto → Prop} {S U : Sto} {L n m : Nat}
theorem l_draws (hL : 60 ≤ L) {ns : List Int} (hl : ns.length ≤ 63) (q : ∀ V n (ds : List Int), V[n]? = some (.lst (ds.map W.int)) → (∀ d ∈ ds, 0 ≤ d) → R (.ref n) V) : Wp (callI T (L + 1) "_law_draws" [.fzl (ns.map W.int)] S) R E := by
  have := sp_draws (k := L - 1) (S := S) (R := R) (E := E) hl q
  rw [show L - 1 + 2 = L + 1 by omega] at this
  exact this
theorem l_tree (hL : 60 ≤ L) (h : Dw U n m) (q : ∀ t V, Go U V n m → GT t → R t.w V) : Wp (callI T (L + 1) "_law_tree" [.ref n, .ref m] U) R E := by
  have := sp_tree (k := L - 19) (R := R) (E := E) h q
  rw [show L - 19 + 20 = L + 1 by omega] at this
  exact this
theorem l_check (hL : 60 ≤ L) {t : Tree} (hT : GT t) (h : ∀ U, Pre S U → Ok (.tree t) → R .non U) (he : ∀ (x : Xn) (V : Sto), x.c = ("TreeError" : Str) → E x V) : Wp (callI T (L + 1) "check" [t.w] S) R E := by
  obtain ⟨h1, h2, h3, _⟩ := hT.sh0
  have := sp_check (k := L - 14) (d := 3) (S := S) (R := R) (E := E) h1 (by omega) h3 (by decide) h he
  rw [show L - 14 + 3 + 12 = L + 1 by omega] at this
  exact this
theorem l_layout (hL : 60 ≤ L) {ds : List Decl} (hl : ds.length ≤ 1000000) (q : ∀ V, Pre S V → R (.tup (layL ds 0)) V) : Wp (callI T (L + 1) "layout" [.tup (ds.map wDecl)] S) R E := by
  have := sp_layout (k := L - 1) (S := S) (R := R) (E := E) hl q
  rw [show L - 1 + 2 = L + 1 by omega] at this
  exact this
theorem l_llayout (hL : 60 ≤ L) {ds : List Decl} (hl : ds.length ≤ 1000000) (q : ∀ V p, Pre S V → S.length ≤ p → V[p]? = some (.lst (layL ds 0)) → R (.tup [.ref p, .int (cellsI ds)]) V) : Wp (callI T (L + 1) "_law_layout" [.tup (ds.map wDecl)] S) R E := by
  have := sp_llayout (k := L - 1) (S := S) (R := R) (E := E) hl q
  rw [show L - 1 + 2 = L + 1 by omega] at this
  exact this
theorem l_cells (hL : 60 ≤ L) {ds : List Decl} (hl : ds.length ≤ 1000) : callI T (L + 1) "cells" [.tup (ds.map wDecl)] S = .ok (.int (cellsI ds)) S := by
  have := e_cells (k := L - 1) (S := S) hl
  rw [show L - 1 + 2 = L + 1 by omega] at this
  exact this
theorem l_scp (hL : 60 ≤ L) {b : List St} {p : List Int} {sc : List Decl} {s f : Nat} {fs : List En} (h1 : dpB b ≤ 3) (h2 : p.length ≤ 10) (h3 : sc.length ≤ 100) (h4 : fs.length + wtSts b ≤ 1000000) (h5 : s ≠ f) (h6 : U[s]? = some (.lst (sc.map wDecl))) (h7 : U[f]? = some (.lst (fs.map enW)))
    (q : ∀ V, V[f]? = some (.lst ((fs ++ scB b p sc 0).map enW)) → Off f U V → R .non V) : Wp (callI T (L + 1) "_law_scopes" [wB b, .tup (p.map W.int), .ref s, .ref f] U) R E := by
  have h := sp_scp (L - 4) 3
  rw [show L - 4 + 3 + 2 = L + 1 by omega] at h
  unfold PScp at h
  exact h b p sc U s f fs R E h1 (by omega) (by omega) h4 h5 h6 h7 q
theorem l_varat (hL : 60 ≤ L) {t : Tree} {path : List Int} {q : Nat} {ps : List (Nat × Nat)} {kk : Nat} {is : List Str} {ds ls : List Decl} {b : List St} (hpath : path = (q : Int) :: (flatP ps ++ [(kk : Int)])) (hs : Sh (.tree t)) (hq : (bods t)[q]? = some (is, ds, b)) (hw : walkL b ps = some ls) (hps : ps.length ≤ 1000) (hds : ds.length ≤ 3000) (hwt : wtSts b ≤ 1000000)
    (h : ∀ V, Pre S V → R (.tup ((ds ++ ls).map wDecl)) V) : Wp (callI T (L + 1) "variables_at" [t.w, .tup (path.map W.int)] S) R E := by
  have := sp_varat (k := L - 6) (S := S) (R := R) (E := E) hpath hs hq hw hps hds hwt h
  rw [show L - 6 + 7 = L + 1 by omega] at this
  exact this
end
/-- what the entries found are -/
def FnOk8 (t : Tree) (e : En) : Prop := ∃ (q : Nat) (ps : List (Nat × Nat)) (kk : Nat) (is : List Str) (ds ls : List Decl) (b : List St), e.1 = (q : Int) :: (flatP ps ++ [(kk : Int)]) ∧ (bods t)[q]? = some (is, ds, b) ∧ walkL b ps = some ls ∧ ps.length ≤ 1000 ∧ e.2 = ds ++ ls
theorem fn_of {t : Tree} {q : Nat} {is : List Str} {ds : List Decl} {b : List St} (hq : (bods t)[q]? = some (is, ds, b)) (hd : dpB b ≤ 3) : ∀ e ∈ scB b [(q : Int)] ds 0, FnOk8 t e := fun e he => by
  obtain ⟨ps, k, ls, h1, h2, h3, h4⟩ := scB_ok b [(q : Int)] ds b 0 (by simp) e he
  exact ⟨q, ps, k, is, ds, ls, b, by rw [h1]; simp, hq, h2, by omega, h3⟩
theorem nm_len {x : Str} (h : nm x = true) : x.length ≤ 8 := by
  unfold nm at h
  simp only [Bool.and_eq_true, decide_eq_true_eq] at h
  exact h.1.1.1.2
def dOk (d : Decl) : Prop := PyData.strOk d.1 = true ∧ d.1.length ≤ 8 ∧ d.2.natAbs < 10 ^ 12
theorem Ok.fit {n : Nd} : Ok n → n.fit = true
  | .mk h _ => h
theorem dOk_of {ds : List Decl} (hk : Sk (.decls ds)) (ho : Ok (.decls ds)) : ∀ d ∈ ds, dOk d := fun d hd => by
  have k1 := hk.kids (.vari d) (by simp [Nd.kids, hd])
  have o1 := ho.kids (.vari d) (by simp [Nd.kids, hd])
  have k2 := (k1.kids (.name d.1) (by simp [Nd.kids])).top
  have o2 := (o1.kids (.name d.1) (by simp [Nd.kids])).fit
  have o3 := (o1.kids (.size d.2) (by simp [Nd.kids])).fit
  simp only [Nd.sk] at k2
  simp only [Nd.fit] at o2 o3
  unfold btw at o3
  simp only [Bool.and_eq_true, decide_eq_true_eq] at o3
  exact ⟨k2, nm_len o2, by omega⟩
theorem walk_ok : ∀ (ps : List (Nat × Nat)) (b : List St) (ls : List Decl), (∀ s ∈ b, Sk (.st s) ∧ Ok (.st s)) → walkL b ps = some ls → (∀ d ∈ ls, dOk d) ∧ ls.length ≤ ps.length
  | [], b, ls, _, h => by
    unfold walkL at h
    cases h
    exact ⟨fun d hd => (by cases hd), Nat.le_refl _⟩
  | (a, n) :: r, b, ls, hb, h => by
    have h0 : walkL b (((a, n) :: r).drop 0) = some ls := h
    obtain ⟨s, b2, l3, h1, h2, h3, rfl⟩ := walk_step (i := 0) rfl h0
    have hm := hb s (List.mem_of_getElem? h1)
    have hkid := kid_inner (List.mem_of_getElem? h2)
    obtain ⟨i1, i2⟩ := walk_ok r b2 l3 (fun s2 hs2 => ⟨(hm.1.kids _ hkid).kids (.st s2) (by simp [Nd.kids, hs2]), (hm.2.kids _ hkid).kids (.st s2) (by simp [Nd.kids, hs2])⟩) h3
    refine ⟨fun d hd => ?_, ?_⟩
    · rcases List.mem_append.mp hd with hd | hd
      · cases s with
        | bind x e b3 =>
          simp [letOf] at hd
          subst hd
          have k2 := (hm.1.kids (.name x) (by simp [Nd.kids, kidsSt])).top
          have o2 := (hm.2.kids (.name x) (by simp [Nd.kids, kidsSt])).fit
          simp only [Nd.sk] at k2
          simp only [Nd.fit] at o2
          exact ⟨k2, nm_len o2, by simp⟩
        | set _ _ _ => simp [letOf] at hd
        | loop _ _ _ => simp [letOf] at hd
        | ite _ _ _ => simp [letOf] at hd
        | call _ _ _ => simp [letOf] at hd
      · exact i1 d hd
    · have : (letOf s).length ≤ 1 := by cases s <;> simp [letOf]
      rw [List.length_append, List.length_cons]
      omega
theorem bod_ok {t : Tree} (hk : Sk (.tree t)) (ho : Ok (.tree t)) {is : List Str} {ds : List Decl} {b : List St} (h : (is, ds, b) ∈ bods t) : (∀ d ∈ ds, dOk d) ∧ ∀ s ∈ b, Sk (.st s) ∧ Ok (.st s) := by
  have hpa := dOk_of (hk.kids (.decls t.params) (by simp [Nd.kids])) (ho.kids (.decls t.params) (by simp [Nd.kids]))
  unfold bods at h
  rcases List.mem_append.mp h with h | h
  · obtain ⟨p, hp, e⟩ := List.mem_map.mp h
    cases e
    have kp := (hk.kids (.procs t.procs) (by simp [Nd.kids])).kids (.proc p) (by simp [Nd.kids, hp])
    have op := (ho.kids (.procs t.procs) (by simp [Nd.kids])).kids (.proc p) (by simp [Nd.kids, hp])
    have hr := dOk_of (kp.kids (.decls p.refs) (by simp [Nd.kids])) (op.kids (.decls p.refs) (by simp [Nd.kids]))
    refine ⟨fun d hd => ?_, fun s hs => ⟨(kp.kids (.body p.body) (by simp [Nd.kids])).kids (.st s) (by simp [Nd.kids, hs]), (op.kids (.body p.body) (by simp [Nd.kids])).kids (.st s) (by simp [Nd.kids, hs])⟩⟩
    rcases List.mem_append.mp hd with hd | hd
    · exact hr d hd
    · exact hpa d hd
  · simp at h
    obtain ⟨rfl, rfl, rfl⟩ := h
    have hr := dOk_of (hk.kids (.decls t.state) (by simp [Nd.kids])) (ho.kids (.decls t.state) (by simp [Nd.kids]))
    refine ⟨fun d hd => ?_, fun s hs => ⟨(hk.kids (.body t.beat) (by simp [Nd.kids])).kids (.st s) (by simp [Nd.kids, hs]), (ho.kids (.body t.beat) (by simp [Nd.kids])).kids (.st s) (by simp [Nd.kids, hs])⟩⟩
    rcases List.mem_append.mp hd with hd | hd
    · exact hr d hd
    · exact hpa d hd
theorem fn_ds {t : Tree} (hT : GT t) (ho : Ok (.tree t)) {e : En} (h : FnOk8 t e) : DsOk e.2 := by
  obtain ⟨q, ps, kk, is, ds, ls, b, h1, h2, h3, h4, h5⟩ := h
  have hm := List.mem_of_getElem? h2
  obtain ⟨i1, i2⟩ := bod_ok hT.sk ho hm
  obtain ⟨i3, i4⟩ := walk_ok ps b ls i2 h3
  have i5 := (hT.sh0.2.2.2 _ hm).1
  dsimp only at i5
  refine ⟨fun d hd => ?_, by rw [h5, List.length_append]; omega⟩
  rw [h5] at hd
  rcases List.mem_append.mp hd with hd | hd
  · exact i1 d hd
  · exact i3 d hd
theorem law7 {L : Nat} (hL : 60 ≤ L) {t : Tree} (hT : GT t) (ho : Ok (.tree t)) {es : List En} (hes : ∀ e ∈ es, FnOk8 t e) (hl : es.length ≤ 1000000) {V : Sto} {f : Nat} (gf : V[f]? = some (.lst (es.map enW))) {a0 a1 a2 a4 a5 a6 a7 a9 a10 a11 : Option W} : WpS (b_7 (callI T (L + 1)) [a0, a1, a2, some t.w, a4, a5, a6, a7, some (.ref f), a9, a10, a11] V) LawOk (fun _ _ _ => False) = True := by
  refine eq_true ?_
  unfold b_7
  apply w_seq
  rw [wps_bFor, wp_aIt, wp_aVar]
  refine ⟨_, rfl, ?_⟩
  rw [it_lst gf]
  refine for_rule (b := b_cmp (callI T (L + 1))) es.length (fun i ρ U => i ≤ es.length ∧ Pre V U ∧ ∃ a10 a11, ρ = [a0, a1, a2, some t.w, a4, a5, a6, a7, some (.ref f), a9, a10, a11]) (fun i ρ U ⟨hi, hP, a10, a11, hr⟩ => ?_) (by omega) ⟨Nat.zero_le _, .refl, _, _, rfl⟩
  subst hr
  cases ee : es[i]? with
  | none =>
    refine .inl ⟨hi, by rw [hit_lst (hP.get gf), List.getElem?_map, ee]; rfl, ?_⟩
    dsimp only
    apply w_seq
    rw [wps_bRet, wp_aC]
    exact rfl
  | some e =>
    have hil := (List.getElem?_eq_some_iff.mp ee).1
    have hem := List.mem_of_getElem? ee
    refine .inr ⟨hil, enW e, by rw [hit_lst (hP.get gf), List.getElem?_map, ee]; rfl, ?_⟩
    have hd := fn_ds hT ho (hes e hem)
    obtain ⟨q, ps, kk, is, ds, ls, b, h1, h2, h3, h4, h5⟩ := hes e hem
    have hbm := hT.sh0.2.2.2 _ (List.mem_of_getElem? h2)
    dsimp only at hbm
    unfold enW
    rw [wps_gTu]
    refine ⟨_, rfl, rfl, ?_⟩
    rw [wps_gAll_cons, wps_gNm, wps_gAll_cons, wps_gNm, wps_gAll_nil]
    dsimp only [List.set]
    unfold b_cmp
    apply w_seq
    rw [wps_bIf, wp_tBool, wp_aOp, wp_aUn, wp_aCall, wp_aCons, wp_aVar]
    refine ⟨_, rfl, ?_⟩
    rw [wp_aCons, wp_aVar]
    refine ⟨_, rfl, ?_⟩
    rw [wp_aNil]
    refine ⟨rfl, ?_⟩
    refine l_varat hL h1 hT.sh0.1 h2 h3 h4 (by omega) (by omega) fun U2 hP2 => ?_
    obtain ⟨r1, r2, r3, r4⟩ := hd.tup
    rw [← h5, e_repr rfl r1 r2 r3 r4, wp_ok, wp_aUn, wp_aVar]
    refine ⟨_, rfl, ?_⟩
    rw [e_repr rfl r1 r2 r3 r4, wp_ok, op_neS, wp_ok]
    refine ⟨_, rfl, ?_⟩
    rw [if_neg (by simp), wps_next]
    dsimp only
    rw [wps_next]
    exact ⟨hil, hP.trans hP2, _, _, rfl⟩
/-- the entries of the procedures -/
def prE : List Proc → List Decl → Nat → List En
  | [], _, _ => []
  | p :: r, ps, k => scB p.body [(k : Int)] (p.refs ++ ps) 0 ++ prE r ps (k + 1)
theorem prE_app : ∀ (l r : List Proc) (ps : List Decl) (k : Nat), prE (l ++ r) ps k = prE l ps k ++ prE r ps (k + l.length)
  | [], r, ps, k => by simp [prE]
  | p :: l, r, ps, k => by
    rw [List.cons_append, prE, prE_app l r ps (k + 1), prE, List.length_cons, show k + 1 + l.length = k + (l.length + 1) by omega, List.append_assoc]
theorem prE_len : ∀ (l : List Proc) (ps : List Decl) (k : Nat), (prE l ps k).length ≤ (l.map wtProc).sum
  | [], _, _ => by simp [prE]
  | p :: r, ps, k => by
    have := prE_len r ps (k + 1)
    have := scB_len p.body [(k : Int)] (p.refs ++ ps) 0
    simp only [prE, List.length_append, List.map_cons, List.sum_cons, wtProc]
    omega
theorem prE_ok {t : Tree} (hT : GT t) : ∀ (l : List Proc) (k : Nat), t.procs.drop k = l → ∀ e ∈ prE l t.params k, FnOk8 t e
  | [], _, _, e, he => by simp [prE] at he
  | p :: r, k, hd, e, he => by
    have hp : t.procs[k]? = some p := by
      have : (t.procs.drop k)[0]? = some p := by rw [hd]; rfl
      rw [List.getElem?_drop] at this
      simpa using this
    have hb : (bods t)[k]? = some (p.idxs, p.refs ++ t.params, p.body) := by
      have hl := (List.getElem?_eq_some_iff.mp hp).1
      unfold bods
      rw [List.getElem?_append_left (by simpa using hl), List.getElem?_map, hp]
      rfl
    rcases List.mem_append.mp he with he | he
    · exact fn_of hb (hT.sh0.2.2.1 _ (List.mem_of_getElem? hb)) e he
    · refine prE_ok hT r (k + 1) ?_ e he
      rw [← List.drop_drop, hd]
      rfl
theorem t0w (t : Tree) (V : Sto) : ixW t.w (.int 0) V = .ok (.tup (t.state.map wDecl)) V := by kernel_rfl
theorem t1w (t : Tree) (V : Sto) : ixW t.w (.int 1) V = .ok (.tup (t.params.map wDecl)) V := by kernel_rfl
theorem t2w (t : Tree) (V : Sto) : ixW t.w (.int 2) V = .ok (.tup (t.procs.map Proc.w)) V := by kernel_rfl
theorem t3w (t : Tree) (V : Sto) : ixW t.w (.int 3) V = .ok (wB t.beat) V := by kernel_rfl
theorem p2w (p : Proc) (V : Sto) : ixW p.w (.int 2) V = .ok (.tup (p.refs.map wDecl)) V := by kernel_rfl
theorem p3w (p : Proc) (V : Sto) : ixW p.w (.int 3) V = .ok (wB p.body) V := by kernel_rfl
theorem ix_pr {l : List Proc} {i : Nat} {p : Proc} {V : Sto} (h : l[i]? = some p) : ixW (.tup (l.map Proc.w)) (.int (i : Int)) V = .ok p.w V := by
  have : L2.atI (l.map Proc.w) (i : Int) = some p.w := at_nat (by rw [List.getElem?_map, h]; rfl)
  show opt (L2.atI (l.map Proc.w) (i : Int)) V = _
  rw [this]
  rfl
/-- list(a) + list(b) -/
theorem w_two {a b : A} {ρ : Rho} {V : Sto} {x y : List Decl} {R : W → Sto → Prop} {E : Xn → Sto → Prop} (ha : ∀ U, a ρ U = .ok (.tup (x.map wDecl)) U) (hb : ∀ U, b ρ U = .ok (.tup (y.map wDecl)) U) (hl : x.length + y.length ≤ 1000) (q : ∀ U s, Pre V U → V.length ≤ s → U[s]? = some (.lst ((x ++ y).map wDecl)) → R (.ref s) U) :
    Wp (aOp addW (aUn lstW a) (aUn lstW b) ρ V) R E := by
  rw [wp_aOp, wp_aUn, ha, wp_ok, op_lstT, wp_ok, wp_aUn, hb, wp_ok, op_lstT, wp_ok]
  have g1 := get_new (S := V) (o := SO.lst (x.map wDecl))
  rw [op_addL (Pre.app.get g1) get_new (by simp; omega), wp_ok]
  rw [← List.map_append]
  exact q _ _ (Pre.app.trans (Pre.app.trans .app)) (by simp) get_new
theorem law6 {L : Nat} (hL : 60 ≤ L) {t : Tree} (hT : GT t) (ho : Ok (.tree t)) {es : List En} (hes : ∀ e ∈ es, FnOk8 t e) (hl : es.length + wtSts t.beat ≤ 1000000) {V : Sto} {f : Nat} (gf : V[f]? = some (.lst (es.map enW))) {a0 a1 a2 a4 a5 a6 a7 a9 a10 a11 : Option W} : WpS (b_6 (callI T (L + 1)) [a0, a1, a2, some t.w, a4, a5, a6, a7, some (.ref f), a9, a10, a11] V) LawOk (fun _ _ _ => False) = True := by
  have hb : (bods t)[t.procs.length]? = some ([], t.state ++ t.params, t.beat) := by
    unfold bods
    rw [List.getElem?_append_right (by simp)]
    simp
  have hbm := List.mem_of_getElem? hb
  obtain ⟨h1, h2, h3, h4⟩ := hT.sh0
  have h5 := (h4 _ hbm).1
  dsimp only at h5
  rw [List.length_append] at h5
  have hf := hT.few
  have hfl := (List.getElem?_eq_some_iff.mp gf).1
  refine eq_true ?_
  unfold b_6
  apply w_seq
  rw [wps_bExpr, wp_aCall, wp_aCons, wp_aOp, wp_aVar]
  refine ⟨_, rfl, ?_⟩
  rw [wp_aC, t3w, wp_ok, wp_aCons, wp_aTup, wp_aCons, wp_aUn, wp_aOp, wp_aVar]
  refine ⟨_, rfl, ?_⟩
  rw [wp_aC, t2w, wp_ok, op_lenT, wp_ok, wp_aNil]
  refine ⟨short_of (by simp), ?_⟩
  rw [wp_aCons]
  refine w_two (x := t.state) (y := t.params) (fun U => by rw [show aOp ixW (aVar 3) (aC (.int 0)) [a0, a1, a2, some t.w, a4, a5, a6, a7, some (.ref f), a9, a10, a11] U = ixW t.w (.int 0) U from rfl, t0w]) (fun U => by rw [show aOp ixW (aVar 3) (aC (.int 1)) [a0, a1, a2, some t.w, a4, a5, a6, a7, some (.ref f), a9, a10, a11] U = ixW t.w (.int 1) U from rfl, t1w]) (by omega) fun U s hU hs gs => ?_
  rw [wp_aCons, wp_aVar]
  refine ⟨_, rfl, ?_⟩
  rw [wp_aNil]
  refine ⟨rfl, ?_⟩
  rw [List.length_map, show [W.int (t.procs.length : Int)] = [(t.procs.length : Int)].map W.int from rfl]
  refine l_scp hL (sc := t.state ++ t.params) (h3 _ hbm) (by simp) (by simp only [List.length_append]; omega) (by omega) (by omega) gs (hU.get gf) fun V2 g2 _ => ?_
  have := law7 hL hT ho (es := es ++ scB t.beat [(t.procs.length : Int)] (t.state ++ t.params) 0) (fun e he => by
    rcases List.mem_append.mp he with he | he
    · exact hes e he
    · exact fn_of hb (h3 _ hbm) e he) (by have := scB_len t.beat [(t.procs.length : Int)] (t.state ++ t.params) 0; rw [List.length_append]; omega) g2 (a0 := a0) (a1 := a1) (a2 := a2) (a4 := a4) (a5 := a5) (a6 := a6) (a7 := a7) (a9 := a9) (a10 := a10) (a11 := a11)
  dsimp only
  rw [this]
  trivial
def ScJ (t : Tree) (V : Sto) (f : Nat) (a0 a1 a2 a4 a5 a6 a7 a10 a11 : Option W) (i : Nat) (ρ : Rho) (U : Sto) : Prop := ∃ a9, ρ = [a0, a1, a2, some t.w, a4, a5, a6, a7, some (.ref f), a9, a10, a11] ∧ U[f]? = some (.lst ((prE (t.procs.take i) t.params 0).map enW)) ∧ V.length ≤ U.length
theorem Off.len {f : Nat} {U V : Sto} (h : Off f U V) (hf : f + 1 < U.length) : U.length ≤ V.length := by
  have h1 : U[U.length - 1]? = some (U[U.length - 1]'(by omega)) := List.getElem?_eq_getElem _
  have h2 := h _ _ (by omega) h1
  have := (List.getElem?_eq_some_iff.mp h2).1
  omega
section
variable {cal : Str → Fn} {ρ : Rho} {V : Sto} {PS : Fl → Rho → Sto → Prop} {ES : Xn → Rho → Sto → Prop}
theorem u_4 : WpS (b_4 cal ρ V) PS ES = Wp (aLst aNil ρ V) (fun w U => WpS (b_5 cal (ρ.set 8 (some w)) U) PS ES) (fun x U => ES x ρ U) := by
  unfold b_4
  rw [wps_seq, wps_bAsg]
  simp only [wps_gNm]
theorem u_5 : WpS (b_5 cal ρ V) PS ES = Wp (aRng1 (aUn lenW (aOp ixW (aVar 3) (aC (.int (2))))) ρ V) (fun j U => WpS (forN j (gNm 9) (b_scl cal) big 0 ρ U) (fun f ρ' U => match f with | .nx => WpS (b_6 cal ρ' U) PS ES | .rt w => PS (.rt w) ρ' U | .bk => PS .bk ρ' U | .ct => PS .ct ρ' U) ES) (fun x U => ES x ρ U) := by
  unfold b_5
  rw [wps_seq, wps_bFor]
  try congr 1
end
theorem law5 {L : Nat} (hL : 60 ≤ L) {t : Tree} (hT : GT t) (ho : Ok (.tree t)) {V : Sto} {f : Nat} (gf : V[f]? = some (.lst [])) {a0 a1 a2 a4 a5 a6 a7 a9 a10 a11 : Option W} : WpS (b_5 (callI T (L + 1)) [a0, a1, a2, some t.w, a4, a5, a6, a7, some (.ref f), a9, a10, a11] V) LawOk (fun _ _ _ => False) = True := by
  obtain ⟨h1, h2, h3, h4⟩ := hT.sh0
  have hf := hT.few
  have hwt : (t.procs.map wtProc).sum + wtSts t.beat ≤ 112200 := by simp only [Nd.wt] at h2; omega
  rw [u_5]
  refine eq_true ?_
  rw [wp_aRng1, wp_aUn, wp_aOp, wp_aVar]
  refine ⟨_, rfl, ?_⟩
  rw [wp_aC, t2w, wp_ok, op_lenT, wp_ok, List.length_map, wp_rng1]
  refine ⟨in62_of (by omega) (by omega), ?_⟩
  rw [Int.toNat_natCast]
  refine for_rule (b := b_scl (callI T (L + 1))) t.procs.length (fun i ρ U => i ≤ t.procs.length ∧ ∃ a9, ρ = [a0, a1, a2, some t.w, a4, a5, a6, a7, some (.ref f), a9, a10, a11] ∧ U[f]? = some (.lst ((prE (t.procs.take i) t.params 0).map enW))) (fun i ρ U ⟨hi, a9, hr, hg⟩ => ?_) (by omega) ⟨Nat.zero_le _, _, rfl, by simpa [prE] using gf⟩
  subst hr
  by_cases ci : i < t.procs.length
  · have hp : t.procs[i]? = some t.procs[i] := List.getElem?_eq_getElem ci
    generalize t.procs[i] = p at hp
    have hb : (bods t)[i]? = some (p.idxs, p.refs ++ t.params, p.body) := by
      unfold bods
      rw [List.getElem?_append_left (by simpa using ci), List.getElem?_map, hp]
      rfl
    have hbm := List.mem_of_getElem? hb
    have h5 := (h4 _ hbm).1
    dsimp only at h5
    rw [List.length_append] at h5
    have hpl : (prE (t.procs.take i) t.params 0).length + wtSts p.body ≤ 1000000 := by
      have e1 := prE_len (t.procs.take i) t.params 0
      have e2 : ((t.procs.take i).map wtProc).sum ≤ (t.procs.map wtProc).sum := by rw [List.map_take]; exact sum_take _ _
      have e3 := (h4 _ hbm).2
      dsimp only at e3
      omega
    have hfl := (List.getElem?_eq_some_iff.mp hg).1
    refine .inr ⟨ci, .int i, by simp [itRng, ci], ?_⟩
    rw [wps_gNm]
    dsimp only [List.set]
    unfold b_scl
    apply w_seq
    rw [wps_bExpr, wp_aCall, wp_aCons, wp_aOp, wp_aOp, wp_aOp, wp_aVar]
    refine ⟨_, rfl, ?_⟩
    rw [wp_aC, t2w, wp_ok, wp_aVar]
    refine ⟨_, rfl, ?_⟩
    rw [ix_pr hp, wp_ok, wp_aC, p3w, wp_ok, wp_aCons, wp_aTup, wp_aCons, wp_aVar]
    refine ⟨_, rfl, ?_⟩
    rw [wp_aNil]
    refine ⟨short_of (by simp), ?_⟩
    rw [wp_aCons]
    refine w_two (x := p.refs) (y := t.params) (fun U => ?_) (fun U => by rw [show aOp ixW (aVar 3) (aC (.int 1)) [a0, a1, a2, some t.w, a4, a5, a6, a7, some (.ref f), some (.int i), a10, a11] U = ixW t.w (.int 1) U from rfl, t1w]) (by omega) fun U2 s hU hs gs => ?_
    · rw [show aOp ixW (aOp ixW (aOp ixW (aVar 3) (aC (.int 2))) (aVar 9)) (aC (.int 2)) [a0, a1, a2, some t.w, a4, a5, a6, a7, some (.ref f), some (.int i), a10, a11] U = bd (bd (ixW t.w (.int 2)) fun x => ixW x (.int i)) (fun x => ixW x (.int 2)) U from rfl]
      unfold bd
      rw [t2w]
      dsimp only
      rw [ix_pr hp]
      dsimp only
      rw [p2w]
    rw [wp_aCons, wp_aVar]
    refine ⟨_, rfl, ?_⟩
    rw [wp_aNil]
    refine ⟨rfl, ?_⟩
    rw [show [W.int (i : Int)] = [(i : Int)].map W.int from rfl]
    refine l_scp hL (sc := p.refs ++ t.params) (h3 _ hbm) (by simp) (by simp only [List.length_append]; omega) hpl (by omega) gs (hU.get hg) fun V2 g2 _ => ?_
    dsimp only
    rw [wps_next]
    refine ⟨ci, _, rfl, ?_⟩
    rw [show t.procs.take (i + 1) = t.procs.take i ++ [p] by rw [List.take_add_one, hp]; rfl, prE_app, List.length_take, show 0 + min i t.procs.length = i by omega]
    simpa [prE] using g2
  · have hie : i = t.procs.length := by omega
    refine .inl ⟨hi, by simp [itRng, ci], ?_⟩
    rw [hie, List.take_length] at hg
    dsimp only
    have hl := prE_len t.procs t.params 0
    rw [law6 hL hT ho (fun e he => prE_ok hT t.procs 0 rfl e he) (by omega) hg]
    trivial
theorem law4 {L : Nat} (hL : 60 ≤ L) {t : Tree} (hT : GT t) (ho : Ok (.tree t)) {V : Sto} {a0 a1 a2 a4 a5 a6 a7 a8 a9 a10 a11 : Option W} : WpS (b_4 (callI T (L + 1)) [a0, a1, a2, some t.w, a4, a5, a6, a7, a8, a9, a10, a11] V) LawOk (fun _ _ _ => False) = True := by
  rw [u_4]
  refine eq_true ?_
  rw [wp_aLst, wp_aNil]
  refine ⟨short_of (by simp), ?_⟩
  dsimp only [List.set]
  rw [law5 hL hT ho get_new]
  trivial
theorem ne_int {i j : Int} {V : Sto} : neO (.int i) (.int j) V = .ok (.bl (!decide (i = j))) V := rfl
theorem lay_da : ∀ (ds : List Decl) (f : Int), (∀ d ∈ ds, PyData.strOk d.1 = true) → daWs (layL ds f) = true ∧ dpWs (layL ds f) ≤ 1
  | [], f, _ => ⟨rfl, by simp [layL, dpWs]⟩
  | d :: ds, f, h => by
    have h1 := h d (by simp)
    obtain ⟨a, b⟩ := lay_da ds (f + cz d) fun d hd => h d (by simp [hd])
    refine ⟨?_, ?_⟩
    · simp [layL, daWs, daW, h1, a]
    · simp [layL, dpWs, dpW]
      omega
/-- a list of data and one of the same -/
theorem lst_n {ws : List W} {S : Sto} {n m : Nat} (hd : daWs ws = true) (hp : dpWs ws < m) (hg : S[n]? = some (.lst ws)) : datN (m + 1) S (.ref n) = some (.list (toDs ws)) := by
  simp only [datN, lst_get hg]
  rw [dat_ns hd hp]
  rfl
theorem lst_dat {ws : List W} {S : Sto} {n : Nat} (hd : daWs ws = true) (hp : dpWs ws ≤ 60) (hg : S[n]? = some (.lst ws)) : dat S (.ref n) = some (.list (toDs ws)) ∧ (PyData.list (toDs ws)).canLay0 = true := by
  obtain ⟨h1, h2⟩ := lay_Ds hd
  have hc : (PyData.list (toDs ws)).canLay0 = true := by simp only [PyData.canLay0]; exact h1
  refine ⟨?_, hc⟩
  unfold dat
  rw [lst_n hd (by omega) hg]
  dsimp only
  rw [if_pos]
  unfold SeqAt.shaped
  rw [hc, Bool.true_and, decide_eq_true_eq]
  simp only [PyData.depth]
  omega
theorem lst_ne {ws : List W} {S : Sto} {n m : Nat} (hd : daWs ws = true) (hp : dpWs ws ≤ 60) (h1 : S[n]? = some (.lst ws)) (h2 : S[m]? = some (.lst ws)) : neO (.ref n) (.ref m) S = .ok (.bl false) S := by
  obtain ⟨e1, c1⟩ := lst_dat hd hp h1
  obtain ⟨e2, _⟩ := lst_dat hd hp h2
  have e : eqW (.ref n) (.ref m) S = .ok true S := by
    unfold eqW
    simp only [e1, e2]
    rw [SeqAt.eqv_refl _ c1]
  unfold neO bd
  rw [e]
  rfl
theorem lay_step {L : Nat} (hL : 60 ≤ L) {ds : List Decl} (hl : ds.length ≤ 1000) (hn : ∀ d ∈ ds, PyData.strOk d.1 = true) {V : Sto} {tw : W} {a0 a1 a2 a5 a6 a7 a8 a9 a10 a11 : Option W} : WpS (b_lay (callI T (L + 1)) [a0, a1, a2, some tw, some (.tup (ds.map wDecl)), a5, a6, a7, a8, a9, a10, a11] V) (fun fl ρ U => fl = .nx ∧ ∃ a5 a6 a7, ρ = [a0, a1, a2, some tw, some (.tup (ds.map wDecl)), a5, a6, a7, a8, a9, a10, a11]) (fun _ _ _ => False) = True := by
  refine eq_true ?_
  unfold b_lay
  apply w_seq
  rw [wps_bAsg, wp_aCall, wp_aCons, wp_aVar]
  refine ⟨_, rfl, ?_⟩
  rw [wp_aNil]
  refine ⟨rfl, ?_⟩
  refine l_llayout hL (by omega) fun U p hP hp hg => ?_
  rw [wps_gTu]
  refine ⟨_, rfl, rfl, ?_⟩
  rw [wps_gAll_cons, wps_gNm, wps_gAll_cons, wps_gNm, wps_gAll_nil]
  dsimp only [List.set]
  apply w_seq
  rw [wps_bAsg, wp_aCall, wp_aCons, wp_aVar]
  refine ⟨_, rfl, ?_⟩
  rw [wp_aNil]
  refine ⟨rfl, ?_⟩
  rw [l_cells hL hl, wp_ok, wps_gNm]
  dsimp only [List.set]
  apply w_seq
  rw [wps_bIf, wp_tOr, wp_tNot, wp_tOf, wp_aOp, wp_aVar]
  refine ⟨_, rfl, ?_⟩
  rw [wp_aC, isi_int_int, wp_ok]
  refine ⟨_, rfl, ?_⟩
  rw [if_neg (by decide), wp_tOr, wp_tOf, wp_aOp, wp_aVar]
  refine ⟨_, rfl, ?_⟩
  rw [wp_aC, isi_int_bool, wp_ok]
  refine ⟨_, rfl, ?_⟩
  rw [if_neg (by decide), wp_tBool, wp_aOp, wp_aVar]
  refine ⟨_, rfl, ?_⟩
  rw [wp_aVar]
  refine ⟨_, rfl, ?_⟩
  rw [ne_int, wp_ok]
  refine ⟨_, rfl, ?_⟩
  rw [if_neg (by simp), wps_next]
  dsimp only
  apply w_seq
  rw [wps_bIf, wp_tOr, wp_tNot, wp_tOf, wp_aOp, wp_aCall, wp_aCons, wp_aVar]
  refine ⟨_, rfl, ?_⟩
  rw [wp_aNil]
  refine ⟨rfl, ?_⟩
  refine l_layout hL (by omega) fun U2 hP2 => ?_
  rw [wp_aC, isi_tup_tuple, wp_ok]
  refine ⟨_, rfl, ?_⟩
  rw [if_neg (by decide), wp_tBool, wp_aOp, wp_aUn, wp_aCall, wp_aCons, wp_aVar]
  refine ⟨_, rfl, ?_⟩
  rw [wp_aNil]
  refine ⟨rfl, ?_⟩
  refine l_layout hL (by omega) fun U3 hP3 => ?_
  rw [op_lstT, wp_ok, wp_aVar]
  refine ⟨_, rfl, ?_⟩
  obtain ⟨d1, d2⟩ := lay_da ds 0 hn
  rw [lst_ne d1 (by omega) get_new (Pre.app.get (hP3.get (hP2.get hg))), wp_ok]
  refine ⟨_, rfl, ?_⟩
  rw [if_neg (by decide), wps_next]
  dsimp only
  rw [wps_next]
  exact ⟨rfl, _, _, _, rfl⟩
theorem law3 {L : Nat} (hL : 60 ≤ L) {t : Tree} (hT : GT t) (ho : Ok (.tree t)) {V : Sto} {a0 a1 a2 a4 a5 a6 a7 a8 a9 a10 a11 : Option W} : WpS (b_3 (callI T (L + 1)) [a0, a1, a2, some t.w, a4, a5, a6, a7, a8, a9, a10, a11] V) LawOk (fun _ _ _ => False) = True := by
  have hk := hT.sk
  obtain ⟨h1, h2, h3, h4⟩ := hT.sh0
  have hbt := (h4 ([], t.state ++ t.params, t.beat) (by simp [bods])).1
  dsimp only at hbt
  rw [List.length_append] at hbt
  have n1 : ∀ d ∈ t.state, PyData.strOk d.1 = true := fun d hd => (dOk_of (hk.kids (.decls t.state) (by simp [Nd.kids])) (ho.kids (.decls t.state) (by simp [Nd.kids])) d hd).1
  have n2 : ∀ d ∈ t.params, PyData.strOk d.1 = true := fun d hd => (dOk_of (hk.kids (.decls t.params) (by simp [Nd.kids])) (ho.kids (.decls t.params) (by simp [Nd.kids])) d hd).1
  refine eq_true ?_
  unfold b_3
  apply w_seq
  rw [wps_bFor, wp_aIt, wp_aTup, wp_aCons, wp_aOp, wp_aVar]
  refine ⟨_, rfl, ?_⟩
  rw [wp_aC, t0w, wp_ok, wp_aCons, wp_aOp, wp_aVar]
  refine ⟨_, rfl, ?_⟩
  rw [wp_aC, t1w, wp_ok, wp_aCons, wp_aTup, wp_aNil]
  refine ⟨short_of (by simp), ?_⟩
  rw [wp_aNil]
  refine ⟨short_of (by simp), ?_⟩
  rw [it_tup]
  refine for_rule (b := b_lay (callI T (L + 1))) 3 (fun i ρ U => i ≤ 3 ∧ ∃ a4 a5 a6 a7, ρ = [a0, a1, a2, some t.w, a4, a5, a6, a7, a8, a9, a10, a11]) (fun i ρ U ⟨hi, a4, a5, a6, a7, hr⟩ => ?_) (by decide) ⟨Nat.zero_le _, _, _, _, _, rfl⟩
  subst hr
  have st : ∀ ds : List Decl, ds.length ≤ 1000 → (∀ d ∈ ds, PyData.strOk d.1 = true) → i < 3 → WpS (gNm 4 (.tup (ds.map wDecl)) [a0, a1, a2, some t.w, a4, a5, a6, a7, a8, a9, a10, a11] U) (fun _ ρ' U2 => WpS (b_lay (callI T (L + 1)) ρ' U2) (fun fl ρ'' U3 => fl = .nx ∧ i + 1 ≤ 3 ∧ ∃ a4 a5 a6 a7, ρ'' = [a0, a1, a2, some t.w, a4, a5, a6, a7, a8, a9, a10, a11]) (fun _ _ _ => False)) (fun _ _ _ => False) := fun ds hl hn hi3 => by
    rw [wps_gNm]
    dsimp only [List.set]
    refine (of_eq_true (lay_step hL hl hn)).imp (fun fl ρ'' U3 h => ?_) fun _ _ _ h => h
    obtain ⟨e, b5, b6, b7, e2⟩ := h
    exact ⟨e, hi3, _, _, _, _, e2⟩
  rcases (by omega : i = 0 ∨ i = 1 ∨ i = 2 ∨ i = 3) with rfl | rfl | rfl | rfl
  · refine .inr ⟨by decide, .tup (t.state.map wDecl), rfl, ?_⟩
    refine (st t.state (by omega) n1 (by decide)).imp (fun _ ρ' U2 h => h.imp (fun fl ρ'' U3 h2 => ?_) fun _ _ _ h => h) fun _ _ _ h => h
    obtain ⟨e, h3⟩ := h2
    subst e
    exact h3
  · refine .inr ⟨by decide, .tup (t.params.map wDecl), rfl, ?_⟩
    refine (st t.params (by omega) n2 (by decide)).imp (fun _ ρ' U2 h => h.imp (fun fl ρ'' U3 h2 => ?_) fun _ _ _ h => h) fun _ _ _ h => h
    obtain ⟨e, h3⟩ := h2
    subst e
    exact h3
  · refine .inr ⟨by decide, .tup [], rfl, ?_⟩
    refine (st [] (by simp) (fun d hd => (by cases hd)) (by decide)).imp (fun _ ρ' U2 h => h.imp (fun fl ρ'' U3 h2 => ?_) fun _ _ _ h => h) fun _ _ _ h => h
    obtain ⟨e, h3⟩ := h2
    subst e
    exact h3
  · refine .inl ⟨by decide, rfl, ?_⟩
    dsimp only
    rw [law4 hL hT ho]
    trivial
theorem lawT {L : Nat} (hL : 60 ≤ L) {t : Tree} (hT : GT t) {V : Sto} {a0 a1 a2 a4 a5 a6 a7 a8 a9 a10 a11 : Option W} : WpS (b_T (callI T (L + 1)) [a0, a1, a2, some t.w, a4, a5, a6, a7, a8, a9, a10, a11] V) LawOk (fun _ _ _ => False) = True := by
  refine eq_true ?_
  unfold b_T
  apply w_seq
  rw [wps_bTryO]
  apply w_seq
  rw [wps_bIf, wp_tBool, wp_aOp, wp_aCall, wp_aCons, wp_aVar]
  refine ⟨_, rfl, ?_⟩
  rw [wp_aNil]
  refine ⟨rfl, ?_⟩
  refine l_check hL hT (fun U hU ho => ?_) fun x V2 hx => ?_
  · rw [wp_aC, op_isnN, wp_ok]
    refine ⟨_, rfl, ?_⟩
    rw [if_neg (by decide), wps_next]
    dsimp only
    rw [wps_next]
    dsimp only
    rw [law3 hL hT ho]
    trivial
  · refine .inl ⟨?_, ?_⟩
    · rw [hx]
      kernel_rfl
    · apply w_seq
      rw [wps_bRet, wp_aC]
      exact rfl
theorem law_wp {L : Nat} (hL : 60 ≤ L) {ns : List Int} (hl : ns.length ≤ 63) : Wp (lawE T L "law" [.fzl (ns.map W.int)] []) (fun w _ => w = .bl true) (fun _ _ => False) := by
  have post : ∀ {r : RS Fl}, WpS r LawOk (fun _ _ _ => False) → WpS r (fun f _ T => match f with | .nx => (W.non : W) = .bl true | .rt w => w = .bl true | .bk => False | .ct => False) (fun _ _ _ => False) := fun h => h.imp (fun f ρ T e => by rw [show f = .rt (.bl true) from e]) fun _ _ _ h => h
  rw [q_law, wp_fnE]
  refine post ?_
  unfold b_law startR
  apply w_seq
  rw [wps_bAsg, wp_aCall, wp_aCons, wp_aVar]
  refine ⟨_, rfl, ?_⟩
  rw [wp_aNil]
  refine ⟨rfl, ?_⟩
  refine l_draws hL hl fun V n ds hds hd0 => ?_
  rw [wps_gNm]
  have hn := (List.getElem?_eq_some_iff.mp hds).1
  have dw : Dw (V ++ [SO.lst [W.int 0]]) n V.length := ⟨⟨ds, 0, Pre.app.get hds, get_new, Int.le_refl _, hd0⟩, by omega⟩
  apply w_seq
  rw [wps_bAsg, wp_aLst, wp_aCons, wp_aC, wp_aNil]
  refine ⟨short_of (by decide), ?_⟩
  rw [wps_gNm]
  apply w_seq
  rw [wps_bAsg, wp_aCall, wp_aCons, wp_aVar]
  refine ⟨_, rfl, ?_⟩
  rw [wp_aCons, wp_aVar]
  refine ⟨_, rfl, ?_⟩
  rw [wp_aNil]
  refine ⟨rfl, ?_⟩
  refine l_tree hL dw fun t V1 g1 hT => ?_
  rw [wps_gNm]
  have h0 := lawT hL hT (V := V1) (a0 := some (.fzl (ns.map W.int))) (a1 := some (.ref n)) (a2 := some (.ref V.length)) (a4 := none) (a5 := none) (a6 := none) (a7 := none) (a8 := none) (a9 := none) (a10 := none) (a11 := none)
  exact of_eq_true h0
theorem law_pure : ∀ ns : List Int, ns.length ≤ 63 → ∃ S', lawE T 98 "law" [.fzl (ns.map W.int)] [] = .ok (.bl true) S' := fun ns hl => by
  have h := law_wp (L := 98) (by decide) hl
  revert h
  generalize lawE T 98 "law" [.fzl (ns.map W.int)] [] = r
  intro h
  unfold Wp at h
  cases r with
  | ok w S => exact ⟨S, by rw [show w = .bl true from h]⟩
  | er x S => exact h.elim
  | no => exact h.elim
end Pt

namespace EvEnd
open PySem PySem.Spec L2 PyProof.Rows Ev ET
set_option maxRecDepth 100000 in
theorem all_mk {w : World} {K : PySem.W.Frag} {h : Heap} {mg : Str → Option Value} {fa : Addr} (pure : ∀ ns : List Int, ns.length ≤ 63 → ∃ S', lawE ET.T 98 "law" [.fzl (ns.map W.int)] [] = .ok (.bl true) S') (X : K.In h) (e : HT.TK K = HT.TV w) (G : h.Ns mainGlobals mg) (hfa : mg ("law" : Str) = some (.ref fa)) :
    ∃ fd : FuncData, (∀ (s : Shared) (u : Value), BindsTo s fd ⟨[u], []⟩ [("script", u)]) ∧ ∀ base : Heap, K.In base → base.Ns mainGlobals mg → _root_.Gd.GFn HT.R.prog w K mg base CX0 101 fa fd ["script"] (EvL.spLaw K) := by
  have eB : ((HT.fb.all fun f => f K) && HT.fn.all fun d => d.codeB K) = true := congrArg (fun z : HT.TT => z.1) e
  have eF : HT.fn.map (fun d => Hf.fnV K (d.at_ K)) = HT.fn.map Hf.FD.val := congrArg (fun z : HT.TT => z.2.1) e
  have eD := congrArg (fun z : HT.TT => z.2.2.1) e
  have kF : Hf.KForm HT.R.prog w K (He.ga K "FORMS") HT.rowsF := Hf.formT_ok (congrArg (fun z : HT.TT => z.2.2.2) e)
  obtain ⟨z_len, z_int, z_range, z_tuple, z_list, z_str, z_isinstance, z_bool, z_abs, z_max, z_repr, z_enumerate, z_zip, z_sum, z_any, z_all, z_set, z_super⟩ := of_decide_eq_true (Hf.say_b eB (i := 0) rfl)
  obtain ⟨a_CountermarchError, a_TreeError, a_RESERVED, a_is_integer, a_is_between, a_is_name, a_ROWS, a_RECORDS, a_FORMS, a_parts_of, a_is_plain, a_parts_of_form, a_pair_up, a_inner_bodies, a_bodies_of, a_Scope, a_handed_names, a_changed_names, a_used_names, a_NODES, a_check, a_cells, a_layout, a_variables_at, a_has_shape, a_keeps_limits, a_keeps_node_limits, a_check_declared_names, a_check_heads, a_first_items, a_are_distinct, a_check_body, a__law_draws, a__law_take, a__law_number, a__law_index, a__law_place, a__law_expression, a__law_test, a__law_call, a__law_body, a__law_statement, a__law_tree, a__law_layout, a__law_scopes, a_law⟩ := of_decide_eq_true (Hf.say_b eB (i := 1) rfl)
  obtain ⟨t_PRIME, g_PRIME⟩ := Hf.intB_ok (Hf.say_b eB (i := 2) rfl)
  obtain ⟨t_MAX_DEPTH, g_MAX_DEPTH⟩ := Hf.intB_ok (Hf.say_b eB (i := 3) rfl)
  obtain ⟨t_MAX_CELLS, g_MAX_CELLS⟩ := Hf.intB_ok (Hf.say_b eB (i := 4) rfl)
  obtain ⟨t_MAX_SIZE, g_MAX_SIZE⟩ := Hf.intB_ok (Hf.say_b eB (i := 5) rfl)
  obtain ⟨t_MAX_NODES, g_MAX_NODES⟩ := Hf.intB_ok (Hf.say_b eB (i := 6) rfl)
  obtain ⟨t_MAX_INTEGER, g_MAX_INTEGER⟩ := Hf.intB_ok (Hf.say_b eB (i := 7) rfl)
  obtain ⟨t_MAX_PROCEDURES, g_MAX_PROCEDURES⟩ := Hf.intB_ok (Hf.say_b eB (i := 8) rfl)
  obtain ⟨t_MAX_HANDED, g_MAX_HANDED⟩ := Hf.intB_ok (Hf.say_b eB (i := 9) rfl)
  obtain ⟨t_LONGEST_NAME, g_LONGEST_NAME⟩ := Hf.intB_ok (Hf.say_b eB (i := 10) rfl)
  obtain ⟨t_LETTERS, g_LETTERS⟩ := Hf.strB_ok (Hf.say_b eB (i := 11) rfl)
  obtain ⟨t_LETTERS_AND_DIGITS, g_LETTERS_AND_DIGITS⟩ := Hf.strB_ok (Hf.say_b eB (i := 12) rfl)
  obtain ⟨is_RESERVED, n_RESERVED, s_RESERVED, q_RESERVED, y_RESERVED, v_RESERVED⟩ := Hf.tupT_ok (Hf.say_b eB (i := 13) rfl)
  obtain ⟨is_NODES, n_NODES, s_NODES, q_NODES, y_NODES, v_NODES⟩ := Hf.tupT_ok (Hf.say_b eB (i := 14) rfl)
  have x_TreeError := Hf.errB_ok (Hf.say_b eB (i := 15) rfl)
  have x_Scope := Hf.clB_ok (Hf.say_b eB (i := 16) rfl)
  obtain ⟨oc_law, od_law, sl_law, kV_law, dc_law, pm_law, an_law, cd_law, ct_law, l_law, c_law, k_law⟩ := Hf.say_fun eB eF (i := 46) rfl rfl
  have F_law := fun_mk (st := ET.tp 62) l_law c_law k_law
  have b_law := F_law.binds (ps := ["script"]) fun _ _ _ _ _ _ us hl => match us, hl with | [_], _ => rfl
  have m_law := PySem.W.mg_of X G a_law
  have D_law : DefAt K f_law (He.ga K "law") _ := ⟨⟨_, _, _, F_law, rfl, rfl⟩, b_law, by kernel_rfl⟩
  have ee := hfa.symm.trans m_law
  cases ee
  refine ⟨_, fun s u => .of_eq rfl, fun base _ _ => EvL.law_gfn (law_ok (ET.tbf X e G) 98 (x := "law") (d := f_law) (by kernel_rfl) D_law) pure⟩
end EvEnd
open PySem PySem.W PyProof.Rows
set_option maxRecDepth 100000 in
set_option maxHeartbeats 0 in
theorem PySem.Challenge.cw_countermarch_k08_cells_and_variables_holds : PySem.Challenge.rw_countermarch_k08_cells_and_variables.Holds := by
  w_on; o_law
  refine Hd.head_X (r := OpenLaw.row PySem.Challenge.rw_countermarch_k08_cells_and_variables) (q := HT.qv) (H := Hf.hookF HT.TK HT.TV) (ob := Hf.obF HT.TK) (M := 20000) (i := 22) (loose := HT.names) (d := HandSHeadRun.topDef (OpenLaw.row PySem.Challenge.rw_countermarch_k08_cells_and_variables).prog 62) (kwd := []) (Hf.obF_eq HT.TK HT.TV)
    (by kernel_rfl) (fun s => by kernel_rfl) HT.run (by kernel_rfl) (by kernel_rfl) (by kernel_rfl) (by rfl) (by first | assumption | decide +kernel) (by decide +kernel) ⟨rfl, rfl, rfl, rfl, rfl, by decide +kernel⟩ ?hw ?hc
  case hw => w_witness2
  case hc =>
    refine Hf.walkX (l := PySem.Challenge.rw_countermarch_k08_cells_and_variables) (n := 63) (k := 101) (x := "script") (sp := EvL.spLaw) rfl (by decide) (by kernel_rfl) ⟨rfl, by decide, by decide⟩ ?F (fun K H a ns hl ho hS => EvL.told hl ho hS)
    intro w mg fa h K KX e G hmg0
    have hmg : mg ("law" : PySem.Str) = some (.ref fa) := by
      have e : (HandSHeadRun.topDef (OpenLaw.row PySem.Challenge.rw_countermarch_k08_cells_and_variables).prog 62).name = ("law" : PySem.Str) := by kernel_rfl
      rw [← e]
      exact hmg0
    exact EvEnd.all_mk Pt.law_pure KX e G hmg
#print axioms PySem.Challenge.cw_countermarch_k08_cells_and_variables_holds

