import PyProof.Rows.All
import Wide.All
import OpenK.AllK
import Wide.FinOn
import HandS.Base
import HandS.Call
import HandS.List
import HandS.Comp
import HandS.Ends
import HandS.Exc
import HandS.TryOnly
import HandS.ExcOwn
import HandS.Words
import HandS.WordsList
import HandS.WordsExc
import HandS.Flow
import HandS.Wide
import HandS.Style
import HandS.IsInst
import HandS.ExcIs
import KE.RegKIsAll
import HandS.Walk
import HandS.ExcInit
import HandS.ExcField
import HandS.FStr
import HandS.FStrTup
import KE.KExcSuper
import KE.KExcIs
import HandS.Text
import HandS.Codes
import PySem.Challenge.RW_countermarch_k05_split_words
set_option Elab.async false
set_option linter.all false
set_option maxRecDepth 100000
set_option maxHeartbeats 4000000
/-! ## An own error's __init__ that begins with super().__init__(..), as a def of the hand layer -/
namespace Su
open PySem PySem.Spec PyProof.Rows L2
section
variable {P : Program} {w : World} {K : PySem.W.Frag} {mg : Str → Option Value} {base : Heap}
/-- the written part's word on the class at C, whose __init__ at f closes over the cell cc; its code at cda -/
structure Sup (P : Program) (K : PySem.W.Frag) (C cc cda : Addr) : Prop where
  ex : OexC K C
  up : PySem.W.ks_superIn K C C "__init__" = some (some (.builtin "ValueError.__init__"))
  noAny : PySem.W.nsIn K cStatics "thirdparty.any" = some none
  isV : PySem.W.subIn K (.ref C) (.type "ValueError") = some true
  cell : ∃ (cl : Value) (cld : Option Addr) (csl : Array (Option Value)), K.lookup cc = some ⟨cl, cld, .cell (some (.ref C)), csl⟩
  own : PySem.W.mroIn K C (.ref C) = some true
  plain : PySem.W.nsIn K mainGlobals "super" = some none
  code : ∃ (ccl : Value) (cdd : Option Addr) (vs : Array Value) (ccs : Array (Option Value)) (file : Str) (tf : Tok), K.lookup cda = some ⟨ccl, cdd, .fields vs, ccs⟩ ∧ vs[2]? = some (.str file tf) ∧ ((P.main.file : Str) == file) = true
  top : (P.main.scope.names.lookup ("super" : Str)).isSome = false
structure Scp (ps : List Str) (sc : Scope) : Prop where
  kind : sc.kind = .function
  co : sc.isCoroutine = false
  gen : sc.isGenerator = false
  nd : ps.Nodup
  par : ∀ x ∈ ps, sc.names.lookup x = some .local
  free : ∀ y ∈ sc.names, y.2 = .free → y.1 = "__class__"
  nocell : ∀ y ∈ sc.names, y.2 ≠ .cell
  sup : sc.names.lookup ("super" : Str) = some .globalImplicit
  kc : sc.names.lookup ("__class__" : Str) = some .free
def envS (qual : Str) (scope : Scope) (L f cda cc : Addr) : Env := PySem.W.ksEnv qual scope L f (.ref cda) cc
def cxS (P : Program) (w : World) (K : PySem.W.Frag) (mg : Str → Option Value) (base : Heap) (ps : List Str) (qual : Str) (scope : Scope) (f cda cc : Addr) (A : Around) (outer : List Env) (s : Shared) (H : Hp) : Cx where
  prog := P
  w := w
  K := K
  mg := mg
  base := base
  A := A.deeper (envS qual scope s.heap.objs.size f cda cc)
  N := ps
  s_0 := s
  H_0 := H
  env := envS qual scope s.heap.objs.size f cda cc
  outer := outer
  stack := envS qual scope s.heap.objs.size f cda cc :: outer
  ex := []
  fn := fun x => x != "__class__"
  calm := true
  pn := []
  xe := fun e s' => wpAny (model P w) (A.deeper (envS qual scope s.heap.objs.size f cda cc)) (leaving (envS qual scope s.heap.objs.size f cda cc) e) (fun _ _ => False) (fun _ _ => False) s'
theorem look_zip : ∀ {ps : List Str} {us : List Value} {i : Nat} {x : Str} {u : Value}, ps.Nodup → ps[i]? = some x → us[i]? = some u → (ps.zip us).reverse.lookup x = some u := by
  intro ps us i x u nd hp hu
  have key : ∀ (l : List (Str × Value)), (∀ p ∈ l, p.1 = x → p.2 = u) → (x, u) ∈ l → l.lookup x = some u := by
    intro l
    induction l with
    | nil => intro _ h; cases h
    | cons p l ih =>
      intro h1 h2
      obtain ⟨a, b⟩ := p
      by_cases e : x = a
      · subst e
        have := h1 (x, b) List.mem_cons_self rfl
        simp only at this
        rw [this]
        simp [List.lookup]
      · have e' : (x == a) = false := by simpa using e
        rw [show ((a, b) :: l).lookup x = l.lookup x by simp [List.lookup, e']]
        refine ih (fun p hp' => h1 p (List.mem_cons_of_mem _ hp')) ?_
        rcases List.mem_cons.mp h2 with z | z
        · cases z
          exact absurd rfl e
        · exact z
  refine key _ (fun p hp' hx => ?_) ?_
  · have hm := List.mem_reverse.mp hp'
    obtain ⟨j, hj⟩ := List.getElem?_of_mem hm
    obtain ⟨a, b⟩ := p
    have h1 := List.getElem?_zip_eq_some.mp hj
    simp only at h1 hx
    subst hx
    have hi : i < ps.length := (List.getElem?_eq_some_iff.mp hp).1
    have ij : j = i := by
      exact nodup_ix nd h1.1 hp
    subst ij
    rw [hu] at h1
    exact (Option.some.inj h1.2).symm
  · refine List.mem_reverse.mpr (List.mem_of_getElem? (i := i) ?_)
    exact List.getElem?_zip_eq_some.mpr ⟨hp, hu⟩
theorem inv_sup {ps : List Str} {qual : Str} {scope : Scope} {f cda cc C : Addr} {A : Around} {outer : List Env} {s : Shared} {H : Hp} {h1 : Heap} {us : List Value} {vs : List V} {tk : Nat} (S : Scp ps scope) (T : Sup P K C cc cda) (hd : A.handled = none)
    (e0 : Env0 P w K mg base A outer s H) (hl : vs.length = ps.length) (r : Vals vs us) (hns : h1.Ns s.heap.objs.size (fun x => (ps.zip us).reverse.lookup x)) (hk : ∀ b o, s.heap.get? b = some o → h1.get? b = some o) :
    Inv (cxS P w K mg base ps qual scope f cda cc A outer s H) [] (vs.map some) H { s with heap := h1, toks := tk } := by
  have none_in : ∀ b : Addr, b ∉ (cxS P w K mg base ps qual scope f cda cc A outer s H).ex := fun b z => by
    have z' : b ∈ ([] : List Addr) := z
    cases z'
  have one : ∀ {x : Str} {c : Addr}, (envS qual scope s.heap.objs.size f cda cc).cells.lookup x = some c → x = "__class__" ∧ c = cc := by
    intro x c h
    have h' : ([("__class__", cc)] : List (Str × Addr)).lookup x = some c := h
    by_cases e : x = "__class__"
    · subst e
      have : (some cc : Option Addr) = some c := by simpa [List.lookup] using h'
      exact ⟨rfl, (Option.some.inj this).symm⟩
    · have e' : (x == ("__class__" : Str)) = false := by simpa using e
      rw [show ([("__class__", cc)] : List (Str × Addr)).lookup x = none by simp [List.lookup, e']] at h'
      cases h'
  obtain ⟨cl, cld, csl, lcc⟩ := T.cell
  have kcc := e0.mod.kin cc _ lcc
  have hcc := e0.bs cc _ kcc
  have ltc : cc < s.heap.objs.size := Heap.lt_size hcc.1
  refine { ok := ?_, os := rfl, bare := e0.bare, base := Un.kept hk, loc := ⟨_, hns, fun i x v a b c => ?_⟩, cell := fun x c h => ?_, free := e0.hok.fresh (Nat.le_refl _), freeC := fun x c h => ?_, pin := fun p hp => ?_, hok := e0.hok.kept hk, len := ?_ }
  · refine { mod := e0.mod, kind := S.kind, glob := rfl, blt := rfl, above := Nat.le_refl _, inj := fun x y c a b => ?_, has := fun x h => ?_, cab := fun x c a b => ?_, hd := fun _ => hd, frames := Around.frames_deeper e0.frames, stk := .inr ⟨rfl, rfl⟩, exf := fun b z => absurd z (none_in b), bs := e0.bs, bsz := e0.bsz, noex := fun b _ _ => none_in b, exfs := fun b z => absurd z (none_in b), funs := e0.funs, frf := e0.frf }
    · rw [(one a).1, (one b).1]
    · have h' : scope.names.lookup x = some .cell ∨ scope.names.lookup x = some .free := h
      rcases h' with q | q
      · exact absurd rfl (S.nocell _ (PySem.mem_of_lookup q))
      · have : x = "__class__" := S.free _ (PySem.mem_of_lookup q) rfl
        subst this
        exact ⟨cc, by show ([(("__class__" : Str), cc)] : List (Str × Addr)).lookup ("__class__" : Str) = some cc; simp [List.lookup]⟩
    · have a' : (x != "__class__") = true := a
      rw [(one b).1] at a'
      simp at a'
  · have hi : ps[i]? = some x := a
    rw [List.getElem?_map] at b
    cases q : vs[i]? with
    | none => rw [q] at b; cases b
    | some y =>
      rw [q] at b
      cases b
      obtain ⟨u, hu, rv⟩ := r.get q
      exact ⟨u, rv, .inl ⟨S.par x (List.mem_of_getElem? hi), look_zip S.nd hi hu⟩⟩
  · rw [(one h).2]
    exact ⟨some (.ref C), _, hk _ _ hcc.1, rfl⟩
  · rw [(one h).2]
    exact hcc.2
  · have hp' : p ∈ ([] : List (Addr × Obj)) := hp
    cases hp'
  · rw [List.length_map]
    exact hl
/-- ValueError.__init__ bound to an error that is being made -/
theorem init_bound {X : Cx} {pins : List (Addr × Obj)} {σ : L2.St} {H : Hp} {s : Shared} {a u C : Addr} {us : List Value} {Q : Value → Shared → Prop} {E : Value → Shared → Prop} {A : Around} (T : OexC X.K C) (I : Inv X pins σ H s) (ea : H a = some (exo a C none))
    (hu : s.heap.get? u = some (PySem.W.kxs_mw "ValueError.__init__" a)) (fit : us.length ≤ sizeLine) (q : ∀ s', Inv X pins σ H s' → Q .none s') : wpAny (model X.prog X.w) A (call (.ref u) us) Q E s := by
  obtain ⟨nm, qn, N, bs, bm, sn, sub, ab, col, dd, k0, k1, k2, k3, k5, hC, hbm⟩ := T.cls
  have hC' := I.kIn _ _ hC
  obtain ⟨t1, ho⟩ := exo_at I.hok ea
  obtain ⟨hp, g, d, tk, os⟩ := s
  apply wpAny_call
  apply codeAny_of_tree
  change wpAny _ A.in1 (callAny (.ref u) ⟨us, []⟩) _ _ _
  unfold callAny
  apply wpAny_bind
  refine wpAny_load hu ?_
  have is1 : (Value.type "method-wrapper" == Value.type "method" || (Value.type "method-wrapper" == Value.type "builtin_function_or_method" || Value.type "method-wrapper" == Value.type "method-wrapper")) = true := by decide
  simp only [PySem.W.kxs_mw, Bool.or_assoc, is1, if_true]
  refine PySem.W.KFB.if_so (by decide) ?_
  apply wpAny_bind
  refine PySem.W.check_bound_init F.excBase_ValueError.toExcCallFacts hC' ho rfl ?_
  refine wpAny_bind (wpAny_pure (wpAny_pure ⟨plainId_quiet F.excBase_ValueError.init.plain _, codeAny_builtin F.excBase_ValueError.initEntry ?_⟩))
  refine PySem.W.exc_init_tree (cls := .ref C) (t0 := t1) (dv := none) (c2 := .none) (c3 := .none) (b4 := .bool false) ho fit fun h' k e' _ => ?_
  have J := I.write (t' := tk) (x := a) (e := a) (o := exo a C none) (by rw [ea]; exact True.intro) (.inl rfl) k ⟨_, e'⟩ (exo_ok e')
  have same : upd H a (exo a C none) = H := by
    funext b
    by_cases hb : b = a
    · subst hb
      rw [upd_same, ea]
    · exact upd_ne hb
  rw [same] at J
  exact q _ J
/-- super().__init__(..) and what follows -/
theorem fn_sup {ps : List Str} {name qual : Str} {params : Arguments} {scope : Scope} {f cda cc C : Addr} {k : Nat} {sp : Sp} {oc dV kV doc pm ct : Value} {od an : Option Addr} {osl : Array (Option Value)} {p0 p1 p2 p3 p4 : Pos} {e : Expr} {es : List Expr} {rest : List Stmt} {ar : Arg}
    (look : K.lookup f = some ⟨oc, od, .func (PySem.W.ksFn name qual params (.Expr (.Call (.Attribute (.Call (.Name "super" p0) [] [] p1) "__init__" p2) (e :: es) [] p3) p4 :: rest) scope dV kV doc pm an (.ref cda) ct cc), osl⟩)
    (code : PySem.W.codeIn K (.ref cda) qual = true) (S : Scp ps scope) (T : Sup P K C cc cda) (first : (params.posonlyargs ++ params.args).head? = some ar) (first' : ps[0]? = some ar.arg)
    (len : ∀ vs H Q E, sp vs H Q E → vs.length = ps.length)
    (inner : ∀ (A : Around) (outer : List Env) (s : Shared) (H : Hp) (vs : List V) (Q : VK) (E : XK), Room k (A.deeper (envS qual scope s.heap.objs.size f cda cc)) → sp vs H Q E →
      ∃ (a : Addr) (ta : TA) (tb : TS), vs[0]? = some (.ref a) ∧ H a = some (exo a C none) ∧ PA (cxS P w K mg base ps qual scope f cda cc A outer s H) (e :: es) ta ∧ PSs (cxS P w K mg base ps qual scope f cda cc A outer s H) rest tb ∧
        ta (vs.map some) H fun ws H1 => ws.length ≤ 1000 ∧ H1 a = some (exo a C none) ∧ tb { rt := Q, nx := fun _ => Q V.non } (vs.map some) H1)
    (he : ∀ env, starEach (e :: es) env = (false, eval e env) :: starEach es env := by intro; rfl) (hpl : ∀ (pos : Pos) (env : Env), (backTo pos (starEach es env)).any (·.1) = false := by intros; rfl)
    (hev : ∀ env, ∃ pl, eval (.Call (.Attribute (.Call (.Name "super" p0) [] [] p1) "__init__" p2) (e :: es) [] p3) env = (do
      let ov ← attributeBase (.Call (.Name "super" p0) [] [] p1) "__init__" env (eval (.Call (.Name "super" p0) [] [] p1) env)
      standAt p2.atName
      let (f, first) ← holding [ov] (getMethod ov "__init__" pl)
      callWith p3 f first (backTo p3 (starEach (e :: es) env)) []) := by intro; exact ⟨_, rfl⟩)
    (hsw : ∀ env, swapsWith (.Call (.Attribute (.Call (.Name "super" p0) [] [] p1) "__init__" p2) (e :: es) [] p3) none p4.line env = pure false := by intro; rfl) :
    FnOk P w K mg base CX0 (k + 1) f (PySem.W.ksFn name qual params (.Expr (.Call (.Attribute (.Call (.Name "super" p0) [] [] p1) "__init__" p2) (e :: es) [] p3) p4 :: rest) scope dV kV doc pm an (.ref cda) ct cc) ps sp := by
  refine ⟨len, fun A outer s H args us vs Q E room e0 bd rel told => ?_⟩
  have cnt := len _ _ _ _ told
  have isK : K.In s.heap := e0.mod.kin.keeps fun b o q => (e0.bs b o q).1
  refine PySem.ks_codeAny_call_defAt room.depth (isK _ _ look) rfl (e0.mod.nolimit.keeps fun b o q => (e0.bs b o q).1) (PySem.W.codeRec_of isK code) rfl bd S.nocell (fun y hy => ?_) (fun h1 hns hk1 => ?_) S.co S.gen S.kind
  · obtain ⟨n, v⟩ := y
    exact S.par n (List.of_mem_zip hy).1
  have I : Inv (cxS P w K mg base ps qual scope f cda cc A outer s H) [] (vs.map some) H { s with heap := h1, toks := s.toks + (ps.zip us).length } := inv_sup S T room.hd e0 cnt rel hns hk1
  obtain ⟨a, ta, tb, v0, ea, pa, pb, q⟩ := inner A outer s H vs Q E (room.deeper _) told
  have quietX := I.quiet
  obtain ⟨pl, ev⟩ := hev (envS qual scope s.heap.objs.size f cda cc)
  obtain ⟨ccl, cdd, vv, ccs, file, tf, hcode, hvs, hfile⟩ := T.code
  obtain ⟨cl, cld, csl, hcell⟩ := T.cell
  obtain ⟨nm, qn, N, bs, bm, sn, sub, ab, col, dd, k0, k1, k2, k3, k5, hC, hbm⟩ := T.ex.cls
  have isD : PySem.W.clsIn K C = some { name := nm, bases := bs, mro := .ref C :: bm, ns := N, qualname := qn, hasDict := true, slotNames := sn, subclasses := sub, abstract := ab, collection := col, hasDel := false } := by
    unfold PySem.W.clsIn
    rw [hC] <;> rfl
  obtain ⟨t1, ho⟩ := exo_at I.hok ea
  obtain ⟨mb, nsb, boots⟩ := e0.mod.blt
  have kp : ∀ {b : Addr} {o : Obj}, base.get? b = some o → h1.get? b = some o := fun {b o} z => hk1 _ _ (e0.bs _ _ z).1
  have us0 : us[0]? = some (.ref a) := by
    obtain ⟨u, hu, rv⟩ := rel.get v0
    cases rv
    exact hu
  have self := look_zip (us := us) S.nd first' us0
  refine PySem.ks_wpAt_execs_cons (PySem.ks_wpAt_Expr_any (PySem.ks_wpAt_MethodCall (pl := pl) ?_ ev) quietX (hsw _))
  refine PySem.ks_wpAt_super_base (env := envS qual scope s.heap.objs.size f cda cc) S.sup S.kc rfl rfl (hk1 _ _ (isK _ _ look)) rfl first rfl (hk1 _ _ (isK _ _ hcode)) rfl hvs hfile T.top ?_
  refine PySem.W.ks_loadName_global S.kind S.sup (PySem.Calls.loadGlobal_builtin (env := envS qual scope s.heap.objs.size f cda cc) (e0.mod.glob.keeps fun b o z => kp z) (PySem.W.mg_none_of e0.mod.kin e0.mod.glob T.plain) (nsb.keeps fun b o z => kp z) ((boots _ (by decide +kernel)).trans PyProof.Rows.Boot.«super») ⟨rfl, ?_⟩)
  refine wpAny_loadName_free (c := cc) (v := .ref C) S.kind S.kc (by show ([(("__class__" : Str), cc)] : List (Str × Addr)).lookup ("__class__" : Str) = some cc; simp [List.lookup]) ⟨_, hk1 _ _ (isK _ _ hcell), rfl⟩ ?_
  refine wpAny_loadName_local (m := fun x => (ps.zip us).reverse.lookup x) S.kind (S.par _ (List.mem_of_getElem? first')) hns self ?_
  refine PySem.ks_wpAny_isType_cls (hk1 _ _ (isK _ _ hC)) rfl ⟨rfl, ?_⟩
  refine PySem.ks_wpAny_call_super (hk1 _ _ (isK _ _ hC)) rfl ho rfl (fun c z => by cases z) (PySem.W.looks_mroIn (isK.keeps hk1) T.own) (fun h2 e2 kk2 => ?_)
  have I2 := I.kept (h' := h2) (t' := s.toks + (ps.zip us).length) kk2
  obtain ⟨t2, ho2⟩ := exo_at I2.hok ea
  have isK2 : K.In h2 := I2.kIn
  have up := T.up
  unfold PySem.W.ks_superIn at up
  rw [isD] at up
  have aC : a ≠ C := fun z => by
    have h3 := isK2 _ _ hC
    rw [← z, ho2] at h3
    cases h3
  have looksV : PySem.W.Looks (model P w) h2 (isInstance (.ref a) (.type "ValueError")) true :=
    (show PySem.W.InstAt h2 a _ C none from ⟨ho2, rfl, rfl, trivial⟩).type.andThen (PySem.W.looks_subIn isK2 T.isV)
  refine PySem.W.kxs_getMethod PySem.W.kxs_ValueError e2 (PySem.W.looks_opaque isK2 T.noAny) (l₀ := .ref C :: bm) (fun A Q E s k q => wpAny_bind ((PySem.W.looks_clsIn isK2 isD) A _ E s k (wpAny_pure q))) rfl isK2 up looksV aC rfl ?_
  have I3 := I2.kept (h' := h2.push (PySem.W.kxs_mw "ValueError.__init__" a)) (t' := s.toks + (ps.zip us).length + 1) (fun b o z => Heap.get?_push_of_some _ z)
  have eu : (h2.push (PySem.W.kxs_mw "ValueError.__init__" a)).get? h2.objs.size = some (PySem.W.kxs_mw "ValueError.__init__" a) := Heap.get?_push_at rfl rfl
  have I4 : Inv (cxS P w K mg base ps qual scope f cda cc A outer s H) [(h2.objs.size, PySem.W.kxs_mw "ValueError.__init__" a)] (vs.map some) H { s with heap := h2.push (PySem.W.kxs_mw "ValueError.__init__" a), toks := s.toks + (ps.zip us).length + 1 } := by
    refine I3.pins_of fun p hp => ?_
    cases List.mem_singleton.mp hp
    refine ⟨eu, I2.hok.fresh (Nat.le_refl _), fun z => ?_, I2.nofs (Nat.le_refl _), fun v z => by cases z⟩
    have := I2.lt
    rw [← z] at this
    exact absurd this (Nat.lt_irrefl _)
  refine PySem.W.kxs_callWith (i := "ValueError.__init__") (x := a) ?_ ?_
  · rw [he]
    exact hpl _ _
  have args : ∀ (R : Args → Shared → Prop) (Z : Value → Shared → Prop) (s4 : Shared), wpAny (model P w) (A.deeper (envS qual scope s.heap.objs.size f cda cc)) (spliced (backTo p3 (starEach (e :: es) (envS qual scope s.heap.objs.size f cda cc)))) (fun vs s' => R ⟨vs, []⟩ s') Z s4 →
      wpAny (model P w) (A.deeper (envS qual scope s.heap.objs.size f cda cc)) (evalArgs (.ref h2.objs.size) true (backTo p3 (starEach (e :: es) (envS qual scope s.heap.objs.size f cda cc))) []) R Z s4 := by
    intro R Z s4 h4
    rw [he] at h4 ⊢
    exact PySem.Calls.evalArgs_plain h4
  refine args _ _ _ (wpAny_mono (pa.run p3 _ _ _ _ _ I4 q) (fun ws s5 h5 => ?_) (fun _ _ z => z))
  obtain ⟨wv, H1, I5, r5, lw, ea5, q5⟩ := h5
  have pu := I5.pin (h2.objs.size, PySem.W.kxs_mw "ValueError.__init__" a) (List.mem_append_right _ (List.mem_singleton.mpr rfl))
  refine ⟨pu.1, ?_⟩
  refine init_bound T.ex I5 ea5 pu.1 ?_ (fun s6 I6 => ?_)
  · rw [List.nil_append, ← Paired.length r5, sizeLine_eq]
    omega
  have I7 : Inv (cxS P w K mg base ps qual scope f cda cc A outer s H) [] (vs.map some) H1 s6 := I6.pins_of fun p hp => by cases hp
  refine wpAt_of_wpAny (wpAny_mono (pb.run _ _ _ _ _ I7 q5) (fun fl s' hs => ?_) (fun _ _ z => z))
  cases fl with
  | ret u =>
    obtain ⟨v, _, H', J, rv, qq⟩ := hs
    exact ⟨v, H', J.os, J.bare, J.base, J.hok, rv, qq⟩
  | next =>
    obtain ⟨_, H', J, qq⟩ := hs
    exact ⟨V.non, H', J.os, J.bare, J.base, J.hok, rfl, qq⟩
  | brk =>
    obtain ⟨_, _, _, qq⟩ := hs
    exact qq.elim
  | cont =>
    obtain ⟨_, _, _, qq⟩ := hs
    exact qq.elim
end
end Su

/-! ## The drawn trees: data, what carries it, the draws -/
namespace Tr
open PySem L2
def top (i : Nat) : Stmt := PySem.Challenge.pw_countermarch_k05_split_words.main.body.getD i (.Pass ⟨0, 0, 0, 0⟩)
/-! ### tuples of tuples, None, truth values, whole numbers and texts, at any depth -/
mutual
def Tv (K : PySem.W.Frag) (H : Hp) : PyData → V → Prop
  | .none, v => v = .non
  | .bool b, v => v = .bl b
  | .int i, v => v = .int i
  | .str s, v => v = .str s
  | .tuple ds, v => ∃ a xs, v = .ref a ∧ SqT K H a xs ∧ TvL K H ds xs
  | .list _, _ => False
  | .dict _, _ => False
def TvL (K : PySem.W.Frag) (H : Hp) : List PyData → List V → Prop
  | [], vs => vs = []
  | d :: ds, vs => ∃ x xs, vs = x :: xs ∧ Tv K H d x ∧ TvL K H ds xs
end
/-- no tuple is lost -/
def Carry (K : PySem.W.Frag) (H H' : Hp) : Prop := ∀ a xs, SqT K H a xs → SqT K H' a xs
section
variable {K : PySem.W.Frag} {H H' H2 : Hp}
theorem Carry.trans (c : Carry K H H') (e : Carry K H' H2) : Carry K H H2 := fun a xs h => e a xs (c a xs h)
mutual
theorem Tv.carry (c : Carry K H H') : ∀ (d : PyData) (v : V), Tv K H d v → Tv K H' d v
  | .none, _, h => h
  | .bool _, _, h => h
  | .int _, _, h => h
  | .str _, _, h => h
  | .tuple ds, _, h => by
    obtain ⟨a, xs, e, s, l⟩ := h
    exact ⟨a, xs, e, c a xs s, TvL.carry c ds xs l⟩
  | .list _, _, h => False.elim h
  | .dict _, _, h => False.elim h
theorem TvL.carry (c : Carry K H H') : ∀ (ds : List PyData) (vs : List V), TvL K H ds vs → TvL K H' ds vs
  | [], _, h => h
  | d :: ds, _, h => by
    obtain ⟨x, xs, e, t, l⟩ := h
    exact ⟨x, xs, e, Tv.carry c d x t, TvL.carry c ds xs l⟩
end
/-- all but the object at p stands as it stood -/
def Stays (p : Addr) (H H' : Hp) : Prop := ∀ b o, b ≠ p → H b = some o → H' b = some o
theorem Stays.refl (p : Addr) (H : Hp) : Stays p H H := fun _ _ _ h => h
theorem Stays.trans {p : Addr} (s : Stays p H H') (t : Stays p H' H2) : Stays p H H2 := fun b o n h => t b o n (s b o n h)
theorem same_stays {p : Addr} (s : Same H H') : Stays p H H' := fun b o _ h => s b o h
theorem stays_upd {p : Addr} {o : HO} : Stays p H (upd H p o) := fun b u n h => by rw [upd_ne n]; exact h
theorem stays_new {p q : Addr} {o : HO} (h : H q = none) : Stays p H (upd H q o) := fun b u _ e => by rw [upd_ne (ne_of_none e h)]; exact e
/-- the counter of the draws -/
def AtL (H : Hp) (p : Addr) : Prop := ∃ j : Int, 0 ≤ j ∧ H p = some (.lst [.int j])
theorem AtL.new {p q : Addr} {o : HO} (h : AtL H p) (n : H q = none) : AtL (upd H q o) p := by
  obtain ⟨j, h0, e⟩ := h
  exact ⟨j, h0, by rw [upd_ne (ne_of_none e n)]; exact e⟩
theorem Stays.carry {p : Addr} (s : Stays p H H') (h : AtL H p) : Carry K H H' := by
  obtain ⟨j, _, e⟩ := h
  intro a xs q
  rcases q with (q | ⟨o, q⟩) | q
  · exact .inl (.inl (s a _ (fun z => by rw [z, e] at q; cases q) q))
  · exact .inl (.inr ⟨o, s a _ (fun z => by rw [z, e] at q; cases q) q⟩)
  · exact .inr q
theorem Stays.list {p a : Addr} {xs : List V} (s : Stays p H H') (n : a ≠ p) (h : SqL K H a xs) : SqL K H' a xs := by
  rcases h with (q | ⟨o, q⟩) | q
  · exact .inl (.inl (s a _ n q))
  · exact .inl (.inr ⟨o, s a _ n q⟩)
  · exact .inr q
theorem same_carry (s : Same H H') : Carry K H H' := by
  intro a xs q
  rcases q with (q | ⟨o, q⟩) | q
  · exact .inl (.inl (s a _ q))
  · exact .inl (.inr ⟨o, s a _ q⟩)
  · exact .inr q
theorem carry_new {q : Addr} {o : HO} (h : H q = none) : Carry K H (upd H q o) := same_carry fun b u e => by rw [upd_ne (ne_of_none e h)]; exact e
end
theorem iteT' {c : Bool} {A B : Prop} (h : c = true) (a : A) : if c = true then A else B := by
  rw [if_pos h]
  exact a
theorem iteF' {c : Bool} {A B : Prop} (h : c = false) (b : B) : if c = true then A else B := by
  rw [h, if_neg Bool.false_ne_true]
  exact b
/-- the built-in names that no text of the program's stands before -/
structure Bi (mg : Str → Option Value) : Prop where
  len : mg "len" = none
  int : mg "int" = none
  range : mg "range" = none
  tuple : mg "tuple" = none
  list : mg "list" = none
  str : mg "str" = none
  isinstance : mg "isinstance" = none
  bool : mg "bool" = none
  abs : mg "abs" = none
  max : mg "max" = none
/-- a def of the text as its callers want it -/
structure Cal (P : Program) (w : World) (K : PySem.W.Frag) (mg : Str → Option Value) (base : Heap) (CX : CXT) (k : Nat) (x : Str) (ps : List Str) (sp : Sp) where
  f : Addr
  fd : FuncData
  ok : FnOk P w K mg base CX k f fd ps sp
  b : Binds K fd ps []
  kp : PySem.W.keepIn K (.ref f) = true
  m : mg x = some (.ref f)

/-! ## The program's own errors being made -/
namespace Er
open PySem PySem.Spec PyProof.Rows L2
section
variable {X : Cx}
theorem ints_shown {prog : Program} {w : World} : ∀ {ns : List Int} {its : List Value}, Vals (ns.map V.int) its → (∀ n ∈ ns, n.natAbs < 10 ^ 12) → ReprAll prog w its (ns.map fun n => Str.ofString (toString n))
  | [], _, r, _ => by
    cases r
    exact .nil
  | n :: ns, _, r, h => by
    cases r with
    | cons r1 r2 =>
      obtain ⟨t, rfl⟩ := r1
      have hn := h n List.mem_cons_self
      refine .cons (ReprIs.int t ?_) (ints_shown r2 fun m hm => h m (List.mem_cons_of_mem _ hm))
      by_cases z : n.natAbs = 0
      · rw [z]; decide
      · exact Nat.lt_trans ((Nat.log2_lt z).mpr (Nat.lt_of_lt_of_le hn (show 10 ^ 12 ≤ 2 ^ 40 by decide))) (by decide)
theorem ints_len : ∀ {ns : List Int}, (∀ n ∈ ns, n.natAbs < 10 ^ 12) → ((ns.map fun n => Str.ofString (toString n)).map (·.length)).sum ≤ 13 * ns.length
  | [], _ => Nat.le_refl _
  | n :: ns, h => by
    have h1 := ints_len fun m hm => h m (List.mem_cons_of_mem _ hm)
    have h2 := PyData.shown_int_le (h n List.mem_cons_self)
    rw [PyData.shown_int] at h2
    rw [List.map_cons, List.map_cons, List.sum_cons, List.length_cons]
    omega
/-- {t}, t a tuple of ints: some short text -/
def tFmtI (K : PySem.W.Frag) (te : TE) : TE := fun σ H Q => te σ H fun x H1 => ∃ (a : Addr) (ns : List Int), x = .ref a ∧ SqT K H1 a (ns.map V.int) ∧ ns.length ≤ 100 ∧ (∀ n ∈ ns, n.natAbs < 10 ^ 12) ∧ ∀ m : Str, m.length ≤ 2000 → Q (.str m) H1
theorem pe_fmtI {e : Expr} {te : TE} {pos : Pos} {k : Nat} (hr : Room k X.A) (he : PE X e te) : PE X (.FormattedValue e (-1) none pos) (tFmtI X.K te) := by
  refine ⟨fun pins s σ H Q I h => ?_⟩
  refine wpAny_FormattedValue_plain (thn (he.run pins s σ H _ I h) fun v s1 hv => ?_)
  obtain ⟨x, H1, I1, r1, a, ns, rfl, ht, hl, hs, q⟩ := hv
  cases r1
  obtain ⟨its, rv, ⟨o, ho, hcl, n, hd⟩, _⟩ := I1.tuple ht
  have hu := hr.un
  have e1 := tupleText_len_le (ns.map fun n => Str.ofString (toString n))
  have e2 := ints_len hs
  rw [List.length_map] at e1
  have e3 : (tupleText (ns.map fun n => Str.ofString (toString n))).length ≤ 1900 := by omega
  exact fmt_tuple (ts := ns.map fun n => Str.ofString (toString n)) (by omega) ho hcl hd (ints_shown rv hs) (Nat.le_trans e3 (by decide)) fun m u tk hm => ⟨.str m, H1, I1.tok _, ⟨u, rfl⟩, q m (by omega)⟩
end
abbrev sTE : Stmt := inClass (Tr.top 3) 0
section
variable {P : Program} {w : World} {K : PySem.W.Frag} {mg : Str → Option Value} {base : Heap}
def spTE (K : PySem.W.Frag) (C : Addr) : Sp := fun vs H Q _ => ∃ (a p : Addr) (ns : List Int) (r : Str), vs = [.ref a, .ref p, .str r] ∧ SqT K H p (ns.map V.int) ∧ ns.length ≤ 100 ∧ (∀ n ∈ ns, n.natAbs < 10 ^ 12) ∧ r.length ≤ 1000 ∧ H a = some (exo a C none) ∧
  ∀ dx, H dx = none → dx ≠ a → Q .non (upd (upd (upd H dx (exd dx [("path", .ref p)])) a (exo a C (some dx))) dx (exd dx [("reason", .str r), ("path", .ref p)]))
theorem scTE : Su.Scp ["self", "path", "reason"] (defScope sTE) := ⟨rfl, rfl, rfl, by decide +kernel, by decide +kernel, by decide +kernel, by decide +kernel, by decide +kernel, by decide +kernel⟩
theorem ok_te {f cda cc C : Addr} {oc kV doc pm ct : Value} {od an : Option Addr} {osl : Array (Option Value)}
    (look : K.lookup f = some ⟨oc, od, .func (PySem.W.ksFn "__init__" "TreeError.__init__" (defArgs sTE) (defBody sTE) (defScope sTE) .none kV doc pm an (.ref cda) ct cc), osl⟩)
    (code : PySem.W.codeIn K (.ref cda) "TreeError.__init__" = true) (T : Su.Sup P K C cc cda) (n1 : PySem.W.findIn K (.ref C) "path" = some none) (n2 : PySem.W.findIn K (.ref C) "reason" = some none) :
    FnOk P w K mg base CX0 1 f (PySem.W.ksFn "__init__" "TreeError.__init__" (defArgs sTE) (defBody sTE) (defScope sTE) .none kV doc pm an (.ref cda) ct cc) ["self", "path", "reason"] (spTE K C) := by
  refine Su.fn_sup look code scTE T rfl rfl (fun vs H Q E h => ?_) (fun A outer s H vs Q E hr h => ?_)
  · obtain ⟨a, p, ns, r, rfl, _⟩ := h
    rfl
  · obtain ⟨a, p, ns, r, rfl, hp, hl, hs, hl2, ea, q⟩ := h
    refine ⟨a, _, _, rfl, ea, pa_cons (pe_joined (.cons pe_str (.cons (pe_fmtI hr (pv 1)) (.cons pe_str (.cons (pe_fmt (pv 2)) .nil))))) pa_nil, pss_cons (ps_ost (pv 0) (pv 1)) (pss_one (ps_ost (pv 0) (pv 2))), ?_⟩
    have big : 4000 ≤ sizeLine := by decide
    refine ⟨_, rfl, ?_, _, rfl, p, ns, rfl, hp, hl, hs, fun m hm => ⟨_, rfl, ?_, _, rfl, ?_, _, rfl, .inl ⟨r, rfl, Nat.le_trans hl2 (by decide), _, rfl, ?_, ?_⟩⟩⟩
    · exact Nat.le_trans (show (Str.empty ++ ("the tree is wrong at " : Str)).length ≤ 4000 by decide +kernel) big
    · rw [strLen_append]
      exact Nat.le_trans (Nat.add_le_add (show (Str.empty ++ ("the tree is wrong at " : Str)).length ≤ 100 by decide +kernel) hm) (by decide)
    · rw [strLen_append, strLen_append]
      exact Nat.le_trans (Nat.add_le_add (Nat.add_le_add (show (Str.empty ++ ("the tree is wrong at " : Str)).length ≤ 100 by decide +kernel) hm) (show (": " : Str).length ≤ 100 by decide +kernel)) (by decide)
    · rw [strLen_append, strLen_append, strLen_append]
      exact Nat.le_trans (Nat.add_le_add (Nat.add_le_add (Nat.add_le_add (show (Str.empty ++ ("the tree is wrong at " : Str)).length ≤ 100 by decide +kernel) hm) (show (": " : Str).length ≤ 100 by decide +kernel)) hl2) (by decide)
    refine ⟨(show 1 ≤ 1000 by decide), ea, ?_⟩
    refine ⟨_, rfl, _, rfl, a, C, rfl, T.ex, n1, .inl ⟨ea, fun dx hdx ne => ?_⟩⟩
    refine ⟨_, rfl, _, rfl, a, C, rfl, T.ex, n2, .inr ⟨dx, [(("path" : Str), V.ref p)], upd_same, ?_, (show 1 ≤ 900 by decide), ?_⟩⟩
    · rw [upd_ne ne]
      exact upd_same
    · exact q dx hdx ne
end
end Er

end Tr
namespace Er
open PySem PySem.Spec PyProof.Rows L2
section
variable {P : Program} {w : World} {K : PySem.W.Frag} {mg : Str → Option Value} {base : Heap}
abbrev sXE : Stmt := inClass (Tr.top 2) 0
def spXE (K : PySem.W.Frag) (C : Addr) : Sp := fun vs H Q _ => ∃ (a : Addr) (n : Int), vs = [.ref a, .int n] ∧ n.natAbs < 10 ^ 12 ∧ H a = some (exo a C none) ∧ ∀ dx, H dx = none → dx ≠ a → Q .non (upd (upd H dx (exd dx [("at", .int n)])) a (exo a C (some dx)))
theorem scXE : Su.Scp ["self", "at"] (defScope sXE) := ⟨rfl, rfl, rfl, by decide +kernel, by decide +kernel, by decide +kernel, by decide +kernel, by decide +kernel, by decide +kernel⟩
theorem log_12 {n : Int} (h : n.natAbs < 10 ^ 12) : n.natAbs.log2 < 1920 := by
  by_cases z : n.natAbs = 0
  · rw [z]; decide
  · exact Nat.lt_trans ((Nat.log2_lt z).mpr (Nat.lt_of_lt_of_le h (show 10 ^ 12 ≤ 2 ^ 40 by decide))) (by decide)
theorem ok_xe {f cda cc C : Addr} {oc kV doc pm ct : Value} {od an : Option Addr} {osl : Array (Option Value)}
    (look : K.lookup f = some ⟨oc, od, .func (PySem.W.ksFn "__init__" "TextError.__init__" (defArgs sXE) (defBody sXE) (defScope sXE) .none kV doc pm an (.ref cda) ct cc), osl⟩)
    (code : PySem.W.codeIn K (.ref cda) "TextError.__init__" = true) (T : Su.Sup P K C cc cda) (n1 : PySem.W.findIn K (.ref C) "at" = some none) :
    FnOk P w K mg base CX0 1 f (PySem.W.ksFn "__init__" "TextError.__init__" (defArgs sXE) (defBody sXE) (defScope sXE) .none kV doc pm an (.ref cda) ct cc) ["self", "at"] (spXE K C) := by
  refine Su.fn_sup look code scXE T rfl rfl (fun vs H Q E h => ?_) (fun A outer s H vs Q E hr h => ?_)
  · obtain ⟨a, n, rfl, _⟩ := h
    rfl
  · obtain ⟨a, n, rfl, hn, ea, q⟩ := h
    refine ⟨a, _, _, rfl, ea, pa_cons (pe_joined (.cons pe_str (.cons (pe_fmt (pv 1)) .nil))) pa_nil, pss_one (ps_ost (pv 0) (pv 1)), ?_⟩
    have hl := PyData.shown_int_le hn
    rw [PyData.shown_int] at hl
    refine ⟨_, rfl, ?_, _, rfl, .inr ⟨n, rfl, log_12 hn, _, rfl, ?_, ?_⟩⟩
    · exact Nat.le_trans (show (Str.empty ++ ("the text is wrong at " : Str)).length ≤ 100 by decide +kernel) (by decide)
    · rw [strLen_append]
      exact Nat.le_trans (Nat.add_le_add (show (Str.empty ++ ("the text is wrong at " : Str)).length ≤ 100 by decide +kernel) hl) (by decide)
    refine ⟨(show 1 ≤ 1000 by decide), ea, ?_⟩
    exact ⟨_, rfl, _, rfl, a, C, rfl, T.ex, n1, .inl ⟨ea, fun dx hdx ne => q dx hdx ne⟩⟩
end
end Er

/-! ## A caught error that has fields -/
namespace Ca
open PySem PySem.Spec PyProof.Rows L2
/-- isinstance of it -/
theorem call_isEr {X : Cx} {a D : Addr} {oe : Obj} {cls : Value} {d : Option Addr} {pn : List (Addr × Obj)} (C : ExcC X.K D) (hz : Zc cls d oe) (hf : ∃ vs, oe.data = .fields vs) :
    CallR (X.suite a ((a, oe) :: pn)) (.builtin "isinstance") (fun xs H Q => cls = .ref D ∧ (∃ (dd : Addr) (fs : List (Str × V)), d = some dd ∧ H dd = some (.xd fs)) ∧ rIsE X.K D a xs H Q) := by
  intro pins s σ H xs us Q I r h
  obtain ⟨rfl, ⟨dd, fs, rfl, ed⟩, c, cv, b, rfl, hcv, e, q⟩ := h
  cases r with
  | cons rx rr =>
    cases rr with
    | cons rt rr =>
      cases rr
      cases rx
      cases hcv _ rt
      have hget := (I.pin (a, oe) (List.mem_append.mpr (.inl List.mem_cons_self))).1
      obtain ⟨vs, hv⟩ := hf
      have hx : ObjOk X.prog X.w H s.heap dd (.xd fs) := I.hok dd _ ed
      obtain ⟨mA, hns, _⟩ := hx
      obtain ⟨od, ho, _⟩ := lookIn_ns hns
      have J : PySem.W.InstAt s.heap a oe D (some od) := ⟨hget, hz.1, by unfold PySem.W.notCls; rw [hv] <;> rfl, by rw [hz.2]; exact ho⟩
      have isc : (PySem.W.clsIn X.K D).isSome = true := by
        obtain ⟨cd, hc, _⟩ := PySem.W.any_some C.hd
        rw [hc]
        rfl
      exact PySem.W.kia_one (PySem.W.kitx_exc isc C.hg C.hk C.hs C.ha C.hn C.ht C.hm) I.kIn J e (fun z => nomatch z) fun tk => ⟨.bl b, H, I.kept (t' := tk) fun _ _ z => z, rfl, q⟩
end Ca

/-! ## repr of nested tuples and lists -/
namespace Rp
open PySem PySem.Spec PyProof.Rows L2
mutual
def Dv (K : PySem.W.Frag) (H : Hp) : PyData → V → Prop
  | .none, v => v = .non
  | .bool b, v => v = .bl b
  | .int i, v => v = .int i
  | .str s, v => v = .str s
  | .tuple ds, v => ∃ a xs, v = .ref a ∧ SqT K H a xs ∧ DvL K H ds xs
  | .list ds, v => ∃ a xs, v = .ref a ∧ SqL K H a xs ∧ DvL K H ds xs
  | .dict _, _ => False
def DvL (K : PySem.W.Frag) (H : Hp) : List PyData → List V → Prop
  | [], vs => vs = []
  | d :: ds, vs => ∃ x xs, vs = x :: xs ∧ Dv K H d x ∧ DvL K H ds xs
end
section
variable {X : Cx} {pins : List (Addr × Obj)} {σ : L2.St} {H : Hp} {s : Shared}
mutual
theorem Dv.reads (I : Inv X pins σ H s) : ∀ (d : PyData) (x : V) (v : Value), Dv X.K H d x → RelV x v → ∃ as, Reads s.heap v d as
  | .none, _, v, h, r => by
    cases h
    cases r
    exact ⟨_, .none⟩
  | .bool b, _, v, h, r => by
    cases h
    cases r
    exact ⟨_, .bool b⟩
  | .int i, _, v, h, r => by
    cases h
    obtain ⟨t, rfl⟩ := r
    exact ⟨_, .int i t⟩
  | .str x, _, v, h, r => by
    cases h
    obtain ⟨t, rfl⟩ := r
    exact ⟨_, .str x t⟩
  | .tuple ds, _, v, h, r => by
    obtain ⟨a, xs, rfl, st, l⟩ := h
    cases r
    obtain ⟨its, rv, ⟨o, ho, hc, n, hd⟩, _⟩ := I.tuple st
    obtain ⟨as, ra⟩ := DvL.reads I ds xs its l rv
    exact ⟨_, .tuple ho hc hd ra⟩
  | .list ds, _, v, h, r => by
    obtain ⟨a, xs, rfl, st, l⟩ := h
    cases r
    obtain ⟨its, rv, ⟨o, n, ho, hc, _, hd⟩, _⟩ := I.list st
    obtain ⟨as, ra⟩ := DvL.reads I ds xs its l rv
    exact ⟨_, .list ho hc hd ra⟩
  | .dict _, _, _, h, _ => False.elim h
theorem DvL.reads (I : Inv X pins σ H s) : ∀ (ds : List PyData) (xs : List V) (us : List Value), DvL X.K H ds xs → Vals xs us → ∃ as, ReadsAll s.heap us ds as
  | [], _, us, h, r => by
    cases h
    cases r
    exact ⟨_, .nil⟩
  | d :: ds, _, us, h, r => by
    obtain ⟨x, xs, rfl, hx, l⟩ := h
    cases r with
    | cons r1 r2 =>
      obtain ⟨as, ra⟩ := Dv.reads I d x _ hx r1
      obtain ⟨bs, rb⟩ := DvL.reads I ds xs _ l r2
      exact ⟨_, .cons ra rb⟩
end
variable {K : PySem.W.Frag}
mutual
theorem Dv.nodict : ∀ (d : PyData) (x : V), Dv K H d x → d.hasDict = false
  | .none, _, _ => by simp [PyData.hasDict]
  | .bool b, _, _ => by simp [PyData.hasDict]
  | .int i, _, _ => by simp [PyData.hasDict]
  | .str x, _, _ => by simp [PyData.hasDict]
  | .tuple ds, _, h => by
    obtain ⟨a, xs, _, _, l⟩ := h
    simp only [PyData.hasDict]
    exact DvL.nodict ds xs l
  | .list ds, _, h => by
    obtain ⟨a, xs, _, _, l⟩ := h
    simp only [PyData.hasDict]
    exact DvL.nodict ds xs l
  | .dict _, _, h => False.elim h
theorem DvL.nodict : ∀ (ds : List PyData) (xs : List V), DvL K H ds xs → PyData.hasDictAll ds = false
  | [], _, _ => by simp [PyData.hasDictAll]
  | d :: ds, _, h => by
    obtain ⟨x, xs, _, hx, l⟩ := h
    simp only [PyData.hasDictAll, Dv.nodict d x hx, DvL.nodict ds xs l, Bool.or_self]
end
/-- repr(x), x a tuple or a list of data, where no repr is under way -/
def spRepr (K : PySem.W.Frag) : List V → Hp → VK → Prop := fun xs H Q => ∃ (a : Addr) (d : PyData), xs = [.ref a] ∧ Dv K H d (.ref a) ∧ d.showable = true ∧ d.shown.length ≤ sizeLine ∧ d.depth ≤ 90 ∧ Q (.str d.shown) H
theorem cr_repr (gd : X.A.guards = some []) (hu : X.A.units + 200 < cLine) : CallR X (.builtin "repr") (spRepr X.K) := by
  intro pins s σ H xs us Q I r h
  obtain ⟨a, d, rfl, hd, sh, fit, dp, q⟩ := h
  obtain ⟨u, rfl, rv⟩ := vals1 r
  cases rv
  obtain ⟨as, ra⟩ := Dv.reads I d _ _ hd rfl
  have nd := Dv.nodict d _ hd
  exact repr_of_reads' ra sh (fun z => by rw [nd] at z; cases z) gd (by omega) (fun _ _ e => e) (fun h' u tk hk => ⟨.str d.shown, H, I.kept hk, ⟨_, rfl⟩, q⟩) fit
end
end Rp

/-! ## A law's own def, called where nothing is being shown: so that repr tells the whole -/
namespace Gd
open PySem PySem.Spec PyProof.Rows L2
section
variable {P : Program} {w : World} {K : PySem.W.Frag} {mg : Str → Option Value}
structure GFn (P : Program) (w : World) (K : PySem.W.Frag) (mg : Str → Option Value) (ground : Heap) (CX : CXT) (k : Nat) (f : Addr) (fd : FuncData) (ps : List Str) (sp : Sp) : Prop where
  count : ∀ vs H Q E, sp vs H Q E → vs.length = ps.length
  does : ∀ (A : Around) (out : List Env) (s : Shared) (H : Hp) (ar : Args) (us : List Value) (vs : List V) (Q : VK) (E : XK), A.guards = some [] → Room k A → Env0 P w K mg ground A out s H → BindsTo s fd ar (ps.zip us) → Vals vs us →
    sp vs H Q E → codeAny (model P w) A (.call (.ref f) ar) (CR CX out P w H s Q E) s
theorem gfn_of {CX : CXT} {ground : Heap} {x qual : Str} {st : Stmt} {f : Addr} {fd : FuncData} {N ps : List Str} {k : Nat} {sp : Sp} (F : Fun K x qual st f fd) (S : FnScope N ps (defScope st)) (len : ∀ vs H Q E, sp vs H Q E → vs.length = ps.length)
    (inner : ∀ (cdv : Value) (A : Around) (out : List Env) (s : Shared) (H : Hp) (vs : List V) (Q : VK) (E : XK), A.guards = some [] → Room k (A.deeper (envOfC qual (defScope st) s.heap.objs.size f cdv)) → sp vs H Q E →
      ∃ t, PSs (cxOf CX P w K mg ground N qual (defScope st) f cdv A out s H E) (defBody st) t ∧ t { rt := Q, nx := fun _ => Q V.non } (start N vs) H) : GFn P w K mg ground CX (k + 1) f fd ps sp := by
  obtain ⟨_, _, _, _, _, _, cdv, _, _, rfl, look, code⟩ := F.ex
  constructor
  · exact len
  intro A out s H ar us vs Q E gd room en bd rel told
  have many := len _ _ _ _ told
  have isK : K.In s.heap := en.mod.kin.keeps (fun b o e => (en.bs b o e).1)
  have nolim : s.heap.NoLimit := en.mod.nolimit.keeps (fun b o e => (en.bs b o e).1)
  refine codeAny_call_function room.depth (isK _ _ look) rfl S.co S.gen rfl (PySem.W.codeRec_of isK code) (bd _ _ _ _ ?_)
  refine wpAny_newFunctionEnv_cells S.kind (fun y hy => ?_) (fun en1 he s1 x => ?_)
  · obtain ⟨n, v⟩ := y
    cases S.par n (List.of_mem_zip hy).1 with
    | inl q => exact Or.inl q
    | inr q => exact Or.inr ⟨q, PySem.W.cellsFrom_some _ _ _ (Or.inl q)⟩
  cases he
  refine ⟨nolim.keeps x.toInCall.keep, codeAny_func ?_⟩
  obtain ⟨t, ht, hq⟩ := inner cdv A out s H vs Q E gd (room.deeper _) told
  have I0 : Inv (cxOf CX P w K mg ground N qual (defScope st) f cdv A out s H E) [] (start N vs) H s1 := inv_start S room.hd en many rel x
  refine wpAny_mono (ht.run [] s1 (start N vs) H _ I0 hq) (fun fl s' hs => ?_) (fun _ _ hs => hs)
  match fl, hs with
  | .ret _, ⟨v, _, H', J, rv, q⟩ => exact ⟨v, H', J.os, J.bare, J.base, J.hok, rv, q⟩
  | .next, ⟨_, H', J, q⟩ => exact ⟨V.non, H', J.os, J.bare, J.base, J.hok, rfl, q⟩
  | .brk, ⟨_, _, _, q⟩ => exact q.elim
  | .cont, ⟨_, _, _, q⟩ => exact q.elim
/-- the same for a def that lets no exception out -/
theorem gfn0 {ground : Heap} {x qual : Str} {st : Stmt} {f : Addr} {fd : FuncData} {N ps : List Str} {k : Nat} {sp : Sp} (F : Fun K x qual st f fd) (S : FnScope N ps (defScope st)) (len : ∀ vs H Q E, sp vs H Q E → vs.length = ps.length)
    (inner : ∀ (cdv : Value) (A : Around) (out : List Env) (s : Shared) (H : Hp) (vs : List V) (Q : VK) (E : XK), A.guards = some [] → Room k (A.deeper (envOfC qual (defScope st) s.heap.objs.size f cdv)) → sp vs H Q E →
      ∃ t, PSs (cxOf CX0 P w K mg ground N qual (defScope st) f cdv A out s H E).nox (defBody st) t ∧ t { rt := Q, nx := fun _ => Q V.non } (start N vs) H) : GFn P w K mg ground CX0 (k + 1) f fd ps sp :=
  gfn_of F S len fun cdv A out s H vs Q E gd room told => by
    obtain ⟨t, h, q⟩ := inner cdv A out s H vs Q E gd room told
    exact ⟨t, h.nox, q⟩
/-- the law's def behind the top -/
theorem enter {mb : Str → Option Value} {CX : CXT} {k : Nat} {fa a : Addr} {fd : FuncData} {x : Str} {sp : Sp} {s₁ : Shared} {vs : List Value} {ns : List Int}
    (isK : K.In s₁.heap) (glo : s₁.heap.Ns mainGlobals mg) (bui : s₁.heap.Ns builtinsNs mb) (boot : ∀ x : Str, x ≠ "__name__" → mb x = bootBuiltins x) (nolim : s₁.heap.NoLimit) (nogen : s₁.gens = #[])
    (at_a : s₁.heap.get? a = some { cls := .type "list", data := .seq vs.toArray }) (are : IntsAre vs ns) (few : ns.length ≤ sizeLine) (room : Room k callerA)
    (G : ∀ ground : Heap, K.In ground → ground.Ns mainGlobals mg → GFn P w K mg ground CX k fa fd [x] sp) (bd : ∀ (s : Shared) (u : Value), BindsTo s fd ⟨[u], []⟩ [(x, u)])
    (told : ∀ H : Hp, Only H → SqL K H a (ns.map V.int) → sp [.ref a] H (fun v _ => v = .bl true) fun _ _ _ => False) (noexc : ∀ H e s', CX [] H s₁ (fun _ _ _ => False) e s' → False) :
    codeAny (model P w) callerA (.call (.ref fa) ⟨[.ref a], []⟩) (fun r s' => (r = .ok (.ret (.bool true)) ∧ OldK s₁.heap s'.heap) ∧ s'.os = s₁.os ∧ AllBare s'.gens) s₁ := by
  have rel := vals_ints are
  have cnt := are.length
  have main : ∀ H : Hp, Only H → SqL K H a (ns.map V.int) → HOk P w H s₁.heap → (∀ b, b ≠ a → H b = none) → (K.lookup a = none ∨ H a = none) →
      codeAny (model P w) callerA (.call (.ref fa) ⟨[.ref a], []⟩) (fun r s' => (r = .ok (.ret (.bool true)) ∧ OldK s₁.heap s'.heap) ∧ s'.os = s₁.os ∧ AllBare s'.gens) s₁ := by
    intro H only sq fine off known
    have off2 : ∀ (b : Addr) (o : Obj), s₁.heap.get? b = some o → (∀ (vs : Array Value) (n : Nat), o.data ≠ .seq vs n) → H b = none := fun b o e n => by
      by_cases z : b = a
      · rw [z, at_a] at e
        cases e
        exact absurd rfl (n _ _)
      · exact off b z
    have space : ∀ {b : Addr} {m : Str → Option Value}, s₁.heap.Ns b m → (hidT s₁.heap H).Ns b m := by
      rintro b m ⟨o, es, ep, e, d, r⟩
      exact ⟨o, es, ep, hidT_get e (off2 b o e fun vs n z => by rw [d] at z; cases z), d, r⟩
    have isK2 : K.In (hidT s₁.heap H) := by
      intro b o e
      refine hidT_get (isK b o e) ?_
      by_cases z : b = a
      · rcases known with q | q
        · rw [z, q] at e
          cases e
        · rw [z]
          exact q
      · exact off b z
    have modu : Mod K mg (hidT s₁.heap H) := by
      obtain ⟨mc, l1, l2⟩ := nolim
      exact ⟨isK2, space glo, ⟨mb, space bui, boot⟩, ⟨mc, space l1, l2⟩⟩
    have start0 : Env0 P w K mg (hidT s₁.heap H) callerA [] s₁ H := by
      refine ⟨rfl, modu, fun b o e => of_hidT e, Nat.le_of_eq (hidT_size _ _), trivial, fun b hb => ?_, fine, .of_eq nogen⟩
      have hb' : b ∈ ([] : List Addr) := hb
      cases hb'
    have ran := (G _ isK2 (space glo)).does callerA [] s₁ H ⟨[.ref a], []⟩ [.ref a] [.ref a] _ _ rfl room start0 (bd s₁ (.ref a)) (.cons rfl .nil) (told H only sq)
    refine codeAny_mono ran ?_
    rintro (e | (_ | _ | _ | u)) s' h
    · exact (noexc H e s' h).elim
    · exact h.elim
    · exact h.elim
    · exact h.elim
    · obtain ⟨v, H', os, bare, un, fine2, r', q⟩ := h
      obtain rfl : v = .bl true := q
      obtain rfl : u = Value.bool true := r'
      refine ⟨⟨rfl, OldK.of_keep fun b o e => ?_⟩, os, bare⟩
      rcases only b with z | ⟨ob, xs, z⟩
      · refine un.keep b o e z (fun hb => ?_) (by simp)
        have hb' : b ∈ ([] : List Addr) := hb
        cases hb'
      · have z2 := un.frzs b ob _ z
        have e1 := (fine b _ z).1
        have e2 := (fine2 b _ z2).1
        rw [e] at e1
        cases e1
        exact e2
  cases inK : K.lookup a with
  | none =>
    have eqa : ∀ u : HO, (fun b => if b = a then some u else none : Hp) a = some u := fun u => if_pos rfl
    refine main (fun b => if b = a then some (.frz { cls := .type "list", data := .seq vs.toArray } (.lst (ns.map V.int))) else none) (fun b => ?_) (.inl (.inr ⟨_, eqa _⟩)) (fun b u z => ?_) (fun b n => if_neg n) (.inl inK)
    · by_cases hb : b = a
      · rw [hb]
        exact .inr ⟨_, _, eqa _⟩
      · exact .inl (if_neg hb)
    · by_cases hb : b = a
      · subst hb
        cases (eqa _).symm.trans z
        exact ⟨at_a, by rw [List.length_map]; exact few, vs, _, rel, at_a⟩
      · cases (if_neg hb).symm.trans z
  | some o =>
    have e := isK a o inK
    rw [at_a] at e
    cases e
    refine main (fun _ => none) (fun _ => .inl rfl) (.inr ⟨_, vs.toArray, _, inK, rfl, rfl, rfl, ?_, by simpa using rel⟩) (fun b u z => ?_) (fun _ _ => rfl) (.inr rfl)
    · rw [List.size_toArray, cnt]
      exact few
    · have z' : (none : Option HO) = some u := z
      cases z'
theorem walk {l : PySem.W.OpenLaw} {n k : Nat} {q : Program} {loose : List Str} {XP : (Str → Option Value) → Heap → Prop} {YP : World → Heap → Prop} {d : DefRec} {K : Params → PySem.W.Frag} {CX : World → CXT} {sp : World → Sp} {x : Str}
    (most : l.most = some n) (fits : n ≤ sizeLine) (plain : d.params.defaults = []) (room : Room k callerA) (isK : ∀ (w : World) (h : Heap), YP w h → (K w.params).In h)
    (G : ∀ (w : World) (mg : Str → Option Value) (fa : Addr) (h : Heap), (K w.params).In h → h.Ns mainGlobals mg → mg d.name = some (.ref fa) →
      ∃ fd : FuncData, (∀ (s : Shared) (u : Value), BindsTo s fd ⟨[u], []⟩ [(x, u)]) ∧ ∀ ground : Heap, (K w.params).In ground → ground.Ns mainGlobals mg → GFn l.prog w (K w.params) mg ground (CX w) k fa fd [x] (sp w))
    (told : ∀ (w : World) (H : Hp) (a : Addr) (ns : List Int), ns.length ≤ n → Only H → SqL (K w.params) H a (ns.map V.int) → sp w [.ref a] H (fun v _ => v = .bl true) fun _ _ _ => False)
    (noexc : ∀ (w : World) (H : Hp) (s : Shared) (e : Value) (s' : Shared), CX w [] H s (fun _ _ _ => False) e s' → False) :
    PySem.W.WalkO q loose XP YP l.row.toRowW d [] (fun f vs => PySem.call f vs) := by
  apply Att.attach_call most plain
  intro w s₀ s₁ mg mb fa o pm cd doc a vs ns gr Y _ _ _ hmg obj are len nogen
  have kin := isK w _ Y
  obtain ⟨fd, bd, hG⟩ := G w mg fa _ kin gr.T.g hmg
  refine codeAny_mono (enter kin gr.T.g gr.T.b gr.T.builtins gr.T.nolimit nogen obj are (Nat.le_trans len fits) room hG bd (fun H only sq => told w H a ns len only sq) (fun H e s' => noexc w H s₁ e s')) ?_
  rintro r s' ⟨⟨h1, h2⟩, h3, h4⟩
  exact ⟨h1, h2, h3, h4⟩
end
end Gd

namespace Tr
open PySem L2
/-! ### numbers drawn from a script, kept in a list of four -/
section
variable {K : PySem.W.Frag} {H H' : Hp}
/-- the state of the draws: a list of the script's numbers, the rest of one, the next one's place, the seed -/
structure Dw (K : PySem.W.Frag) (H : Hp) (p : Addr) : Prop where
  it : ∃ (l : Addr) (ns : List Int) (r j s : Int), H p = some (.lst [.ref l, .int r, .int j, .int s]) ∧ H l = some (.lst (ns.map V.int)) ∧ 0 ≤ j ∧ l ≠ p
theorem Dw.at_ {p : Addr} (h : Dw K H p) : ∃ xs, H p = some (.lst xs) := by
  obtain ⟨l, ns, r, j, s, e, _⟩ := h.it
  exact ⟨_, e⟩
/-- all but the list at p stands, and p is a state of draws -/
theorem Dw.same {p : Addr} (h : Dw K H p) (s : Same H H') : Dw K H' p := by
  obtain ⟨l, ns, r, j, t, e, f, g, n⟩ := h.it
  exact ⟨l, ns, r, j, t, s _ _ e, s _ _ f, g, n⟩
theorem Dw.new {p q : Addr} {o : HO} (h : Dw K H p) (n : H q = none) : Dw K (upd H q o) p := h.same fun b u e => by rw [upd_ne (ne_of_none e n)]; exact e
def spDrw (K : PySem.W.Frag) : Sp := fun vs H Q _ => ∃ (p : Addr) (m : Int), vs = [.ref p, .int m] ∧ Dw K H p ∧ 0 < m ∧ m < 1000000 ∧ ∀ v H', 0 ≤ v → v < m → Stays p H H' → Dw K H' p → Q (.int v) H'
def spStart (K : PySem.W.Frag) : Sp := fun vs H Q _ => ∃ (a : Addr) (ns : List Int), vs = [.ref a] ∧ SqL K H a (ns.map V.int) ∧ ns.length ≤ 1000 ∧ ∀ p H', Same H H' → H p = none → Dw K H' p → Q (.ref p) H'
end
abbrev sStart : Stmt := top 13
abbrev sDrw : Stmt := top 14
section
variable {P : Program} {w : World} {K : PySem.W.Frag} {mg : Str → Option Value} {base : Heap}
theorem at_in {α : Type} {xs : List α} {j : Int} (h0 : 0 ≤ j) (h : j < (xs.length : Int)) : ∃ x, atI xs j = some x ∧ xs[j.toNat]? = some x := by
  have e : j = ((j.toNat : Nat) : Int) := by omega
  have hk : j.toNat < xs.length := by omega
  have q : atI xs ((j.toNat : Nat) : Int) = some xs[j.toNat] := atI_nat (List.getElem?_eq_getElem hk)
  rw [← e] at q
  exact ⟨_, q, List.getElem?_eq_getElem hk⟩
theorem at_int {ns : List Int} {j : Int} (h0 : 0 ≤ j) (h : j < (ns.length : Int)) : ∃ n, atI (ns.map V.int) j = some (.int n) := by
  obtain ⟨x, hx, hx2⟩ := at_in (xs := ns.map V.int) h0 (by rw [List.length_map]; exact h)
  rw [List.getElem?_map] at hx2
  cases e : ns[j.toNat]? with
  | none => rw [e] at hx2; cases hx2
  | some n => rw [e] at hx2; cases Option.some.inj hx2; exact ⟨n, hx⟩
theorem scStart : FnScope ["script", "seed", "cell"] ["script"] (defScope sStart) := ⟨rfl, rfl, rfl, by decide +kernel, rfl, by decide +kernel, by decide +kernel⟩
theorem scDrw : FnScope ["state", "many", "value"] ["state", "many"] (defScope sDrw) := ⟨rfl, rfl, rfl, by decide +kernel, rfl, by decide +kernel, by decide +kernel⟩
theorem ok_start {f : Addr} {fd : FuncData} (F : Fun K "_law_start" "_law_start" sStart f fd) (T : Bi mg) : FnOk P w K mg base CX0 1 f fd ["script"] (spStart K) := by
  refine F.ok scStart (fun vs H Q E h => ?_) (fun cdv A outer s H vs Q E hr h => ?_)
  · obtain ⟨a, ns, rfl, _⟩ := h
    rfl
  · obtain ⟨a, ns, rfl, hS, hl, q⟩ := h
    have nd := scStart.nd
    refine ⟨_, pss_cons (ps_set (i := 1) nd rfl (.inl rfl) pe_int)
      (pss_cons (ps_for PassesOwn.never rfl (pi_list (pv 0)) (pg_name (i := 2) nd rfl (.inl rfl)) (pss_one (ps_set (i := 1) nd rfl (.inl rfl) (pe_op op_add (pe_op op_mod (pe_callTy call_int1 rfl T.int PyProof.Rows.boot_int (pa_cons (pe_op op_add (pe_op op_mul (pv 1) pe_int) (pv 2)) pa_nil)) pe_int) pe_int))))
      (pss_one (ps_ret (pe_lst (pa_cons (pe_callTy call_list_of rfl T.list PyProof.Rows.boot_list (pa_cons (pv 0) pa_nil)) (pa_cons pe_int (pa_cons pe_int (pa_cons (pv 1) pa_nil)))))))), ?_⟩
    refine ⟨_, rfl, a, rfl, ⟨_, hS⟩, for_list (K := K) (a := a) (xs := ns.map V.int) (fun i σ H' => H' = H ∧ ∃ (z : Int) (c : Option V), σ = [some (.ref a), some (.int z), c]) ⟨rfl, 7, none, rfl⟩ (fun i σ H' _ h => by rw [h.1]; exact hS) ?_ ?_⟩
    · rintro i x σ H' hi ⟨hH, z, c, rfl⟩
      cases hH
      rw [List.getElem?_map] at hi
      obtain ⟨n, rfl⟩ : ∃ n, x = V.int n := by
        cases e : ns[i]? with
        | none => rw [e] at hi; cases hi
        | some n => rw [e] at hi; exact ⟨n, (Option.some.inj hi).symm⟩
      refine ⟨_, rfl, _, _, rfl, rfl, .inr ⟨by decide, by decide⟩, _, rfl, _, _, rfl, rfl, .inl ⟨_, rfl, _, _, rfl, rfl, (show (0:Int) < 2147483629 by decide), _, _, rfl, rfl, rfl, _, _, rfl⟩⟩
    · rintro σ H' ⟨hH, z, c, rfl⟩
      cases hH
      refine ⟨_, rfl, a, _, rfl, .inl hS, fun l hl2 => ⟨_, rfl, (show 4 ≤ sizeLine by decide), fun p hp => ?_⟩⟩
      have sm : Same H (upd (upd H l (.lst (ns.map V.int))) p (.lst [V.ref l, V.int 0, V.int 0, V.int z])) := fun b u e => by rw [upd_ne (ne_of_none (by rw [upd_ne (ne_of_none e hl2)]; exact e) hp), upd_ne (ne_of_none e hl2)]; exact e
      have hp0 : H p = none := by
        by_cases z : p = l
        · rw [z]; exact hl2
        · rw [upd_ne z] at hp; exact hp
      refine q p _ sm hp0 ⟨l, ns, 0, 0, z, upd_same, ?_, Int.le_refl _, ne_of_none upd_same hp⟩
      rw [upd_ne (ne_of_none upd_same hp)]
      exact upd_same
theorem ok_drw {f : Addr} {fd : FuncData} (F : Fun K "_law_draw" "_law_draw" sDrw f fd) (T : Bi mg) : FnOk P w K mg base CX0 1 f fd ["state", "many"] (spDrw K) := by
  refine F.ok scDrw (fun vs H Q E h => ?_) (fun cdv A outer s H vs Q E hr h => ?_)
  · obtain ⟨p, m, rfl, _⟩ := h
    rfl
  · obtain ⟨p, m, rfl, D, m0, m1, q⟩ := h
    have nd := scDrw.nd
    obtain ⟨l, ns, r, j, t, e, f', j0, n⟩ := D.it
    have hp : SqL K H p [.ref l, .int r, .int j, .int t] := SqL.of e
    refine ⟨_, pss_cons (ps_if (PW.pt (pw_and (pt_cmpR op_eq (pe_ix ix_list (pv 0) pe_int (fun _ _ => rfl)) pe_int (nomark _)) (pw_and1 (pt_cmpR op_ge (pe_ix ix_list (pv 0) pe_int (fun _ _ => rfl)) (pe_callB call_len_seq rfl T.len PySem.boot_len (pa_cons (pe_ix ix_list (pv 0) pe_int (fun _ _ => rfl)) pa_nil)) (nomark _))))) (pss_cons (ps_asg (pe_op op_mod (pe_callTy call_int1 rfl T.int PyProof.Rows.boot_int (pa_cons (pe_op op_add (pe_op op_mul (pe_ix ix_list (pv 0) pe_int (fun _ _ => rfl)) pe_int) pe_int) pa_nil)) pe_int) (pg_sub (pv 0) pe_int set_list))
      (pss_one (ps_ret (pe_op op_mod (pe_callTy call_int1 rfl T.int PyProof.Rows.boot_int (pa_cons (pe_op op_fdiv (pe_ix ix_list (pv 0) pe_int (fun _ _ => rfl)) pe_int) pa_nil)) (pv 1))))) pss_nil)
      (pss_cons (ps_if (pt_cmpR op_eq (pe_ix ix_list (pv 0) pe_int (fun _ _ => rfl)) pe_int (nomark _)) (pss_cons (ps_asg (pe_callB call_abs rfl T.abs PyProof.Rows.boot_abs (pa_cons (pe_ix ix_list (pe_ix ix_list (pv 0) pe_int (fun _ _ => rfl)) (pe_ix ix_list (pv 0) pe_int (fun _ _ => rfl)) (fun _ _ => rfl)) pa_nil)) (pg_sub (pv 0) pe_int set_list))
      (pss_one (ps_asg (pe_op op_add (pe_ix ix_list (pv 0) pe_int (fun _ _ => rfl)) pe_int) (pg_sub (pv 0) pe_int set_list)))) pss_nil)
      (pss_cons (ps_set (i := 2) nd rfl (.inl rfl) (pe_op op_mod (pe_callTy call_int1 rfl T.int PyProof.Rows.boot_int (pa_cons (pe_ix ix_list (pv 0) pe_int (fun _ _ => rfl)) pa_nil)) (pv 1)))
      (pss_cons (ps_asg (pe_op op_fdiv (pe_ix ix_list (pv 0) pe_int (fun _ _ => rfl)) (pv 1)) (pg_sub (pv 0) pe_int set_list))
      (pss_one (ps_ret (pv 2)))))), ?_⟩
    -- the last three rows
    have tail : ∀ (H2 : Hp) (r2 j2 t2 : Int) (w : Option V), Stays p H H2 → H2 p = some (.lst [.ref l, .int r2, .int j2, .int t2]) → 0 ≤ j2 → ∃ v, 0 ≤ v ∧ v < m ∧ r2 % m = v ∧
        Stays p H (upd H2 p (.lst [.ref l, .int (r2 / m), .int j2, .int t2])) ∧ Dw K (upd H2 p (.lst [.ref l, .int (r2 / m), .int j2, .int t2])) p := by
      intro H2 r2 j2 t2 w s2 e2 j2'
      refine ⟨r2 % m, Int.emod_nonneg _ (by omega), Int.emod_lt_of_pos _ m0, rfl, s2.trans stays_upd, l, ns, _, _, _, upd_same, ?_, j2', n⟩
      rw [upd_ne n]
      exact s2 _ _ n f'
    have m0' : (fun _ j : Int => 0 < j) r m := m0
    refine ⟨_, rfl, p, _, _, _, rfl, rfl, hp, rfl, rfl, _, rfl, ?_⟩
    by_cases r0 : r = 0
    · refine iteT' (decide_eq_true (congrArg V.int r0)) ⟨_, rfl, p, _, _, _, rfl, rfl, hp, rfl, _, rfl, p, _, _, _, rfl, rfl, hp, rfl, l, _, rfl, .inl (SqL.of f'), _, _, rfl, rfl, _, rfl, ?_⟩
      rw [List.length_map]
      by_cases c : j ≥ (ns.length : Int)
      · refine iteT' (decide_eq_true c) ?_
        refine ⟨_, rfl, p, _, _, _, rfl, rfl, hp, rfl, _, _, rfl, rfl, .inr ⟨by decide, by decide⟩, _, _, rfl, rfl, .inl ⟨_, rfl, _, _, rfl, rfl, (show (0:Int) < 2147483629 by decide), _, rfl, p, _, _, _, rfl, rfl, e, rfl, ?_⟩⟩
        refine ⟨_, rfl, p, _, _, _, rfl, rfl, SqL.of upd_same, rfl, _, _, rfl, rfl, ⟨by decide, by decide⟩, .inl ⟨_, rfl, _, rfl, _, _, rfl, rfl, m0, ?_⟩⟩
        refine q _ _ (Int.emod_nonneg _ (by omega)) (Int.emod_lt_of_pos _ m0) stays_upd ⟨l, ns, _, _, _, upd_same, ?_, j0, n⟩
        rw [upd_ne n]
        exact f'
      · refine iteF' (decide_eq_false c) ?_
        refine ⟨_, rfl, p, _, _, _, rfl, rfl, hp, rfl, rfl, _, rfl, iteT' (decide_eq_true (congrArg V.int r0)) ?_⟩
        obtain ⟨x, hx⟩ := at_int (ns := ns) j0 (by omega)
        refine ⟨_, rfl, p, _, _, _, rfl, rfl, hp, rfl, _, rfl, p, _, _, _, rfl, rfl, hp, rfl, l, _, _, _, rfl, rfl, SqL.of f', hx, x, rfl, _, rfl, p, _, _, _, rfl, rfl, e, rfl, ?_⟩
        refine ⟨_, rfl, p, _, _, _, rfl, rfl, SqL.of upd_same, rfl, _, _, rfl, rfl, _, rfl, p, _, _, _, rfl, rfl, upd_same, rfl, ?_⟩
        obtain ⟨v, v0, v1, ev, s3, d3⟩ := tail _ (if x < 0 then -x else x) (j + 1) t none (stays_upd.trans stays_upd) upd_same (by omega)
        refine ⟨_, rfl, p, _, _, _, rfl, rfl, SqL.of upd_same, rfl, .inl ⟨_, rfl, _, rfl, _, _, rfl, rfl, m0, ?_⟩⟩
        refine ⟨_, rfl, p, _, _, _, rfl, rfl, SqL.of upd_same, rfl, _, rfl, _, _, rfl, rfl, ⟨m0, by omega⟩, _, rfl, p, _, _, _, rfl, rfl, upd_same, rfl, _, rfl, ?_⟩
        subst ev
        exact q _ _ v0 v1 s3 d3
    · refine iteF' (decide_eq_false (fun y => r0 (V.int.inj y))) ?_
      refine ⟨_, rfl, p, _, _, _, rfl, rfl, hp, rfl, rfl, _, rfl, iteF' (decide_eq_false (fun y => r0 (V.int.inj y))) ?_⟩
      obtain ⟨v, v0, v1, ev, s3, d3⟩ := tail _ r j t none (Stays.refl _ _) e j0
      refine ⟨_, rfl, p, _, _, _, rfl, rfl, hp, rfl, .inl ⟨_, rfl, _, rfl, _, _, rfl, rfl, m0, ?_⟩⟩
      refine ⟨_, rfl, p, _, _, _, rfl, rfl, hp, rfl, _, rfl, _, _, rfl, rfl, ⟨m0, by omega⟩, _, rfl, p, _, _, _, rfl, rfl, e, rfl, _, rfl, ?_⟩
      subst ev
      exact q _ _ v0 v1 s3 d3
end

/-! ### texts as lists of signs -/
def Ls (l : List Nat) : Str := ⟨l.toArray⟩
theorem ls_len (l : List Nat) : (Ls l).length = l.length := by simp [Ls, Str.length]
theorem ls_tl (l : List Nat) : (Ls l).cps.toList = l := rfl
theorem ls_app (a b : List Nat) : Ls a ++ Ls b = Ls (a ++ b) := by
  show (⟨a.toArray ++ b.toArray⟩ : Str) = ⟨(a ++ b).toArray⟩
  rw [List.append_toArray]
theorem ls_of (z : Str) : z = Ls z.cps.toList := rfl
theorem ls_cut {l : List Nat} {a b : Nat} (h1 : a ≤ b) (h2 : b ≤ l.length) : cutS (Ls l) (some (a : Int)) (some (b : Int)) = Ls ((l.drop a).take (b - a)) := by
  unfold cutS
  rw [HT.sIx_nat, HT.sIx_nat, ls_len, Nat.min_eq_left h2, Nat.min_eq_left (Nat.le_trans h1 h2)]
  rfl
theorem ls_hi {l : List Nat} {b : Nat} (h2 : b ≤ l.length) : cutS (Ls l) none (some (b : Int)) = Ls (l.take b) := by
  unfold cutS
  rw [HT.sIx_nat, HT.sIx_none, ls_len, Nat.min_eq_left h2]
  rfl
theorem ls_hi' {l : List Nat} {b : Nat} : cutS (Ls l) none (some (b : Int)) = Ls (l.take b) := by
  unfold cutS
  rw [HT.sIx_nat, HT.sIx_none, ls_len]
  show Ls ((l.drop 0).take (min b l.length - 0)) = _
  rw [List.drop_zero, Nat.sub_zero]
  rcases Nat.le_total b l.length with h | h
  · rw [Nat.min_eq_left h]
  · rw [Nat.min_eq_right h, List.take_of_length_le h, List.take_of_length_le (Nat.le_refl _)]
theorem ls_lo {l : List Nat} {a : Nat} (h1 : a ≤ l.length) : cutS (Ls l) (some (a : Int)) none = Ls (l.drop a) := by
  unfold cutS
  rw [HT.sIx_nat, HT.sIx_none, ls_len, Nat.min_eq_left h1]
  show Ls ((l.drop a).take (l.length - a)) = _
  rw [List.take_of_length_le (by rw [List.length_drop]; exact Nat.le_refl _)]
theorem rep_fold (c : Nat) : ∀ (k : Nat) (acc : Array Nat), (List.replicate k (#[c] : Array Nat)).foldl (· ++ ·) acc = acc ++ (List.replicate k c).toArray
  | 0, acc => by simp
  | k + 1, acc => by
    rw [List.replicate_succ, List.foldl_cons, rep_fold c k, List.replicate_succ]
    apply Array.ext'
    simp
/-- 'c' * n -/
theorem op_mulS {X : Cx} : OpR X (binaryOp .Mult) (fun x y H Q => ∃ (c : Nat) (n : Int), x = .str (Ls [c]) ∧ y = .int n ∧ 2 ≤ n ∧ n ≤ 100000 ∧ Q (.str (Ls (List.replicate n.toNat c))) H) := by
  intro pins s σ H x y v u Q I rx ry h
  obtain ⟨c, n, rfl, rfl, n2, nl, q⟩ := h
  obtain ⟨t, rfl⟩ := rx
  obtain ⟨t', rfl⟩ := ry
  have e1 : (Ls [c]).length = 1 := rfl
  have len : (⟨(List.replicate n.toNat (Ls [c]).cps).foldl (· ++ ·) #[]⟩ : Str) = Ls (List.replicate n.toNat c) := by
    show (⟨(List.replicate n.toNat (#[c] : Array Nat)).foldl (· ++ ·) #[]⟩ : Str) = _
    rw [rep_fold]
    simp [Ls]
  refine PySem.P.mul_str ?_ (fun _ _ => ?_) (fun _ _ => ?_) ?_
  · have a1 : decide (n < -(2 ^ 63 : Int)) = false := decide_eq_false (by omega)
    have a2 : decide (n ≥ 2 ^ 63) = false := decide_eq_false (by omega)
    rw [a1, a2]
    rfl
  · rw [e1]
    have : 1 ≤ (2 ^ 63 - 1 : Int) / n := by
      rw [Int.le_ediv_iff_mul_le (by omega)]
      omega
    omega
  · rw [e1]
    have h1 : 1 * n.toNat ≤ sizeLine := Nat.le_trans (show 1 * n.toNat ≤ 100000 by omega) (by decide)
    show decide (1 * n.toNat > sizeLine) = false
    exact decide_eq_false (Nat.not_lt.mpr h1)
  · rw [if_neg (show ¬ n < 1 by omega), if_neg (by rw [e1]; simp; omega), len]
    refine ⟨?_, .str _, H, I.tok _, ⟨_, rfl⟩, q⟩
    rw [ls_len, List.length_replicate]
    exact Nat.le_trans (show n.toNat ≤ 100000 by omega) (by decide)

def okc (c : Nat) : Prop := c = 10 ∨ (32 ≤ c ∧ c ≤ 126 ∧ c ≠ 37)
instance (c : Nat) : Decidable (okc c) := inferInstanceAs (Decidable (_ ∨ _))
def chars95 : Str := (" !\"#$&'()*+,-./0123456789:;<=>?@ABCDEFGHIJKLMNOPQRSTUVWXYZ[\\]^_`" : Str) ++ ("abcdefghijklmnopqrstuvwxyz{|}~\n" : Str)
theorem chars_ok : chars95.cps.toList.length = 95 ∧ chars95.cps.toList.all (fun c => decide (okc c)) = true := by decide +kernel
theorem mostly_ok : ("()  \nab1" : Str).cps.toList.length = 8 ∧ ("()  \nab1" : Str).cps.toList.all (fun c => decide (okc c)) = true := by decide +kernel
theorem at_sign {z : Str} {v : Int} {k : Nat} (h : z.cps.toList.length = k ∧ z.cps.toList.all (fun c => decide (okc c)) = true) (h0 : 0 ≤ v) (h1 : v < (k : Int)) : ∃ c, atI z.cps.toList v = some c ∧ okc c := by
  obtain ⟨x, hx, hx2⟩ := at_in (xs := z.cps.toList) h0 (by rw [h.1]; exact h1)
  exact ⟨x, hx, of_decide_eq_true (List.all_eq_true.mp h.2 x (List.mem_of_getElem? hx2))⟩
def spChars : Sp := fun vs H Q _ => vs = [] ∧ Q (.str chars95) H
def spText (K : PySem.W.Frag) : Sp := fun vs H Q _ => ∃ p : Addr, vs = [.ref p] ∧ Dw K H p ∧ ∀ (l : List Nat) H', (∀ c ∈ l, okc c) → l.length ≤ 6002 → Stays p H H' → Dw K H' p → Q (.str (Ls l)) H'
/-- a text, and where its first strange sign stands -/
def spStrange (K : PySem.W.Frag) : Sp := fun vs H Q _ => ∃ (p : Addr) (l : List Nat), vs = [.ref p, .str (Ls l)] ∧ Dw K H p ∧ (∀ c ∈ l, okc c) ∧ l.length ≤ 6002 ∧
  (∀ t H', t ≠ p → Stays p H H' → Dw K H' p → H' t = some (.tup [.str (Ls l), .int (-1)]) → Q (.ref t) H') ∧
  ∀ (k : Nat) t H', t ≠ p → k ≤ l.length → Stays p H H' → Dw K H' p → H' t = some (.tup [.str (Ls (l.take k ++ 9 :: l.drop k)), .int (k : Int)]) → Q (.ref t) H'
abbrev sChars : Stmt := top 15
abbrev sText : Stmt := top 16
abbrev sStrange : Stmt := top 17
abbrev nText : List Str := ["state", "chars", "size", "mostly", "text", "k"]
section
variable {P : Program} {w : World} {K : PySem.W.Frag} {mg : Str → Option Value} {base : Heap}
theorem scChars : FnScope ["chars"] [] (defScope sChars) := ⟨rfl, rfl, rfl, by decide +kernel, rfl, by decide +kernel, by decide +kernel⟩
theorem scText : FnScope nText ["state"] (defScope sText) := ⟨rfl, rfl, rfl, by decide +kernel, rfl, by decide +kernel, by decide +kernel⟩
theorem scStrange : FnScope ["state", "text", "strange", "place"] ["state", "text"] (defScope sStrange) := ⟨rfl, rfl, rfl, by decide +kernel, rfl, by decide +kernel, by decide +kernel⟩
theorem ok_chars {f : Addr} {fd : FuncData} (F : Fun K "_law_chars" "_law_chars" sChars f fd) : FnOk P w K mg base CX0 1 f fd [] spChars := by
  refine F.ok scChars (fun vs H Q E h => ?_) (fun cdv A outer s H vs Q E hr h => ?_)
  · obtain ⟨rfl, _⟩ := h
    rfl
  · obtain ⟨rfl, q⟩ := h
    have nd := scChars.nd
    refine ⟨_, pss_cons (ps_set (i := 0) nd rfl (.inl rfl) pe_str)
      (pss_one (ps_ret (pe_op op_add_str (pv 0) pe_str))), ?_⟩
    exact ⟨_, rfl, _, _, rfl, rfl, by decide +kernel, q⟩
theorem ok_text {f : Addr} {fd : FuncData} (F : Fun K "_law_text" "_law_text" sText f fd) (T : Bi mg) (c_draw : Cal P w K mg base CX0 1 "_law_draw" ["state", "many"] (spDrw K)) (c_chars : Cal P w K mg base CX0 1 "_law_chars" [] spChars) : FnOk P w K mg base CX0 2 f fd ["state"] (spText K) := by
  refine F.ok scText (fun vs H Q E h => ?_) (fun cdv A outer s H vs Q E hr h => ?_)
  · obtain ⟨p, rfl, _⟩ := h
    rfl
  · obtain ⟨p, rfl, D, q⟩ := h
    have nd := scText.nd
    refine ⟨_, pss_cons (ps_set (i := 1) nd rfl (.inl rfl) (pe_call0 c_chars.ok (hr.mono (by first | decide | omega)) (by rfl) c_chars.m c_chars.kp c_chars.b .nil pass0))
      (pss_cons (ps_set (i := 2) nd rfl (.inl rfl) (pe_call c_draw.ok (hr.mono (by first | decide | omega)) rfl c_draw.m c_draw.kp c_draw.b .nil pass0 (pa_cons (pv 0) (pa_cons pe_int pa_nil))))
      (pss_cons (ps_if (pt_cmpR op_eq (pe_call c_draw.ok (hr.mono (by first | decide | omega)) rfl c_draw.m c_draw.kp c_draw.b .nil pass0 (pa_cons (pv 0) (pa_cons pe_int pa_nil))) pe_int (nomark _)) (pss_one (ps_set (i := 2) nd rfl (.inl rfl) (pe_call c_draw.ok (hr.mono (by first | decide | omega)) rfl c_draw.m c_draw.kp c_draw.b .nil pass0 (pa_cons (pv 0) (pa_cons pe_int pa_nil))))) pss_nil)
      (pss_cons (ps_set (i := 3) nd rfl (.inl rfl) (pe_call c_draw.ok (hr.mono (by first | decide | omega)) rfl c_draw.m c_draw.kp c_draw.b .nil pass0 (pa_cons (pv 0) (pa_cons pe_int pa_nil))))
      (pss_cons (ps_set (i := 4) nd rfl (.inl rfl) pe_str)
      (pss_cons (ps_for PassesOwn.never rfl (pi_range1 rfl T.range (pa_cons (pv 2) pa_nil)) (pg_name (i := 5) nd rfl (.inl rfl)) (pss_one (ps_if (PW.pt (pw_and (pt_cmpR op_gt (pv 3) pe_int (nomark _)) (pw_and1 (pt_cmpR op_gt (pe_call c_draw.ok (hr.mono (by first | decide | omega)) rfl c_draw.m c_draw.kp c_draw.b .nil pass0 (pa_cons (pv 0) (pa_cons pe_int pa_nil))) pe_int (nomark _))))) (pss_one (ps_set (i := 4) nd rfl (.inl rfl) (pe_op op_add_str (pv 4) (pe_ix ix_str pe_str (pe_call c_draw.ok (hr.mono (by first | decide | omega)) rfl c_draw.m c_draw.kp c_draw.b .nil pass0 (pa_cons (pv 0) (pa_cons pe_int pa_nil))) (fun _ _ => rfl))))) (pss_one (ps_set (i := 4) nd rfl (.inl rfl) (pe_op op_add_str (pv 4) (pe_ix ix_str (pv 1) (pe_call c_draw.ok (hr.mono (by first | decide | omega)) rfl c_draw.m c_draw.kp c_draw.b .nil pass0 (pa_cons (pv 0) (pa_cons pe_int pa_nil))) (fun _ _ => rfl))))))))
      (pss_cons (ps_if (pt_cmpR op_eq (pe_call c_draw.ok (hr.mono (by first | decide | omega)) rfl c_draw.m c_draw.kp c_draw.b .nil pass0 (pa_cons (pv 0) (pa_cons pe_int pa_nil))) pe_int (nomark _)) (pss_one (ps_set (i := 4) nd rfl (.inl rfl) (pe_op op_add_str (pe_slice sl_str (pv 4) po_none (po_some pe_int)) (pe_op op_mulS pe_str (pe_op op_sub (pe_op op_add pe_int (pe_call c_draw.ok (hr.mono (by first | decide | omega)) rfl c_draw.m c_draw.kp c_draw.b .nil pass0 (pa_cons (pv 0) (pa_cons pe_int pa_nil)))) (pe_callB call_len_str rfl T.len PySem.boot_len (pa_cons (pe_slice sl_str (pv 4) po_none (po_some pe_int)) pa_nil))))))) pss_nil)
      (pss_one (ps_ret (pv 4))))))))), ?_⟩
    have big : 7000 ≤ sizeLine := by decide
    refine ⟨rfl, ?_⟩
    refine ⟨_, rfl, p, 40, rfl, D, by decide, by decide, fun z H1 z0 z1 s1 D1 => ?_⟩
    refine ⟨_, rfl, p, 4, rfl, D1, by decide, by decide, fun y H2 y0 y1 s2 D2 => ⟨rfl, _, rfl, ite2 (fun _ => ?_) (fun _ => ?_)⟩⟩
    · refine ⟨_, rfl, p, 301, rfl, D2, by decide, by decide, fun z' H2' z0' z1' s2' D2' => ?_⟩
      refine ⟨_, rfl, p, 3, rfl, D2', by decide, by decide, fun mo H3 m0 m1 s3 D3 => ?_⟩
      have hz : z'.toNat ≤ 300 := by omega
      refine ⟨_, rfl, z', rfl, by omega, by omega, for_range (lo := 0) (n := z'.toNat) (fun i σ H' => Stays p H3 H' ∧ Dw K H' p ∧ (∃ l : List Nat, (∀ c ∈ l, okc c) ∧ l.length = i ∧ ∃ w5 : Option V, σ = [some (.ref p), some (.str chars95), some (.int z'), some (.int mo), some (.str (Ls l)), w5]))
        ⟨Stays.refl _ _, D3, [], (fun _ h => by cases h), rfl, _, rfl⟩ ?_ ?_⟩
      · rintro i σ H' hi ⟨s4, D4, l, al, ll, w5, rfl⟩
        have pick : ∀ (zz : Str) (n : Nat) (H'' : Hp) (v : Int) (w : Option V), (zz.cps.toList.length = n ∧ zz.cps.toList.all (fun c => decide (okc c)) = true) → 0 ≤ v → v < (n : Int) → ∃ c, atI zz.cps.toList v = some c ∧ (Ls l).length + (⟨#[c]⟩ : Str).length ≤ sizeLine ∧ Ls l ++ ⟨#[c]⟩ = Ls (l ++ [c]) ∧ (∀ d ∈ l ++ [c], okc d) ∧ (l ++ [c]).length = i + 1 := by
          intro zz n H'' v w hz' v0 v1
          obtain ⟨c, hc, oc⟩ := at_sign hz' v0 v1
          refine ⟨c, hc, ?_, ls_app l [c], fun d hd => ?_, by rw [List.length_append, ll]; rfl⟩
          · rw [ls_len, ll]
            show i + 1 ≤ sizeLine
            omega
          · rcases List.mem_append.mp hd with h | h
            · exact al d h
            · rw [List.mem_singleton.mp h]; exact oc
        have other : ∀ (H'' : Hp), Stays p H' H'' → Dw K H'' p → spDrw K ([V.ref p, V.int 95] ++ []) H'' (fun y H2 => rIxS (.str chars95) y H2 fun y2 H3' => ∃ i' j', V.str (Ls l) = V.str i' ∧ y2 = V.str j' ∧ i'.length + j'.length ≤ sizeLine ∧ (Stays p H3 H3' ∧ Dw K H3' p ∧ (∃ l : List Nat, (∀ c ∈ l, okc c) ∧ l.length = i + 1 ∧ ∃ w5 : Option V, [some (V.ref p), some (.str chars95), some (.int z'), some (.int mo), some (.str (i' ++ j')), some (.int (0 + (i : Int)))] = [some (V.ref p), some (.str chars95), some (.int z'), some (.int mo), some (.str (Ls l)), w5]))) E0 := by
          intro H'' s5 D5
          refine ⟨p, 95, rfl, D5, by decide, by decide, fun v H6 v0 v1 s6 D6 => ?_⟩
          obtain ⟨c, hc, k1, k2, k3, k4⟩ := pick chars95 95 H6 v none chars_ok v0 v1
          exact ⟨chars95, v, c, rfl, rfl, by decide +kernel, hc, _, _, rfl, rfl, k1, ((s4.trans s5).trans s6), D6, _, k3, k4, _, by rw [k2]⟩
        refine ⟨_, rfl, _, _, rfl, rfl, _, rfl, ?_⟩
        by_cases mz : 0 < mo
        · refine iteT' (decide_eq_true mz) ⟨_, rfl, p, 4, rfl, D4, by decide, by decide, fun x H5 x0 x1 s5 D5 => ⟨_, _, rfl, rfl, _, rfl, ite2 (fun _ => ?_) (fun _ => ?_)⟩⟩
          · refine ⟨_, rfl, _, rfl, p, 8, rfl, D5, by decide, by decide, fun v H6 v0 v1 s6 D6 => ?_⟩
            obtain ⟨c, hc, k1, k2, k3, k4⟩ := pick ("()  \nab1" : Str) 8 H6 v none mostly_ok v0 v1
            exact ⟨_, v, c, rfl, rfl, by decide +kernel, hc, _, _, rfl, rfl, k1, ((s4.trans s5).trans s6), D6, _, k3, k4, _, by rw [k2]; rfl⟩
          · exact ⟨_, rfl, _, rfl, _, rfl, other H5 s5 D5⟩
        · exact iteF' (decide_eq_false mz) ⟨_, rfl, _, rfl, _, rfl, other H' (Stays.refl _ _) D4⟩
      · rintro σ H' ⟨s4, D4, l, al, ll, w5, rfl⟩
        have sA := (((s1.trans s2).trans s2').trans s3).trans s4
        refine ⟨_, rfl, p, 16, rfl, D4, by decide, by decide, fun x H5 x0 x1 s5 D5 => ⟨rfl, _, rfl, ite2 (fun _ => ?_) (fun _ => ?_)⟩⟩
        · have e3 : cutS (Ls l) none (some 3) = Ls (l.take 3) := ls_hi' (b := 3)
          have l3 : (l.take 3).length ≤ 3 := by rw [List.length_take]; exact Nat.min_le_left _ _
          refine ⟨_, rfl, 3, rfl, Ls l, rfl, (by rw [ls_len]; omega), _, rfl, p, 4, rfl, D5, by decide, by decide, fun y H6 y0 y1 s6 D6 => ⟨_, _, rfl, rfl, _, rfl, 3, rfl, Ls l, rfl, (by rw [ls_len]; omega), _, rfl, ?_, _, _, rfl, rfl, ?_⟩⟩
          · rw [e3, ls_len]; omega
          rw [e3, ls_len]
          refine ⟨120, _, rfl, rfl, (show (2 : Int) ≤ 5999 + y - ((l.take 3).length : Int) by omega), (show 5999 + y - ((l.take 3).length : Int) ≤ 100000 by omega), _, _, rfl, rfl, ?_, _, rfl, ?_⟩
          · rw [ls_len, ls_len, List.length_replicate]
            show (l.take 3).length + (5999 + y - ((l.take 3).length : Int)).toNat ≤ sizeLine
            omega
          rw [ls_app]
          refine q _ _ (fun c hc => ?_) ?_ ((sA.trans s5).trans s6) D6
          · rcases List.mem_append.mp hc with h | h
            · exact al c (List.mem_of_mem_take h)
            · rw [(List.mem_replicate.mp h).2]; decide
          · rw [List.length_append, List.length_replicate]
            show (l.take 3).length + (5999 + y - ((l.take 3).length : Int)).toNat ≤ 6002
            omega
        · exact ⟨_, rfl, q l _ al (by omega) (sA.trans s5) D5⟩
    · refine ⟨_, rfl, p, 3, rfl, D2, by decide, by decide, fun mo H3 m0 m1 s3 D3 => ?_⟩
      have hz : z.toNat ≤ 300 := by omega
      refine ⟨_, rfl, z, rfl, by omega, by omega, for_range (lo := 0) (n := z.toNat) (fun i σ H' => Stays p H3 H' ∧ Dw K H' p ∧ (∃ l : List Nat, (∀ c ∈ l, okc c) ∧ l.length = i ∧ ∃ w5 : Option V, σ = [some (.ref p), some (.str chars95), some (.int z), some (.int mo), some (.str (Ls l)), w5]))
        ⟨Stays.refl _ _, D3, [], (fun _ h => by cases h), rfl, _, rfl⟩ ?_ ?_⟩
      · rintro i σ H' hi ⟨s4, D4, l, al, ll, w5, rfl⟩
        have pick : ∀ (zz : Str) (n : Nat) (H'' : Hp) (v : Int) (w : Option V), (zz.cps.toList.length = n ∧ zz.cps.toList.all (fun c => decide (okc c)) = true) → 0 ≤ v → v < (n : Int) → ∃ c, atI zz.cps.toList v = some c ∧ (Ls l).length + (⟨#[c]⟩ : Str).length ≤ sizeLine ∧ Ls l ++ ⟨#[c]⟩ = Ls (l ++ [c]) ∧ (∀ d ∈ l ++ [c], okc d) ∧ (l ++ [c]).length = i + 1 := by
          intro zz n H'' v w hz' v0 v1
          obtain ⟨c, hc, oc⟩ := at_sign hz' v0 v1
          refine ⟨c, hc, ?_, ls_app l [c], fun d hd => ?_, by rw [List.length_append, ll]; rfl⟩
          · rw [ls_len, ll]
            show i + 1 ≤ sizeLine
            omega
          · rcases List.mem_append.mp hd with h | h
            · exact al d h
            · rw [List.mem_singleton.mp h]; exact oc
        have other : ∀ (H'' : Hp), Stays p H' H'' → Dw K H'' p → spDrw K ([V.ref p, V.int 95] ++ []) H'' (fun y H2 => rIxS (.str chars95) y H2 fun y2 H3' => ∃ i' j', V.str (Ls l) = V.str i' ∧ y2 = V.str j' ∧ i'.length + j'.length ≤ sizeLine ∧ (Stays p H3 H3' ∧ Dw K H3' p ∧ (∃ l : List Nat, (∀ c ∈ l, okc c) ∧ l.length = i + 1 ∧ ∃ w5 : Option V, [some (V.ref p), some (.str chars95), some (.int z), some (.int mo), some (.str (i' ++ j')), some (.int (0 + (i : Int)))] = [some (V.ref p), some (.str chars95), some (.int z), some (.int mo), some (.str (Ls l)), w5]))) E0 := by
          intro H'' s5 D5
          refine ⟨p, 95, rfl, D5, by decide, by decide, fun v H6 v0 v1 s6 D6 => ?_⟩
          obtain ⟨c, hc, k1, k2, k3, k4⟩ := pick chars95 95 H6 v none chars_ok v0 v1
          exact ⟨chars95, v, c, rfl, rfl, by decide +kernel, hc, _, _, rfl, rfl, k1, ((s4.trans s5).trans s6), D6, _, k3, k4, _, by rw [k2]⟩
        refine ⟨_, rfl, _, _, rfl, rfl, _, rfl, ?_⟩
        by_cases mz : 0 < mo
        · refine iteT' (decide_eq_true mz) ⟨_, rfl, p, 4, rfl, D4, by decide, by decide, fun x H5 x0 x1 s5 D5 => ⟨_, _, rfl, rfl, _, rfl, ite2 (fun _ => ?_) (fun _ => ?_)⟩⟩
          · refine ⟨_, rfl, _, rfl, p, 8, rfl, D5, by decide, by decide, fun v H6 v0 v1 s6 D6 => ?_⟩
            obtain ⟨c, hc, k1, k2, k3, k4⟩ := pick ("()  \nab1" : Str) 8 H6 v none mostly_ok v0 v1
            exact ⟨_, v, c, rfl, rfl, by decide +kernel, hc, _, _, rfl, rfl, k1, ((s4.trans s5).trans s6), D6, _, k3, k4, _, by rw [k2]; rfl⟩
          · exact ⟨_, rfl, _, rfl, _, rfl, other H5 s5 D5⟩
        · exact iteF' (decide_eq_false mz) ⟨_, rfl, _, rfl, _, rfl, other H' (Stays.refl _ _) D4⟩
      · rintro σ H' ⟨s4, D4, l, al, ll, w5, rfl⟩
        have sA := ((s1.trans s2).trans s3).trans s4
        refine ⟨_, rfl, p, 16, rfl, D4, by decide, by decide, fun x H5 x0 x1 s5 D5 => ⟨rfl, _, rfl, ite2 (fun _ => ?_) (fun _ => ?_)⟩⟩
        · have e3 : cutS (Ls l) none (some 3) = Ls (l.take 3) := ls_hi' (b := 3)
          have l3 : (l.take 3).length ≤ 3 := by rw [List.length_take]; exact Nat.min_le_left _ _
          refine ⟨_, rfl, 3, rfl, Ls l, rfl, (by rw [ls_len]; omega), _, rfl, p, 4, rfl, D5, by decide, by decide, fun y H6 y0 y1 s6 D6 => ⟨_, _, rfl, rfl, _, rfl, 3, rfl, Ls l, rfl, (by rw [ls_len]; omega), _, rfl, ?_, _, _, rfl, rfl, ?_⟩⟩
          · rw [e3, ls_len]; omega
          rw [e3, ls_len]
          refine ⟨120, _, rfl, rfl, (show (2 : Int) ≤ 5999 + y - ((l.take 3).length : Int) by omega), (show 5999 + y - ((l.take 3).length : Int) ≤ 100000 by omega), _, _, rfl, rfl, ?_, _, rfl, ?_⟩
          · rw [ls_len, ls_len, List.length_replicate]
            show (l.take 3).length + (5999 + y - ((l.take 3).length : Int)).toNat ≤ sizeLine
            omega
          rw [ls_app]
          refine q _ _ (fun c hc => ?_) ?_ ((sA.trans s5).trans s6) D6
          · rcases List.mem_append.mp hc with h | h
            · exact al c (List.mem_of_mem_take h)
            · rw [(List.mem_replicate.mp h).2]; decide
          · rw [List.length_append, List.length_replicate]
            show (l.take 3).length + (5999 + y - ((l.take 3).length : Int)).toNat ≤ 6002
            omega
        · exact ⟨_, rfl, q l _ al (by omega) (sA.trans s5) D5⟩
theorem ok_strange {f : Addr} {fd : FuncData} (F : Fun K "_law_strange" "_law_strange" sStrange f fd) (T : Bi mg) (c_draw : Cal P w K mg base CX0 1 "_law_draw" ["state", "many"] (spDrw K)) : FnOk P w K mg base CX0 2 f fd ["state", "text"] (spStrange K) := by
  refine F.ok scStrange (fun vs H Q E h => ?_) (fun cdv A outer s H vs Q E hr h => ?_)
  · obtain ⟨p, l, rfl, _⟩ := h
    rfl
  · obtain ⟨p, l, rfl, D, ok, hl, q1, q2⟩ := h
    have nd := scStrange.nd
    refine ⟨_, pss_cons (ps_if (pt_cmpR op_gt (pe_call c_draw.ok (hr.mono (by first | decide | omega)) rfl c_draw.m c_draw.kp c_draw.b .nil pass0 (pa_cons (pv 0) (pa_cons pe_int pa_nil))) pe_int (nomark _)) (pss_one (ps_ret (pe_tup (pa_cons (pv 1) (pa_cons (pe_un un_neg pe_int) pa_nil))))) pss_nil)
      (pss_cons (ps_set (i := 2) nd rfl (.inl rfl) pe_str)
      (pss_cons (ps_set (i := 3) nd rfl (.inl rfl) (pe_call c_draw.ok (hr.mono (by first | decide | omega)) rfl c_draw.m c_draw.kp c_draw.b .nil pass0 (pa_cons (pv 0) (pa_cons (pe_op op_add (pe_callB call_len_str rfl T.len PySem.boot_len (pa_cons (pv 1) pa_nil)) pe_int) pa_nil))))
      (pss_one (ps_ret (pe_tup (pa_cons (pe_op op_add_str (pe_op op_add_str (pe_slice sl_str (pv 1) po_none (po_some (pv 3))) (pv 2)) (pe_slice sl_str (pv 1) (po_some (pv 3)) po_none)) (pa_cons (pv 3) pa_nil))))))), ?_⟩
    have big : 20000 ≤ sizeLine := by decide
    refine ⟨_, rfl, p, 5, rfl, D, by decide, by decide, fun z H1 z0 z1 s1 D1 => ⟨_, _, rfl, rfl, _, rfl, ite2 (fun _ => ?_) (fun _ => ?_)⟩⟩
    · refine ⟨_, rfl, 1, rfl, (show 2 ≤ sizeLine by decide), fun t ht => ?_⟩
      obtain ⟨xs, ep⟩ := D1.at_
      exact q1 t _ (fun e => by rw [e, ep] at ht; cases ht) (s1.trans (stays_new ht)) (D1.new ht) upd_same
    · refine ⟨_, rfl, _, rfl, Ls l, rfl, (by rw [ls_len]; omega), _, _, rfl, rfl, p, _, rfl, D1, ?_, ?_, fun k H2 k0 k1 s2 D2 => ?_⟩
      · rw [ls_len]; show (0 : Int) < (l.length : Int) + 1; omega
      · rw [ls_len]; show (l.length : Int) + 1 < 1000000; omega
      rw [ls_len] at k1
      have k1' : k < (l.length : Int) + 1 := k1
      obtain ⟨kn, rfl⟩ : ∃ kn : Nat, k = (kn : Int) := ⟨k.toNat, by omega⟩
      have kl : kn ≤ l.length := by omega
      refine ⟨_, rfl, _, rfl, _, rfl, Ls l, rfl, (by rw [ls_len]; omega), _, rfl, _, _, rfl, rfl, ?_, _, rfl, _, rfl, _, rfl, Ls l, rfl, (by rw [ls_len]; omega), _, _, rfl, rfl, ?_, _, rfl, (show 2 ≤ sizeLine by decide), fun t ht => ?_⟩
      · rw [ls_hi kl, ls_len, List.length_take]
        show min kn l.length + 1 ≤ sizeLine
        omega
      · rw [ls_hi kl, ls_lo kl]
        show (Ls (l.take kn) ++ Ls [9]).length + _ ≤ _
        rw [ls_app, ls_len, ls_len, List.length_append, List.length_take, List.length_drop]
        show min kn l.length + 1 + (l.length - kn) ≤ sizeLine
        omega
      obtain ⟨xs, ep⟩ := D2.at_
      refine q2 kn t _ (fun e => by rw [e, ep] at ht; cases ht) kl ((s1.trans s2).trans (stays_new ht)) (D2.new ht) ?_
      rw [upd_same, ls_hi kl, ls_lo kl]
      have e9 : Ls (l.take kn) ++ ("\t" : Str) ++ Ls (l.drop kn) = Ls (l.take kn ++ 9 :: l.drop kn) := by
        show Ls (l.take kn) ++ Ls [9] ++ Ls (l.drop kn) = _
        rw [ls_app, ls_app, List.append_assoc]
        rfl
      rw [e9]
end

/-! ### the words of a text -/
def sepC (c : Nat) : Prop := c ∈ [32, 10, 40, 41]
def parC (c : Nat) : Prop := c ∈ [40, 41]
instance (c : Nat) : Decidable (sepC c) := inferInstanceAs (Decidable (_ ∈ _))
instance (c : Nat) : Decidable (parC c) := inferInstanceAs (Decidable (_ ∈ _))
abbrev Wd := List Nat × Nat
/-- the word that is under way, the words so far -/
def pend (l : List Nat) (s : Option Nat) (i : Nat) : List Wd := match s with
  | some k => [((l.drop k).take (i - k), k)]
  | none => []
def stp (l : List Nat) (i : Nat) (z : Option Nat × List Wd) : Option Nat × List Wd :=
  if sepC (l.getD i 32) then (none, z.2 ++ pend l z.1 i ++ (if parC (l.getD i 32) then [([l.getD i 32], i)] else [])) else (some (z.1.getD i), z.2)
def wst (l : List Nat) : Nat → Option Nat × List Wd
  | 0 => (none, [])
  | i + 1 => stp l i (wst l i)
def wordsOf (l : List Nat) : List Wd := (wst l (l.length + 1)).2
def Wd.enc (w : Wd) : PyData := .tuple [.str (Ls w.1), .int (w.2 : Int)]
theorem wst_lt (l : List Nat) : ∀ (i k : Nat), (wst l i).1 = some k → k < i
  | 0, k, h => by cases h
  | i + 1, k, h => by
    have h' : (stp l i (wst l i)).1 = some k := h
    unfold stp at h'
    split at h'
    · cases h'
    · cases e : (wst l i).1 with
      | none =>
        rw [e] at h'
        have : i = k := Option.some.inj h'
        omega
      | some j =>
        rw [e] at h'
        have : j = k := Option.some.inj h'
        have := wst_lt l i j e
        omega
theorem wst_len (l : List Nat) : ∀ i : Nat, (wst l i).2.length ≤ 2 * i
  | 0 => Nat.le_refl _
  | i + 1 => by
    have ih := wst_len l i
    show (stp l i (wst l i)).2.length ≤ _
    unfold stp
    split
    · rw [List.length_append, List.length_append]
      have h1 : (pend l (wst l i).1 i).length ≤ 1 := by
        unfold pend
        split
        · exact Nat.le_refl _
        · exact Nat.zero_le _
      have h2 : (if parC (l.getD i 32) then [([l.getD i 32], i)] else ([] : List Wd)).length ≤ 1 := by
        split
        · exact Nat.le_refl _
        · exact Nat.zero_le _
      omega
    · exact Nat.le_trans ih (by omega)
theorem wst_sep {l : List Nat} {i : Nat} (h : sepC (l.getD i 32)) : wst l (i + 1) = (none, (wst l i).2 ++ pend l (wst l i).1 i ++ (if parC (l.getD i 32) then [([l.getD i 32], i)] else [])) := if_pos h
theorem wst_no {l : List Nat} {i : Nat} (h : ¬ sepC (l.getD i 32)) : wst l (i + 1) = (some ((wst l i).1.getD i), (wst l i).2) := if_neg h
theorem in_sep (c : Nat) : (!(Builtin.Str.occurrences (" \n()" : Str) (Ls [c]) 0 (" \n()" : Str).length 1).isEmpty) = decide (sepC c) := SX.in_one [32, 10, 40, 41] c
theorem in_par (c : Nat) : (!(Builtin.Str.occurrences ("()" : Str) (Ls [c]) 0 ("()" : Str).length 1).isEmpty) = decide (parC c) := SX.in_one [40, 41] c
def startV : Option Nat → Int
  | some k => (k : Int)
  | none => -1
def spDue (K : PySem.W.Frag) : Sp := fun vs H Q _ => ∃ l : List Nat, vs = [.str (Ls l)] ∧ l.length ≤ 6000 ∧ ∀ a xs H', Same H H' → H a = none → H' a = some (.lst xs) → TvL K H' ((wordsOf l).map Wd.enc) xs → Q (.ref a) H'
abbrev sDue : Stmt := top 18
abbrev nDue : List Str := ["text", "words", "start", "at", "char"]
theorem carry_store {K : PySem.W.Frag} {H : Hp} {L : Addr} {ys zs : List V} (e : H L = some (.lst ys)) : Carry K H (upd H L (.lst zs)) := by
  intro a l h
  rcases h with (h | ⟨o, h⟩) | h
  · exact .inl (.inl (by rw [upd_ne (fun q => by rw [q, e] at h; cases h)]; exact h))
  · exact .inl (.inr ⟨o, by rw [upd_ne (fun q => by rw [q, e] at h; cases h)]; exact h⟩)
  · exact .inr h
theorem tvl_append {K : PySem.W.Frag} {H : Hp} : ∀ {ds : List PyData} {xs : List V} {d : PyData} {x : V}, TvL K H ds xs → Tv K H d x → TvL K H (ds ++ [d]) (xs ++ [x])
  | [], _, d, x, h, t => by cases h; exact ⟨x, [], rfl, t, rfl⟩
  | e :: ds, _, d, x, h, t => by
    obtain ⟨y, ys, z, ty, l⟩ := h
    subst z
    exact ⟨y, ys ++ [x], rfl, ty, tvl_append l t⟩
theorem TvL.len {K : PySem.W.Frag} {H : Hp} : ∀ {ds : List PyData} {xs : List V}, TvL K H ds xs → xs.length = ds.length
  | [], _, h => by cases h; rfl
  | d :: ds, _, h => by
    obtain ⟨x, xs, e, _, l⟩ := h
    subst e
    show xs.length + 1 = ds.length + 1
    rw [TvL.len l]
theorem same_put {H H' : Hp} {q : Addr} {o : HO} (s : Same H H') (h : H q = none) : Same H (upd H' q o) := fun b u e => by rw [upd_ne (ne_of_none e h)]; exact s b u e
theorem same_alloc {H : Hp} {q : Addr} {o : HO} (h : H q = none) : Same H (upd H q o) := fun b u e => by rw [upd_ne (ne_of_none e h)]; exact e
section
variable {P : Program} {w : World} {K : PySem.W.Frag} {mg : Str → Option Value} {base : Heap}
/-- words.append((text, at)) -/
theorem word_put {H H' : Hp} {W t : Addr} {xs : List V} {ds : List PyData} {z : List Nat} {k : Nat} (sm : Same H H') (hW : H W = none) (e : H' W = some (.lst xs)) (tv : TvL K H' ds xs) (ht : H' t = none) :
    (upd H' t (.tup [.str (Ls z), .int (k : Int)])) W = some (.lst xs) ∧ Same H (upd (upd H' t (.tup [.str (Ls z), .int (k : Int)])) W (.lst (xs ++ [.ref t]))) ∧
      TvL K (upd (upd H' t (.tup [.str (Ls z), .int (k : Int)])) W (.lst (xs ++ [.ref t]))) (ds ++ [Wd.enc (z, k)]) (xs ++ [.ref t]) := by
  have e2 : (upd H' t (.tup [.str (Ls z), .int (k : Int)])) W = some (.lst xs) := by rw [upd_ne (ne_of_none e ht)]; exact e
  refine ⟨e2, same_put (sm.trans (same_alloc ht)) hW, ?_⟩
  exact tvl_append (TvL.carry (carry_store e2) _ _ (TvL.carry (carry_new ht) _ _ tv)) ⟨t, _, rfl, carry_store e2 _ _ (SqT.of upd_same), _, _, rfl, rfl, _, _, rfl, rfl, rfl⟩
theorem scDue : FnScope nDue ["text"] (defScope sDue) := ⟨rfl, rfl, rfl, by decide +kernel, rfl, by decide +kernel, by decide +kernel⟩
theorem ok_due {f : Addr} {fd : FuncData} (F : Fun K "_law_due" "_law_due" sDue f fd) (T : Bi mg) : FnOk P w K mg base CX0 1 f fd ["text"] (spDue K) := by
  refine F.ok scDue (fun vs H Q E h => ?_) (fun cdv A outer s H vs Q E hr h => ?_)
  · obtain ⟨l, rfl, _⟩ := h
    rfl
  · obtain ⟨l, rfl, hl, q⟩ := h
    have nd := scDue.nd
    refine ⟨_, pss_cons (ps_set (i := 1) nd rfl (.inl rfl) (pe_lst pa_nil))
      (pss_cons (ps_set (i := 2) nd rfl (.inl rfl) (pe_un un_neg pe_int))
      (pss_cons (ps_for PassesOwn.never rfl (pi_range1 rfl T.range (pa_cons (pe_op op_add (pe_callB call_len_str rfl T.len PySem.boot_len (pa_cons (pv 0) pa_nil)) pe_int) pa_nil)) (pg_name (i := 3) nd rfl (.inl rfl)) (pss_cons (ps_set (i := 4) nd rfl (.inl rfl) (pe_ifExp (pt_cmpR op_lt (pv 3) (pe_callB call_len_str rfl T.len PySem.boot_len (pa_cons (pv 0) pa_nil)) (nomark _)) (pe_ix ix_str (pv 0) (pv 3) (fun _ _ => rfl)) pe_str))
      (pss_one (ps_if (pt_cmpR op_in_str (pv 4) pe_str (by rfl)) (pss_cons (ps_if (pt_cmpR op_ge (pv 2) pe_int (nomark _)) (pss_one (ps_expr (pe_bm PySem.F.plainAttrs_list PySem.F.slot_list_append PySem.F.type_list_append mt_append (pv 1) (pa_cons (pe_tup (pa_cons (pe_slice sl_str (pv 0) (po_some (pv 2)) (po_some (pv 3))) (pa_cons (pv 2) pa_nil))) pa_nil)))) pss_nil)
      (pss_cons (ps_set (i := 2) nd rfl (.inl rfl) (pe_un un_neg pe_int))
      (pss_one (ps_if (pt_cmpR op_in_str (pv 4) pe_str (by rfl)) (pss_one (ps_expr (pe_bm PySem.F.plainAttrs_list PySem.F.slot_list_append PySem.F.type_list_append mt_append (pv 1) (pa_cons (pe_tup (pa_cons (pv 4) (pa_cons (pv 3) pa_nil))) pa_nil)))) pss_nil)))) (pss_one (ps_if (pt_cmpR op_lt (pv 2) pe_int (nomark _)) (pss_one (ps_set (i := 2) nd rfl (.inl rfl) (pv 3))) pss_nil))))))
      (pss_one (ps_ret (pv 1))))), ?_⟩
    have big : 20000 ≤ sizeLine := by decide
    have fit : (Ls l).length ≤ sizeLine := by rw [ls_len]; omega
    refine ⟨Nat.zero_le _, fun W hW => ?_⟩
    refine ⟨1, rfl, _, rfl, Ls l, rfl, fit, _, _, rfl, rfl, ?_⟩
    refine ⟨((l.length + 1 : Nat) : Int), by rw [ls_len]; rfl, by omega, by omega, for_range (lo := 0) (n := l.length + 1) (fun i σ H' => Same H H' ∧ (∃ xs, H' W = some (.lst xs) ∧ TvL K H' ((wst l i).2.map Wd.enc) xs ∧ xs.length ≤ 2 * i) ∧
        ∃ w3 w4 : Option V, σ = [some (.str (Ls l)), some (.ref W), some (.int (startV (wst l i).1)), w3, w4])
      ⟨same_alloc hW, ⟨[], upd_same, rfl, Nat.le_refl _⟩, _, _, rfl⟩ ?_ ?_⟩
    · rintro i σ H' hi ⟨sm, ⟨xs, eW, tv, lx⟩, w3, w4, rfl⟩
      have zi : (0 : Int) + (i : Int) = (i : Int) := Int.zero_add _
      rw [zi]
      refine ⟨_, rfl, _, rfl, Ls l, rfl, fit, _, _, rfl, rfl, _, rfl, ?_⟩
      rw [ls_len]
      by_cases hl2 : i < l.length
      · refine iteT' (decide_eq_true (show (i : Int) < (l.length : Int) by omega)) ?_
        have ec : atI (Ls l).cps.toList (i : Int) = some (l.getD i 32) := by
          rw [ls_tl]
          rw [List.getD_eq_getElem?_getD, List.getElem?_eq_getElem hl2]
          exact atI_nat (List.getElem?_eq_getElem hl2)
        refine ⟨_, rfl, _, rfl, Ls l, _, l.getD i 32, rfl, rfl, fit, ec, ?_⟩
        refine ⟨_, rfl, _, _, rfl, rfl, _, rfl, ?_⟩
        by_cases sc : sepC (l.getD i 32)
        · refine iteT' ((in_sep _).trans (decide_eq_true sc)) ?_
          refine ⟨_, rfl, _, _, rfl, rfl, _, rfl, ?_⟩
          cases es : (wst l i).1 with
          | some k =>
            have kl := wst_lt l i k es
            refine iteT' (decide_eq_true (Int.natCast_nonneg k)) ?_
            refine ⟨_, rfl, .inl ⟨rfl, _, SqL.of eW⟩, _, rfl, _, rfl, _, rfl, _, rfl, _, rfl, Ls l, rfl, fit, _, rfl, (show 2 ≤ sizeLine by decide), fun t1 ht1 => ?_⟩
            have ec : cutS (Ls l) (some (startV (some k))) (some ((i : Nat) : Int)) = Ls ((l.drop k).take (i - k)) := ls_cut (Nat.le_of_lt kl) (by omega)
            rw [ec]
            obtain ⟨f1, f2, f3⟩ := word_put (z := (l.drop k).take (i - k)) (k := k) sm hW eW tv ht1
            have f3' : TvL K (upd (upd H' t1 (.tup [.str (Ls ((l.drop k).take (i - k))), .int (k : Int)])) W (.lst (xs ++ [.ref t1]))) (((wst l i).2 ++ pend l (wst l i).1 i).map Wd.enc) (xs ++ [.ref t1]) := by
              rw [es, List.map_append]
              exact f3
            have ln : (xs ++ [V.ref t1]).length ≤ 2 * i + 1 := by
              rw [List.length_append]
              show xs.length + 1 ≤ _
              omega
            refine ⟨W, _, _, rfl, rfl, f1, by omega, ?_⟩
            refine ⟨1, rfl, _, rfl, _, _, rfl, rfl, _, rfl, ?_⟩
            by_cases pc : parC (l.getD i 32)
            · refine iteT' ((in_par _).trans (decide_eq_true pc)) ?_
              refine ⟨_, rfl, .inl ⟨rfl, _, SqL.of (upd_same)⟩, _, rfl, _, rfl, (show 2 ≤ sizeLine by decide), fun t2 ht2 => ?_⟩
              obtain ⟨g1, g2, g3⟩ := word_put (z := [l.getD i 32]) (k := i) (f2) hW (upd_same) (f3') ht2
              refine ⟨W, _, _, rfl, rfl, g1, ?_, g2, ⟨_, upd_same, ?_, ?_⟩, some (V.int (i : Int)), some (V.str (Ls [l.getD i 32])), ?_⟩
              · have := ln
                omega
              · rw [wst_sep sc, if_pos pc, List.map_append]
                exact g3
              · have := ln
                rw [List.length_append]
                show _ + 1 ≤ 2 * (i + 1)
                omega
              · rw [wst_sep sc]
                rfl
            · refine iteF' ((in_par _).trans (decide_eq_false pc)) ?_
              refine ⟨f2, ⟨_, upd_same, ?_, ?_⟩, some (V.int (i : Int)), some (V.str (Ls [l.getD i 32])), ?_⟩
              · rw [wst_sep sc, if_neg pc, List.append_nil]
                exact f3'
              · have := ln
                omega
              · rw [wst_sep sc]
                rfl
          | none =>
            refine iteF' (decide_eq_false (by decide)) ?_
            have tv' : TvL K H' (((wst l i).2 ++ pend l (wst l i).1 i).map Wd.enc) xs := by
              rw [es]
              show TvL K H' (((wst l i).2 ++ []).map Wd.enc) xs
              rw [List.append_nil]
              exact tv
            have ln : xs.length ≤ 2 * i + 1 := by omega
            refine ⟨1, rfl, _, rfl, _, _, rfl, rfl, _, rfl, ?_⟩
            by_cases pc : parC (l.getD i 32)
            · refine iteT' ((in_par _).trans (decide_eq_true pc)) ?_
              refine ⟨_, rfl, .inl ⟨rfl, _, SqL.of (eW)⟩, _, rfl, _, rfl, (show 2 ≤ sizeLine by decide), fun t2 ht2 => ?_⟩
              obtain ⟨g1, g2, g3⟩ := word_put (z := [l.getD i 32]) (k := i) (sm) hW (eW) (tv') ht2
              refine ⟨W, _, _, rfl, rfl, g1, ?_, g2, ⟨_, upd_same, ?_, ?_⟩, some (V.int (i : Int)), some (V.str (Ls [l.getD i 32])), ?_⟩
              · have := ln
                omega
              · rw [wst_sep sc, if_pos pc, List.map_append]
                exact g3
              · have := ln
                rw [List.length_append]
                show _ + 1 ≤ 2 * (i + 1)
                omega
              · rw [wst_sep sc]
                rfl
            · refine iteF' ((in_par _).trans (decide_eq_false pc)) ?_
              refine ⟨sm, ⟨_, eW, ?_, ?_⟩, some (V.int (i : Int)), some (V.str (Ls [l.getD i 32])), ?_⟩
              · rw [wst_sep sc, if_neg pc, List.append_nil]
                exact tv'
              · have := ln
                omega
              · rw [wst_sep sc]
                rfl
        · refine iteF' ((in_sep _).trans (decide_eq_false sc)) ?_
          refine ⟨_, rfl, _, _, rfl, rfl, _, rfl, ?_⟩
          cases es : (wst l i).1 with
          | some k =>
            refine iteF' (decide_eq_false (by show ¬ ((k : Int) < 0); omega)) ?_
            refine ⟨sm, ⟨xs, eW, ?_, by omega⟩, some (V.int (i : Int)), some (V.str (Ls [l.getD i 32])), ?_⟩
            · rw [wst_no sc]
              exact tv
            · rw [wst_no sc, es]
              rfl
          | none =>
            refine iteT' (decide_eq_true (by decide)) ?_
            refine ⟨_, rfl, sm, ⟨xs, eW, ?_, by omega⟩, some (V.int (i : Int)), some (V.str (Ls [l.getD i 32])), ?_⟩
            · rw [wst_no sc]
              exact tv
            · rw [wst_no sc, es]
              rfl
      · refine iteF' (decide_eq_false (show ¬ ((i : Int) < (l.length : Int)) by omega)) ?_
        have e32 : l.getD i 32 = 32 := by
          rw [List.getD_eq_getElem?_getD, List.getElem?_eq_none (by omega)]
          rfl
        have es32 : (V.str (" " : Str)) = V.str (Ls [l.getD i 32]) := by rw [e32]; rfl
        rw [es32]
        refine ⟨_, rfl, _, _, rfl, rfl, _, rfl, ?_⟩
        by_cases sc : sepC (l.getD i 32)
        · refine iteT' ((in_sep _).trans (decide_eq_true sc)) ?_
          refine ⟨_, rfl, _, _, rfl, rfl, _, rfl, ?_⟩
          cases es : (wst l i).1 with
          | some k =>
            have kl := wst_lt l i k es
            refine iteT' (decide_eq_true (Int.natCast_nonneg k)) ?_
            refine ⟨_, rfl, .inl ⟨rfl, _, SqL.of eW⟩, _, rfl, _, rfl, _, rfl, _, rfl, _, rfl, Ls l, rfl, fit, _, rfl, (show 2 ≤ sizeLine by decide), fun t1 ht1 => ?_⟩
            have ec : cutS (Ls l) (some (startV (some k))) (some ((i : Nat) : Int)) = Ls ((l.drop k).take (i - k)) := ls_cut (Nat.le_of_lt kl) (by omega)
            rw [ec]
            obtain ⟨f1, f2, f3⟩ := word_put (z := (l.drop k).take (i - k)) (k := k) sm hW eW tv ht1
            have f3' : TvL K (upd (upd H' t1 (.tup [.str (Ls ((l.drop k).take (i - k))), .int (k : Int)])) W (.lst (xs ++ [.ref t1]))) (((wst l i).2 ++ pend l (wst l i).1 i).map Wd.enc) (xs ++ [.ref t1]) := by
              rw [es, List.map_append]
              exact f3
            have ln : (xs ++ [V.ref t1]).length ≤ 2 * i + 1 := by
              rw [List.length_append]
              show xs.length + 1 ≤ _
              omega
            refine ⟨W, _, _, rfl, rfl, f1, by omega, ?_⟩
            refine ⟨1, rfl, _, rfl, _, _, rfl, rfl, _, rfl, ?_⟩
            by_cases pc : parC (l.getD i 32)
            · refine iteT' ((in_par _).trans (decide_eq_true pc)) ?_
              refine ⟨_, rfl, .inl ⟨rfl, _, SqL.of (upd_same)⟩, _, rfl, _, rfl, (show 2 ≤ sizeLine by decide), fun t2 ht2 => ?_⟩
              obtain ⟨g1, g2, g3⟩ := word_put (z := [l.getD i 32]) (k := i) (f2) hW (upd_same) (f3') ht2
              refine ⟨W, _, _, rfl, rfl, g1, ?_, g2, ⟨_, upd_same, ?_, ?_⟩, some (V.int (i : Int)), some (V.str (Ls [l.getD i 32])), ?_⟩
              · have := ln
                omega
              · rw [wst_sep sc, if_pos pc, List.map_append]
                exact g3
              · have := ln
                rw [List.length_append]
                show _ + 1 ≤ 2 * (i + 1)
                omega
              · rw [wst_sep sc]
                rfl
            · refine iteF' ((in_par _).trans (decide_eq_false pc)) ?_
              refine ⟨f2, ⟨_, upd_same, ?_, ?_⟩, some (V.int (i : Int)), some (V.str (Ls [l.getD i 32])), ?_⟩
              · rw [wst_sep sc, if_neg pc, List.append_nil]
                exact f3'
              · have := ln
                omega
              · rw [wst_sep sc]
                rfl
          | none =>
            refine iteF' (decide_eq_false (by decide)) ?_
            have tv' : TvL K H' (((wst l i).2 ++ pend l (wst l i).1 i).map Wd.enc) xs := by
              rw [es]
              show TvL K H' (((wst l i).2 ++ []).map Wd.enc) xs
              rw [List.append_nil]
              exact tv
            have ln : xs.length ≤ 2 * i + 1 := by omega
            refine ⟨1, rfl, _, rfl, _, _, rfl, rfl, _, rfl, ?_⟩
            by_cases pc : parC (l.getD i 32)
            · refine iteT' ((in_par _).trans (decide_eq_true pc)) ?_
              refine ⟨_, rfl, .inl ⟨rfl, _, SqL.of (eW)⟩, _, rfl, _, rfl, (show 2 ≤ sizeLine by decide), fun t2 ht2 => ?_⟩
              obtain ⟨g1, g2, g3⟩ := word_put (z := [l.getD i 32]) (k := i) (sm) hW (eW) (tv') ht2
              refine ⟨W, _, _, rfl, rfl, g1, ?_, g2, ⟨_, upd_same, ?_, ?_⟩, some (V.int (i : Int)), some (V.str (Ls [l.getD i 32])), ?_⟩
              · have := ln
                omega
              · rw [wst_sep sc, if_pos pc, List.map_append]
                exact g3
              · have := ln
                rw [List.length_append]
                show _ + 1 ≤ 2 * (i + 1)
                omega
              · rw [wst_sep sc]
                rfl
            · refine iteF' ((in_par _).trans (decide_eq_false pc)) ?_
              refine ⟨sm, ⟨_, eW, ?_, ?_⟩, some (V.int (i : Int)), some (V.str (Ls [l.getD i 32])), ?_⟩
              · rw [wst_sep sc, if_neg pc, List.append_nil]
                exact tv'
              · have := ln
                omega
              · rw [wst_sep sc]
                rfl
        · refine iteF' ((in_sep _).trans (decide_eq_false sc)) ?_
          refine ⟨_, rfl, _, _, rfl, rfl, _, rfl, ?_⟩
          cases es : (wst l i).1 with
          | some k =>
            refine iteF' (decide_eq_false (by show ¬ ((k : Int) < 0); omega)) ?_
            refine ⟨sm, ⟨xs, eW, ?_, by omega⟩, some (V.int (i : Int)), some (V.str (Ls [l.getD i 32])), ?_⟩
            · rw [wst_no sc]
              exact tv
            · rw [wst_no sc, es]
              rfl
          | none =>
            refine iteT' (decide_eq_true (by decide)) ?_
            refine ⟨_, rfl, sm, ⟨xs, eW, ?_, by omega⟩, some (V.int (i : Int)), some (V.str (Ls [l.getD i 32])), ?_⟩
            · rw [wst_no sc]
              exact tv
            · rw [wst_no sc, es]
              rfl
    · rintro σ H' ⟨sm, ⟨xs, eW, tv, lx⟩, w3, w4, rfl⟩
      exact ⟨_, rfl, q W xs H' sm hW eW tv⟩
end

/-! ### the words shown: showable, short enough -/
theorem depthAll_le {n : Nat} : ∀ {ds : List PyData}, (∀ d ∈ ds, d.depth ≤ n) → PyData.depthAll ds ≤ n
  | [], _ => by simp [PyData.depthAll]
  | d :: ds, h => by
    simp only [PyData.depthAll]
    exact Nat.max_le.mpr ⟨h d List.mem_cons_self, depthAll_le fun x hx => h x (List.mem_cons_of_mem _ hx)⟩
def Wd.small (w : Wd) : Prop := (∀ c ∈ w.1, c < 127) ∧ w.2 < 100000
theorem enc_depth (w : Wd) : (Wd.enc w).depth ≤ 2 := by
  show PyData.depth (.tuple [.str (Ls w.1), .int (w.2 : Int)]) ≤ 2
  simp [PyData.depth, PyData.depthAll]
theorem enc_showable {w : Wd} (h : Wd.small w) : (Wd.enc w).showable = true := by
  show PyData.showable (.tuple [.str (Ls w.1), .int (w.2 : Int)]) = true
  have : ((w.2 : Nat) : Int).natAbs.log2 < 1920 := by
    rw [Int.natAbs_natCast]
    by_cases z : w.2 = 0
    · rw [z]; decide
    · exact Nat.lt_trans ((Nat.log2_lt z).mpr (Nat.lt_trans h.2 (show 100000 < 2 ^ 20 by decide))) (by decide)
  simp only [PyData.showable, PyData.showableAll, this, decide_true, Bool.and_self]
theorem enc_shown {w : Wd} (h : Wd.small w) : (Wd.enc w).shown.length ≤ 10 * w.1.length + 24 := by
  show (PyData.shown (.tuple [.str (Ls w.1), .int (w.2 : Int)])).length ≤ _
  have e : PyData.shown (.tuple [.str (Ls w.1), .int (w.2 : Int)]) = tupleText (PyData.shownAll [.str (Ls w.1), .int (w.2 : Int)]) := by simp only [PyData.shown]
  rw [e]
  have h1 := tupleText_len_le (PyData.shownAll [.str (Ls w.1), .int (w.2 : Int)])
  have h2 := StrLaws.reprText_len (Ls w.1) (fun c hc => Nat.lt_trans (h.1 c hc) (by decide))
  rw [ls_len] at h2
  have h3 : (PyData.shown (.int (w.2 : Int))).length ≤ 13 := PyData.shown_int_le (by rw [Int.natAbs_natCast]; exact Nat.lt_trans h.2 (by decide))
  have e2 : PyData.shownAll [.str (Ls w.1), .int (w.2 : Int)] = [reprText (Ls w.1), PyData.shown (.int (w.2 : Int))] := by simp only [PyData.shownAll, PyData.shown]
  rw [e2] at h1 ⊢
  simp only [List.map_cons, List.map_nil, List.sum_cons, List.sum_nil, List.length_cons, List.length_nil] at h1
  omega
def total (ws : List Wd) : Nat := (ws.map fun w => w.1.length).sum
theorem total_app (a b : List Wd) : total (a ++ b) = total a + total b := by
  unfold total
  rw [List.map_append, List.sum_append]
theorem list_shown : ∀ {ws : List Wd}, (∀ w ∈ ws, Wd.small w) → ((PyData.shownAll (ws.map Wd.enc)).map (·.length)).sum ≤ 10 * total ws + 24 * ws.length
  | [], _ => by simp [PyData.shownAll, total]
  | w :: ws, h => by
    have ih := list_shown fun x hx => h x (List.mem_cons_of_mem _ hx)
    have h1 := enc_shown (h w List.mem_cons_self)
    have e : PyData.shownAll ((w :: ws).map Wd.enc) = (Wd.enc w).shown :: PyData.shownAll (ws.map Wd.enc) := by simp only [List.map_cons, PyData.shownAll]
    have t : total (w :: ws) = w.1.length + total ws := by
      unfold total
      rw [List.map_cons, List.sum_cons]
    rw [e, List.map_cons, List.sum_cons, t, List.length_cons]
    omega
theorem words_show {ws : List Wd} (h : ∀ w ∈ ws, Wd.small w) (ht : total ws ≤ 7000) (hl : ws.length ≤ 13000) :
    (PyData.list (ws.map Wd.enc)).showable = true ∧ (PyData.list (ws.map Wd.enc)).shown.length ≤ sizeLine ∧ (PyData.list (ws.map Wd.enc)).depth ≤ 90 := by
  refine ⟨?_, ?_, ?_⟩
  · simp only [PyData.showable]
    refine PySem.Spec.showableAll_of fun x hx => ?_
    obtain ⟨w, hw, rfl⟩ := List.mem_map.mp hx
    exact enc_showable (h w hw)
  · have e : PyData.shown (.list (ws.map Wd.enc)) = listText (PyData.shownAll (ws.map Wd.enc)) := by simp only [PyData.shown]
    rw [e]
    have h1 := listText_len_le (PyData.shownAll (ws.map Wd.enc))
    have h2 := list_shown h
    have h3 : (PyData.shownAll (ws.map Wd.enc)).length = ws.length := by rw [PyData.shownAll_length, List.length_map]
    rw [h3] at h1
    exact Nat.le_trans (show _ ≤ 10 * 7000 + 24 * 13000 + 2 * 13000 + 3 by omega) (by decide)
  · simp only [PyData.depth]
    have := depthAll_le (n := 2) (ds := ws.map Wd.enc) fun d hd => by
      obtain ⟨w, _, rfl⟩ := List.mem_map.mp hd
      exact enc_depth w
    omega
def held : Option Nat → Nat → Nat
  | some k, i => i - k
  | none, _ => 0
theorem wst_total (l : List Nat) : ∀ i : Nat, total (wst l i).2 + held (wst l i).1 i ≤ i
  | 0 => Nat.le_refl _
  | i + 1 => by
    have ih := wst_total l i
    by_cases sc : sepC (l.getD i 32)
    · rw [wst_sep sc]
      show total ((wst l i).2 ++ pend l (wst l i).1 i ++ _) + 0 ≤ i + 1
      rw [total_app, total_app]
      have h1 : total (pend l (wst l i).1 i) ≤ held (wst l i).1 i := by
        unfold pend held
        cases (wst l i).1 with
        | none => exact Nat.le_refl _
        | some k =>
          show (((l.drop k).take (i - k)).length + 0) ≤ i - k
          rw [List.length_take]
          exact Nat.min_le_left _ _
      have h2 : total (if parC (l.getD i 32) then [([l.getD i 32], i)] else ([] : List Wd)) ≤ 1 := by
        split
        · exact Nat.le_refl _
        · exact Nat.zero_le _
      omega
    · rw [wst_no sc]
      show total (wst l i).2 + (i + 1 - (wst l i).1.getD i) ≤ i + 1
      cases e : (wst l i).1 with
      | none =>
        rw [e] at ih
        show total (wst l i).2 + (i + 1 - i) ≤ i + 1
        have : total (wst l i).2 + 0 ≤ i := ih
        omega
      | some k =>
        rw [e] at ih
        have := wst_lt l i k e
        show total (wst l i).2 + (i + 1 - k) ≤ i + 1
        have ih' : total (wst l i).2 + (i - k) ≤ i := ih
        omega
theorem wst_small {l : List Nat} (hl : ∀ c ∈ l, c < 127) (hn : l.length < 50000) : ∀ i : Nat, i ≤ 60000 → ∀ w ∈ (wst l i).2, Wd.small w
  | 0, _ => fun w h => by cases h
  | i + 1, hi => fun w hw => by
    have ih := wst_small hl hn i (by omega)
    by_cases sc : sepC (l.getD i 32)
    · rw [wst_sep sc] at hw
      rcases List.mem_append.mp hw with h | h
      · rcases List.mem_append.mp h with h | h
        · exact ih w h
        · unfold pend at h
          cases e : (wst l i).1 with
          | none => rw [e] at h; cases h
          | some k =>
            rw [e] at h
            have := wst_lt l i k e
            rw [List.mem_singleton.mp h]
            exact ⟨fun c hc => hl c (List.mem_of_mem_drop (List.mem_of_mem_take hc)), by show k < 100000; omega⟩
      · split at h
        · rw [List.mem_singleton.mp h]
          refine ⟨fun c hc => ?_, by show i < 100000; omega⟩
          rw [List.mem_singleton.mp hc]
          unfold sepC at sc
          simp only [List.mem_cons, List.not_mem_nil, or_false] at sc
          omega
        · cases h
    · rw [wst_no sc] at hw
      exact ih w hw
theorem okc_lt {c : Nat} (h : okc c) : c < 127 := by
  rcases h with h | ⟨_, h, _⟩ <;> omega
theorem wordsOf_show {l : List Nat} (hl : ∀ c ∈ l, okc c) (hn : l.length ≤ 6000) :
    (PyData.list ((wordsOf l).map Wd.enc)).showable = true ∧ (PyData.list ((wordsOf l).map Wd.enc)).shown.length ≤ sizeLine ∧ (PyData.list ((wordsOf l).map Wd.enc)).depth ≤ 90 := by
  refine words_show (wst_small (fun c hc => okc_lt (hl c hc)) (by omega) _ (by omega)) ?_ ?_
  · have := wst_total l (l.length + 1)
    show total (wst l (l.length + 1)).2 ≤ 7000
    omega
  · have := wst_len l (l.length + 1)
    show (wst l (l.length + 1)).2.length ≤ 13000
    omega
mutual
theorem Tv.dv {K : PySem.W.Frag} {H : Hp} : ∀ (d : PyData) (v : V), Tv K H d v → Rp.Dv K H d v
  | .none, _, h => h
  | .bool _, _, h => h
  | .int _, _, h => h
  | .str _, _, h => h
  | .tuple ds, _, h => by
    obtain ⟨a, xs, e, s, l⟩ := h
    exact ⟨a, xs, e, s, TvL.dv ds xs l⟩
  | .list _, _, h => False.elim h
  | .dict _, _, h => False.elim h
theorem TvL.dv {K : PySem.W.Frag} {H : Hp} : ∀ (ds : List PyData) (vs : List V), TvL K H ds vs → Rp.DvL K H ds vs
  | [], _, h => h
  | d :: ds, _, h => by
    obtain ⟨x, xs, e, t, l⟩ := h
    exact ⟨x, xs, e, Tv.dv d x t, TvL.dv ds xs l⟩
end

/-! ## enumerate of a text -/
namespace En
open PySem PySem.Spec PyProof.Rows L2
/-- the signs of a text, each in a new pair with its place -/
def Iss (x : Str) : It :=
  ⟨fun i _ => i < x.cps.size, fun i H v H' => ∃ T c, v = .ref T ∧ H T = none ∧ H' = upd H T (.tup [.int (i : Nat), .str ⟨#[c]⟩]) ∧ x.cps[i]? = some c, fun i _ => x.cps.size ≤ i⟩
theorem draws_str {prog : Program} {w : World} {A : Around} (hh : A.handled = none) (it : Addr) (x : Str) (t : Tok) :
    Draws prog w A it [it] x.cps.size (fun i v => ∃ c u, x.cps[i]? = some c ∧ v = .str ⟨#[c]⟩ u) (fun i h => h.IsStrIter it (strIterType x) x t i) := by
  unfold strIterType
  split
  · exact Draws.strAscii hh it x t
  · exact Draws.strWide hh it x t
theorem turn_enumS {P : Program} {w : World} {K : PySem.W.Frag} {elts : List Expr} {kk : Nat} {tpos : Pos} (x : Str) (t : Tok) (e it : Addr) :
    Turn P w K (.Tuple elts kk tpos) (Iss x) [e, it] e (fun i h => (∃ old, IsEnum h e it ((i : Nat) : Int) old) ∧ h.IsStrIter it (strIterType x) x t i ∧ e ≠ it ∧ i ≤ x.cps.size) where
  mem := by simp
  obj := fun i h st b hb => by
    obtain ⟨⟨old, he⟩, ⟨o, ho, hc, hd⟩, _⟩ := st
    have e' : b = e ∨ b = it := by simpa using hb
    rcases e' with z | z
    · rw [z]; exact ⟨_, he, fun v q => nomatch q⟩
    · rw [z]; exact ⟨o, ho, fun v q => by rw [hd] at q; cases q⟩
  keep := fun i h h' st k => let ⟨⟨old, he⟩, ⟨o, ho, r⟩, hne, hi⟩ := st; ⟨⟨old, k e (by simp) _ he⟩, ⟨o, k it (by simp) o ho, r⟩, hne, hi⟩
  item := by
    intro X hP hw hK hc i pins s σ H E I hf st hg
    subst hP hw hK
    obtain ⟨⟨old, he⟩, hit, hne, _⟩ := st
    have hel : e < s.heap.objs.size := Heap.lt_size he
    have hil : it < s.heap.objs.size := by obtain ⟨_, q, _⟩ := hit; exact Heap.lt_size q
    refine wpAny_pyNext_enum_itemD (D := draws_str (A := X.A.in1) (I.ok.hd hc) it x t) he hit hg hne (by simpa using hne) fun v h' tk hv ho hit' hT hsz hk => ?_
    obtain ⟨c, u, hcx, rfl⟩ := hv
    refine ⟨_, rfl, wpAny_letOwnedTupleGo_enum (s := { s with heap := h', toks := tk + 1 }) ho fun h'' he' sb => ?_⟩
    have hT2 : h''.get? s.heap.objs.size = some { cls := .type "tuple", data := .seq #[.int i tk, .str ⟨#[c]⟩ u] } := (sb.2 _ (Nat.ne_of_gt hel)).trans hT
    have new : ObjOk X.prog X.w (upd H s.heap.objs.size (.tup [.int (i : Nat), .str ⟨#[c]⟩])) h'' s.heap.objs.size (.tup [.int (i : Nat), .str ⟨#[c]⟩]) :=
      ⟨by show 2 ≤ sizeLine; decide, [.int i tk, .str ⟨#[c]⟩ u], .cons ⟨_, rfl⟩ (.cons ⟨_, rfl⟩ .nil), ⟨_, hT2, rfl, _, rfl⟩⟩
    have I1 : Inv X pins σ (upd H s.heap.objs.size (.tup [.int (i : Nat), .str ⟨#[c]⟩])) { s with heap := h'', toks := tk + 1 } :=
      I.turnedNew (ch := [e, it]) (fun b ob hb q => (sb.2 b (fun z => hb (by simp [z]))).trans (hk b ob (fun z => hb (by simp [z])) (fun z => hb (by simp [z])) q)) hf (Nat.le_refl _) new
    refine ⟨.ref s.heap.objs.size, _, I1, rfl, ⟨_, c, rfl, I.hok.fresh (Nat.le_refl _), rfl, hcx⟩, ⟨⟨.str ⟨#[c]⟩ u, ?_⟩, ?_, hne, hg⟩, fun b hb => ?_⟩
    · have e1 : ((i + 1 : Nat) : Int) = (i : Int) + 1 := by omega
      rw [e1]; exact he'
    · obtain ⟨o, hq, r⟩ := hit'
      exact ⟨o, (sb.2 it (Ne.symm hne)).trans hq, r⟩
    · have hb' : b < s.heap.objs.size := by
        have e' : b = e ∨ b = it := by simpa using hb
        rcases e' with z | z
        · rw [z]; exact hel
        · rw [z]; exact hil
      rw [upd_ne (Nat.ne_of_lt hb')]
      exact (hf b hb).1
  done := by
    intro X hP hw hK hc i pins s σ H E I hf st hg
    subst hP hw hK
    obtain ⟨⟨old, he⟩, hit, hne, hi⟩ := st
    obtain ⟨f0, f1, f2, f3, f4, f5⟩ := hf it (by simp)
    have ei : i = x.cps.size := Nat.le_antisymm hi hg
    rw [ei] at hit he
    exact wpAny_pyNext_enum_endD (D := draws_str (A := X.A.in1) (I.ok.hd hc) it x t) he hit fun h' eb => ⟨rfl, I.turned (t' := s.toks) (fun b o hb q => eb b o hb q) f0 f1 f3 f4 f5⟩
  self := fun A i s Q E st h => let ⟨⟨_, he⟩, _⟩ := st; wpAny_pyIter_enum he h
def iEnumS (ta : TA) : TI := fun σ H R => ta σ H fun vs H1 => ∃ x, vs = [.str x] ∧ R (Iss x) H1
theorem pi_enumS {X : Cx} {e : Expr} {ta : TA} {p pos tpos : Pos} {elts : List Expr} {kk : Nat} (hg : Gl X "enumerate") (hm : X.mg "enumerate" = none) (ha : PA X [e] ta) (hs : starEach [e] X.env = [(false, eval e X.env)] := by rfl) :
    PI X (.Tuple elts kk tpos) (.Call (.Name "enumerate" p) [e] [] pos) (iEnumS ta) := by
  refine ⟨fun pins s σ H R I h => ?_⟩
  refine Call_ (ld_blt I hg hm boot_enumerate (PyProof.Rows.callWith_type1 (thn (ha.run pos pins s σ H _ I h) fun us s1 ⟨vs, H1, I1, r1, q1⟩ => ?_) hs rfl))
  obtain ⟨x, ex, q⟩ := q1
  subst ex
  cases r1 with
  | cons r rr =>
    cases rr
    obtain ⟨t, rfl⟩ := r
    refine call_enumerate_str fun h' he hit hsz hk => wpAny_pyIter_enum he ?_
    have I2 : Inv X pins σ H1 { s1 with heap := h' } := I1.kept (t' := s1.toks) hk
    refine ⟨s1.heap.objs.size + 1, [s1.heap.objs.size + 1, s1.heap.objs.size], _, _, H1, rfl, I2, turn_enumS x t (s1.heap.objs.size + 1) s1.heap.objs.size, ⟨⟨.none, he⟩, hit, Nat.succ_ne_self _, Nat.zero_le _⟩, fun b hb => ?_, q⟩
    have e' : b = s1.heap.objs.size + 1 ∨ b = s1.heap.objs.size := by simpa using hb
    have hle : s1.heap.objs.size ≤ b := by
      rcases e' with z | z
      · rw [z]; exact Nat.le_add_right _ _
      · rw [z]; exact Nat.le_refl _
    exact I1.fpOk hle (I1.hok.fresh hle)
/-- a loop over the signs of a text -/
theorem for_signs {x : Str} {g : TG} {tb : TS} {D : Ends} {σ : L2.St} {H : Hp} (Pv : Nat → L2.St → Hp → Prop) (h0 : Pv 0 σ H)
    (hb : ∀ (i c : Nat) (σ : L2.St) (H : Hp) (T : Addr), x.cps[i]? = some c → H T = none → Pv i σ H → g (.ref T) σ (upd H T (.tup [.int (i : Nat), .str ⟨#[c]⟩])) fun σ2 H2 => tb { D with nx := Pv (i + 1), ct := Pv (i + 1), bk := D.nx } σ2 H2)
    (hd : ∀ σ H, Pv x.cps.size σ H → D.nx σ H) :
    ∃ W : Nat → Nat → L2.St → Hp → Prop, (∃ m, W 0 m σ H) ∧ ∀ i m σ H, W i m σ H →
      ((Iss x).stop i H ∧ D.nx σ H) ∨ ((Iss x).go i H ∧ ∃ N : L2.St → Hp → Prop, (∀ σ' H', N σ' H' → ∃ m', m' < m ∧ W (i + 1) m' σ' H') ∧ ∀ v H', (Iss x).yld i H v H' → g v σ H' fun σ2 H2 => tb { D with nx := N, ct := N, bk := D.nx } σ2 H2) := by
  refine ⟨fun i m σ H => m = x.cps.size - i ∧ i ≤ x.cps.size ∧ Pv i σ H, ⟨x.cps.size, by simp, Nat.zero_le _, h0⟩, ?_⟩
  rintro i m σ H ⟨rfl, hi, p⟩
  by_cases hlt : i < x.cps.size
  · refine .inr ⟨hlt, Pv (i + 1), fun σ' H' p' => ⟨x.cps.size - (i + 1), by omega, rfl, hlt, p'⟩, fun v H' y => ?_⟩
    obtain ⟨T, c, rfl, hT, rfl, hc⟩ := y
    exact hb i c σ H T hc hT p
  · have e : i = x.cps.size := by omega
    subst e
    exact .inl ⟨Nat.le_refl _, hd σ H p⟩
end En

/-! ### the program: words.py -/
section
variable (P : Program) (w : World) (K : PySem.W.Frag) (mg : Str → Option Value) (base : Heap)
/-- an error class of the program with an __init__ of its own, as its makers want it -/
structure Mk (x : Str) (C : Addr) (ps : List Str) (sp : Sp) where
  fI : Addr
  fd : FuncData
  ok : FnOk P w K mg base CX0 1 fI fd ps sp
  b : Binds K fd ps []
  ex : OexC K C
  iC : PySem.W.findIn K (.ref C) "__init__" = some (some (.ref fI))
  tI : PySem.W.typeIn K (.ref fI) = some (.type "function")
  m : mg x = some (.ref C)
end
def spAllow : Sp := fun vs H Q _ => ∃ c : Nat, vs = [.str (Ls [c])] ∧ Q (.bl (decide (okc c))) H
/-- what check_characters promises of a text of the law -/
def spCheck (K : PySem.W.Frag) (C : Addr) : Sp := fun vs H Q E => ∃ l : List Nat, vs = [.str (Ls l)] ∧ l.length ≤ 10000 ∧
  (∀ (n : Int) (d : Addr) H', ((6000 < l.length ∧ n = 0) ∨ (l.length ≤ 6000 ∧ ∃ k : Nat, n = (k : Int) ∧ k < l.length ∧ ¬ okc (l.getD k 0) ∧ ∀ j < k, okc (l.getD j 0))) → Same H H' → H' d = some (.xd [("at", .int n)]) → E (.ref C) (some d) H') ∧
  (l.length ≤ 6000 → (∀ j < l.length, okc (l.getD j 0)) → ∀ H', Same H H' → Q .non H')
/-- what split_words promises of a text of the law -/
def spSplit (K : PySem.W.Frag) (C : Addr) : Sp := fun vs H Q E => ∃ l : List Nat, vs = [.str (Ls l)] ∧ l.length ≤ 10000 ∧
  (∀ (n : Int) (d : Addr) H', ((6000 < l.length ∧ n = 0) ∨ (l.length ≤ 6000 ∧ ∃ k : Nat, n = (k : Int) ∧ k < l.length ∧ ¬ okc (l.getD k 0) ∧ ∀ j < k, okc (l.getD j 0))) → Same H H' → H' d = some (.xd [("at", .int n)]) → E (.ref C) (some d) H') ∧
  (l.length ≤ 6000 → (∀ j < l.length, okc (l.getD j 0)) → ∀ a xs H', Same H H' → H a = none → H' a = some (.lst xs) → TvL K H' ((wordsOf l).map Wd.enc) xs → Q (.ref a) H')
abbrev sAllow : Stmt := top 11
abbrev sCheck : Stmt := top 10
abbrev sSplit : Stmt := top 9
section
variable {P : Program} {w : World} {K : PySem.W.Frag} {mg : Str → Option Value} {base : Heap} {C : Addr}
theorem scAllow : FnScope ["character", "number"] ["character"] (defScope sAllow) := ⟨rfl, rfl, rfl, by decide +kernel, rfl, by decide +kernel, by decide +kernel⟩
theorem scCheck : FnScope ["text", "at", "character"] ["text"] (defScope sCheck) := ⟨rfl, rfl, rfl, by decide +kernel, rfl, by decide +kernel, by decide +kernel⟩
theorem scSplit : FnScope ["text", "words", "start", "at", "character"] ["text"] (defScope sSplit) := ⟨rfl, rfl, rfl, by decide +kernel, rfl, by decide +kernel, by decide +kernel⟩
theorem ok_allow {f : Addr} {fd : FuncData} (F : Fun K "is_text_character" "is_text_character" sAllow f fd) (zo : mg "ord" = none) {t1 t2 t3 : Tok} (gS : mg "SPACE" = some (.int 32 t1)) (gT : mg "TILDE" = some (.int 126 t2)) (gP : mg "PERCENT" = some (.int 37 t3)) :
    FnOk P w K mg base CX0 1 f fd ["character"] spAllow := by
  refine F.ok scAllow (fun vs H Q E h => ?_) (fun cdv A outer s H vs Q E hr h => ?_)
  · obtain ⟨c, rfl, _⟩ := h
    rfl
  · obtain ⟨c, rfl, q⟩ := h
    have nd := scAllow.nd
    refine ⟨_, pss_cons (ps_set (i := 1) nd rfl (.inl rfl) (pe_callB call_ord rfl zo (by decide +kernel) (pa_cons (pv 0) pa_nil)))
      (pss_one (ps_ret (pe_or (pe_cmpR op_eq (pv 0) pe_str (nomark _)) (pe_one (pe_and (pe_chain op_le op_le (pe_glob (v := .int 32) rfl gS ⟨_, rfl⟩) (pv 1) (pe_glob (v := .int 126) rfl gT ⟨_, rfl⟩)) (pe_one (pe_cmpR op_ne (pv 1) (pe_glob (v := .int 37) rfl gP ⟨_, rfl⟩) (nomark _)))))))), ?_⟩
    refine ⟨_, rfl, Ls [c], rfl, rfl, _, rfl, rfl, ?_⟩
    have ev : (((Ls [c]).cps.getD 0 0 : Nat) : Int) = (c : Int) := rfl
    rw [ev]
    by_cases c10 : c = 10
    · refine ⟨true, congrArg V.bl (decide_eq_true (by rw [c10]; rfl)), iteT ?_⟩
      rw [decide_eq_true (show okc c from .inl c10)] at q
      exact q
    have n10 : ¬ V.str (Ls [c]) = V.str (Str.ofString "\n") := fun y => c10 (by
      have e : (Ls [c]).cps.toList = (Str.ofString "\n").cps.toList := congrArg (fun z : Str => z.cps.toList) (V.str.inj y)
      have e2 : [c] = [10] := e
      cases e2
      rfl)
    refine ⟨false, congrArg V.bl (decide_eq_false n10), iteF ?_⟩
    refine ⟨_, rfl, _, _, rfl, rfl, ?_⟩
    by_cases c32 : 32 ≤ c
    · refine ⟨true, congrArg V.bl (decide_eq_true (show (32 : Int) ≤ (c : Int) by omega)), iteT ⟨_, _, rfl, rfl, ?_⟩⟩
      by_cases c126 : c ≤ 126
      · refine ⟨true, congrArg V.bl (decide_eq_true (show (c : Int) ≤ 126 by omega)), iteT ⟨_, rfl, ?_⟩⟩
        have e : (!decide (V.int (c : Int) = V.int 37)) = decide (okc c) := by
          by_cases c37 : c = 37
          · rw [decide_eq_true (show V.int (c : Int) = V.int 37 by rw [c37]; rfl), decide_eq_false (show ¬ okc c from fun h => by rcases h with h | ⟨_, _, h⟩ <;> omega)]
            rfl
          · rw [decide_eq_false (fun y => c37 (by have := V.int.inj y; omega)), decide_eq_true (show okc c from .inr ⟨c32, c126, c37⟩)]
            rfl
        refine ⟨rfl, ?_⟩
        exact Eq.mpr (congrArg (fun z => Q (.bl z) H) e) q
      · refine ⟨false, congrArg V.bl (decide_eq_false (show ¬ (c : Int) ≤ 126 by omega)), iteF ?_⟩
        rw [decide_eq_false (show ¬ okc c from fun h => by rcases h with h | ⟨_, h, _⟩ <;> omega)] at q
        exact q
    · refine ⟨false, congrArg V.bl (decide_eq_false (show ¬ (32 : Int) ≤ (c : Int) by omega)), iteF ⟨false, rfl, iteF ?_⟩⟩
      rw [decide_eq_false (show ¬ okc c from fun h => by rcases h with h | ⟨h, _⟩ <;> omega)] at q
      exact q
theorem ok_check {f : Addr} {fd : FuncData} (F : Fun K "check_characters" "check_characters" sCheck f fd) (T : Bi mg) (zE : mg "enumerate" = none) {tM : Tok} (gM : mg "MAX_TEXT" = some (.int 6000 tM)) (c_mk : Mk P w K mg base "TextError" C ["self", "at"] (Er.spXE K C))
    (c_allow : Cal P w K mg base CX0 1 "is_text_character" ["character"] spAllow) : FnOk P w K mg base (L2.CX P w) 3 f fd ["text"] (spCheck K C) := by
  refine F.okX scCheck (fun vs H Q E h => ?_) (fun cdv A outer s H vs Q E hr h => ?_)
  · obtain ⟨l, rfl, _⟩ := h
    rfl
  · obtain ⟨l, rfl, hl, qe, q⟩ := h
    have nd := scCheck.nd
    have big : 20000 ≤ sizeLine := by decide
    have fit : (Ls l).length ≤ sizeLine := by rw [ls_len]; omega
    -- the error being raised
    have err : ∀ (n : Int) (H1 : Hp) (W : XK), Same H H1 → n.natAbs < 10 ^ 12 → (∀ d H', Same H H' → H' d = some (.xd [("at", .int n)]) → W (.ref C) (some d) H') →
        [V.int n].length ≤ 1000 ∧ ∀ a, H1 a = none → Er.spXE K C (.ref a :: ([V.int n] ++ [])) (upd H1 a (exo a C none))
          (fun v H2 => v = .non ∧ ∃ (d : Addr) (fs : List (Str × V)), H2 a = some (exo a C (some d)) ∧ H2 d = some (exd d fs) ∧ H1 d = none ∧ W (.ref C) (some d) (upd (del H2 a) d (.xd fs))) (fun _ _ _ => False) := by
      intro n H1 W sm hn k
      refine ⟨(show 1 ≤ 1000 by decide), fun a ha => ⟨a, n, rfl, hn, upd_same, fun dx hdx ne => ⟨rfl, dx, _, upd_same, (by rw [upd_ne ne]; exact upd_same), (by rw [upd_ne ne] at hdx; exact hdx), ?_⟩⟩⟩
      rw [upd_ne ne] at hdx
      refine k dx _ (fun b u e => ?_) upd_same
      have e1 := sm _ _ e
      have nb : b ≠ a := ne_of_none e1 ha
      have nb2 : b ≠ dx := ne_of_none e1 hdx
      rw [upd_ne nb2, del_ne nb, upd_ne nb, upd_ne nb2, upd_ne nb]
      exact e1
    refine ⟨_, pss_cons (ps_if (pt_cmpR op_gt (pe_callB call_len_str rfl T.len PySem.boot_len (pa_cons (pv 0) pa_nil)) (pe_glob (v := .int 6000) rfl gM ⟨_, rfl⟩) (nomark _)) (pss_one (ps_raise rfl (takes_of rfl rfl rfl rfl) (pmk_oex c_mk.ex c_mk.iC c_mk.tI c_mk.ok (hr.mono (by first | decide | omega)) c_mk.b .nil pass0 rfl c_mk.m (pa_cons pe_int pa_nil)))) pss_nil)
      (pss_one (ps_for (passes_of rfl) rfl (En.pi_enumS rfl zE (pa_cons (pv 0) pa_nil)) (pg_tup (by rfl) (pgs_cons (pg_name (i := 1) nd rfl (.inl rfl)) (pgs_cons (pg_name (i := 2) nd rfl (.inl rfl)) pgs_nil))) (pss_one (ps_if (pt_not (pt_val (pe_call c_allow.ok (hr.mono (by first | decide | omega)) rfl c_allow.m c_allow.kp c_allow.b .nil pass0 (pa_cons (pv 2) pa_nil)))) (pss_one (ps_raise rfl (takes_of rfl rfl rfl rfl) (pmk_oex c_mk.ex c_mk.iC c_mk.tI c_mk.ok (hr.mono (by first | decide | omega)) c_mk.b .nil pass0 rfl c_mk.m (pa_cons (pv 1) pa_nil)))) pss_nil)))), ?_⟩
    refine ⟨_, rfl, Ls l, rfl, fit, _, _, rfl, rfl, _, rfl, ?_⟩
    rw [ls_len]
    by_cases c : 6000 < l.length
    · refine iteT' (decide_eq_true (show (6000 : Int) < (l.length : Int) by omega)) ?_
      exact err 0 H _ (fun _ _ e => e) (by decide) fun d H' s1 e1 => qe 0 d H' (.inl ⟨c, rfl⟩) s1 e1
    refine iteF' (decide_eq_false (show ¬ (6000 : Int) < (l.length : Int) by omega)) ?_
    refine ⟨_, rfl, Ls l, rfl, En.for_signs (fun i σ H' => Same H H' ∧ (∀ j < i, okc (l.getD j 0)) ∧ ∃ w1 w2 : Option V, σ = [some (.str (Ls l)), w1, w2])
      ⟨fun _ _ e => e, (fun j h => absurd h (Nat.not_lt_zero _)), _, _, rfl⟩ ?_ ?_⟩
    · rintro i c σ H' t hc ht ⟨sm, al, w1, w2, rfl⟩
      have hi : i < l.length := by
        have := (Array.getElem?_eq_some_iff.mp hc).1
        exact this
      have ec : c = l.getD i 0 := by
        have e1 : l[i]? = some c := by
          have := hc
          rw [← Array.getElem?_toList] at this
          exact this
        rw [List.getD_eq_getElem?_getD, e1]
        rfl
      subst ec
      refine ⟨t, _, rfl, SqT.of upd_same, rfl, _, _, rfl, _, _, rfl, rfl, ?_⟩
      have sm2 : Same H (upd H' t (.tup [.int (i : Nat), .str ⟨#[l.getD i 0]⟩])) := sm.trans (same_alloc ht)
      refine ⟨_, rfl, l.getD i 0, rfl, _, rfl, ?_⟩
      by_cases o : okc (l.getD i 0)
      · rw [decide_eq_true o]
        refine iteF ⟨sm2, fun j hj => ?_, _, _, rfl⟩
        rcases Nat.lt_or_eq_of_le (Nat.le_of_lt_succ hj) with h | h
        · exact al j h
        · rw [h]; exact o
      · rw [decide_eq_false o]
        refine iteT ⟨_, rfl, ?_⟩
        refine err (i : Int) _ _ sm2 (by rw [Int.natAbs_natCast]; exact Nat.lt_of_lt_of_le (show i < 10000 by omega) (by decide)) fun d H' s1 e1 => qe _ d H' (.inr ⟨by omega, i, rfl, hi, o, al⟩) s1 e1
    · rintro σ H' ⟨sm, al, w1, w2, rfl⟩
      exact q (by omega) al H' sm
theorem ok_split {f : Addr} {fd : FuncData} (F : Fun K "split_words" "split_words" sSplit f fd) (zE : mg "enumerate" = none)
    (c_check : Cal P w K mg base (L2.CX P w) 3 "check_characters" ["text"] (spCheck K C)) : FnOk P w K mg base (L2.CX P w) 4 f fd ["text"] (spSplit K C) := by
  refine F.okX scSplit (fun vs H Q E h => ?_) (fun cdv A outer s H vs Q E hr h => ?_)
  · obtain ⟨l, rfl, _⟩ := h
    rfl
  · obtain ⟨l, rfl, hl, qe, q⟩ := h
    have nd := scSplit.nd
    have big : 20000 ≤ sizeLine := by decide
    have fit : (Ls l).length ≤ sizeLine := by rw [ls_len]; omega
    refine ⟨_, pss_cons (ps_expr (pe_call c_check.ok (hr.mono (by first | decide | omega)) rfl c_check.m c_check.kp c_check.b .nil (passes_call (takes_of rfl rfl rfl rfl) (fun _ _ _ _ h => h)) (pa_cons (pv 0) pa_nil)))
      (pss_cons (ps_set (i := 1) nd rfl (.inl rfl) (pe_lst pa_nil))
      (pss_cons (ps_set (i := 2) nd rfl (.inl rfl) pe_int)
      (pss_cons (ps_for (passes_of rfl) rfl (En.pi_enumS rfl zE (pa_cons (pe_op op_add_str (pv 0) pe_str) pa_nil)) (pg_tup (by rfl) (pgs_cons (pg_name (i := 3) nd rfl (.inl rfl)) (pgs_cons (pg_name (i := 4) nd rfl (.inl rfl)) pgs_nil))) (pss_one (ps_if (pt_cmpR op_in_str (pv 4) pe_str (by rfl)) (pss_cons (ps_if (pt_cmpR op_lt (pv 2) (pv 3) (nomark _)) (pss_one (ps_expr (pe_bm PySem.F.plainAttrs_list PySem.F.slot_list_append PySem.F.type_list_append mt_append (pv 1) (pa_cons (pe_tup (pa_cons (pe_slice sl_str (pv 0) (po_some (pv 2)) (po_some (pv 3))) (pa_cons (pv 2) pa_nil))) pa_nil)))) pss_nil)
      (pss_cons (ps_if (pt_cmpR op_in_str (pv 4) pe_str (by rfl)) (pss_one (ps_expr (pe_bm PySem.F.plainAttrs_list PySem.F.slot_list_append PySem.F.type_list_append mt_append (pv 1) (pa_cons (pe_tup (pa_cons (pv 4) (pa_cons (pv 3) pa_nil))) pa_nil)))) pss_nil)
      (pss_one (ps_set (i := 2) nd rfl (.inl rfl) (pe_op op_add (pv 3) pe_int))))) pss_nil)))
      (pss_one (ps_ret (pv 1)))))), ?_⟩
    refine ⟨_, rfl, l, rfl, hl, qe, fun h6 hok H1 s1 => ?_⟩
    refine ⟨Nat.zero_le _, fun W hW => ?_⟩
    have hW0 : H W = none := by
      cases e : H W with
      | none => rfl
      | some u => rw [s1 _ _ e] at hW; cases hW
    have sE : Ls l ++ (" " : Str) = Ls (l ++ [32]) := ls_app l [32]
    refine ⟨_, rfl, _, _, rfl, rfl, (by rw [ls_len, show ((" " : Str).length) = 1 from rfl]; omega), _, rfl, ?_⟩
    rw [sE]
    refine En.for_signs (fun i σ H' => Same H1 H' ∧ (∃ xs, H' W = some (.lst xs) ∧ TvL K H' ((wst l i).2.map Wd.enc) xs ∧ xs.length ≤ 2 * i) ∧
        ∃ w3 w4 : Option V, σ = [some (.str (Ls l)), some (.ref W), some (.int (((wst l i).1.getD i : Nat) : Int)), w3, w4])
      ⟨same_alloc hW, ⟨[], upd_same, rfl, Nat.le_refl _⟩, _, _, rfl⟩ ?_ ?_
    · rintro i c σ H0 t hc ht ⟨sm0, ⟨xs, eW0, tv0, lx⟩, w3, w4, rfl⟩
      have hi : i < l.length + 1 := by
        have h := (Array.getElem?_eq_some_iff.mp hc).1
        have h2 : i < (l ++ [32]).length := h
        rw [List.length_append] at h2
        exact h2
      have ec : c = l.getD i 32 := by
        have e1 : (l ++ [32])[i]? = some c := by
          have h := hc
          rw [← Array.getElem?_toList] at h
          exact h
        rw [List.getD_eq_getElem?_getD]
        by_cases hl2 : i < l.length
        · rw [List.getElem?_append_left hl2] at e1
          rw [e1]
          rfl
        · have : i = l.length := by omega
          subst this
          rw [List.getElem?_append_right (Nat.le_refl _), Nat.sub_self] at e1
          rw [List.getElem?_eq_none (Nat.le_refl _)]
          exact (Option.some.inj e1).symm
      subst ec
      refine ⟨t, _, rfl, SqT.of upd_same, rfl, _, _, rfl, _, _, rfl, rfl, ?_⟩
      have sm : Same H1 (upd H0 t (.tup [.int (i : Nat), .str ⟨#[l.getD i 32]⟩])) := sm0.trans (same_alloc ht)
      have eW : (upd H0 t (.tup [.int (i : Nat), .str ⟨#[l.getD i 32]⟩])) W = some (.lst xs) := by rw [upd_ne (ne_of_none eW0 ht)]; exact eW0
      have tv : TvL K (upd H0 t (.tup [.int (i : Nat), .str ⟨#[l.getD i 32]⟩])) ((wst l i).2.map Wd.enc) xs := TvL.carry (carry_new ht) _ _ tv0
      generalize (upd H0 t (.tup [.int (i : Nat), .str ⟨#[l.getD i 32]⟩])) = H' at sm eW tv
      have lsc : (⟨#[l.getD i 32]⟩ : Str) = Ls [l.getD i 32] := rfl
      rw [lsc]
      refine ⟨_, rfl, _, _, rfl, rfl, _, rfl, ?_⟩
      by_cases sc : sepC (l.getD i 32)
      · refine iteT' ((in_sep _).trans (decide_eq_true sc)) ?_
        refine ⟨_, rfl, _, rfl, _, _, rfl, rfl, _, rfl, ?_⟩
        cases es : (wst l i).1 with
        | some k =>
          have kl := wst_lt l i k es
          refine iteT' (decide_eq_true (show (k : Int) < (i : Int) by omega)) ?_
          refine ⟨_, rfl, .inl ⟨rfl, _, SqL.of eW⟩, _, rfl, _, rfl, _, rfl, _, rfl, _, rfl, Ls l, rfl, fit, _, rfl, (show 2 ≤ sizeLine by decide), fun t1 ht1 => ?_⟩
          have ec : cutS (Ls l) (some (((some k).getD i : Nat) : Int)) (some ((i : Nat) : Int)) = Ls ((l.drop k).take (i - k)) := ls_cut (Nat.le_of_lt kl) (by omega)
          rw [ec]
          obtain ⟨f1, f2, f3⟩ := word_put (z := (l.drop k).take (i - k)) (k := k) sm hW eW tv ht1
          have f3' : TvL K (upd (upd H' t1 (.tup [.str (Ls ((l.drop k).take (i - k))), .int (k : Int)])) W (.lst (xs ++ [.ref t1]))) (((wst l i).2 ++ pend l (wst l i).1 i).map Wd.enc) (xs ++ [.ref t1]) := by
            rw [es, List.map_append]
            exact f3
          have ln : (xs ++ [V.ref t1]).length ≤ 2 * i + 1 := by
            rw [List.length_append]
            show xs.length + 1 ≤ _
            omega
          refine ⟨W, _, _, rfl, rfl, f1, by omega, ?_⟩
          refine ⟨_, rfl, _, _, rfl, rfl, _, rfl, ?_⟩
          by_cases pc : parC (l.getD i 32)
          · refine iteT' ((in_par _).trans (decide_eq_true pc)) ?_
            refine ⟨_, rfl, .inl ⟨rfl, _, SqL.of (upd_same)⟩, _, rfl, _, rfl, (show 2 ≤ sizeLine by decide), fun t2 ht2 => ?_⟩
            obtain ⟨g1, g2, g3⟩ := word_put (z := [l.getD i 32]) (k := i) (f2) hW (upd_same) (f3') ht2
            refine ⟨W, _, _, rfl, rfl, g1, ?_, _, rfl, _, _, rfl, rfl, g2, ⟨_, upd_same, ?_, ?_⟩, some (V.int (i : Int)), some (V.str (Ls [l.getD i 32])), ?_⟩
            · have := ln
              omega
            · rw [wst_sep sc, if_pos pc, List.map_append]
              exact g3
            · have := ln
              rw [List.length_append]
              show _ + 1 ≤ 2 * (i + 1)
              omega
            · rw [wst_sep sc]
              rfl
          · refine iteF' ((in_par _).trans (decide_eq_false pc)) ?_
            refine ⟨_, rfl, _, _, rfl, rfl, f2, ⟨_, upd_same, ?_, ?_⟩, some (V.int (i : Int)), some (V.str (Ls [l.getD i 32])), ?_⟩
            · rw [wst_sep sc, if_neg pc, List.append_nil]
              exact f3'
            · have := ln
              omega
            · rw [wst_sep sc]
              rfl
        | none =>
          refine iteF' (decide_eq_false (show ¬ ((i : Int) < (i : Int)) by omega)) ?_
          have tv' : TvL K H' (((wst l i).2 ++ pend l (wst l i).1 i).map Wd.enc) xs := by
            rw [es]
            show TvL K H' (((wst l i).2 ++ []).map Wd.enc) xs
            rw [List.append_nil]
            exact tv
          have ln : xs.length ≤ 2 * i + 1 := by omega
          refine ⟨_, rfl, _, _, rfl, rfl, _, rfl, ?_⟩
          by_cases pc : parC (l.getD i 32)
          · refine iteT' ((in_par _).trans (decide_eq_true pc)) ?_
            refine ⟨_, rfl, .inl ⟨rfl, _, SqL.of (eW)⟩, _, rfl, _, rfl, (show 2 ≤ sizeLine by decide), fun t2 ht2 => ?_⟩
            obtain ⟨g1, g2, g3⟩ := word_put (z := [l.getD i 32]) (k := i) (sm) hW (eW) (tv') ht2
            refine ⟨W, _, _, rfl, rfl, g1, ?_, _, rfl, _, _, rfl, rfl, g2, ⟨_, upd_same, ?_, ?_⟩, some (V.int (i : Int)), some (V.str (Ls [l.getD i 32])), ?_⟩
            · have := ln
              omega
            · rw [wst_sep sc, if_pos pc, List.map_append]
              exact g3
            · have := ln
              rw [List.length_append]
              show _ + 1 ≤ 2 * (i + 1)
              omega
            · rw [wst_sep sc]
              rfl
          · refine iteF' ((in_par _).trans (decide_eq_false pc)) ?_
            refine ⟨_, rfl, _, _, rfl, rfl, sm, ⟨_, eW, ?_, ?_⟩, some (V.int (i : Int)), some (V.str (Ls [l.getD i 32])), ?_⟩
            · rw [wst_sep sc, if_neg pc, List.append_nil]
              exact tv'
            · have := ln
              omega
            · rw [wst_sep sc]
              rfl

      · refine iteF' ((in_sep _).trans (decide_eq_false sc)) ?_
        refine ⟨sm, ⟨xs, eW, ?_, by omega⟩, some (V.int (i : Int)), some (V.str (Ls [l.getD i 32])), ?_⟩
        · rw [wst_no sc]
          exact tv
        · rw [wst_no sc]
          rfl
    · rintro σ H' ⟨sm, ⟨xs, eW, tv, lx⟩, w3, w4, rfl⟩
      have e : (Ls (l ++ [32])).cps.size = l.length + 1 := by
        show (l ++ [32]).length = _
        rw [List.length_append]
        rfl
      rw [e] at tv
      exact ⟨_, rfl, q h6 hok W xs H' (s1.trans sm) hW0 eW tv⟩
end

/-! ### the law -/
abbrev sLaw : Stmt := top 19
abbrev nLaw : List Str := ["script", "state", "text", "place", "due", "actual", "e"]
structure TxtX (K : PySem.W.Frag) (mg : Str → Option Value) (C B A : Addr) : Prop where
  gB : mg "CountermarchError" = some (.ref B)
  gC : mg "TextError" = some (.ref C)
  gA : mg "TreeError" = some (.ref A)
  ec : ExcC K C
  xf : XfC K C
  nAt : PySem.W.findIn K (.ref C) "at" = some none
  ex : PySem.W.exmOne K (.ref C) (.ref B) = some true
  k1 : PySem.W.kitOne K (.ref C) (.ref C) = some true
  k3 : PySem.W.kitOne K (.ref C) (.ref A) = some false
def spLaw (K : PySem.W.Frag) : Sp := fun vs _ Q _ => ∃ (a : Addr) (ns : List Int), vs = [.ref a] ∧ (∃ H0, SqL K H0 a (ns.map V.int)) ∧ ns.length ≤ 63 ∧ ∀ H', Q (.bl true) H'
def spLaw' (K : PySem.W.Frag) : Sp := fun vs H Q _ => ∃ (a : Addr) (ns : List Int), vs = [.ref a] ∧ SqL K H a (ns.map V.int) ∧ ns.length ≤ 63 ∧ ∀ H', Q (.bl true) H'
section
variable {P : Program} {w : World} {K : PySem.W.Frag} {mg : Str → Option Value} {base : Heap} {C B A' : Addr}
theorem scLaw : FnScope nLaw ["script"] (defScope sLaw) := ⟨rfl, rfl, rfl, by decide +kernel, rfl, by decide +kernel, by decide +kernel⟩
theorem getD_ok {l : List Nat} : (∀ c ∈ l, okc c) ↔ ∀ j < l.length, okc (l.getD j 0) := by
  constructor
  · intro h j hj
    rw [List.getD_eq_getElem?_getD, List.getElem?_eq_getElem hj]
    exact h _ (List.getElem_mem hj)
  · intro h c hc
    obtain ⟨j, hj⟩ := List.getElem?_of_mem hc
    have hl := (List.getElem?_eq_some_iff.mp hj).1
    have := h j hl
    rw [List.getD_eq_getElem?_getD, hj] at this
    exact this
theorem ok_law {f : Addr} {fd : FuncData} (F : Fun K "law" "law" sLaw f fd) (T : Bi mg) (zr : mg "repr" = none) (E' : TxtX K mg C B A')
    (c_start : Cal P w K mg base CX0 1 "_law_start" ["script"] (spStart K)) (c_text : Cal P w K mg base CX0 2 "_law_text" ["state"] (spText K)) (c_strange : Cal P w K mg base CX0 2 "_law_strange" ["state", "text"] (spStrange K))
    (c_due : Cal P w K mg base CX0 1 "_law_due" ["text"] (spDue K)) (c_split : Cal P w K mg base (L2.CX P w) 4 "split_words" ["text"] (spSplit K C)) : Gd.GFn P w K mg base CX0 5 f fd ["script"] (spLaw' K) := by
  refine Gd.gfn0 F scLaw (fun vs H Q E h => ?_) (fun cdv A outer s H vs Q E gd hr h => ?_)
  · obtain ⟨a, ns, rfl, _⟩ := h
    rfl
  · obtain ⟨a, ns, rfl, hS, hl, q⟩ := h
    have nd := scLaw.nd
    have hu : (A.deeper (PyProof.Rows.envOfC "law" (defScope sLaw) s.heap.objs.size f cdv)).units + 200 < cLine := by have := hr.un; omega
    have big : 20000 ≤ sizeLine := by decide
    refine ⟨_, pss_cons (ps_set (i := 1) nd rfl (.inl rfl) (pe_call c_start.ok (hr.mono (by first | decide | omega)) rfl c_start.m c_start.kp c_start.b .nil pass0 (pa_cons (pv 0) pa_nil)))
      (pss_cons (ps_asg (pe_call c_strange.ok (hr.mono (by first | decide | omega)) rfl c_strange.m c_strange.kp c_strange.b .nil pass0 (pa_cons (pv 1) (pa_cons (pe_call c_text.ok (hr.mono (by first | decide | omega)) rfl c_text.m c_text.kp c_text.b .nil pass0 (pa_cons (pv 1) pa_nil)) pa_nil))) (pg_tup (by rfl) (pgs_cons (pg_name (i := 2) nd rfl (.inl rfl)) (pgs_cons (pg_name (i := 3) nd rfl (.inl rfl)) pgs_nil))))
      (pss_cons (ps_set (i := 4) nd rfl (.inl rfl) pe_non)
      (pss_cons (ps_if (pt_cmpR op_gt (pe_callB call_len_str rfl T.len PySem.boot_len (pa_cons (pv 2) pa_nil)) pe_int (nomark _)) (pss_one (ps_set (i := 4) nd rfl (.inl rfl) pe_int)) (pss_one (ps_if (pt_cmpR op_ge (pv 3) pe_int (nomark _)) (pss_one (ps_set (i := 4) nd rfl (.inl rfl) (pv 3))) pss_nil)))
      (pss_cons (ps_try_as (i := 6) rfl rfl nd rfl rfl ⟨rfl, by decide, Or.inl E'.gB⟩ takes0
        (fun W pn xe tk _ => pss_one (ps_set (i := 5) nd rfl (.inl rfl) (by exact (pe_callS c_split.ok (hr.mono (by first | decide | omega)) rfl c_split.m c_split.kp c_split.b (fun σ => passAt tk σ) (by exact (pa_cons (pv 2) pa_nil))))))
        (fun a oe cls d pn hz hf => pss_one (ps_ret (by exact (pe_and (pe_callB (Ca.call_isEr E'.ec hz hf) rfl T.isinstance PyProof.Rows.boot_isinstance (pa_cons (pv 6) (pa_cons (pe_glob (v := .ref C) rfl E'.gC rfl) pa_nil)))
          (pe_and (pe_not (pe_callB (Ca.call_isEr E'.ec hz hf) rfl T.isinstance PyProof.Rows.boot_isinstance (pa_cons (pv 6) (pa_cons (pe_glob (v := .ref A') rfl E'.gA rfl) pa_nil))))
          (pe_and (pe_cmpR op_eq (pe_xf E'.xf E'.nAt hz hf (pv 6)) (pv 4) (nomark _)) (pe_one (pe_cmpR op_notN (pv 4) pe_non (nomark _))))))))))
      (pss_one (ps_ret (pe_and (pe_cmpR op_isN (pv 4) pe_non (nomark _)) (pe_and (pe_callB call_isi rfl T.isinstance PyProof.Rows.boot_isinstance (pa_cons (pv 5) (pa_cons (pe_bltn (v := .ty "list") rfl T.list (by decide +kernel) rfl) pa_nil))) (pe_one (pe_cmpR op_eq (pe_callB (Rp.cr_repr gd hu) rfl zr PyProof.Rows.boot_repr (pa_cons (pv 5) pa_nil)) (pe_callB (Rp.cr_repr gd hu) rfl zr PyProof.Rows.boot_repr (pa_cons (pe_call c_due.ok (hr.mono (by first | decide | omega)) rfl c_due.m c_due.kp c_due.b .nil pass0 (pa_cons (pv 2) pa_nil)) pa_nil)) (nomark _))))))))))), ?_⟩
    refine ⟨_, rfl, a, ns, rfl, hS, Nat.le_trans hl (by decide), fun p H1 sm1 hp1 D1 => ?_⟩
    refine ⟨_, rfl, _, rfl, p, rfl, D1, fun l H2 okl ll s2 D2 => ?_⟩
    -- the handler
    have SU : ∀ (n : Int) (a0 d : Addr) (H' : Hp) (D : Ends) (σ : L2.St), D.rt = Q → σ[6]? = some (some (.ref a0)) → σ[4]? = some (some (.int n)) → H' d = some (.xd [("at", .int n)]) →
        (tRet (tAndV (tCB (fun xs H Q => Value.ref C = .ref C ∧ (∃ dd fs, some d = some dd ∧ H dd = some (HO.xd fs)) ∧ rIsE K C a0 xs H Q) (tCons (tVar 6) (tCons (tC (.ref C)) tNil)))
          (tAndV (tNotV (tCB (fun xs H Q => Value.ref C = .ref C ∧ (∃ dd fs, some d = some dd ∧ H dd = some (HO.xd fs)) ∧ rIsE K C a0 xs H Q) (tCons (tVar 6) (tCons (tC (.ref A')) tNil))))
            (tAndV (tOp rEq (tXf a0 (.ref C) (some d) C "at" (tVar 6)) (tVar 4)) (tOp (fun x y H Q => y = V.non ∧ Q (V.bl !decide (x = V.non)) H) (tVar 4) (tC V.non))))) : TS) D σ H' := by
      intro n a0 d H' D σ hD h6 h4 hd
      refine ⟨_, h6, rfl, ⟨d, _, rfl, hd⟩, .ref C, .ref C, true, rfl, fun _ z => z, E'.k1, true, rfl, iteT ?_⟩
      refine ⟨_, h6, rfl, ⟨d, _, rfl, hd⟩, .ref A', .ref A', false, rfl, fun _ z => z, E'.k3, false, rfl, true, rfl, iteT ?_⟩
      refine ⟨_, h6, rfl, rfl, d, _, .int n, rfl, hd, rfl, _, h4, rfl, true, ?_, iteT ⟨_, h4, rfl, ?_⟩⟩
      · rw [decide_eq_true rfl]
      · rw [hD]
        exact q _
    refine ⟨p, l, rfl, D2, okl, ll, fun t H3 nt s3 D3 et => ?_, fun k t H3 nt kl s3 D3 et => ?_⟩
    · -- no strange sign
      have lm : (Ls l).length ≤ sizeLine := by rw [ls_len]; omega
      refine ⟨t, _, rfl, SqT.of et, rfl, _, _, rfl, _, _, rfl, rfl, ?_⟩
      refine ⟨_, rfl, Ls l, rfl, lm, _, _, rfl, rfl, _, rfl, ?_⟩
      rw [ls_len]
      by_cases c : 6000 < l.length
      · refine iteT' (decide_eq_true (show (6000 : Int) < (l.length : Int) by omega)) ?_
        refine ⟨_, rfl, l, rfl, by omega, fun n d H' hc sm ed => ?_, fun z => absurd z (by omega)⟩
        have n0 : n = 0 := by rcases hc with h | h <;> omega
        subst n0
        exact ⟨true, E'.ex, fun _ a0 _ => SU 0 a0 d H' _ _ (by rfl) (by rfl) (by rfl) ed, fun z => nomatch z⟩
      · refine iteF' (decide_eq_false (show ¬ (6000 : Int) < (l.length : Int) by omega)) ?_
        refine ⟨_, rfl, _, _, rfl, rfl, _, rfl, iteF' (decide_eq_false (by decide)) ?_⟩
        have ok2 := getD_ok.mp okl
        refine ⟨_, rfl, l, rfl, by omega, fun n d H' hc sm ed => ?_, fun _ _ a1 xs H4 sm4 _ e4 t4 => ?_⟩
        · rcases hc with h | ⟨_, k, _, kl, nk, _⟩
          · omega
          · exact absurd (ok2 k kl) nk
        obtain ⟨w1, w2, w3⟩ := wordsOf_show okl (by omega)
        refine ⟨_, rfl, rfl, true, ?_, iteT ?_⟩
        · rw [decide_eq_true rfl]
        refine ⟨_, rfl, _, _, .type "list", .type "list", true, rfl, .ty "list", .base (.lst e4), (by rfl), true, rfl, iteT ?_⟩
        refine ⟨_, rfl, a1, .list ((wordsOf l).map Wd.enc), rfl, ⟨a1, xs, rfl, SqL.of e4, TvL.dv _ _ t4⟩, w1, w2, w3, ?_⟩
        refine ⟨_, rfl, l, rfl, by omega, fun a2 ys H5 sm5 n5 e5 t5 => ?_⟩
        refine ⟨a2, .list ((wordsOf l).map Wd.enc), rfl, ⟨a2, ys, rfl, SqL.of e5, TvL.dv _ _ t5⟩, w1, w2, w3, rfl, ?_⟩
        have e : decide (V.str (PyData.list ((wordsOf l).map Wd.enc)).shown = V.str (PyData.list ((wordsOf l).map Wd.enc)).shown) = true := decide_eq_true rfl
        exact Eq.mpr (congrArg (fun z => Q (.bl z) _) e) (q _)
    · -- one
      obtain ⟨m, hm⟩ : ∃ m, m = l.take k ++ 9 :: l.drop k := ⟨_, rfl⟩
      have lenm : m.length = l.length + 1 := by
        rw [hm, List.length_append, List.length_cons, List.length_take, List.length_drop]
        omega
      have tk : (l.take k).length = k := by rw [List.length_take]; omega
      have mk : m.getD k 0 = 9 := by
        rw [hm, List.getD_eq_getElem?_getD, List.getElem?_append_right (by rw [tk]; exact Nat.le_refl _), tk, Nat.sub_self]
        rfl
      have mlt : ∀ j < k, okc (m.getD j 0) := by
        intro j hj
        rw [hm, List.getD_eq_getElem?_getD, List.getElem?_append_left (by rw [tk]; exact hj), List.getElem?_take_of_lt hj, ← List.getD_eq_getElem?_getD]
        exact getD_ok.mp okl j (by omega)
      have n9 : ¬ okc 9 := by decide
      rw [← hm] at et
      have lm : (Ls m).length ≤ sizeLine := by rw [ls_len]; omega
      refine ⟨t, _, rfl, SqT.of et, rfl, _, _, rfl, _, _, rfl, rfl, ?_⟩
      refine ⟨_, rfl, Ls m, rfl, lm, _, _, rfl, rfl, _, rfl, ?_⟩
      rw [ls_len]
      by_cases c : 6000 < m.length
      · refine iteT' (decide_eq_true (show (6000 : Int) < (m.length : Int) by omega)) ?_
        refine ⟨_, rfl, m, rfl, by omega, fun n d H' hc sm ed => ?_, fun z => absurd z (by omega)⟩
        have n0 : n = 0 := by rcases hc with h | h <;> omega
        subst n0
        exact ⟨true, E'.ex, fun _ a0 _ => SU 0 a0 d H' _ _ (by rfl) (by rfl) (by rfl) ed, fun z => nomatch z⟩
      · refine iteF' (decide_eq_false (show ¬ (6000 : Int) < (m.length : Int) by omega)) ?_
        refine ⟨_, rfl, _, _, rfl, rfl, _, rfl, iteT' (decide_eq_true (show (0 : Int) ≤ (k : Int) by omega)) ?_⟩
        refine ⟨_, rfl, _, rfl, m, rfl, by omega, fun n d H' hc sm ed => ?_, fun _ al => ?_⟩
        · rcases hc with h | ⟨_, k2, e2, kl2, nk2, al2⟩
          · omega
          have : k2 = k := by
            rcases Nat.lt_trichotomy k2 k with h | h | h
            · exact absurd (mlt k2 h) nk2
            · exact h
            · have := al2 k h
              rw [mk] at this
              exact absurd this n9
          subst this
          subst e2
          exact ⟨true, E'.ex, fun _ a0 _ => SU _ a0 d H' _ _ (by rfl) (by rfl) (by rfl) ed, fun z => nomatch z⟩
        · have := al k (by omega)
          rw [mk] at this
          exact absurd this n9
end

section
theorem all_mk {l : PySem.W.OpenLaw} {w : World} {K : PySem.W.Frag} {h : Heap} {mg : Str → Option Value} {fa f1 f2 f3 f4 f5 f6 f7 f8 f9 f10 : Addr} (X : K.In h) (G : h.Ns mainGlobals mg) (hfa : mg "law" = some (.ref fa))
    {od1 an1 od2 an2 od3 an3 od4 an4 od5 an5 od6 an6 od7 an7 od8 an8 od9 an9 od10 an10 : Option Addr} {sl1 sl2 sl3 sl4 sl5 sl6 sl7 sl8 sl9 sl10 : Array (Option Value)} {oc1 kV1 dc1 pm1 cd1 ct1 oc2 kV2 dc2 pm2 cd2 ct2 oc3 kV3 dc3 pm3 cd3 ct3 oc4 kV4 dc4 pm4 cd4 ct4 oc5 kV5 dc5 pm5 cd5 ct5 oc6 kV6 dc6 pm6 cd6 ct6 oc7 kV7 dc7 pm7 cd7 ct7 oc8 kV8 dc8 pm8 cd8 ct8 oc9 kV9 dc9 pm9 cd9 ct9 oc10 kV10 dc10 pm10 cd10 ct10 : Value}
    (a1 : PySem.W.nsIn K mainGlobals "is_text_character" = some (some (.ref f1))) (l1 : K.lookup f1 = some ⟨oc1, od1, .func (PySem.W.fnOf "is_text_character" "is_text_character" (defArgs sAllow) (defBody sAllow) (defScope sAllow) .none kV1 dc1 pm1 an1 cd1 ct1), sl1⟩) (c1 : PySem.W.codeIn K cd1 "is_text_character" = true) (k1 : PySem.W.keepIn K (.ref f1) = true)
    (a2 : PySem.W.nsIn K mainGlobals "check_characters" = some (some (.ref f2))) (l2 : K.lookup f2 = some ⟨oc2, od2, .func (PySem.W.fnOf "check_characters" "check_characters" (defArgs sCheck) (defBody sCheck) (defScope sCheck) .none kV2 dc2 pm2 an2 cd2 ct2), sl2⟩) (c2 : PySem.W.codeIn K cd2 "check_characters" = true) (k2 : PySem.W.keepIn K (.ref f2) = true)
    (a3 : PySem.W.nsIn K mainGlobals "split_words" = some (some (.ref f3))) (l3 : K.lookup f3 = some ⟨oc3, od3, .func (PySem.W.fnOf "split_words" "split_words" (defArgs sSplit) (defBody sSplit) (defScope sSplit) .none kV3 dc3 pm3 an3 cd3 ct3), sl3⟩) (c3 : PySem.W.codeIn K cd3 "split_words" = true) (k3 : PySem.W.keepIn K (.ref f3) = true)
    (a4 : PySem.W.nsIn K mainGlobals "_law_start" = some (some (.ref f4))) (l4 : K.lookup f4 = some ⟨oc4, od4, .func (PySem.W.fnOf "_law_start" "_law_start" (defArgs sStart) (defBody sStart) (defScope sStart) .none kV4 dc4 pm4 an4 cd4 ct4), sl4⟩) (c4 : PySem.W.codeIn K cd4 "_law_start" = true) (k4 : PySem.W.keepIn K (.ref f4) = true)
    (a5 : PySem.W.nsIn K mainGlobals "_law_draw" = some (some (.ref f5))) (l5 : K.lookup f5 = some ⟨oc5, od5, .func (PySem.W.fnOf "_law_draw" "_law_draw" (defArgs sDrw) (defBody sDrw) (defScope sDrw) .none kV5 dc5 pm5 an5 cd5 ct5), sl5⟩) (c5 : PySem.W.codeIn K cd5 "_law_draw" = true) (k5 : PySem.W.keepIn K (.ref f5) = true)
    (a6 : PySem.W.nsIn K mainGlobals "_law_chars" = some (some (.ref f6))) (l6 : K.lookup f6 = some ⟨oc6, od6, .func (PySem.W.fnOf "_law_chars" "_law_chars" (defArgs sChars) (defBody sChars) (defScope sChars) .none kV6 dc6 pm6 an6 cd6 ct6), sl6⟩) (c6 : PySem.W.codeIn K cd6 "_law_chars" = true) (k6 : PySem.W.keepIn K (.ref f6) = true)
    (a7 : PySem.W.nsIn K mainGlobals "_law_text" = some (some (.ref f7))) (l7 : K.lookup f7 = some ⟨oc7, od7, .func (PySem.W.fnOf "_law_text" "_law_text" (defArgs sText) (defBody sText) (defScope sText) .none kV7 dc7 pm7 an7 cd7 ct7), sl7⟩) (c7 : PySem.W.codeIn K cd7 "_law_text" = true) (k7 : PySem.W.keepIn K (.ref f7) = true)
    (a8 : PySem.W.nsIn K mainGlobals "_law_strange" = some (some (.ref f8))) (l8 : K.lookup f8 = some ⟨oc8, od8, .func (PySem.W.fnOf "_law_strange" "_law_strange" (defArgs sStrange) (defBody sStrange) (defScope sStrange) .none kV8 dc8 pm8 an8 cd8 ct8), sl8⟩) (c8 : PySem.W.codeIn K cd8 "_law_strange" = true) (k8 : PySem.W.keepIn K (.ref f8) = true)
    (a9 : PySem.W.nsIn K mainGlobals "_law_due" = some (some (.ref f9))) (l9 : K.lookup f9 = some ⟨oc9, od9, .func (PySem.W.fnOf "_law_due" "_law_due" (defArgs sDue) (defBody sDue) (defScope sDue) .none kV9 dc9 pm9 an9 cd9 ct9), sl9⟩) (c9 : PySem.W.codeIn K cd9 "_law_due" = true) (k9 : PySem.W.keepIn K (.ref f9) = true)
    (a10 : PySem.W.nsIn K mainGlobals "law" = some (some (.ref f10))) (l10 : K.lookup f10 = some ⟨oc10, od10, .func (PySem.W.fnOf "law" "law" (defArgs sLaw) (defBody sLaw) (defScope sLaw) .none kV10 dc10 pm10 an10 cd10 ct10), sl10⟩) (c10 : PySem.W.codeIn K cd10 "law" = true) (k10 : PySem.W.keepIn K (.ref f10) = true)
    {B : Addr} (aB0 : PySem.W.nsIn K mainGlobals "CountermarchError" = some (some (.ref B)))
    {C : Addr} (aC : PySem.W.nsIn K mainGlobals "TextError" = some (some (.ref C)))
    {nmC qC : Str} {NC : Addr} {bsC sbC : List Value} {snC : List Str} {abC : Bool} {clC : Option Bool} {ddC : Option Addr} {k0C k1C k2C k3C k5C : Option Value} (xC : K.lookup C = some (excClassObj nmC qC C NC bsC [.ref B, .type "ValueError", .type "Exception", .type "BaseException", .type "object"] true snC sbC abC clC ddC k0C k1C k2C k3C k5C "ValueError.__new__"))
    (saC : PySem.W.findIn K (.ref C) "__setattr__" = some (some (.builtin "object.__setattr__")))
    (bC : PySem.W.subIn K (.ref C) (.type "BaseException") = some true)
    (tC : PySem.W.typeIn K (.ref C) = some (.type "type"))
    (kC : PySem.W.keepIn K (.ref C) = true)
    {fC : Addr} (iC : PySem.W.findIn K (.ref C) "__init__" = some (some (.ref fC)))
    (jC : PySem.W.typeIn K (.ref fC) = some (.type "function"))
    {ocC kVC dcC pmC ctC : Value} {odC anC : Option Addr} {cdC ccC : Addr} {slC : Array (Option Value)} (lC : K.lookup fC = some ⟨ocC, odC, .func (PySem.W.ksFn "__init__" "TextError.__init__" (defArgs Er.sXE) (defBody Er.sXE) (defScope Er.sXE) .none kVC dcC pmC anC (.ref cdC) ctC ccC), slC⟩)
    (cC : PySem.W.codeIn K (.ref cdC) "TextError.__init__" = true)
    (uC : PySem.W.ks_superIn K C C "__init__" = some (some (.builtin "ValueError.__init__")))
    (yC : PySem.W.nsIn K cStatics "thirdparty.any" = some none)
    (vC : PySem.W.subIn K (.ref C) (.type "ValueError") = some true)
    {ceC : Value} {cgC : Option Addr} {chC : Array (Option Value)} (oC : K.lookup ccC = some ⟨ceC, cgC, .cell (some (.ref C)), chC⟩)
    (mC : PySem.W.mroIn K C (.ref C) = some true)
    (pC : PySem.W.nsIn K mainGlobals "super" = some none)
    {daC : Value} {dbC : Option Addr} {dvC : Array Value} {dwC : Array (Option Value)} (dC : K.lookup cdC = some ⟨daC, dbC, .fields dvC, dwC⟩)
    {flC : Str} {tfC : Tok} (eC : dvC[2]? = some (.str flC tfC))
    (wC : ((l.prog.main.file : Str) == flC) = true)
    (gC : (l.prog.main.scope.names.lookup ("super" : Str)).isSome = false)
    (nC_at : PySem.W.findIn K (.ref C) "at" = some none)
    {A : Addr} (aT : PySem.W.nsIn K mainGlobals "TreeError" = some (some (.ref A)))
    {tM : Tok} (aM : PySem.W.nsIn K mainGlobals "MAX_TEXT" = some (some (.int 6000 tM)))
    (zo : PySem.W.nsIn K mainGlobals "ord" = some none)
    (zE : PySem.W.nsIn K mainGlobals "enumerate" = some none)
    {tS : Tok} (aS : PySem.W.nsIn K mainGlobals "SPACE" = some (some (.int 32 tS)))
    {tTi : Tok} (aTi : PySem.W.nsIn K mainGlobals "TILDE" = some (some (.int 126 tTi)))
    {tP : Tok} (aP : PySem.W.nsIn K mainGlobals "PERCENT" = some (some (.int 37 tP)))
    (zr : PySem.W.nsIn K mainGlobals "repr" = some none)
    (z_len : PySem.W.nsIn K mainGlobals "len" = some none)
    (z_int : PySem.W.nsIn K mainGlobals "int" = some none)
    (z_range : PySem.W.nsIn K mainGlobals "range" = some none)
    (z_tuple : PySem.W.nsIn K mainGlobals "tuple" = some none)
    (z_list : PySem.W.nsIn K mainGlobals "list" = some none)
    (z_str : PySem.W.nsIn K mainGlobals "str" = some none)
    (z_isinstance : PySem.W.nsIn K mainGlobals "isinstance" = some none)
    (z_bool : PySem.W.nsIn K mainGlobals "bool" = some none)
    (z_abs : PySem.W.nsIn K mainGlobals "abs" = some none)
    (z_max : PySem.W.nsIn K mainGlobals "max" = some none)
    (sB : PySem.W.subIn K (.ref B) (.type "BaseException") = some true)
    (hB : PySem.W.hasDictIn K B = true)
    (tB : PySem.W.typeIn K (.ref B) = some (.type "type"))
    (sCB : PySem.W.subIn K (.ref C) (.ref B) = some true)
    (e1 : PySem.W.findIn K (.ref C) "__getattribute__" = some (some (.builtin "BaseException.__getattribute__")))
    (e2 : PySem.W.findIn K (.ref C) "__getattr__" = some none)
    (e4 : PySem.W.hasDictIn K C = true)
    (e5 : PySem.W.findIn K (.ref C) "__class__" = some (some (.builtin "object.__class__")))
    (e6 : PySem.W.specialIn K (.builtin "object.__class__") "__get__" = some (some (.builtin "getset_descriptor.__get__")))
    (e7 : PySem.W.takesIn K (.builtin "object.__class__") = some true)
    (e8 : PySem.W.mroIn K C (.type "object") = some true)
    (q1 : PySem.W.kitOne K (.ref C) (.ref C) = some true)
    (q3 : PySem.W.kitOne K (.ref C) (.ref A) = some false) :
    ∃ fd : FuncData, (∀ (s : Shared) (v : Value), BindsTo s fd ⟨[v], []⟩ [("script", v)]) ∧ ∀ base : Heap, K.In base → base.Ns mainGlobals mg → Gd.GFn l.prog w K mg base CX0 5 fa fd ["script"] (spLaw' K) := by
  have e := hfa.symm.trans (PySem.W.mg_of X G a10)
  cases e
  have F1 := fun_mk (st := sAllow) l1 c1 k1
  have b1 := F1.binds (ps := ["character"]) fun _ _ _ _ _ _ us hl => match us, hl with | [_], _ => rfl
  have m1 := PySem.W.mg_of X G a1
  have F2 := fun_mk (st := sCheck) l2 c2 k2
  have b2 := F2.binds (ps := ["text"]) fun _ _ _ _ _ _ us hl => match us, hl with | [_], _ => rfl
  have m2 := PySem.W.mg_of X G a2
  have F3 := fun_mk (st := sSplit) l3 c3 k3
  have b3 := F3.binds (ps := ["text"]) fun _ _ _ _ _ _ us hl => match us, hl with | [_], _ => rfl
  have m3 := PySem.W.mg_of X G a3
  have F4 := fun_mk (st := sStart) l4 c4 k4
  have b4 := F4.binds (ps := ["script"]) fun _ _ _ _ _ _ us hl => match us, hl with | [_], _ => rfl
  have m4 := PySem.W.mg_of X G a4
  have F5 := fun_mk (st := sDrw) l5 c5 k5
  have b5 := F5.binds (ps := ["state", "many"]) fun _ _ _ _ _ _ us hl => match us, hl with | [_, _], _ => rfl
  have m5 := PySem.W.mg_of X G a5
  have F6 := fun_mk (st := sChars) l6 c6 k6
  have b6 := F6.binds (ps := []) fun _ _ _ _ _ _ us hl => match us, hl with | [], _ => rfl
  have m6 := PySem.W.mg_of X G a6
  have F7 := fun_mk (st := sText) l7 c7 k7
  have b7 := F7.binds (ps := ["state"]) fun _ _ _ _ _ _ us hl => match us, hl with | [_], _ => rfl
  have m7 := PySem.W.mg_of X G a7
  have F8 := fun_mk (st := sStrange) l8 c8 k8
  have b8 := F8.binds (ps := ["state", "text"]) fun _ _ _ _ _ _ us hl => match us, hl with | [_, _], _ => rfl
  have m8 := PySem.W.mg_of X G a8
  have F9 := fun_mk (st := sDue) l9 c9 k9
  have b9 := F9.binds (ps := ["text"]) fun _ _ _ _ _ _ us hl => match us, hl with | [_], _ => rfl
  have m9 := PySem.W.mg_of X G a9
  have F10 := fun_mk (st := sLaw) l10 c10 k10
  refine ⟨PySem.W.fnOf "law" "law" (defArgs sLaw) (defBody sLaw) (defScope sLaw) .none kV10 dc10 pm10 an10 cd10 ct10, fun s v => .of_eq rfl, fun base _ _ => ?_⟩
  have SuC : Su.Sup l.prog K C ccC cdC := ⟨⟨⟨_, _, _, _, _, _, _, _, _, _, _, _, _, _, _, xC, rfl⟩, saC, bC, tC, kC⟩, uC, yC, vC, ⟨_, _, _, oC⟩, mC, pC, ⟨_, _, _, _, _, _, dC, eC, wC⟩, gC⟩
  have T : Bi mg := ⟨PySem.W.mg_none_of X G z_len, PySem.W.mg_none_of X G z_int, PySem.W.mg_none_of X G z_range, PySem.W.mg_none_of X G z_tuple, PySem.W.mg_none_of X G z_list, PySem.W.mg_none_of X G z_str, PySem.W.mg_none_of X G z_isinstance, PySem.W.mg_none_of X G z_bool, PySem.W.mg_none_of X G z_abs, PySem.W.mg_none_of X G z_max⟩
  have E' : TxtX K mg C B A := ⟨PySem.W.mg_of X G aB0, PySem.W.mg_of X G aC, PySem.W.mg_of X G aT, ⟨e1, e2, bC, e4, e5, e6, e7, e8⟩, ⟨e1, e2, bC, e4⟩, nC_at, PySem.W.exm_ref sB hB tB sCB, q1, q3⟩
  have mk : Mk l.prog w K mg base "TextError" C ["self", "at"] (Er.spXE K C) := ⟨fC, _, Er.ok_xe lC cC SuC nC_at, .all (fun us hl => match us, hl with | [_, _], _ => rfl), SuC.ex, iC, jC, PySem.W.mg_of X G aC⟩
  have c1 : Cal l.prog w K mg base CX0 1 "is_text_character" ["character"] spAllow := ⟨f1, _, ok_allow F1 (PySem.W.mg_none_of X G zo) (PySem.W.mg_of X G aS) (PySem.W.mg_of X G aTi) (PySem.W.mg_of X G aP), b1, k1, m1⟩
  have c2 : Cal l.prog w K mg base (L2.CX l.prog w) 3 "check_characters" ["text"] (spCheck K C) := ⟨f2, _, ok_check F2 T (PySem.W.mg_none_of X G zE) (PySem.W.mg_of X G aM) mk c1, b2, k2, m2⟩
  have c3 : Cal l.prog w K mg base (L2.CX l.prog w) 4 "split_words" ["text"] (spSplit K C) := ⟨f3, _, ok_split F3 (PySem.W.mg_none_of X G zE) c2, b3, k3, m3⟩
  have c4 : Cal l.prog w K mg base CX0 1 "_law_start" ["script"] (spStart K) := ⟨f4, _, ok_start F4 T, b4, k4, m4⟩
  have c5 : Cal l.prog w K mg base CX0 1 "_law_draw" ["state", "many"] (spDrw K) := ⟨f5, _, ok_drw F5 T, b5, k5, m5⟩
  have c6 : Cal l.prog w K mg base CX0 1 "_law_chars" [] spChars := ⟨f6, _, ok_chars F6, b6, k6, m6⟩
  have c7 : Cal l.prog w K mg base CX0 2 "_law_text" ["state"] (spText K) := ⟨f7, _, ok_text F7 T c5 c6, b7, k7, m7⟩
  have c8 : Cal l.prog w K mg base CX0 2 "_law_strange" ["state", "text"] (spStrange K) := ⟨f8, _, ok_strange F8 T c5, b8, k8, m8⟩
  have c9 : Cal l.prog w K mg base CX0 1 "_law_due" ["text"] (spDue K) := ⟨f9, _, ok_due F9 T, b9, k9, m9⟩
  exact ok_law F10 T (PySem.W.mg_none_of X G zr) E' c4 c7 c8 c9 c3
end
theorem walk {l : PySem.W.OpenLaw} {q : Program} {loose : List Str} {XP : (Str → Option Value) → Heap → Prop} {YP : World → Heap → Prop} {d : DefRec} {K : Params → PySem.W.Frag} (hn : l.most = some 63) (hdf : d.params.defaults = [])
    (hY : ∀ (w : World) (h : Heap), YP w h → (K w.params).In h)
    (F : ∀ (w : World) (mg : Str → Option Value) (fa : Addr) (h : Heap), (K w.params).In h → h.Ns mainGlobals mg → mg d.name = some (.ref fa) →
      ∃ fd : FuncData, (∀ (s : Shared) (u : Value), BindsTo s fd ⟨[u], []⟩ [("script", u)]) ∧ ∀ base : Heap, (K w.params).In base → base.Ns mainGlobals mg → Gd.GFn l.prog w (K w.params) mg base CX0 5 fa fd ["script"] (spLaw' (K w.params))) :
    PySem.W.WalkO q loose XP YP l.row.toRowW d [] (fun f vs => PySem.call f vs) :=
  Gd.walk (n := 63) (k := 5) (x := "script") (CX := fun _ => CX0) (sp := fun w => spLaw' (K w.params)) hn (by decide) hdf ⟨rfl, by decide, by decide⟩ hY F (fun _ _ a ns hl _ hS => ⟨a, ns, rfl, hS, hl, fun _ => rfl⟩) fun _ _ _ _ _ z => z
end Tr
open PySem PySem.W PyProof.Rows
set_option maxRecDepth 100000 in
set_option maxHeartbeats 0 in
theorem PySem.Challenge.cw_countermarch_k05_split_words_holds : PySem.Challenge.rw_countermarch_k05_split_words.Holds := by
  w_on; o_law; k_head; (case hw => w_witness2)
  k_fill
  refine Tr.walk (l := PySem.Challenge.rw_countermarch_k05_split_words) rfl rfl (fun w h Y => PySem.W.kIn_of Y) ?F
  case F =>
    intro w mg fa h KX G hmg
    refine' Tr.all_mk KX G hmg ?a1 ?l1 ?c1 ?k1 ?a2 ?l2 ?c2 ?k2 ?a3 ?l3 ?c3 ?k3 ?a4 ?l4 ?c4 ?k4 ?a5 ?l5 ?c5 ?k5 ?a6 ?l6 ?c6 ?k6 ?a7 ?l7 ?c7 ?k7 ?a8 ?l8 ?c8 ?k8 ?a9 ?l9 ?c9 ?k9 ?a10 ?l10 ?c10 ?k10 ?aB0 ?aC ?xC ?saC ?bC ?tC ?kC ?iC ?jC ?lC ?cC ?uC ?yC ?vC ?oC ?mC ?pC ?dC ?eC ?wC ?gC ?nC_at ?aT ?aM ?zo ?zE ?aS ?aTi ?aP ?zr ?z_len ?z_int ?z_range ?z_tuple ?z_list ?z_str ?z_isinstance ?z_bool ?z_abs ?z_max ?sB ?hB ?tB ?sCB ?e1 ?e2 ?e4 ?e5 ?e6 ?e7 ?e8 ?q1 ?q3
    (case a1 => k_is)
    (case l1 => k_is)
    (case c1 => k_is)
    (case k1 => k_is)
    (case a2 => k_is)
    (case l2 => k_is)
    (case c2 => k_is)
    (case k2 => k_is)
    (case a3 => k_is)
    (case l3 => k_is)
    (case c3 => k_is)
    (case k3 => k_is)
    (case a4 => k_is)
    (case l4 => k_is)
    (case c4 => k_is)
    (case k4 => k_is)
    (case a5 => k_is)
    (case l5 => k_is)
    (case c5 => k_is)
    (case k5 => k_is)
    (case a6 => k_is)
    (case l6 => k_is)
    (case c6 => k_is)
    (case k6 => k_is)
    (case a7 => k_is)
    (case l7 => k_is)
    (case c7 => k_is)
    (case k7 => k_is)
    (case a8 => k_is)
    (case l8 => k_is)
    (case c8 => k_is)
    (case k8 => k_is)
    (case a9 => k_is)
    (case l9 => k_is)
    (case c9 => k_is)
    (case k9 => k_is)
    (case a10 => k_is)
    (case l10 => k_is)
    (case c10 => k_is)
    (case k10 => k_is)
    (case aB0 => k_is)
    (case aC => k_is)
    (case xC => k_is)
    (case saC => k_is)
    (case bC => k_is)
    (case tC => k_is)
    (case kC => k_is)
    (case iC => k_is)
    (case jC => k_is)
    (case lC => k_is)
    (case cC => k_is)
    (case uC => first | ks_is | k_is)
    (case yC => k_is)
    (case vC => k_is)
    (case oC => k_is)
    (case mC => k_is)
    (case pC => k_is)
    (case dC => k_is)
    (case eC => rfl)
    (case wC => first | rfl | decide +kernel)
    (case gC => first | rfl | decide +kernel)
    (case nC_at => k_is)
    (case aT => k_is)
    (case aM => k_is)
    (case zo => k_is)
    (case zE => k_is)
    (case aS => k_is)
    (case aTi => k_is)
    (case aP => k_is)
    (case zr => k_is)
    (case z_len => k_is)
    (case z_int => k_is)
    (case z_range => k_is)
    (case z_tuple => k_is)
    (case z_list => k_is)
    (case z_str => k_is)
    (case z_isinstance => k_is)
    (case z_bool => k_is)
    (case z_abs => k_is)
    (case z_max => k_is)
    (case sB => k_is)
    (case hB => k_is)
    (case tB => k_is)
    (case sCB => k_is)
    (case e1 => k_is)
    (case e2 => k_is)
    (case e4 => k_is)
    (case e5 => k_is)
    (case e6 => k_is)
    (case e7 => k_is)
    (case e8 => k_is)
    (case q1 => kit_is)
    (case q3 => kit_is)

