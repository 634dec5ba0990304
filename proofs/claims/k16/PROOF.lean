import PyProof.Rows.All
import Wide.All
import OpenK.AllK
import Wide.FinOn
import HandS.ForMost
import HandS.Lambda
import HandS.Nested
import HandS.SortKw
import KE.SortKeyHeap
import KE.DataMinKey
import HandS.SetFor
import HandS.Strs
import HandS.SetTxt0
import KE.KSortTupG
import HandS.List
import HandS.Dict
import KE.KDictPairs
import PySem.Challenge.RW_readtell_k16_names_without_texts
import HandS.Wide
import HandS.IsInst
import HandS.TupLe
import HandS.AnyAll
import HandS.EndTab
import HandS.DictTup
import HandS.StrMore
import HandS.Zip
import HandS.IterVal
import HandS.Flow
import HandS.Style
import HandS.TupAny
import HandS.DictComp
import HandS.Iter
import KE.KeyNested
import KE.GoesEnum
import KE.GoesMore
import PyProof.EnumMake
import HandS.Walk
import PyProof.Rows.StrMeet
set_option Elab.async false
set_option linter.all false
set_option maxRecDepth 100000
set_option maxHeartbeats 1000000
/-! lambdas with parameters as tracked objects; functions that serve as keys -/
namespace LK
open PySem PySem.Spec PyProof.Rows L2 LamX NdefX
/-! ### the made lambda -/
structure LF where
  qual : Str
  params : Arguments
  body : Expr
  scope : Scope
  cl : List (Str × Addr)
  c : Addr
abbrev LF.fd (F : LF) (pm ctv : Value) : FuncData := PySem.W.kla_fn "<lambda>" F.qual F.params F.body F.scope F.cl pm (.ref F.c) ctv
/-- the object at f is the lambda F -/
def LaO (f : Addr) (F : LF) : HO := .ext fun h => ∃ (od : Option Addr) (sl : Array (Option Value)) (pm ctv : Value), h.get? f = some (⟨.type "function", od, .func (F.fd pm ctv), sl⟩ : Obj)
theorem laO_at {P : Program} {w : World} {H : Hp} {h : Heap} {f : Addr} {F : LF} (hok : HOk P w H h) (e : H f = some (LaO f F)) : ∃ (od : Option Addr) (sl : Array (Option Value)) (pm ctv : Value), h.get? f = some (⟨.type "function", od, .func (F.fd pm ctv), sl⟩ : Obj) := by
  obtain ⟨z, _, _⟩ := hok f _ e
  exact z
section
variable {X : Cx} {pins : List (Addr × Obj)} {σ : L2.St} {H : Hp} {s : Shared}
theorem inv_la {F : LF} {o : Obj} {t' : Nat} {pm ctv : Value} (I : Inv X pins σ H s) (ho : o = { cls := .type "function", data := .func (F.fd pm ctv) }) :
    Inv X pins σ (upd H s.heap.objs.size (LaO s.heap.objs.size F)) { s with heap := s.heap.push o, toks := t' } := by
  subst ho
  refine I.laid (a := s.heap.objs.size) (fun b u e => Heap.get?_push_of_some _ e) (Nat.le_refl _) ?_
  have e : (s.heap.push ({ cls := .type "function", data := .func (F.fd pm ctv) } : Obj)).get? s.heap.objs.size = some ({ cls := .type "function", data := .func (F.fd pm ctv) } : Obj) := Heap.get?_push_size _ rfl
  exact ⟨⟨_, _, pm, ctv, e⟩, ⟨_, e⟩, fun h1 h2 ⟨od, sl, p, t, z⟩ st => ⟨od, sl, p, t, st _ z⟩⟩
theorem la_make {T : List (Addr × Str)} {c P : Addr} {params : Arguments} {body : Expr} {scope : Scope} {pos : Pos} {E : Value → Shared → Prop} {Q : Value → Shared → Prop} (I : Inv X pins σ H s) (TB : TabB X.base X.mg c P) (hcode : X.env.code = .ref c)
    (hm : (P, X.env.qual ++ "<lambda>") ∈ T) (hu : ∀ p ∈ T, p.1 = P → p.2 = X.env.qual ++ "<lambda>") (hT : Tabs T H) (hdef : defaultsOf params X.env = ([], [])) (hfree : ∀ y ∈ scope.names, y.2 = .free → ∃ c, X.env.cells.lookup y.1 = some c)
    (h : ∀ (f c' : Addr) (H1 : Hp) (s' : Shared), Inv X pins σ H1 s' → ExtN H H1 → Tabs T H1 → H f = none → H1 f = some (LaO f ⟨X.env.qual ++ "<lambda>", params, body, scope, cloFrom X.env.cells scope.names [], c'⟩) → H1 c' = some (CodeO c' (X.env.qual ++ "<lambda>")) → Q (.ref f) s') :
    wpAny (model X.prog X.w) X.A (eval (.Lambda params body scope pos) X.env) Q E s := by
  obtain ⟨ps, hP, ht, ha⟩ := hT _ hm
  refine PySem.W.kla_eval hdef ?_
  have bP : s.heap.BuiltinsAt X.mg P := TB.bm.keeps I.bk
  have hP' : s.heap.get? P = some { cls := .none, data := .fields ps } := I.hok P _ hP
  cases hc : codeAmong pos ps.toList with
  | none =>
    refine PySem.W.kla_makeFunction (mg := X.mg) (c := c) (P := P) (ps := ps) (closure_ok hfree) I.ok.glob (I.mod.glob.keeps I.bk) hcode (TB.code.keeps I.bk) hP' ht hc TB.gP bP fun c' ctv h' tk hx hge hlt hrec htb => ?_
    obtain ⟨c2, oc, vs, t, e2, hoc, hd, hv⟩ := hrec
    cases e2
    have nC : H c' = none := I.hok.fresh hge
    have I1 := inv_table (t' := tk) (more := #[rawInt pos.line, rawInt pos.col, .ref c']) (h' := h') I hP (fun b o hb e => hx b o hb e) htb hge ⟨oc, vs, t, hoc, hd, hv⟩
    have hE : ExtN H (upd (upd H P (.tbl (ps ++ #[rawInt pos.line, rawInt pos.col, .ref c']))) c' (CodeO c' (X.env.qual ++ "<lambda>"))) := fun b o e n => by
      rw [upd_ne (ne_of_none e nC), upd_ne (fun z => n ps (Option.some.inj (e.symm.trans (by rw [z]; exact hP))))]
      exact e
    have eL : (ps ++ #[rawInt pos.line, rawInt pos.col, .ref c']).toList = ps.toList ++ [rawInt pos.line, rawInt pos.col, .ref c'] := by simp
    have T1 : Tabs T (upd (upd H P (.tbl (ps ++ #[rawInt pos.line, rawInt pos.col, .ref c']))) c' (CodeO c' (X.env.qual ++ "<lambda>"))) := fun p hp => by
      by_cases hb : p.1 = P
      · rw [hu p hp hb, hb]
        refine ⟨_, by rw [upd_ne (ne_of_none hP nC), upd_same], by rw [eL]; exact PySem.TriplesOk_snoc _ _ _ _ ht, fun p' cv hcv => ?_⟩
        rw [eL] at hcv
        rcases among_app _ ht hcv with z | z
        · obtain ⟨c0, e1, e2⟩ := ha p' cv z
          exact ⟨c0, e1, hE _ _ e2 codeO_ne⟩
        · exact ⟨c', z, upd_same⟩
      · obtain ⟨ps', a1, a2, a3⟩ := hT p hp
        refine ⟨ps', by rw [upd_ne (ne_of_none a1 nC), upd_ne hb]; exact a1, a2, fun p' cv hcv => ?_⟩
        obtain ⟨c0, e1, e2⟩ := a3 p' cv hcv
        exact ⟨c0, e1, hE _ _ e2 codeO_ne⟩
    have nF := I1.hok.fresh (Nat.le_refl _)
    have I2 := inv_la (F := ⟨X.env.qual ++ "<lambda>", params, body, scope, cloFrom X.env.cells scope.names [], c'⟩) (t' := tk) (pm := (X.mg "__name__").getD .none) (ctv := ctv) I1 rfl
    refine h h'.objs.size c' _ _ I2 (fun b o e n => ?_) (T1.ext fun b o e => ?_) (I.hok.fresh (Nat.le_trans hge (Nat.le_of_lt hlt))) upd_same ?_
    · have e1 := hE b o e n
      exact (upd_ne (ne_of_none e1 nF)).trans e1
    · exact (upd_ne (ne_of_none e nF)).trans e
    · exact (upd_ne (Nat.ne_of_lt hlt)).trans upd_same
  | some cv =>
    obtain ⟨c', e, hco⟩ := ha pos cv hc
    subst e
    refine PySem.W.kla_makeFunctionHit (mg := X.mg) (c := c) (P := P) (ps := ps) (closure_ok hfree) I.ok.glob (I.mod.glob.keeps I.bk) hcode (TB.code.keeps I.bk) hP' ht hc bP fun ctv h' tk hx hsz => ?_
    have I1 : Inv X pins σ H { s with heap := h', toks := tk } := I.kept hx
    have nF : H h'.objs.size = none := I1.hok.fresh (Nat.le_refl _)
    have I2 := inv_la (F := ⟨X.env.qual ++ "<lambda>", params, body, scope, cloFrom X.env.cells scope.names [], c'⟩) (t' := tk) (pm := (X.mg "__name__").getD .none) (ctv := ctv) I1 rfl
    refine h h'.objs.size c' _ _ I2 (fun b o e n => ?_) (hT.ext fun b o e => ?_) nF upd_same ?_
    · exact (upd_ne (ne_of_none e nF)).trans e
    · exact (upd_ne (ne_of_none e nF)).trans e
    · exact (upd_ne (ne_of_none hco nF)).trans hco
end
/-- a lambda as a value -/
def tLa (T : List (Addr × Str)) (mk : Addr → LF) : TE := fun σ H Q => Tabs T H ∧ ∀ (f c' : Addr) (H1 : Hp), ExtN H H1 → Tabs T H1 → H f = none → H1 f = some (LaO f (mk c')) → H1 c' = some (CodeO c' (mk c').qual) → Q (.ref f) H1
section
variable {X : Cx}
theorem pe_la {T : List (Addr × Str)} {c P : Addr} {params : Arguments} {body : Expr} {scope : Scope} {pos : Pos} (TB : TabB X.base X.mg c P) (hcode : X.env.code = .ref c)
    (hm : (P, X.env.qual ++ "<lambda>") ∈ T) (hu : ∀ p ∈ T, p.1 = P → p.2 = X.env.qual ++ "<lambda>") (hdef : defaultsOf params X.env = ([], []))
    (hfree : ∀ y ∈ scope.names, y.2 = .free → X.env.scope.names.lookup y.1 = some .cell ∨ X.env.scope.names.lookup y.1 = some .free) :
    PE X (.Lambda params body scope pos) (tLa T fun c' => ⟨X.env.qual ++ "<lambda>", params, body, scope, cloFrom X.env.cells scope.names [], c'⟩) := by
  refine ⟨fun pins s σ H Q I h => ?_⟩
  obtain ⟨hT, h⟩ := h
  refine la_make I TB hcode hm hu hT hdef (fun y hy e => (hfree y hy e).elim (fun z => I.ok.has _ (.inl z)) fun z => I.ok.has _ (.inr z)) fun f c' H1 s' I1 eN T1 f0 f1 c1 => ?_
  exact ⟨.ref f, H1, I1, rfl, h f c' H1 eN T1 f0 f1 c1⟩
end
/-! ### keys: a text's length, then the text -/
section
variable (P : Program) (w : World) (K : PySem.W.Frag) (mg : Str → Option Value) (base : Heap)
structure KeySt (H : Hp) (s : Shared) : Prop where
  hok : HOk P w H s.heap
  bk : ∀ b o, base.get? b = some o → s.heap.get? b = some o
  mod : Mod K mg base
end
theorem KeySt.of {X : Cx} {pins : List (Addr × Obj)} {σ : L2.St} {H : Hp} {s : Shared} (I : Inv X pins σ H s) : KeySt X.prog X.w X.K X.mg X.base H s := ⟨I.hok, I.bk, I.ok.mod⟩
theorem KeySt.kept {P : Program} {w : World} {K : PySem.W.Frag} {mg : Str → Option Value} {base : Heap} {H : Hp} {s s' : Shared} (k : KeySt P w K mg base H s) (e : ∀ b o, s.heap.get? b = some o → s'.heap.get? b = some o) : KeySt P w K mg base H s' := ⟨k.hok.kept e, fun b o q => e b o (k.bk b o q), k.mod⟩
/-- a new tuple of the length of z and z; all else as it was -/
def KeyNew (z : Str) (s : Shared) (v : Value) (s' : Shared) : Prop := ∃ (h' : Heap) (tk : Nat) (p : Addr) (o : Obj) (t t' : Tok) (n : Nat), s' = { s with heap := h', toks := tk } ∧ s.toks ≤ tk ∧ (∀ b o, s.heap.get? b = some o → h'.get? b = some o) ∧ v = .ref p ∧ s.heap.get? p = none ∧
  h'.get? p = some o ∧ o.cls = .type "tuple" ∧ o.data = .seq #[.int z.length t, .str z t'] n
theorem KeyNew.from {z : Str} {s : Shared} {h₁ : Heap} {tk : Nat} (ht : s.toks ≤ tk) (kp : ∀ b o, s.heap.get? b = some o → h₁.get? b = some o) {v : Value} {s' : Shared} (q : KeyNew z { s with heap := h₁, toks := tk } v s') : KeyNew z s v s' := by
  obtain ⟨h', tk', p, o, t, t', n, rfl, ht', e, rfl, np, ep, c, d⟩ := q
  refine ⟨h', tk', p, o, t, t', n, rfl, Nat.le_trans ht ht', fun b o z => e b o (kp b o z), rfl, ?_, ep, c, d⟩
  cases x : s.heap.get? p with
  | none => rfl
  | some u => exact absurd ((kp p u x).symm.trans np) (by simp)
/-- the value f, called with v, gives the key of z and leaves all as it was -/
def KeyF (P : Program) (w : World) (K : PySem.W.Frag) (mg : Str → Option Value) (base : Heap) (H : Hp) (f : Addr) (v : V) (z : Str) : Prop :=
  ∀ (A : Around) (s : Shared) (u : Value), A.depth < recursionLimit → KeySt P w K mg base H s → RelV v u → wpAny (model P w) A (call (.ref f) [u]) (KeyNew z s) (fun _ _ => False) s
/-- a body that tells the key of z of the value v that stands at x -/
def BodyK (P : Program) (w : World) (K : PySem.W.Frag) (mg : Str → Option Value) (base : Heap) (H : Hp) (scope : Scope) (x : Str) (v : V) (z : Str) (body : Expr) : Prop :=
  ∀ (env : Env) (A : Around) (s : Shared) (m : Str → Option Value) (u : Value), env.scope = scope → env.globals = mainGlobals → env.builtins = builtinsNs → KeySt P w K mg base H s → s.heap.Ns env.locals m → m x = some u → RelV v u →
    wpAny (model P w) A (eval body env) (KeyNew z s) (fun _ _ => False) s
/-- one parameter, nothing captured, no cells -/
structure OneS (x : Str) (scope : Scope) : Prop where
  kind : scope.kind = .function
  co : scope.isCoroutine = false
  gen : scope.isGenerator = false
  par : scope.names.lookup x = some .local
  nocell : ∀ y ∈ scope.names, y.2 ≠ .cell
def oneSB (x : Str) (scope : Scope) : Bool :=
  decide (scope.kind = .function) && !scope.isCoroutine && !scope.isGenerator && decide (scope.names.lookup x = some .local) && scope.names.all fun y => !decide (y.2 = .cell)
theorem oneS_by {x : Str} {scope : Scope} (h : oneSB x scope = true) : OneS x scope := by
  unfold oneSB at h
  simp only [Bool.and_eq_true, Bool.not_eq_true', decide_eq_true_eq, List.all_eq_true, decide_eq_false_iff_not] at h
  obtain ⟨⟨⟨⟨h1, h2⟩, h3⟩, h4⟩, h5⟩ := h
  exact ⟨h1, h2, h3, h4, h5⟩
section
variable {P : Program} {w : World} {K : PySem.W.Frag} {mg : Str → Option Value} {base : Heap} {H : Hp}
/-- a lambda with one parameter -/
theorem key_la {f : Addr} {F : LF} {x : Str} {v : V} {z : Str} (hf : H f = some (LaO f F)) (hc : H F.c = some (CodeO F.c F.qual)) (S : OneS x F.scope) (hb : ∀ (pm ctv u : Value), bindArgs (F.fd pm ctv) ⟨[u], []⟩ = pure [(x, u)]) (B : BodyK P w K mg base H F.scope x v z F.body) : KeyF P w K mg base H f v z := by
  intro A s u hA K rv
  obtain ⟨od, sl, pm, ctv, ho⟩ := laO_at K.hok hf
  have lim : s.heap.NoLimit := K.mod.nolimit.keeps K.bk
  refine wpAny_call (PySem.W.kla_callFunE (R := fun r s' => match r with | .ok (.ret v) => KeyNew z s v s' | .ok _ => False | .error _ => False) hA ho rfl S.co S.gen rfl (codeO_at K.hok hc) ?_)
  rw [hb pm ctv u]
  refine wpAny_pure (wpAny_newFunctionEnv S.nocell (fun y hy => by rw [List.mem_singleton.mp hy]; exact S.par) (fun h₁ hns hsb => ⟨lim.fresh _ hsb, ?_⟩) S.kind)
  have kp : ∀ b o, s.heap.get? b = some o → h₁.get? b = some o := fun b o e => hsb.extBut b o (Nat.ne_of_lt (Heap.lt_size e)) (Heap.get?_push_of_some _ e)
  refine PySem.W.kla_codeExpr (wpAny_mono (B _ _ _ _ u rfl rfl rfl (K.kept kp) hns (by simp [List.lookup]) rv) (fun v' s' q => ?_) fun e s' z => z.elim)
  exact KeyNew.from (Nat.le_add_right _ _) kp q
/-- a def of the module with one parameter that returns an expression -/
theorem key_def {f : Addr} {name qual : Str} {params : Arguments} {body : Expr} {p : Pos} {scope : Scope} {dV kV doc pm cdv ct oc : Value} {an od : Option Addr} {osl : Array (Option Value)} {x : Str} {v : V} {z : Str}
    (lk : K.lookup f = some ⟨oc, od, .func (PySem.W.fnOf name qual params [.Return (some body) p] scope dV kV doc pm an cdv ct), osl⟩) (hcd : PySem.W.codeIn K cdv qual = true) (S : OneS x scope)
    (hb : ∀ (u : Value), bindArgs (PySem.W.fnOf name qual params [.Return (some body) p] scope dV kV doc pm an cdv ct) ⟨[u], []⟩ = pure [(x, u)]) (B : BodyK P w K mg base H scope x v z body) : KeyF P w K mg base H f v z := by
  intro A s u hA KS rv
  have KX : K.In s.heap := KS.mod.kin.keeps KS.bk
  have lim : s.heap.NoLimit := KS.mod.nolimit.keeps KS.bk
  refine wpAny_call (codeAny_call_function (R := fun r s' => match r with | .ok (.ret v) => KeyNew z s v s' | .ok _ => False | .error _ => False) hA (KX _ _ lk) rfl S.co S.gen rfl (PySem.W.codeRec_of KX hcd) ?_)
  rw [hb u]
  refine wpAny_pure (wpAny_newFunctionEnv S.nocell (fun y hy => by rw [List.mem_singleton.mp hy]; exact S.par) (fun h₁ hns hsb => ⟨lim.fresh _ hsb, ?_⟩) S.kind)
  have kp : ∀ b o, s.heap.get? b = some o → h₁.get? b = some o := fun b o e => hsb.extBut b o (Nat.ne_of_lt (Heap.lt_size e)) (Heap.get?_push_of_some _ e)
  refine codeAny_func (wpAny_execs_cons (wpAny_Return_some (wpAny_mono (B _ _ _ _ u rfl rfl rfl (KS.kept kp) hns (by simp [List.lookup]) rv) (fun v' s' q => ?_) fun e s' z => z.elim)))
  exact KeyNew.from (Nat.le_add_right _ _) kp q
/-- (len(x), x) -/
theorem body_len {x : Str} {z : Str} {scope : Scope} {p1 p2 p3 p4 p5 : Pos} {c} (S : OneS x scope) (hl : scope.names.lookup ("len" : Str) = some .globalImplicit) (ml : mg "len" = none) (hz : z.length ≤ sizeLine) (hd : (x == ("__debug__" : Str)) = false) :
    BodyK P w K mg base H scope x (.str z) z (.Tuple [.Call (.Name "len" p1) [.Name x p2] [] p3, .Name x p4] c p5) := by
  intro env A s m u hs hg hb KS hn hm rv
  obtain ⟨t, rfl⟩ := rv
  have hn63 := line63
  have hk : env.scope.kind = .function := by rw [hs]; exact S.kind
  have hx : env.kindOf x = some .local := by show env.scope.names.lookup x = _; rw [hs]; exact S.par
  have hL : env.kindOf ("len" : Str) = some .globalImplicit := by show env.scope.names.lookup _ = _; rw [hs]; exact hl
  obtain ⟨mb, h1, h2⟩ := KS.mod.blt
  refine wpAny_Tuple_spliced ?_
  show wpAny _ _ (spliced ((false, eval (.Call (.Name "len" p1) [.Name x p2] [] p3) env) :: backTo p5 (starEach [.Name x p4] env))) _ _ _
  refine Calls.spliced_cons (wpAny_Call_Name_kw (Calls.Name_function_global hk hL (Calls.loadGlobal_builtin (by rw [hg]; exact KS.mod.glob.keeps KS.bk) ml (by rw [hb]; exact h1.keeps KS.bk) ((h2 "len" (by decide)).trans PySem.boot_len) ?_)))
  refine PyProof.Rows.callWith_builtin1 (e := .Name x p2) (rest := []) ?_ (by rfl) (by rfl)
  show wpAny _ _ (spliced ((false, eval (.Name x p2) env) :: backTo p3 (starEach [] env))) _ _ _
  refine Calls.spliced_cons (wpAny_Name (wpAny_loadName_local hk hx hn hm ?_) hd)
  refine Calls.spliced_nil ?_
  refine PySem.P.len_str (by omega) ?_
  show wpAny _ _ (spliced ((false, eval (.Name x p4) env) :: backTo p5 (starEach [] env))) _ _ _
  refine Calls.spliced_cons (wpAny_Name (wpAny_loadName_local hk hx hn hm ?_) hd)
  refine Calls.spliced_nil ⟨by show 2 ≤ sizeLine; rw [sizeLine_eq]; decide, ?_⟩
  exact ⟨_, _, _, _, _, t, _, rfl, by show s.toks ≤ s.toks + 1 + 1; omega, fun b o e => Heap.get?_push_of_some _ e, rfl, Heap.get?_none_of_le (Nat.le_refl _), Heap.get?_push_size _ rfl, rfl, rfl⟩
/-- (len(x[0]), x[0]) -/
theorem body_len0 {x : Str} {z : Str} {y : V} {a : Addr} {scope : Scope} {p1 p2 p3 p4 p5 p6 p7 p8 p9 : Pos} {c j k} (S : OneS x scope) (hl : scope.names.lookup ("len" : Str) = some .globalImplicit) (ml : mg "len" = none) (ha : H a = some (.tup [.str z, y])) (hz : z.length ≤ sizeLine) (hd : (x == ("__debug__" : Str)) = false) :
    BodyK P w K mg base H scope x (.ref a) z (.Tuple [.Call (.Name "len" p1) [.Subscript (.Name x p2) (.Constant (.int 0) j p6) p7] [] p3, .Subscript (.Name x p4) (.Constant (.int 0) k p8) p9] c p5) := by
  intro env A s m u hs hg hb KS hn hm rv
  obtain rfl : u = .ref a := rv
  have hn63 := line63
  have hk : env.scope.kind = .function := by rw [hs]; exact S.kind
  have hx : env.kindOf x = some .local := by show env.scope.names.lookup x = _; rw [hs]; exact S.par
  have hL : env.kindOf ("len" : Str) = some .globalImplicit := by show env.scope.names.lookup _ = _; rw [hs]; exact hl
  obtain ⟨mb, h1, h2⟩ := KS.mod.blt
  obtain ⟨_, its, rs, tp⟩ := KS.hok a _ ha
  obtain ⟨v1, v2, rfl, r1, r2⟩ := vals2 rs
  obtain ⟨t, rfl⟩ := r1
  have sub : ∀ {p q r : Pos} {j : Nat} {Q : Value → Shared → Prop} {E : Value → Shared → Prop} {A : Around} (tk : Nat), (∀ tk', tk ≤ tk' → Q (.str z t) { s with toks := tk' }) → wpAny (model P w) A (eval (.Subscript (.Name x p) (.Constant (.int 0) j q) r) env) Q E { s with toks := tk } := by
    intro p q r j Q E A tk hQ
    refine Subscript_ (wpAny_Name (wpAny_loadName_local hk hx hn hm ?_) hd)
    refine wpAny_Constant_int ?_
    exact subscriptTail_builtinR (x := .str z t) (T := "tuple") (show (_ : Shared).TypeIs _ _ from tp.typeIs) slot_tuple_getitem.lookup
      (getItem_tuple (j := 0) (Q := fun r s' => r = .str z t ∧ Q r s') tp (by decide) (by decide) rfl rfl ⟨rfl, hQ _ (Nat.le_succ _)⟩) (by with_unfolding_all rfl)
  refine wpAny_Tuple_spliced ?_
  show wpAny _ _ (spliced ((false, eval (.Call (.Name "len" p1) [.Subscript (.Name x p2) (.Constant (.int 0) j p6) p7] [] p3) env) :: backTo p5 (starEach [.Subscript (.Name x p4) (.Constant (.int 0) k p8) p9] env))) _ _ _
  refine Calls.spliced_cons (wpAny_Call_Name_kw (Calls.Name_function_global hk hL (Calls.loadGlobal_builtin (by rw [hg]; exact KS.mod.glob.keeps KS.bk) ml (by rw [hb]; exact h1.keeps KS.bk) ((h2 "len" (by decide)).trans PySem.boot_len) ?_)))
  refine PyProof.Rows.callWith_builtin1 (e := .Subscript (.Name x p2) (.Constant (.int 0) j p6) p7) (rest := []) ?_ (by rfl) (by rfl)
  show wpAny _ _ (spliced ((false, eval (.Subscript (.Name x p2) (.Constant (.int 0) j p6) p7) env) :: backTo p3 (starEach [] env))) _ _ _
  refine Calls.spliced_cons (sub s.toks fun tk1 l1 => ?_)
  refine Calls.spliced_nil ?_
  refine PySem.P.len_str (by omega) ?_
  show wpAny _ _ (spliced ((false, eval (.Subscript (.Name x p4) (.Constant (.int 0) k p8) p9) env) :: backTo p5 (starEach [] env))) _ _ _
  refine Calls.spliced_cons (sub (tk1 + 1 + 1) fun tk2 l2 => ?_)
  refine Calls.spliced_nil ⟨by show 2 ≤ sizeLine; rw [sizeLine_eq]; decide, ?_⟩
  exact ⟨_, _, _, _, _, t, _, rfl, by show s.toks ≤ tk2; omega, fun b o e => Heap.get?_push_of_some _ e, rfl, Heap.get?_none_of_le (Nat.le_refl _), Heap.get?_push_size _ rfl, rfl, rfl⟩
end
end LK

set_option maxHeartbeats 1000000
/-! min, sorted by such keys -/
namespace LK
open PySem PySem.Spec PyProof.Rows L2 LamX NdefX
open PySem.W (KeyPure dataLt EachIs)
/-- the order by length, then by signs -/
def ky (z : Str) : List Nat := z.length :: z.cps.toList
def ltK (a b : Str) : Bool := decide (ky a < ky b)
def kd (z : Str) : PyData := .tuple [.int z.length, .str z]
theorem cons_lt (a b : Nat) (l r : List Nat) : decide (a :: l < b :: r) = (decide (a < b) || (decide (a = b) && decide (l < r))) := by
  by_cases h1 : a < b
  · have e : a :: l < b :: r := List.Lex.rel h1
    rw [decide_eq_true h1, decide_eq_true e, Bool.true_or]
  · by_cases h2 : a = b
    · subst h2
      rw [decide_eq_false h1, decide_eq_true rfl, Bool.false_or, Bool.true_and]
      by_cases h3 : l < r
      · have e : a :: l < a :: r := List.Lex.cons h3
        rw [decide_eq_true h3, decide_eq_true e]
      · rw [decide_eq_false h3, decide_eq_false]
        intro z
        cases z with
        | rel z => exact h1 z
        | cons z => exact h3 z
    · rw [decide_eq_false h1, decide_eq_false h2, Bool.false_or, Bool.false_and, decide_eq_false]
      intro z
      cases z with
      | rel z => exact h1 z
      | cons z => exact h2 rfl
theorem kd_lt (a b : Str) : dataLt (kd a) (kd b) = ltK a b := by
  unfold kd ltK ky
  rw [PySem.W.dataLt_tuple, cons_lt]
  have e1 : itemLt (.inl 1) (.inl 1) = false := by decide
  have e2 : ∀ x y : Nat, itemLt (.inl (x : Int)) (.inl (y : Int)) = decide (x < y) := fun x y => by
    show decide ((x : Int) < (y : Int)) = _
    exact decide_eq_decide.mpr Int.ofNat_lt
  have e3 : ∀ x y : List Nat, itemLt (.inr x) (.inr y) = decide (x < y) := fun _ _ => rfl
  have e0 : itemLt (.inl 0) (.inl 0) = false := by decide
  have e5 : PyProof.Rows.lexLt itemOrd ([] : List (Int ⊕ List Nat)) [] = false := rfl
  have step : ∀ (x y : Int ⊕ List Nat) (r t : List (Int ⊕ List Nat)), PyProof.Rows.lexLt itemOrd (x :: r) (y :: t) = (itemLt x y || (!itemLt y x && PyProof.Rows.lexLt itemOrd r t)) := fun x y r t => PyProof.Rows.lex_cons (O := itemOrd) x y r t
  simp only [PySem.W.keyToksAll, PySem.W.keyToks, List.cons_append, List.nil_append, step, e1, e2, e3, e0, e5, Bool.false_or, Bool.not_false, Bool.true_and]
  by_cases h : a.length < b.length
  · rw [decide_eq_true h, Bool.true_or, Bool.true_or]
  · rw [decide_eq_false h, Bool.false_or, Bool.false_or]
    by_cases h2 : b.length < a.length
    · rw [decide_eq_true h2, decide_eq_false (show ¬ a.length = b.length by omega)]
      rfl
    · rw [decide_eq_false h2, decide_eq_true (show a.length = b.length by omega)]
      simp only [Bool.not_false, Bool.true_and]
      cases decide (a.cps.toList < b.cps.toList) <;> cases decide (b.cps.toList < a.cps.toList) <;> rfl
theorem dataLe_kd (a b : Str) : PySem.W.dataLe false kd a b = !ltK b a := by
  show (!PyProof.Rows.lexLt itemOrd (PySem.W.keyToks (kd b)) (PySem.W.keyToks (kd a))) = _
  rw [← kd_lt]
  rfl
theorem ltK_irr (a : Str) : ltK a a = false := decide_eq_false (List.lt_irrefl _)
theorem ltK_trans {a b c : Str} (h1 : ltK a b = true) (h2 : ltK b c = true) : ltK a c = true := decide_eq_true (List.lt_trans (of_decide_eq_true h1) (of_decide_eq_true h2))
theorem kd_alike (a b : Str) : PySem.W.alike (kd a) (kd b) = true := rfl
theorem kd_reads {h : Heap} {p : Addr} {o : Obj} {z : Str} {t t' : Tok} {n : Nat} (e : h.get? p = some o) (c : o.cls = .type "tuple") (d : o.data = .seq #[.int z.length t, .str z t'] n) : Reads h (.ref p) (kd z) [] :=
  .tuple e c d (.cons (as := []) (bs := []) (.int _ _) (.cons (as := []) (bs := []) (.str _ _) .nil))
theorem kd_depth (z : Str) : (kd z).depth ≤ 8 := by
  unfold kd
  simp [PyData.depth, PyData.depthAll]
/-- the first of the least -/
theorem best_least {bt : Nat → Nat → Bool} (irr : ∀ i, bt i i = false) (tr : ∀ i j k, bt i j = true → bt j k = true → bt i k = true) : ∀ k, argBest bt k ≤ k ∧ ∀ j, j ≤ k → bt j (argBest bt k) = false
  | 0 => ⟨Nat.le_refl _, fun j h => by rw [Nat.le_zero.mp h]; exact irr 0⟩
  | k + 1 => by
    obtain ⟨i1, i2⟩ := best_least irr tr k
    unfold argBest
    by_cases c : bt (k + 1) (argBest bt k) = true
    · rw [if_pos c]
      refine ⟨Nat.le_refl _, fun j h => ?_⟩
      by_cases e : j = k + 1
      · rw [e]; exact irr _
      · have := i2 j (by omega)
        cases z : bt j (k + 1) with
        | false => rfl
        | true => rw [tr _ _ _ z c] at this; cases this
    · rw [if_neg c]
      refine ⟨by omega, fun j h => ?_⟩
      by_cases e : j = k + 1
      · rw [e]; exact Bool.not_eq_true _ ▸ c
      · exact i2 j (by omega)
section
variable {prog : Program} {w : World} {A : Around}
theorem in1_depth (A : Around) : A.in1.depth = A.depth := rfl
/-- what min asks of the key function -/
theorem key_run {P : Program} {w : World} {K : PySem.W.Frag} {mg : Str → Option Value} {base : Heap} {H : Hp} {A : Around} {q l : Addr} {items : List V} {zs : List Str} {s : Shared} {vs : Array Value} (KS : KeySt P w K mg base H s)
    (hd : A.depth < recursionLimit) (hu : A.units + 20 < cLine) (hv : Vals items vs.toList) (hl : items.length = zs.length) (hk : ∀ (i : Nat) (v : V) (z : Str), items[i]? = some v → zs[i]? = some z → KeyF P w K mg base H q v z)
    (s₂ : Shared) (e2 : s₂ = { s with heap := s.heap.push { cls := .type "list_iterator", data := .fields #[.ref l, .int 0 0] } }) (lt : l < s.heap.objs.size) :
    KeyRun P w A (.ref q) .Lt s₂.heap.objs.size [s.heap.objs.size] (fun a b => b = a) vs.size (fun i v => vs[i]? = some v) (fun i s' => s'.heap.IsListIter s.heap.objs.size l i ∧ s'.heap.IsList l vs)
      (fun s' => ∃ h' tk, s' = { s with heap := h', toks := tk } ∧ ∀ b o, s.heap.get? b = some o → h'.get? b = some o)
      (fun i k s' => ∃ (p : Addr) (o : Obj) (z : Str) (t t' : Tok) (n : Nat), k = .ref p ∧ p ≠ s₂.heap.objs.size ∧ p ≠ s.heap.objs.size ∧ zs[i]? = some z ∧ s'.heap.get? p = some o ∧ o.cls = .type "tuple" ∧ o.data = .seq #[.int z.length t, .str z t'] n)
      (fun i j => ltK ((zs[i]?).getD "") ((zs[j]?).getD "")) where
  keep := fun s1 s2 ⟨h', tk, e, kp⟩ m => by
    subst e
    obtain ⟨hh, g, d, tk2, os⟩ := s2
    obtain rfl : g = s.gens := m.gens
    obtain rfl : d = s.drawn := m.drawn
    obtain rfl : os = s.os := m.os
    refine ⟨hh, tk2, rfl, fun b o z => m.heap b o (fun hb => ?_) (kp b o z)⟩
    have hlt := Heap.lt_size z
    have e3 : s₂.heap.objs.size = s.heap.objs.size + 1 := by rw [e2]; exact Heap.size_push ..
    rcases List.mem_cons.mp hb with h | h
    · exact Nat.ne_of_lt (Nat.lt_succ_of_lt hlt) (h.trans e3)
    · exact Nat.ne_of_lt hlt (List.mem_singleton.mp h)
  keepV := fun i k s1 s2 ⟨p, o, z, t, t', n, ek, n1, n2, ez, eo, c, d⟩ m => ⟨p, o, z, t, t', n, ek, n1, n2, ez, m.heap p o (fun hb => by
    rcases List.mem_cons.mp hb with h | h
    · exact n1 h
    · exact n2 (List.mem_singleton.mp h)) eo, c, d⟩
  turn := fun i v s1 o Q E hi hP ⟨h', tk, e, kp⟩ st hS hQ => by
    subst e
    have hi' : i < items.length := by rw [hv.length, Array.length_toList]; exact hi
    have ei := List.getElem?_eq_getElem hi'
    have ez : zs[i]? = some (zs[i]'(by omega)) := List.getElem?_eq_getElem (by omega)
    obtain ⟨u, eu, ru⟩ := hv.get ei
    rw [Array.getElem?_toList, hP] at eu
    cases eu
    refine wpAny_mono (hk i _ _ ei ez A _ v hd (KS.kept kp) ru) (fun kx s'' hq => ?_) fun _ _ z => z.elim
    obtain ⟨h2, tk2, p, ob, t, t', n, rfl, _, k2, rfl, np, ep, c, d⟩ := hq
    obtain ⟨⟨oI, eI, rI⟩, ⟨oL, eL, rL⟩⟩ := st
    refine hQ _ _ ⟨h2, tk2, rfl, fun b o z => k2 b o (kp b o z)⟩ ⟨⟨oI, k2 _ _ eI, rI⟩, ⟨oL, k2 _ _ eL, rL⟩⟩ (k2 _ _ hS) ⟨p, ob, _, t, t', n, rfl, fun z => ?_, fun z => ?_, ez, ep, c, d⟩ fun j kj ⟨p', o', z', u, u', n', ek, n1, n2, ez', eo, c', d'⟩ => ⟨p', o', z', u, u', n', ek, n1, n2, ez', k2 _ _ eo, c', d'⟩
    · rw [z] at np
      exact absurd (hS.symm.trans np) (by simp)
    · rw [z] at np
      exact absurd (eI.symm.trans np) (by simp)
  cmp := fun i j ki kj s1 Q E hJ ⟨p, o, z, t, t', n, ek, _, _, ez, eo, c, d⟩ ⟨p2, o2, z2, u, u', n2, ek2, _, _, ez2, eo2, c2, d2⟩ hQ => by
    subst ek ek2
    rw [ez, ez2] at hQ
    refine PySem.W.rcLt_alike _ _ A s1 _ _ _ _ (kd_reads eo c d) (kd_reads eo2 c2 d2) (kd_alike _ _) (by unfold kd; exact fun z => nomatch z) ?_ P w E Q (by rw [kd_lt]; exact hQ)
    have := kd_depth z
    have := Nat.min_le_left (kd z).depth (kd z2).depth
    omega
end
end LK

set_option maxHeartbeats 1000000
/-! the rules: min(xs, key=f), min(xs, key=f, default=d), sorted(xs, key=f), max(xs, default=i) -/
namespace LK
open PySem PySem.Spec PyProof.Rows L2 LamX NdefX
open PySem.W (KeyPure dataLt EachIs)
/-- the items of xs with the texts zs by which they are told apart -/
def rMinK (P : Program) (w : World) (K : PySem.W.Frag) (mg : Str → Option Value) (base : Heap) : List V → List V → Hp → VK → Prop := fun xs ks H Q => ∃ (l q : Addr) (items : List V) (zs : List Str), xs = [.ref l] ∧ ks = [.ref q] ∧ SqL K H l items ∧ items.length = zs.length ∧ 0 < items.length ∧
  (∀ (i : Nat) (v : V) (z : Str), items[i]? = some v → zs[i]? = some z → KeyF P w K mg base H q v z) ∧ ∀ (i : Nat) (v : V) (z : Str), items[i]? = some v → zs[i]? = some z → (∀ z' ∈ zs, ltK z' z = false) → Q v H
def rMinKD (P : Program) (w : World) (K : PySem.W.Frag) (mg : Str → Option Value) (base : Heap) : List V → List V → Hp → VK → Prop := fun xs ks H Q => ∃ (l q : Addr) (d : V) (items : List V) (zs : List Str), xs = [.ref l] ∧ ks = [.ref q, d] ∧ SqL K H l items ∧ items.length = zs.length ∧
  (∀ (i : Nat) (v : V) (z : Str), items[i]? = some v → zs[i]? = some z → KeyF P w K mg base H q v z) ∧ (items = [] → Q d H) ∧ ∀ (i : Nat) (v : V) (z : Str), items[i]? = some v → zs[i]? = some z → (∀ z' ∈ zs, ltK z' z = false) → Q v H
section
variable {X : Cx} {k : Nat}
theorem best_zs {zs : List Str} {n : Nat} (hn : zs.length = n) (h0 : 0 < n) : ∃ z, zs[argBest (fun i j => ltK ((zs[i]?).getD "") ((zs[j]?).getD "")) (n - 1)]? = some z ∧ ∀ z' ∈ zs, ltK z' z = false := by
  obtain ⟨h1, h2⟩ := best_least (bt := fun i j => ltK ((zs[i]?).getD "") ((zs[j]?).getD "")) (fun i => ltK_irr _) (fun i j k a b => ltK_trans a b) (n - 1)
  have hlt : argBest (fun i j => ltK ((zs[i]?).getD "") ((zs[j]?).getD "")) (n - 1) < zs.length := by omega
  refine ⟨_, List.getElem?_eq_getElem hlt, fun z' hz => ?_⟩
  obtain ⟨j, hj⟩ := List.mem_iff_getElem?.mp hz
  have hjl := (List.getElem?_eq_some_iff.mp hj).1
  have h3 := h2 j (by omega)
  simp only [hj, List.getElem?_eq_getElem hlt, Option.getD_some] at h3
  exact h3
theorem kept_inv {pins : List (Addr × Obj)} {σ : L2.St} {H : Hp} {s : Shared} {h' : Heap} {tk : Nat} (I : Inv X pins σ H s) (kp : ∀ b o, s.heap.get? b = some o → h'.get? b = some o) : Inv X pins σ H { s with heap := h', toks := tk } := I.kept kp
theorem cr_minK (hr : Room k X.A) : CallRK X (.builtin "min") [Str.ofString "key"] (rMinK X.prog X.w X.K X.mg X.base) := by
  intro pins s σ H xs ks us ws Q I rx rk h
  obtain ⟨l, q, items, zs, rfl, rfl, hs, hl, h0, hk, hq⟩ := h
  obtain rfl := Vals.ref1 rx
  obtain ⟨w1, rfl, e1⟩ := vals1 rk
  obtain rfl : w1 = Value.ref q := e1
  obtain ⟨its, rv, pl, hz⟩ := I.list hs
  have hv : Vals items its.toArray.toList := rv
  have isz : its.toArray.size = items.length := by rw [List.size_toArray]; exact rv.length.symm
  refine call_min_walkK (PySem.W.iter_listW (A := X.A.in1) hr.hd pl.isList fun s₂ e W st hfp hw hkp => ?_)
  have lt : l < s.heap.objs.size := by
    obtain ⟨_, e, _⟩ := pl.isList
    exact Heap.lt_size e
  have KR := key_run (A := X.A.in1) (l := l) (KeySt.of I) (show X.A.depth < recursionLimit from hr.depth) (by have := hr.un; show X.A.units + 1 + 20 < cLine; omega) hv hl hk s₂ e lt
  refine ⟨_, _, _, _, _, _, _, _, _, _, rfl, W, st, hfp, by omega, KR, ⟨s₂.heap, s₂.toks, by rw [e], fun b o z => hkp b o z⟩, fun v s' hP hJ => ?_⟩
  obtain ⟨h', tk, rfl, kp⟩ := hJ
  obtain ⟨z, ez, hz'⟩ := best_zs (n := its.toArray.size) (zs := zs) (by omega) (by omega)
  have hP : its.toArray[argBest (fun i j => ltK ((zs[i]?).getD "") ((zs[j]?).getD "")) (its.toArray.size - 1)]? = some v := hP
  have hlt := (List.getElem?_eq_some_iff.mp ez).1
  have hlt2 : argBest (fun i j => ltK ((zs[i]?).getD "") ((zs[j]?).getD "")) (its.toArray.size - 1) < items.length := by omega
  obtain ⟨u, eu, ru⟩ := rv.get (List.getElem?_eq_getElem hlt2)
  rw [List.getElem?_toArray] at hP
  rw [hP] at eu
  cases eu
  exact ⟨_, H, kept_inv I kp, ru, hq _ _ z (List.getElem?_eq_getElem hlt2) ez hz'⟩
theorem cr_minKD (hr : Room k X.A) : CallRK X (.builtin "min") [Str.ofString "key", Str.ofString "default"] (rMinKD X.prog X.w X.K X.mg X.base) := by
  intro pins s σ H xs ks us ws Q I rx rk h
  obtain ⟨l, q, d, items, zs, rfl, rfl, hs, hl, hk, h0, hq⟩ := h
  obtain rfl := Vals.ref1 rx
  obtain ⟨w1, w2, rfl, e1, e2⟩ := vals2 rk
  obtain rfl : w1 = Value.ref q := e1
  obtain ⟨its, rv, pl, hz⟩ := I.list hs
  have hv : Vals items its.toArray.toList := rv
  have isz : its.toArray.size = items.length := by rw [List.size_toArray]; exact rv.length.symm
  refine call_min_walkKD (PySem.W.iter_listW (A := X.A.in1) hr.hd pl.isList fun s₂ e W st hfp hw hkp => ?_)
  have lt : l < s.heap.objs.size := by
    obtain ⟨_, e, _⟩ := pl.isList
    exact Heap.lt_size e
  have KR := key_run (A := X.A.in1) (l := l) (KeySt.of I) (show X.A.depth < recursionLimit from hr.depth) (by have := hr.un; show X.A.units + 1 + 20 < cLine; omega) hv hl hk s₂ e lt
  refine ⟨_, _, _, _, _, _, _, _, _, _, rfl, W, st, hfp, KR, ⟨s₂.heap, s₂.toks, by rw [e], fun b o z => hkp b o z⟩, fun hn s' hJ => ?_, fun hn v s' hP hJ => ?_⟩
  · obtain ⟨h', tk, rfl, kp⟩ := hJ
    exact ⟨d, H, kept_inv I kp, e2, h0 (List.eq_nil_of_length_eq_zero (by omega))⟩
  obtain ⟨h', tk, rfl, kp⟩ := hJ
  obtain ⟨z, ez, hz'⟩ := best_zs (n := its.toArray.size) (zs := zs) (by omega) (by omega)
  have hP : its.toArray[argBest (fun i j => ltK ((zs[i]?).getD "") ((zs[j]?).getD "")) (its.toArray.size - 1)]? = some v := hP
  have hlt := (List.getElem?_eq_some_iff.mp ez).1
  have hlt2 : argBest (fun i j => ltK ((zs[i]?).getD "") ((zs[j]?).getD "")) (its.toArray.size - 1) < items.length := by omega
  obtain ⟨u, eu, ru⟩ := rv.get (List.getElem?_eq_getElem hlt2)
  rw [List.getElem?_toArray] at hP
  rw [hP] at eu
  cases eu
  exact ⟨_, H, kept_inv I kp, ru, hq _ _ z (List.getElem?_eq_getElem hlt2) ez hz'⟩
/-- sorted(xs, key=f), xs texts -/
def rSortK (P : Program) (w : World) (K : PySem.W.Frag) (mg : Str → Option Value) (base : Heap) : List V → List V → Hp → VK → Prop := fun xs ks H Q => ∃ (l q : Addr) (zs : List Str), xs = [.ref l] ∧ ks = [.ref q] ∧ SqL K H l (zs.map V.str) ∧
  (∀ z ∈ zs, KeyF P w K mg base H q (.str z) z) ∧ ∀ (p : Addr) (ys : List Str), H p = none → ys.Perm zs → ys.Pairwise (fun a b => ltK b a = false) → Q (.ref p) (upd H p (.lst (ys.map V.str)))
theorem each_strs : ∀ {zs : List Str} {us : List Value}, Vals (zs.map V.str) us → EachIs (fun (v : Value) (z : Str) => RelV (.str z) v) us zs
  | [], _, h => by
    cases h
    exact .nil
  | z :: zs, _, h => by
    cases h with
    | cons r t => exact .cons r (each_strs t)
theorem strs_each : ∀ {zs : List Str} {us : List Value}, EachIs (fun (v : Value) (z : Str) => RelV (.str z) v) us zs → Vals (zs.map V.str) us
  | _, _, .nil => .nil
  | _, _, .cons r t => .cons r (strs_each t)
theorem cr_sortK (hr : Room k X.A) : CallRK X (.builtin "sorted") [Str.ofString "key"] (rSortK X.prog X.w X.K X.mg X.base) := by
  intro pins s σ H xs ks us ws Q I rx rk h
  obtain ⟨l, q, zs, rfl, rfl, hs, hk, hq⟩ := h
  obtain rfl := Vals.ref1 rx
  obtain ⟨w1, rfl, e1⟩ := vals1 rk
  obtain rfl : w1 = Value.ref q := e1
  obtain ⟨its, rv, pl, hz⟩ := I.list hs
  have hu := hr.un
  refine PySem.W.sorted_key_data (β := Str) (b := false) (R := fun v z => RelV (.str z) v) (f := .ref q) (kw := [(Str.ofString "key", .ref q)]) (bs := zs) kd pl.isList (each_strs rv) (fun a ha b hb => ?_) (.inl fun d hd => ?_) (by rw [List.length_map] at hz; exact hz) (fun z hz => ?_) (PyProof.Rows.ksk_s1 _ _) (fun _ => PyProof.Rows.ksk_l1 _ _) (fun x => PyProof.Rows.ksk_t1 _ _) (fun v z rz mz h tk kp => ?_) fun out c h' tk kp nf hD lo eo => ?_
  · obtain ⟨x, _, rfl⟩ := List.mem_map.mp ha
    obtain ⟨y, _, rfl⟩ := List.mem_map.mp hb
    exact kd_alike x y
  · obtain ⟨x, _, rfl⟩ := List.mem_map.mp hd
    exact ⟨_, _, rfl⟩
  · have := kd_depth z
    omega
  · refine wpAny_mono (hk z mz X.A.in1.in1 _ v hr.depth ((KeySt.of I).kept kp) rz) (fun kx s'' hq => ?_) fun _ _ z => z
    obtain ⟨h2, tk2, p, ob, t, t', n, rfl, _, k2, rfl, np, ep, c, d⟩ := hq
    exact ⟨h2, tk2, rfl, k2, kd_reads ep c d⟩
  · have I1 : Inv X pins σ (upd H (s.heap.objs.size + 1) (.lst ((zs.mergeSort (PySem.W.dataLe false kd)).map V.str))) { s with heap := h', toks := tk } := I.laid kp (Nat.le_succ _) ⟨by
      rw [List.length_map, (List.mergeSort_perm _ _).length_eq]
      rw [List.length_map] at hz
      exact hz, out, c, strs_each eo, hD⟩
    refine ⟨.ref _, _, I1, rfl, hq _ _ (I.hok.fresh (Nat.le_succ _)) (List.mergeSort_perm _ _) ?_⟩
    have tr : ∀ a b c : Str, PySem.W.dataLe false kd a b = true → PySem.W.dataLe false kd b c = true → PySem.W.dataLe false kd a c = true := (PySem.W.sortLe_total _ _ _).trans
    have to : ∀ a b : Str, (PySem.W.dataLe false kd a b || PySem.W.dataLe false kd b a) = true := fun a b => Bool.or_eq_true .. ▸ (PySem.W.sortLe_total _ _ _).total a b
    refine (List.pairwise_mergeSort tr to zs).imp fun {a b} h => ?_
    rw [dataLe_kd] at h
    cases z : ltK b a with
    | false => rfl
    | true => rw [z] at h; cases h
/-- max(xs, default=i), xs whole numbers: one of them, or i -/
def rMaxD (K : PySem.W.Frag) : List V → List V → Hp → VK → Prop := fun xs ks H Q => ∃ (l : Addr) (ns : List Int) (i : Int), xs = [.ref l] ∧ ks = [.int i] ∧ SqL K H l (ns.map V.int) ∧ ∀ m : Int, Q (.int m) H
theorem reads_ints {h : Heap} : ∀ {ns : List Int} {us : List Value}, Vals (ns.map V.int) us → ReadsAll h us (ns.map PyData.int) []
  | [], _, r => by
    cases r
    exact .nil
  | n :: ns, _, r => by
    cases r with
    | cons r t =>
      obtain ⟨tk, rfl⟩ := r
      exact .cons (as := []) (bs := []) (.int _ _) (reads_ints t)
theorem depth_ints : ∀ ns : List Int, PyData.depthAll (ns.map PyData.int) ≤ 4
  | [] => by simp [PyData.depthAll]
  | n :: ns => by
    have := depth_ints ns
    simp only [List.map_cons, PyData.depthAll, PyData.depth]
    omega
theorem cr_maxD (hr : Room k X.A) : CallRK X (.builtin "max") [Str.ofString "default"] (rMaxD X.K) := by
  intro pins s σ H xs ks us ws Q I rx rk h
  obtain ⟨l, ns, i, rfl, rfl, hs, hq⟩ := h
  obtain rfl := Vals.ref1 rx
  obtain ⟨w1, rfl, e1⟩ := vals1 rk
  obtain ⟨its, rv, pl, hz⟩ := I.list hs
  have hu := hr.un
  have hd := depth_ints ns
  refine PySem.W.max_list_default (xs := ns.map PyData.int) (as := []) hr.hd pl.isList (reads_ints (us := its.toArray.toList) rv) ⟨fun a ha b hb => ?_, fun a ha => ?_⟩ (by omega) (fun _ h' tk kp => ⟨.int i, H, kept_inv I kp, e1, hq i⟩) fun y ys j v h' tk bs _ hv _ kp => ?_
  · obtain ⟨x, _, rfl⟩ := List.mem_map.mp ha
    obtain ⟨y, _, rfl⟩ := List.mem_map.mp hb
    rfl
  · obtain ⟨x, _, rfl⟩ := List.mem_map.mp ha
    exact fun z => nomatch z
  · rw [List.getElem?_toArray] at hv
    have hj : j < (ns.map V.int).length := by
      rw [rv.length]
      exact (List.getElem?_eq_some_iff.mp hv).1
    obtain ⟨u, eu, ru⟩ := rv.get (List.getElem?_eq_getElem hj)
    rw [hv] at eu
    cases eu
    rw [List.getElem_map] at ru
    exact ⟨_, H, kept_inv I kp, ru, hq _⟩
end
end LK

set_option maxHeartbeats 1000000
/-! a lambda with parameters and captured names, handed to a def that calls it -/
namespace LK
open PySem PySem.Spec PyProof.Rows L2 LamX NdefX
abbrev LF.nf (F : LF) : NF := ⟨"<lambda>", F.qual, F.params, [], F.scope, F.cl, F.c⟩
/-- the promise of the lambda F at f: sp ws, ws what its captured cells hold at the call -/
def LOk (P : Program) (w : World) (K : PySem.W.Frag) (mg : Str → Option Value) (base : Heap) (CX : CXT) (k : Nat) (f : Addr) (F : LF) (fr : List Str) (sp : List (Option V) → Sp) : Prop :=
  ∀ (A : Around) (outer : List Env) (s : Shared) (H : Hp) (us : List Value) (vs : List V) (ws : List (Option V)) (Q : VK) (E : XK), Room k A → Env0 P w K mg base A outer s H → H f = some (LaO f F) → H F.c = some (CodeO F.c F.qual) →
    CellsAt F.cl fr ws s.heap H → Vals vs us → sp ws vs H Q E → codeAny (model P w) A (.call (.ref f) ⟨us, []⟩) (CR CX outer P w H s Q E) s
/-- by its body -/
theorem lok_of {CX : CXT} {P : Program} {w : World} {K : PySem.W.Frag} {mg : Str → Option Value} {base : Heap} {N ps fr : List Str} {F : LF} {f : Addr} {k : Nat} {sp : List (Option V) → Sp}
    (S : NScope N ps fr F.scope) (hb : ∀ (pm ctv : Value) (us : List Value), us.length = ps.length → bindArgs (F.fd pm ctv) ⟨us, []⟩ = pure (ps.zip us)) (len : ∀ ws vs H Q E, sp ws vs H Q E → vs.length = ps.length)
    (hbody : ∀ (A : Around) (outer : List Env) (s : Shared) (H : Hp) (vs : List V) (ws : List (Option V)) (Q : VK) (E : XK), Room k (A.deeper (envF F.nf f s.heap.objs.size)) → H f = some (LaO f F) → H F.c = some (CodeO F.c F.qual) → ws.length = fr.length → sp ws vs H Q E →
      ∃ t, PE (ncx CX P w K mg base N F.nf f A outer s H E) F.body t ∧ t (startF N vs ws) H Q) :
    LOk P w K mg base CX (k + 1) f F fr sp := by
  intro A outer s H us vs ws Q E hr e0 hf hc C r hsp
  have hl := len _ _ _ _ _ hsp
  have lim : s.heap.NoLimit := e0.mod.nolimit.keeps fun b o e => (e0.bs b o e).1
  obtain ⟨od, sl, pm, ctv, ho⟩ := laO_at e0.hok hf
  refine PySem.W.kla_callFunE hr.depth ho rfl S.co S.gen rfl (codeO_at e0.hok hc) ?_
  rw [hb pm ctv us (by rw [← r.length]; exact hl)]
  refine wpAny_pure (wpAny_newFunctionEnv S.nocell (fun ⟨n, _⟩ hy => S.par n (List.of_mem_zip hy).1) (fun h₁ hns hsb => ⟨lim.fresh _ hsb, ?_⟩) S.kind)
  have kp : ∀ b o, s.heap.get? b = some o → h₁.get? b = some o := fun b o e => hsb.extBut b o (Nat.ne_of_lt (Heap.lt_size e)) (Heap.get?_push_of_some _ e)
  obtain ⟨t, ht, hq⟩ := hbody A outer s H vs ws Q E (hr.deeper _) hf hc C.len hsp
  have I : Inv (ncx CX P w K mg base N F.nf f A outer s H E) [] (startF N vs ws) H { s with heap := h₁, toks := s.toks + (ps.zip us).length } := inv_startN (F := F.nf) S hr.hd e0 hl r C hns kp
  refine PySem.W.kla_codeExpr (wpAny_mono (ht.run [] _ (startF N vs ws) H Q I hq) (fun u s' hs => ?_) fun e s' hs => hs)
  obtain ⟨v, H', J, rv, q⟩ := hs
  exact ⟨v, H', J.os, J.bare, J.base, J.hok, rv, q⟩
theorem laAt_of {X : Cx} {pins : List (Addr × Obj)} {σ : L2.St} {H : Hp} {s : Shared} {f : Addr} {F : LF} (I : Inv X pins σ H s) (e : H f = some (LaO f F)) : PySem.W.FnAt f s.heap := by
  obtain ⟨od, sl, pm, ctv, ho⟩ := laO_at I.hok e
  exact ⟨_, od, _, sl, ho⟩
/-- f(e, ..), f a name that holds a lambda made by mk, which captured the cells cl ahead of this def's entry -/
def tCallL (F : LF) (f : Addr) (i : Nat) (sp : Sp) (E : XK) (t : TA) : TE := fun σ H Q => σ[i]? = some (some (.ref f)) ∧ H f = some (LaO f F) ∧
  t σ H fun vs H1 => H1 f = some (LaO f F) ∧ H1 F.c = some (CodeO F.c F.qual) ∧ sp vs H1 Q E
theorem pe_callL {X : Cx} {CX : CXT} {F : LF} {f : Addr} {fr : List Str} {ws : List (Option V)} {i j k : Nat} {x : Str} {sp : List (Option V) → Sp} {E : XK} {t : TA} {e : Expr} {es : List Expr} {p pos : Pos}
    (Fn : LOk X.prog X.w X.K X.mg X.base CX k f F fr sp) (C : CellsAt F.cl fr ws X.s_0.heap X.H_0) (nf : ∀ y c, F.cl.lookup y = some c → c ∉ X.fs) (hx0 : ∀ y c, F.cl.lookup y = some c → c ∉ X.ex) (hr : Room j X.A) (hk : k ≤ j) (hx : Passes CX X E) (hN : X.N[i]? = some x) (hv : Vis X.env.scope x) (ha : PA X (e :: es) t)
    (hd : (x == ("__debug__" : Str)) = false := by decide) (hcd : (x == ("__classdict__" : Str)) = false := by decide)
    (he : starEach (e :: es) X.env = (false, eval e X.env) :: starEach es X.env := by rfl) (hpl : (backTo pos (starEach es X.env)).any (·.1) = false := by rfl) :
    PE X (.Call (.Name x p) (e :: es) [] pos) (tCallL F f i (sp ws) E t) := by
  refine ⟨fun pins s σ H Q I h => ?_⟩
  obtain ⟨hs, hf, ht⟩ := h
  refine wpAny_Call_Name_kw (thn ((pe_var (pos := p) hN hv hd hcd).run pins s σ H (fun v H1 => v = .ref f ∧ H1 = H) I ⟨.ref f, hs, rfl, rfl⟩) fun u s1 ⟨v, H1, I1, r1, q1⟩ => ?_)
  obtain ⟨ev, eH⟩ := q1
  subst ev
  rw [eH] at I1
  obtain rfl : u = Value.ref f := r1
  refine PySem.W.callWith_F (first := []) (laAt_of I1 hf) (thn (ha.run pos pins s1 σ H _ I1 ht) fun us s2 ⟨vs, H2, I2, r, h1, h2, q⟩ => ⟨laAt_of I2 h1, ?_⟩) he hpl
  show wpAny _ _ (call (.ref f) us) _ _ _
  refine wpAny_call (codeAny_mono (Fn X.A X.stack s2 H2 us vs ws Q E (hr.mono hk) I2.env0 h1 h2 (C.later nf hx0 I2) r q) fun r s' hq => ?_)
  cases r with
  | error e => exact hx pins σ H2 s2 e s' I2 hq
  | ok fl =>
    cases fl with
    | ret u => exact I2.after hq
    | next => exact False.elim hq
    | brk => exact False.elim hq
    | cont => exact False.elim hq
/-- cells made at the entry are no frames -/
theorem cells_nofr {X : Cx} {pins : List (Addr × Obj)} {σ : L2.St} {H : Hp} {s : Shared} (I : Inv X pins σ H s) (hfn : ∀ y, X.fn y = true) {y : Str} {c : Addr} (e : X.env.cells.lookup y = some c) : c ∉ frs X.stack := by
  intro hb
  rcases List.mem_cons.mp (I.stkSub _ hb) with h | h
  · exact I.cne y c e h
  · obtain ⟨_, o, ho, _⟩ := I.ok.funs.mem h
    exact Nat.lt_irrefl _ (Nat.lt_of_lt_of_le (Heap.lt_size ho) (I.ok.cab y c (hfn y) e))
/-- a def that gets a lambda: run with what the lambda's cells hold -/
def FnC (P : Program) (w : World) (K : PySem.W.Frag) (mg : Str → Option Value) (base : Heap) (CX : CXT) (k : Nat) (g : Addr) (cl : List (Str × Addr)) (fr : List Str) (sp : List (Option V) → Sp) : Prop :=
  ∀ (A : Around) (outer : List Env) (s : Shared) (H : Hp) (us : List Value) (vs : List V) (ws : List (Option V)) (Q : VK) (E : XK), Room k A → Env0 P w K mg base A outer s H → CellsAt cl fr ws s.heap H → (∀ y c, cl.lookup y = some c → c ∉ frs outer) → Vals vs us → sp ws vs H Q E →
    codeAny (model P w) A (.call (.ref g) ⟨us, []⟩) (CR CX outer P w H s Q E) s
/-- g(e, ..), one of whose arguments is a lambda that captures names of this def -/
def tCallC (js : List Nat) (sp : List (Option V) → Sp) (E : XK) (t : TA) : TE := fun σ H Q => t σ H fun vs H1 => sp (js.map (slotAt σ)) vs H1 Q E
theorem pe_callC {X : Cx} {CX : CXT} {k j : Nat} {g : Addr} {cl : List (Str × Addr)} {fr : List Str} {js : List Nat} {sp : List (Option V) → Sp} {E : XK} {x : Str} {p pos : Pos} {e : Expr} {es : List Expr} {t : TA}
    (F : FnC X.prog X.w X.K X.mg X.base CX k g cl fr sp) (cp : X.Ok → Caps X cl fr js) (hr : Room j X.A) (hkj : k ≤ j) (hg : Gl X x) (hm : X.mg x = some (.ref g)) (hk : PySem.W.keepIn X.K (.ref g) = true) (hx : Passes CX X E) (ha : PA X (e :: es) t) (hfn : ∀ y, X.fn y = true := by intro _; rfl)
    (hdb : (x == ("__debug__" : Str)) = false := by decide) (he : starEach (e :: es) X.env = (false, eval e X.env) :: starEach es X.env := by rfl) (hpl : (backTo pos (starEach es X.env)).any (·.1) = false := by rfl) :
    PE X (.Call (.Name x p) (e :: es) [] pos) (tCallC js sp E t) := by
  refine ⟨fun pins s σ H Q I h => ?_⟩
  refine wpAny_Call_Name_kw (ld_glob I hg hm ?_ hdb)
  refine PySem.W.callWith_K (h₀ := X.base) I.ok.mod.kin hk (thn (ha.run pos pins s σ H _ I h) fun us s1 ⟨vs, H1, I1, r, q⟩ => ⟨I1.kIn, ?_⟩) he hpl
  refine wpAny_call (codeAny_mono (F X.A X.stack s1 H1 us vs _ Q E (hr.mono hkj) I1.env0 (cells_of I1 (cp I1.ok)) (fun y c e => cells_nofr I1 hfn ((cp I1.ok).sub y c e)) r q) fun r s' hq => ?_)
  cases r with
  | error e => exact hx pins σ H1 s1 e s' I1 hq
  | ok fl =>
    cases fl with
    | ret u => exact I1.after hq
    | next => exact False.elim hq
    | brk => exact False.elim hq
    | cont => exact False.elim hq
end LK

set_option maxHeartbeats 4000000
/-! sorted(set(xs)), xs a list of texts -/
namespace LK
open PySem PySem.Spec PyProof.Rows L2 PySem.Froz
/-! ### the payload -/
section
variable {P : Program} {w : World} {A : Around} {E : Value → Shared → Prop} {s : Shared}
theorem addTx_ris (h : Int) (v : Value) (D : SD) (r : Ris D.2.2.place.toList) : Ris (addTx h v D).2.2.place.toList ∧ (addTx h v D).2.2.led = D.2.2.led := by
  have r1 := layNew_ris D.2.2 D.1 h v r
  have l1 := layNew_led D.2.2 D.1 h v
  have pl : ∀ t : SetTable, (if t.plain = true then { t with plain := false } else t).place = t.place ∧ (if t.plain = true then { t with plain := false } else t).led = t.led := fun t => by split <;> exact ⟨rfl, rfl⟩
  obtain ⟨p1, p2⟩ := pl (layNew D.2.2 D.1 h v).2.1
  unfold addTx tailTx
  by_cases c : (!(layNew D.2.2 D.1 h v).2.2.1 && (if (layNew D.2.2 D.1 h v).2.1.plain = true then { (layNew D.2.2 D.1 h v).2.1 with plain := false } else (layNew D.2.2 D.1 h v).2.1).tooFull) = true
  · rw [if_pos c]
    exact ⟨relayAll_ris _ _ _, (relayAll_led _ _ _).trans (p2.trans l1)⟩
  · rw [if_neg c]
    exact ⟨by show Ris (Array.toList (SetTable.place _)); rw [p1]; exact r1, p2.trans l1⟩
/-- a set of just the texts l -/
def TSet (P : Program) (w : World) (h : Heap) (a : Addr) (l : List Str) : Prop :=
  ∃ D : SD, h.get? a = some (sObj "set" D) ∧ TxOk P w D l ∧ l.Nodup ∧ Ris D.2.2.place.toList ∧ (w.params.followText "set-order" = true ∨ D.2.2.led = true)
theorem TSet.at {h h' : Heap} {a : Addr} {l : List Str} (t : TSet P w h a l) (k : ∀ o, h.get? a = some o → h'.get? a = some o) : TSet P w h' a l := by
  obtain ⟨D, ho, r⟩ := t
  exact ⟨D, k _ ho, r⟩
/-- a text that is there already -/
theorem again_x {a : Addr} {D : SD} {l : List Str} {k : Str} {u : Tok} {Q : Bool → Shared → Prop} (ho : s.heap.get? a = some (sObj "set" D)) (F : TxOk P w D l) (hk : k ∈ l) (hb : l.length < scanBound) (q : Q false s) :
    wpAny (model P w) A (setAddHashed a (.str k u) (hashStr w k)) Q E s := by
  obtain ⟨e, he, hp⟩ := (F.mem k).mp hk
  have few : D.1.size < scanBound := F.sz ▸ hb
  obtain ⟨j, hj⟩ : ∃ j, List.findIdx? (fun e => (PySem.strKind P w).is k e.2) D.1.toList = some j := by
    cases c : List.findIdx? (fun e => (PySem.strKind P w).is k e.2) D.1.toList with
    | some j => exact ⟨j, rfl⟩
    | none =>
      have z := List.findIdx?_eq_none_iff.mp c e he
      rw [hp] at z
      cases z
  unfold setAddHashed setAddHashedIn
  refine wpAny_holding ?_
  refine wpAny_bind (wpAny_setState_of ho (es := D.1) (ep := D.2.1) (t := D.2.2) rfl F.fit ?_)
  dsimp only
  rw [byScan_of (knd := PySem.strKind P w) rfl few F.el, if_pos rfl]
  unfold setAddByScan
  refine wpAny_bind (wpAny_bind (wpAny_rule (wpAny_bind (wpAny_setScan_of (is_str k u) ho (es := D.1) (ep := D.2.1) (t := D.2.2) rfl F.fit F.el ?_))))
  rw [hj]
  exact wpAny_pure (wpAny_pure q)
theorem tset_add {a : Addr} {l : List Str} {k : Str} {u : Tok} {Q : Bool → Shared → Prop} (t : TSet P w s.heap a l) (hb : l.length + 1 < scanBound)
    (q : ∀ (h' : Heap) (b : Bool), (∀ c o, c ≠ a → s.heap.get? c = some o → h'.get? c = some o) → TSet P w h' a (if k ∈ l then l else k :: l) → Q b { s with heap := h' }) :
    wpAny (model P w) A (setAddHashed a (.str k u) (hashStr w k)) Q E s := by
  obtain ⟨D, ho, F, nd, r, ld⟩ := t
  by_cases hk : k ∈ l
  · rw [if_pos hk] at q
    exact again_x ho F hk (by omega) (q s.heap false (fun _ _ _ e => e) ⟨D, ho, F, nd, r, ld⟩)
  · rw [if_neg hk] at q
    refine add_x ho F hk hb (q _ true (fun c o n e => ?_) ?_)
    · rw [Heap.get?_update_other _ _ (Ne.symm n)]
      exact e
    · obtain ⟨r1, r2⟩ := addTx_ris (hashStr w k) (.str k u) D r
      exact ⟨_, get_upd _ ho rfl, add_ok u F, List.nodup_cons.mpr ⟨hk, nd⟩, r1, ld.imp id fun z => r2.trans z⟩
/-! ### set(xs) -/
/-- the members met in xs -/
def metL (zs : List Str) : List Str → List Str
  | l => zs.foldl (fun l z => if z ∈ l then l else z :: l) l
theorem metL_mem (zs : List Str) : ∀ (l : List Str) (k : Str), k ∈ metL zs l ↔ k ∈ l ∨ k ∈ zs := by
  induction zs with
  | nil => exact fun l k => ⟨.inl, fun h => h.elim id fun z => nomatch z⟩
  | cons c r ih =>
    intro l k
    refine (ih (if c ∈ l then l else c :: l) k).trans ?_
    have z : k ∈ (if c ∈ l then l else c :: l) ↔ k ∈ l ∨ k = c := by
      split
      · rename_i h
        exact ⟨.inl, fun q => q.elim id fun e => e ▸ h⟩
      · rw [List.mem_cons]
        exact Or.comm
    rw [z, List.mem_cons, or_assoc]
theorem metL_nodup (zs : List Str) : ∀ (l : List Str), l.Nodup → (metL zs l).Nodup := by
  induction zs with
  | nil => exact fun l h => h
  | cons c r ih =>
    intro l h
    refine ih (if c ∈ l then l else c :: l) ?_
    split
    · exact h
    · rename_i n
      exact List.nodup_cons.mpr ⟨n, h⟩
theorem strs_atL : ∀ {its : List Value} {zs : List Str}, StrsAre its zs → ∀ (i : Nat) (v : Value), its[i]? = some v → ∃ z t, zs[i]? = some z ∧ v = .str z t
  | _, _, .nil, i, v, h => by simp at h
  | _, _, .cons n t hr, 0, v, h => by
    simp at h
    exact ⟨n, t, rfl, h.symm⟩
  | _, _, .cons n t hr, i + 1, v, h => by
    simp only [List.getElem?_cons_succ] at h
    obtain ⟨z, t', e1, e2⟩ := strs_atL hr i v h
    exact ⟨z, t', by simpa using e1, e2⟩
/-- the items from the i-th on, one by one -/
theorem list_in {I S : Addr} {fp wr : List Addr} {n : Nat} {PV : Nat → Value → Prop} {St : Nat → Heap → Prop} {R : Result → Shared → Prop} {zs : List Str} (W : Walks P w A.in1 I fp wr n PV St) (hS : S ∉ fp) (hz : zs.length = n) (hn : n + 1 < scanBound)
    (hval : ∀ i v, PV i v → ∃ z t, zs[i]? = some z ∧ v = .str z t) :
    ∀ (cs : List Str) (i : Nat) (l : List Str) (s : Shared), zs.drop i = cs → i ≤ n → St i s.heap → TSet P w s.heap S l → l.length ≤ i →
      (∀ s' : Shared, s'.gens = s.gens → s'.drawn = s.drawn → s'.os = s.os → (∀ b o, b ≠ S → b ∉ wr → s.heap.get? b = some o → s'.heap.get? b = some o) → TSet P w s'.heap S (metL cs l) → R (.ok (.ret .none)) s') →
      codeAny (model P w) A (.builtin "set.update.loop" ⟨[.ref S, .ref I], []⟩) R s := by
  have off : S ∉ wr := fun m => hS (W.sub _ m)
  have WS := W.toS
  intro cs
  induction cs with
  | nil =>
    intro i l s hd hi hst hT _ hR
    have e : i = n := by
      have q := congrArg List.length hd
      rw [List.length_drop] at q
      simp only [List.length_nil] at q
      omega
    subst e
    refine codeAny_builtin PyProof.Rows.F.entry_set_update_loop ?_
    rw [Around.under_plainId PyProof.Rows.F.plain_set_update_loop _]
    show wpAny _ A.in1 (pyNext (.ref I) >>= _) _ _ _
    refine wpAny_bind (WS.done _ _ _ hst fun s' m => ?_)
    exact wpAny_pure (hR s' m.gens m.drawn m.os (fun b o _ nw e => m.heap b o nw e) (hT.at fun o e => m.heap S o off e))
  | cons c r ih =>
    intro i l s hd hi hst hT hl hR
    have hlt : i < n := by
      have q := congrArg List.length hd
      rw [List.length_drop, List.length_cons] at q
      omega
    have hc : zs[i]? = some c := by
      have q := congrArg (·[0]?) hd
      simpa using q
    have hd2 : zs.drop (i + 1) = r := by
      have q := congrArg (List.drop 1) hd
      simpa using q
    refine codeAny_builtin PyProof.Rows.F.entry_set_update_loop ?_
    rw [Around.under_plainId PyProof.Rows.F.plain_set_update_loop _]
    show wpAny _ A.in1 (pyNext (.ref I) >>= _) _ _ _
    refine wpAny_bind (WS.item i _ _ _ hlt hst fun v s1 hv hst1 m => ?_)
    obtain ⟨c', u, hc', rfl⟩ := hval i v hv
    rw [hc] at hc'
    cases hc'
    have hT1 : TSet P w s1.heap S l := hT.at fun o e => m.heap S o off e
    show wpAny _ A.in1 (holding [Value.str c u] (setAdd S (.str c u)) >>= _) _ _ _
    unfold setAdd
    refine wpAny_bind (wpAny_holding (wpAny_holding (wpAny_bind ((PySem.strKind P w).pyHash (k := c) (is_str _ _) ?_))))
    refine tset_add (s := { s1 with toks := s1.toks + 1 }) hT1 (by omega) fun h' b hk hT2 => ?_
    refine wpAny_pure ⟨plainId_quiet PyProof.Rows.F.plain_set_update_loop _, ih (i + 1) _ _ hd2 hlt (WS.frame _ s1 h' _ hst1 (Nat.le_succ _) fun b hb o e => hk b o (fun q => hS (q ▸ hb)) e) hT2 ?_ fun s2 g2 d2 o2 k2 hT3 => ?_⟩
    · show (if c ∈ l then l else c :: l).length ≤ i + 1
      split
      · omega
      · rw [List.length_cons]
        omega
    · exact hR s2 (g2.trans m.gens) (d2.trans m.drawn) (o2.trans m.os) (fun b o nS nw e => k2 b o nS nw (hk b o nS (m.heap b o nw e))) hT3
/-- the new set -/
abbrev bare (w : World) : Obj := sObj "set" (#[], 0, .fresh 0 0 (!w.params.followText "set-order"))
theorem bare_ok {h : Heap} {a : Addr} (e : h.get? a = some (bare w)) : TSet P w h a [] :=
  ⟨_, e, TxOk.nil rfl, List.nodup_nil, List.Pairwise.nil, by
    show _ ∨ (!w.params.followText "set-order") = true
    cases w.params.followText "set-order" <;> simp⟩
theorem set_list {l0 : Addr} {items : Array Value} {zs : List Str} {Q : Value → Shared → Prop} (hh : A.handled = none) (hl : s.heap.IsList l0 items) (hi : StrsAre items.toList zs) (hz : zs.length + 1 < scanBound)
    (q : ∀ (h' : Heap) (tk : Nat), TSet P w h' s.heap.objs.size (metL zs []) → (∀ b o, s.heap.get? b = some o → h'.get? b = some o) → Q (.ref s.heap.objs.size) { s with heap := h', toks := tk }) :
    wpAny (model P w) A (call (.type "set") [.ref l0]) Q E s := by
  obtain ⟨c, tl, mro⟩ := PySem.F.called_set.mro
  have mk := PySem.F.called_set.made
  have sb := PySem.F.called_set.sub
  refine wpAny_call (codeAny_of_tree ?_)
  show wpAny _ _ (callAny (.type "set") _) _ _ _
  refine wpAny_pure ⟨Code.quiet_builtin _ (by decide +kernel), codeAny_builtin PySem.F.entry_type_call ?_⟩
  rw [Around.under_plain (weight_type_call_type "set" [.ref l0] []) rfl]
  have nt := PySem.F.called_set.notType
  have cc := PySem.F.called_set.canCreate
  have tc := PySem.F.typeCall_set_1 (.ref l0)
  repeat (any_goals (first | assumption | wp_step))
  refine codeAny_mono (code_set_led1 (.ref l0) (E := E) (Q₁ := fun v t => v = .ref s.heap.objs.size ∧ t = { s with heap := s.heap.push (bare w) }) ⟨rfl, rfl⟩) fun r t hr => ?_
  cases r with
  | error e => exact hr
  | ok fl =>
    cases fl with
    | ret obj =>
      obtain ⟨rfl, rfl⟩ := hr
      have at0 : (s.heap.push (bare w)).get? s.heap.objs.size = some (bare w) := Heap.get?_push_size _ rfl
      have ty : Shared.TypeIs { s with heap := s.heap.push (bare w) } (.ref s.heap.objs.size) "set" := ⟨_, at0, rfl⟩
      have il := PySem.F.called_set.init.lookup
      have ib := PySem.F.called_set.init.bind (.ref s.heap.objs.size)
      repeat (any_goals (first | assumption | wp_step))
      refine codeAny_mono (codeAny_call_builtin (R := wants (fun v t2 => v = .none ∧ ∃ (h' : Heap) (tk : Nat), t2 = { s with heap := h', toks := tk } ∧ TSet P w h' s.heap.objs.size (metL zs []) ∧
        ∀ b o, s.heap.get? b = some o → h'.get? b = some o) E) PySem.F.called_set.init.plain PySem.F.entry_set_init (check_set_init_1 ty ?_)) fun r2 t2 hr2 => ?_
      · obtain ⟨ol, hol, hcl, nl, hdl⟩ := hl
        obtain ⟨ocls, odict, odata, oslots⟩ := ol
        simp only at hcl hdl
        subst hcl; subst hdl
        have hol' : (s.heap.push (bare w)).get? l0 = some { cls := .type "list", dict := odict, data := .seq items nl, slots := oslots } := Heap.get?_push_of_some _ hol
        have hsls := PySem.F.sub_list_set
        have hslf := PySem.F.sub_list_frozenset
        have hne : (Value.type "list" == Value.type "dict") = false := by decide
        have hl1 : (s.heap.push (bare w)).IsList l0 items := ⟨_, hol', rfl, nl, rfl⟩
        unfold Builtin.«set.__init__» noKeywords Builtin.Frozenset.updateFrom
        generalize hPI : pyIter = PI
        wp_walk
        subst hPI
        refine wpAny_pyIter_list hl1 ?_
        refine wpAny_bind (wpAny_runValue ?_)
        have hlS : l0 < s.heap.objs.size := Heap.lt_size hol
        have hh3 : A.in1.in1.in1.handled = none := by simp [hh]
        have hneI : l0 ≠ (s.heap.push (bare w)).objs.size := by
          rw [Heap.size_push]; exact Nat.ne_of_lt (Nat.lt_succ_of_lt hlS)
        have hSf : s.heap.objs.size ∉ [(s.heap.push (bare w)).objs.size, l0] := by
          rw [Heap.size_push]; simp only [List.mem_cons, List.mem_singleton, List.not_mem_nil, or_false, not_or]
          exact ⟨Nat.ne_of_lt (Nat.lt_succ_self _), Nat.ne_of_gt hlS⟩
        have hsz : zs.length = items.size := by rw [← StrsAre.len_eq hi, Array.length_toList]
        refine list_in (Walks.list hh3 _ l0 hneI items) hSf hsz (by rw [← hsz]; exact hz) (fun i v hv => strs_atL hi i v (by rw [Array.getElem?_toList]; exact hv)) zs 0 [] _ rfl (Nat.zero_le _) ⟨⟨_, Heap.get?_push_size _ rfl, rfl, rfl⟩, (hl1.push _)⟩ (bare_ok (Heap.get?_push_of_some _ at0)) (Nat.le_refl _) fun s' g d os k t => ?_
        obtain ⟨h', g', d', tk', os'⟩ := s'
        cases g
        cases d
        cases os
        refine wpAny_pure ?_
        show wpAny _ _ (ret Value.none) _ _ _
        refine wpAny_pure ⟨rfl, h', tk', rfl, t, fun b o e => ?_⟩
        have lt := Heap.lt_size e
        refine k b o (Nat.ne_of_lt lt) (fun m => ?_) (Heap.get?_push_of_some _ (Heap.get?_push_of_some _ e))
        rw [List.mem_singleton, Heap.size_push] at m
        exact absurd (show s.heap.objs.size + 1 < s.heap.objs.size from m ▸ lt) (Nat.not_lt.mpr (Nat.le_succ _))
      · cases r2 with
        | error e => exact hr2
        | ok fl2 =>
          cases fl2 with
          | ret v =>
            obtain ⟨rfl, h', tk, rfl, t, k⟩ := hr2
            repeat (any_goals (first | assumption | wp_step))
            exact q h' tk t k
          | _ => exact hr2.elim
    | _ => exact hr.elim
end
theorem perm_in : ∀ {l ss : List Str}, l.Nodup → (∀ k ∈ l, k ∈ ss) → ss.length ≤ l.length → ss.Perm l
  | [], ss, _, _, h => by
    cases ss with
    | nil => exact .nil
    | cons a r => exact absurd h (Nat.not_succ_le_zero _)
  | k :: r, ss, nd, hi, h => by
    have hk := hi k (List.mem_cons_self ..)
    have nd2 := List.nodup_cons.mp nd
    refine (List.perm_cons_erase hk).trans (.cons k (perm_in nd2.2 (fun x hx => ?_) ?_))
    · exact (List.mem_erase_of_ne fun e => nd2.1 (by rw [← e]; exact hx)).mpr (hi x (List.mem_cons_of_mem _ hx))
    · rw [List.length_erase_of_mem hk]
      rw [List.length_cons] at h
      omega
section
variable {P : Program} {w : World} {A : Around} {E : Value → Shared → Prop} {s : Shared}
theorem txt_of : ∀ {out : List Value}, (∀ v ∈ out, ∃ k t, v = Value.str k t) → ∃ ss : List Str, StrsAre out ss
  | [], _ => ⟨[], .nil⟩
  | v :: r, h => by
    obtain ⟨k, t, rfl⟩ := h v (List.mem_cons_self ..)
    obtain ⟨ss, q⟩ := txt_of fun x hx => h x (List.mem_cons_of_mem _ hx)
    exact ⟨k :: ss, .cons k t q⟩
theorem txt_mem : ∀ {out : List Value} {ss : List Str}, StrsAre out ss → ∀ k : Str, (∃ t, Value.str k t ∈ out) → k ∈ ss
  | _, _, .nil, k, ⟨t, h⟩ => nomatch h
  | _, _, .cons y u q, k, ⟨t, h⟩ => by
    rcases List.mem_cons.mp h with e | e
    · cases e
      exact List.mem_cons_self ..
    · exact List.mem_cons_of_mem _ (txt_mem q k ⟨t, e⟩)
theorem str_is {k : Str} {v : Value} (h : (PySem.strKind P w).is k v = true) : ∃ t, v = .str k t := by
  cases v with
  | str y t =>
    have e : y = k := beq_iff_eq.mp h
    exact ⟨t, e ▸ rfl⟩
  | _ => cases h
theorem sort_tset {a : Addr} {l : List Str} {Q : Value → Shared → Prop} (T : TSet P w s.heap a l) (hh : A.handled = none) (h64 : l.length < 64)
    (q : ∀ (s' : Shared) (p : Addr) (out : Array Value) (c : Nat) (ys : List Str), (∀ b o, s.heap.get? b = some o → s'.heap.get? b = some o) → s'.gens = s.gens → s'.os = s.os → s.heap.objs.size ≤ p →
      s'.heap.get? p = some (seqObj "list" out c) → StrsAre out.toList ys → ys.Perm l → sortedS ys = true → Q (.ref p) s') : wpAny (model P w) A (call (.builtin "sorted") [.ref a]) Q E s := by
  obtain ⟨⟨es, ep, t⟩, ho, F, nd, r, ld⟩ := T
  have esz : es.size = l.length := F.sz
  have few : es.size < scanBound := by
    rw [esz]
    exact Nat.lt_trans h64 (by unfold scanBound; decide)
  refine Calls.call_function_entry kind_sorted plain_sorted entry_sorted (args_sorted1 _) ?_
  unfold Builtin.«sorted»
  refine wpAny_bind (m := checkCount "sorted" 1 1 _) (wpAny_pure ?_)
  refine wpAny_bind (collect_set (A := A.in1) hh ⟨_, ho, rfl, rfl⟩ F.fit few r ld fun s1 vs k1 big g1 o1 pm => ?_)
  have len : vs.length = l.length := by rw [pm.length_eq, List.length_map, Array.length_toList, esz]
  obtain ⟨ss, hS⟩ := txt_of (out := vs) fun v hv => by
    obtain ⟨e, he, ev⟩ := List.mem_map.mp (pm.mem_iff.mp hv)
    obtain ⟨⟨k, hk, _⟩, _⟩ := F.el e he
    obtain ⟨u, eu⟩ := str_is hk
    exact ⟨k, u, ev ▸ eu⟩
  have pl : ss.Perm l := perm_in nd (fun k hk => txt_mem hS k (by
    obtain ⟨e, he, z⟩ := (F.mem k).mp hk
    obtain ⟨u, eu⟩ := str_is z
    exact ⟨u, pm.mem_iff.mpr (List.mem_map.mpr ⟨e, he, eu⟩)⟩)) (by have z := (vals_of_strs hS).length; rw [List.length_map] at z; omega)
  refine wpAny_bind (wpAny_newList ?_ (by rw [len, sizeLine_eq]; omega))
  have at1 : (s1.heap.push (seqObj "list" vs.toArray 0)).get? s1.heap.objs.size = some (seqObj "list" vs.toArray 0) := Heap.get?_push_size _ rfl
  refine wpAny_bind (wpAny_holding (wpAny_call_entry slot_list_sort ⟨_, at1, rfl⟩ entry_list_sort ?_ (args_list_sort _)))
  refine list_sort_treeK strKind_oneLt at1 hS.keysOf (fun v₁ v₂ rest e => keyKind_strs (ss := ss) (by rw [← e]; exact hS)) (by omega) fun st' a1 a2 => ⟨_, rfl, ?_⟩
  obtain ⟨ys, b1, b2, b3⟩ := sorted_out_str hS a1 a2
  obtain ⟨c, hc⟩ := sortedHeap_at (vs := vs) (out := (arrOf st').map (·.2)) at1
  refine wpAny_pure ⟨_, rfl, q _ s1.heap.objs.size _ c ys (fun b u e => ?_) g1 o1 big hc b1 (b2.trans pl) b3⟩
  have e1 := k1 b u e
  have lt := Heap.lt_size e1
  show (sortedHeap (s1.heap.push (seqObj "list" vs.toArray 0)) s1.heap.objs.size vs _).get? b = some u
  rw [sortedHeap_old (Nat.ne_of_lt lt) (by rw [size_push']; exact Nat.lt_succ_of_lt lt)]
  exact Heap.get?_push_of_some _ e1
end
/-! ### as calls -/
def TSetO (P : Program) (w : World) (a : Addr) (l : List Str) : HO := .ext fun h => TSet P w h a l
section
variable {X : Cx}
/-- set(xs), xs a list of texts -/
def rSetLs (K : PySem.W.Frag) (P : Program) (w : World) : List V → Hp → VK → Prop := fun xs H Q => ∃ (l : Addr) (zs : List Str), xs = [.ref l] ∧ SqL K H l (zs.map V.str) ∧ zs.length < 4000 ∧ ∀ p, H p = none → Q (.ref p) (upd H p (TSetO P w p (metL zs [])))
theorem vals_strsAre : ∀ {zs : List Str} {us : List Value}, Vals (zs.map V.str) us → StrsAre us zs
  | [], _, h => by
    cases h
    exact .nil
  | z :: zs, _, h => by
    cases h with
    | cons r t =>
      obtain ⟨tk, rfl⟩ := r
      exact .cons z tk (vals_strsAre t)
theorem cr_setLs (hc : X.calm = true) : CallR X (.type "set") (rSetLs X.K X.prog X.w) := by
  intro pins s σ H xs us Q I r h
  obtain ⟨l, zs, rfl, hs, hz, q⟩ := h
  obtain rfl := Vals.ref1 r
  obtain ⟨its, rv, pl, _⟩ := I.list hs
  refine set_list (zs := zs) (I.ok.hd hc) pl.isList (by simpa using vals_strsAre rv) (by unfold scanBound; omega) fun h' tk T k => ?_
  refine ⟨.ref s.heap.objs.size, upd H s.heap.objs.size (TSetO X.prog X.w s.heap.objs.size (metL zs [])), I.laid (t' := tk) k (Nat.le_refl _) ⟨T, ?_, fun h1 h2 p k2 => p.at k2⟩, rfl, q _ (I.hok.fresh (Nat.le_refl _))⟩
  obtain ⟨D, ho, _⟩ := T
  exact ⟨_, ho⟩
def rSortTx (P : Program) (w : World) : List V → Hp → VK → Prop := fun xs H Q => ∃ (a : Addr) (l : List Str), xs = [.ref a] ∧ H a = some (TSetO P w a l) ∧ l.length < 64 ∧
  ∀ (ys : List Str) (p : Addr), ys.Perm l → sortedS ys = true → H p = none → Q (.ref p) (upd H p (.lst (ys.map V.str)))
theorem cr_sortTx (hc : X.calm = true) : CallR X (.builtin "sorted") (rSortTx X.prog X.w) := by
  intro pins s σ H xs us Q I r h
  obtain ⟨a, l, rfl, ha, h64, q⟩ := h
  have T : TSet X.prog X.w s.heap a l := (I.hok a _ ha).1
  rw [Vals.ref1 r]
  refine sort_tset T (I.ok.hd hc) h64 fun s' p out c ys k g o hp e hS pl st => ?_
  have hn : H p = none := I.hok.fresh hp
  have few : (ys.map V.str).length ≤ sizeLine := by rw [List.length_map, pl.length_eq, sizeLine_eq]; omega
  exact ⟨.ref p, _, I.call' (ch := []) o (Un.laid k hp hn) (I.hok.laid (o := .lst (ys.map V.str)) k hp ⟨few, out.toList, c, vals_of_strs hS, e⟩) (g ▸ I.bare) (fun _ z => nomatch z), rfl, q ys p pl st hn⟩
end
end LK

set_option maxHeartbeats 4000000
/-! sorted(rows), the rows pairs of unlike names and things -/
namespace LK
open PySem PySem.Spec PyProof.Rows L2
open PySem.W
theorem lookup_mem {β : Type} : ∀ {l : List (Addr × β)} {a : Addr} {b : β}, l.lookup a = some b → (a, b) ∈ l
  | [], _, _, h => by cases h
  | (x, y) :: r, a, b, h => by
    rw [List.lookup_cons] at h
    by_cases e : a = x
    · subst e
      rw [show (a == a) = true from beq_self_eq_true a] at h
      cases h
      exact List.mem_cons_self
    · rw [show (a == x) = false from beq_eq_false_iff_ne.mpr e] at h
      exact List.mem_cons_of_mem _ (lookup_mem h)
theorem perm_pre {α β : Type} (f : α → β) {l m : List β} (h : l.Perm m) : ∀ ts : List α, m = ts.map f → ∃ ys : List α, ys.Perm ts ∧ l = ys.map f := by
  induction h with
  | nil => exact fun ts e => ⟨ts, .refl _, e⟩
  | @cons x l1 l2 _ ih =>
    intro ts e
    cases ts with
    | nil => cases e
    | cons t ts =>
      rw [List.map_cons] at e
      obtain ⟨e1, e2⟩ := List.cons.inj e
      obtain ⟨ys, p, q⟩ := ih ts e2
      exact ⟨t :: ys, .cons t p, by rw [List.map_cons, ← q, e1]⟩
  | swap x y l =>
    intro ts e
    cases ts with
    | nil => cases e
    | cons t ts =>
      cases ts with
      | nil => cases e
      | cons u ts =>
        rw [List.map_cons, List.map_cons] at e
        obtain ⟨e1, e2⟩ := List.cons.inj e
        obtain ⟨e2, e3⟩ := List.cons.inj e2
        exact ⟨u :: t :: ts, .swap .., by rw [List.map_cons, List.map_cons, ← e3, e1, e2]⟩
  | trans _ _ ih1 ih2 =>
    intro ts e
    obtain ⟨ys, p, q⟩ := ih2 ts e
    obtain ⟨zs, p2, q2⟩ := ih1 ys q
    exact ⟨zs, p2.trans p, q2⟩
def rowKind (ks : List (Addr × List Nat)) : KeyKind where
  toKeyOrd := strKind.toKeyOrd
  keyOf := fun v => match v with | .ref a => ks.lookup a | _ => none
  dflt := ([] : List Nat)
section
variable {prog : Program} {w : World} {A : Around} {E : Value → Shared → Prop} {s : Shared}
theorem eqBool_self {a : Addr} {Q : Bool → Shared → Prop} (h : Q true s) : wpAny (model prog w) A (eqBool (.ref a) (.ref a)) Q E s := by
  unfold eqBool
  refine wpAny_holding ?_
  have e : (Value.ref a == Value.ref a) = true := by
    exact beq_self_eq_true _
  rw [if_pos e]
  exact wpAny_bind (wpAny_rule (wpAny_pure h))
end
section
variable {X : Cx}
def rSortRows (K : PySem.W.Frag) : List V → Hp → VK → Prop := fun vs H Q => ∃ (l : Addr) (ts : List (Addr × Str × Addr)), vs = [.ref l] ∧ SqL K H l (ts.map fun t => V.ref t.1) ∧ (ts.map (·.2.1)).Nodup ∧ (∀ t ∈ ts, H t.1 = some (.tup [.str t.2.1, .ref t.2.2])) ∧
  ∀ (ys : List (Addr × Str × Addr)) (p : Addr), ys.Perm ts → H p = none → Q (.ref p) (upd H p (.lst (ys.map fun t => V.ref t.1)))
theorem refs_of : ∀ {ts : List (Addr × Str × Addr)} {us : List Value}, Vals (ts.map fun t => V.ref t.1) us → us = ts.map fun t => Value.ref t.1
  | [], us, r => by
    cases r
    rfl
  | t :: ts, us, r => by
    cases r with
    | cons h r2 =>
      cases h
      rw [List.map_cons, ← refs_of r2]
theorem cr_sortRows : CallR X (.builtin "sorted") (rSortRows X.K) := by
  intro pins s σ H vs us Q I r h
  obtain ⟨l, ts, rfl, hs, nd, hr, q⟩ := h
  obtain ⟨its, rv, hl, hz⟩ := I.list hs
  rw [Vals.ref1 r]
  have ei := refs_of rv
  subst ei
  -- the objects of the rows
  have ob : ∀ t ∈ ts, ∃ (tk : Tok) (o : Obj) (n : Nat), s.heap.get? t.1 = some o ∧ o.cls = .type "tuple" ∧ o.data = .seq #[.str t.2.1 tk, .ref t.2.2] n := fun t ht => by
    obtain ⟨xs, rx, hx, _⟩ := I.tuple (SqT.of (hr t ht))
    obtain ⟨u, v, e, ru, rv⟩ := vals2 rx
    subst e
    obtain ⟨tk, rfl⟩ := ru
    obtain rfl : v = Value.ref t.2.2 := rv
    obtain ⟨o, ho, hc, n, hd⟩ := hx
    exact ⟨tk, o, n, ho, hc, hd⟩
  have key : ∀ (v : Value) (a : List Nat), (rowKind (ts.map fun t => (t.1, t.2.1.cps.toList))).keyOf v = some a → ∃ t ∈ ts, v = .ref t.1 ∧ a = t.2.1.cps.toList := fun v a hv => by
    cases v with
    | ref b =>
      have h := lookup_mem (show (ts.map fun t => (t.1, t.2.1.cps.toList)).lookup b = some a from hv)
      obtain ⟨t, ht, e⟩ := List.mem_map.mp h
      cases e
      exact ⟨t, ht, rfl, rfl⟩
    | _ => cases hv
  have same : ∀ t ∈ ts, ∀ u ∈ ts, t.2.1 = u.2.1 → t = u := fun t ht u hu e => by
    obtain ⟨i, hi⟩ := List.mem_iff_getElem?.mp ht
    obtain ⟨j, hj⟩ := List.mem_iff_getElem?.mp hu
    have li := (List.getElem?_eq_some_iff.mp hi).1
    have lj := (List.getElem?_eq_some_iff.mp hj).1
    have ij : i = j := by
      have pw := List.pairwise_iff_getElem.mp (List.nodup_iff_pairwise_ne.mp nd)
      have ei : (ts.map (·.2.1))[i]'(by rw [List.length_map]; exact li) = t.2.1 := by rw [List.getElem_map, (List.getElem?_eq_some_iff.mp hi).2]
      have ej : (ts.map (·.2.1))[j]'(by rw [List.length_map]; exact lj) = u.2.1 := by rw [List.getElem_map, (List.getElem?_eq_some_iff.mp hj).2]
      rcases Nat.lt_trichotomy i j with c | c | c
      · exact absurd (ei.trans (e.trans ej.symm)) (pw i j (by rw [List.length_map]; exact li) (by rw [List.length_map]; exact lj) c)
      · exact c
      · exact absurd (ej.trans (e.symm.trans ei.symm)) (pw j i (by rw [List.length_map]; exact lj) (by rw [List.length_map]; exact li) c)
    subst ij
    rw [hi] at hj
    exact Option.some.inj hj
  refine PyProof.Rows.G.sortedG (κ := rowKind (ts.map fun t => (t.1, t.2.1.cps.toList))) (kd := tuples' true) (vs := ts.map fun t => Value.ref t.1) hl.isList (fun p hp => ?_) (fun s2 k => ?_) (fun h2 A2 E2 s2 Q2 k hq => ?_) (by rw [List.length_map] at hz ⊢; exact hz) fun st' hp _ _ => ?_
  · rw [pairsOf_toList] at hp
    obtain ⟨_, hm⟩ := mem_zip_self hp
    obtain ⟨t, ht, e⟩ := List.mem_map.mp hm
    rw [← e]
    show ∃ a, (ts.map fun t => (t.1, t.2.1.cps.toList)).lookup t.1 = some a
    cases z : (ts.map fun t => (t.1, t.2.1.cps.toList)).lookup t.1 with
    | some a => exact ⟨a, rfl⟩
    | none =>
      rw [List.lookup_eq_none_iff] at z
      have := z _ (List.mem_map.mpr ⟨t, ht, rfl⟩)
      simp at this
  · intro A2 E2 x y a b Q2 hx hy hq
    obtain ⟨t, ht, rfl, rfl⟩ := key x a hx
    obtain ⟨u, hu, rfl, rfl⟩ := key y b hy
    obtain ⟨tk, o, n, ho, hc, hd⟩ := ob t ht
    obtain ⟨tk2, o2, n2, ho2, hc2, hd2⟩ := ob u hu
    refine kat_lt (k _ _ ho hc) hd (k _ _ ho2 hc2) hd2 ?_
    refine kat_cons (wpAny_eqBool_str ?_)
    refine kat_go (fun e => kat_yes ?_) (fun e => kat_no ?_)
    · have e := of_decide_eq_true e
      obtain rfl := same t ht u hu e
      refine kat_cons (eqBool_self (kat_yes (kat_nil ?_)))
      have z : strKind.blt t.2.1.cps.toList t.2.1.cps.toList = false := strKind.irrefl _
      have z2 : (decide ((#[Value.str t.2.1 tk, .ref t.2.2] : Array Value).size < (#[Value.str t.2.1 tk2, .ref t.2.2] : Array Value).size)) = false := rfl
      rw [z2]
      have hq : Q2 (strKind.blt t.2.1.cps.toList t.2.1.cps.toList) s2 := hq
      rw [z] at hq
      exact hq
    · exact oneLt_any_str hq
  · have e : (Value.type "str" != Value.type "tuple") = true := by first | rfl | decide
    have kt : ∀ us : List (Addr × Str × Addr), (∀ t ∈ us, t ∈ ts) → ∃ fs, KatTups s2.heap (us.map fun t => Value.ref t.1) fs ∧ fs.length = us.length ∧ ∀ v ∈ fs, ∃ x tk, v = Value.str x tk := fun us => by
      induction us with
      | nil => exact fun _ => ⟨[], KatTups.nil, rfl, fun _ h => nomatch h⟩
      | cons t us ih =>
        intro h
        obtain ⟨fs, a, b, c⟩ := ih fun x hx => h x (List.mem_cons_of_mem _ hx)
        obtain ⟨tk, o, n, ho, hc, hd⟩ := ob t (h t List.mem_cons_self)
        refine ⟨.str t.2.1 tk :: fs, KatTups.cons (k _ _ ho hc) hc hd rfl a, by rw [List.length_cons, List.length_cons, b], fun v hv => ?_⟩
        rcases List.mem_cons.mp hv with z | z
        · exact ⟨_, _, z⟩
        · exact c v z
    obtain ⟨fs, a, b, c⟩ := kt ts fun _ h => h
    refine kat_kind (T := Value.type "str") a (by rw [b]; rw [List.length_map] at h2; omega) (fun v hv => ?_) rfl (by rw [e]; exact hq)
    obtain ⟨x, tk, rfl⟩ := c v hv
    exact PySem.W.Looks.of_pure rfl
  · have pm : ((arrOf st').map (·.2)).toList.Perm (ts.map fun t => Value.ref t.1) := by
      have h1 := (Array.perm_iff_toList_perm.mp hp).map (fun p : Keyed => p.2)
      rw [pairsOf_toList] at h1
      rw [Array.toList_map]
      refine h1.trans (List.Perm.of_eq ?_)
      exact List.map_snd_zip (Nat.le_refl _)
    obtain ⟨ys, py, ey⟩ := perm_pre _ pm ts rfl
    obtain ⟨ep, he'⟩ := PyProof.Rows.sortedAll_at s.heap (ts.map fun t => Value.ref t.1) ((arrOf st').map (·.2))
    have hlen : (ys.map fun t => V.ref t.1).length ≤ sizeLine := by rw [List.length_map, py.length_eq]; rw [List.length_map] at hz; exact hz
    have vy : ∀ zs : List (Addr × Str × Addr), Vals (zs.map fun t => V.ref t.1) (zs.map fun t => Value.ref t.1) := fun zs => by
      induction zs with
      | nil => exact .nil
      | cons z zs ih => exact .cons rfl ih
    exact ⟨.ref _, upd H (s.heap.objs.size + 1) (.lst (ys.map fun t => V.ref t.1)), I.laid (t' := s.toks) (fun _ _ => PyProof.Rows.sortedAll_old) (Nat.le_succ _) ⟨hlen, ((arrOf st').map (·.2)).toList, ep, by rw [ey]; exact vy ys, he'⟩, rfl, q ys _ py (I.hok.fresh (Nat.le_succ _))⟩
end
end LK

set_option maxHeartbeats 1000000
/-! min(xs, default=d), xs whole numbers -/
namespace LK
open PySem PySem.Spec PyProof.Rows L2 LamX NdefX
section
variable {X : Cx} {k : Nat}
def rMinD (K : PySem.W.Frag) : List V → List V → Hp → VK → Prop := fun xs ks H Q => ∃ (l : Addr) (ns : List Int) (d : V), xs = [.ref l] ∧ ks = [d] ∧ SqL K H l (ns.map V.int) ∧ (ns = [] → Q d H) ∧ (ns ≠ [] → ∀ m : Int, Q (.int m) H)
theorem cr_minD (hr : Room k X.A) : CallRK X (.builtin "min") [Str.ofString "default"] (rMinD X.K) := by
  intro pins s σ H xs ks us ws Q I rx rk h
  obtain ⟨l, ns, d, rfl, rfl, hs, h0, hq⟩ := h
  obtain rfl := Vals.ref1 rx
  obtain ⟨w1, rfl, e1⟩ := vals1 rk
  obtain ⟨its, rv, pl, hz⟩ := I.list hs
  have hu := hr.un
  have hd := depth_ints ns
  refine PySem.W.min_list_default (xs := ns.map PyData.int) (as := []) hr.hd pl.isList (reads_ints (us := its.toArray.toList) rv) ⟨fun a ha b hb => ?_, fun a ha => ?_⟩ (by omega) (fun hn h' tk kp => ⟨d, H, kept_inv I kp, e1, h0 ?_⟩) fun y ys j v h' tk bs hn hv _ kp => ?_
  · obtain ⟨x, _, rfl⟩ := List.mem_map.mp ha
    obtain ⟨y, _, rfl⟩ := List.mem_map.mp hb
    rfl
  · obtain ⟨x, _, rfl⟩ := List.mem_map.mp ha
    exact fun z => nomatch z
  · simpa using hn
  · rw [List.getElem?_toArray] at hv
    have hj : j < (ns.map V.int).length := by
      rw [rv.length]
      exact (List.getElem?_eq_some_iff.mp hv).1
    obtain ⟨u, eu, ru⟩ := rv.get (List.getElem?_eq_getElem hj)
    rw [hv] at eu
    cases eu
    rw [List.getElem_map] at ru
    refine ⟨_, H, kept_inv I kp, ru, hq (fun z => ?_) _⟩
    rw [z] at hj
    exact absurd hj (Nat.not_lt_zero _)
end
end LK

/-! tuple(xs) whose object is kept in mind; dict(t) of a tuple of pairs -/
namespace LK
open PySem PySem.Spec PyProof.Rows L2
section
variable {X : Cx}
def rTupFz (K : PySem.W.Frag) : List V → Hp → VK → Prop := fun xs H Q => ∃ (p : Addr) (ys : List V), xs = [.ref p] ∧ SqL K H p ys ∧
  ∀ (l : Addr) (o : Obj), H l = none → o.cls = .type "tuple" → o.dict = none → Q (.ref l) (upd H l (.frz o (.tup ys)))
theorem cr_tupFz : CallR X (.type "tuple") (rTupFz X.K) := by
  intro pins s σ H xs us Q I r h
  obtain ⟨p, ys, rfl, hq, q⟩ := h
  obtain ⟨u, rfl, ru⟩ := vals1 r
  cases ru
  obtain ⟨its, rv, pl, hz⟩ := I.list hq
  have len := rv.length
  refine call_tuple_list pl.isList (fun h' k => ?_) (by simp only [List.size_toArray]; omega)
  have I1 : Inv X pins σ H { s with heap := h' } := I.kept (t' := s.toks) k
  let o : Obj := { cls := .type "tuple", data := .seq its.toArray }
  have e : (h'.push o).get? h'.objs.size = some o := Heap.get?_push_size _ rfl
  exact ⟨.ref h'.objs.size, upd H h'.objs.size (.frz o (.tup ys)), I1.laid (h' := h'.push o) (o := .frz o (.tup ys)) (t' := s.toks) (fun b u e => Heap.get?_push_of_some _ e) (Nat.le_refl _) ⟨e, hz, its, rv, o, e, rfl, 0, rfl⟩, rfl, q _ o (I1.hok.fresh (Nat.le_refl _)) rfl rfl⟩
theorem raw_pairs {pins : List (Addr × Obj)} {σ : L2.St} {H : Hp} {s : Shared} (I : Inv X pins σ H s) : ∀ {ps : List Addr} {kvs : List (Key × V)}, Paired (fun p kv => SqT X.K H p [kV kv.1, kv.2]) ps kvs →
    ∃ (prs : List (Key × Value)) (raw : List (Value × Value)), KV kvs prs ∧ prs.length = ps.length ∧ raw.length = ps.length ∧ ∀ (j : Nat) (k v : Value), raw[j]? = some (k, v) → ∃ (b : Addr) (q : Key), ps[j]? = some b ∧ prs[j]? = some (q, v) ∧ IsTup s.heap b #[k, v] ∧ (mixKind X.prog X.w).is q k = true
  | _, _, .nil => ⟨[], [], .nil, rfl, rfl, fun j k v e => by simp at e⟩
  | _, _, .cons (a := p) (b := kv) h t => by
    obtain ⟨prs, raw, r, l1, l2, hp⟩ := raw_pairs I t
    obtain ⟨its, rv, ht, _⟩ := I.tuple h
    obtain ⟨u, y, rfl, ru, ry⟩ := vals2 rv
    refine ⟨(kv.1, y) :: prs, (u, y) :: raw, .cons ⟨rfl, ry⟩ r, by rw [List.length_cons, List.length_cons, l1], by rw [List.length_cons, List.length_cons, l2], fun j k v e => ?_⟩
    cases j with
    | zero =>
      cases (show some (u, y) = some (k, v) from e)
      exact ⟨p, kv.1, rfl, rfl, ht, kV_is ru⟩
    | succ j =>
      obtain ⟨b, q, e1, e2, e3⟩ := hp j k v (by simpa using e)
      exact ⟨b, q, by simpa using e1, by simpa using e2, e3⟩
def rDictT (K : PySem.W.Frag) : List V → Hp → VK → Prop := fun xs H Q => ∃ (a : Addr) (o : Obj) (ps : List Addr) (kvs : List (Key × V)), xs = [.ref a] ∧ H a = some (.frz o (.tup (ps.map V.ref))) ∧ o.cls = .type "tuple" ∧ o.dict = none ∧ Paired (fun p kv => SqT K H p [kV kv.1, kv.2]) ps kvs ∧
  ∀ p, H p = none → Q (.ref p) (upd H p (.dK (mergeK [] kvs)))
theorem cr_dictT (hc : X.calm = true) : CallR X (.type "dict") (rDictT X.K) := by
  intro pins s σ H xs us Q I r h
  obtain ⟨a, o, ps, kvs, rfl, ha, hcl, hdn, hp, q⟩ := h
  rw [Vals.ref1 r]
  obtain ⟨at0, hz, its, rv, o', e', _, n, hd⟩ : ObjOk X.prog X.w H s.heap a (.frz o (.tup (ps.map V.ref))) := I.hok a _ ha
  rw [at0] at e'
  cases e'
  have ei := refs_at rv
  subst ei
  rw [List.length_map] at hz
  obtain ⟨prs, raw, rel, l1, l2, hr⟩ := raw_pairs I hp
  refine PySem.call_dict_pairs (knd := mixKind X.prog X.w) (kvs := prs) (PairArg.tuple a (ps.map Value.ref).toArray (fun j => (ps[j]?).getD 0) raw) (I.ok.hd hc) ⟨⟨o, n, at0, hcl, hdn, hd⟩, ?_, fun j k v e => ?_⟩ ⟨by rw [l1, l2], fun j k v e => ?_⟩ (by rw [l2]; exact hz) fun h' tk dd k => ?_
  · rw [List.size_toArray, List.length_map, l2]
  · obtain ⟨b, q, e1, e2, e3, e4⟩ := hr j k v e
    obtain ⟨oo, f1, f2, m, f3⟩ := e3
    refine ⟨by simp [e1], .inl ?_⟩
    have eb : (fun j => (ps[j]?).getD 0) j = b := by
      show (ps[j]?).getD 0 = b
      rw [e1]
      rfl
    rw [eb]
    exact ⟨oo, f1, f2, m, f3⟩
  · obtain ⟨b, q, e1, e2, e3, e4⟩ := hr j k v e
    exact ⟨q, e2, e4⟩
  · have k' : ∀ b o, s.heap.get? b = some o → h'.get? b = some o := fun b o e => k b o (fun m => nomatch m) e
    have few : (mergeK [] kvs).length ≤ sizeLine := by
      refine Nat.le_trans (length_mergeK kvs []) ?_
      rw [List.length_nil, Nat.zero_add, rel.length, l1]
      exact hz
    exact ⟨.ref s.heap.objs.size, upd H s.heap.objs.size (.dK (mergeK [] kvs)), I.laid (t' := tk) k' (Nat.le_refl _) (show ObjOk X.prog X.w _ _ _ (.dK (mergeK [] kvs)) from ⟨few, beq_eq_false_iff_ne.mpr (Nat.ne_of_gt I.big), merged [] prs, KV.merge rel .nil, dd⟩), rfl, q _ (I.hok.fresh (Nat.le_refl _))⟩
end
end LK

/-! the drawing words of the law, by hand -/
namespace RT
open PySem PySem.Spec PyProof.Rows L2
def topS (i : Nat) : Stmt := PySem.Challenge.pw_readtell_k16_names_without_texts.main.body.getD i (.Pass ⟨0, 0, 0, 0⟩)
abbrev sBegin : Stmt := topS 22
abbrev sNext : Stmt := topS 23
abbrev sMany : Stmt := topS 24
/-! ### frames -/
/-- all but the places M stays -/
def Kp (M : Addr → Prop) (H H' : Hp) : Prop := ∀ b o, ¬ M b → H b = some o → H' b = some o
theorem Kp.refl {M : Addr → Prop} {H : Hp} : Kp M H H := fun _ _ _ e => e
theorem Kp.trans {M : Addr → Prop} {H H1 H2 : Hp} (a : Kp M H H1) (b : Kp M H1 H2) : Kp M H H2 := fun c o h e => b c o h (a c o h e)
theorem Kp.mono {M N : Addr → Prop} {H H1 : Hp} (a : Kp M H H1) (h : ∀ b, M b → N b) : Kp N H H1 := fun c o k e => a c o (fun z => k (h c z)) e
theorem Kp.new {M : Addr → Prop} {H : Hp} {p : Addr} {o : HO} (h : H p = none) : Kp M H (upd H p o) := fun b u _ e => by rw [upd_ne (ne_of_none e h)]; exact e
theorem Kp.put {M : Addr → Prop} {H : Hp} {p : Addr} {o : HO} (h : M p) : Kp M H (upd H p o) := fun b u k e => by rw [upd_ne (fun z => k (by rw [z]; exact h))]; exact e
abbrev M0 : Addr → Prop := fun _ => False
theorem sqL_keep {K : PySem.W.Frag} {H H' : Hp} {a : Addr} {xs : List V} (k : Kp M0 H H') (h : SqL K H a xs) : SqL K H' a xs := by
  rcases h with (h | ⟨o, h⟩) | h
  · exact .inl (.inl (k _ _ (fun z => z) h))
  · exact .inl (.inr ⟨o, k _ _ (fun z => z) h⟩)
  · exact .inr h
/-! ### what is drawn from -/
structure PotE (H : Hp) (pd pc : Addr) (ns : List Int) (a l s : Int) : Prop where
  d : H pd = some (.dK [(.inr "cells", .ref pc), (.inr "at", .int a), (.inr "left", .int l), (.inr "seed", .int s)])
  c : H pc = some (.lst (ns.map V.int))
  a0 : 0 ≤ a
  l0 : 0 ≤ l
  s0 : 0 ≤ s
  s1 : s < 2305843009213693951
  len : ns.length ≤ 63
def Pot (H : Hp) (pd pc : Addr) : Prop := ∃ ns a l s, PotE H pd pc ns a l s
theorem PotE.ne {H : Hp} {pd pc : Addr} {ns : List Int} {a l s : Int} (E : PotE H pd pc ns a l s) : pd ≠ pc := ne_of E.d E.c (fun z => by cases z)
theorem PotE.put {H : Hp} {pd pc : Addr} {ns : List Int} {a l s a' l' s' : Int} (E : PotE H pd pc ns a l s) (h1 : 0 ≤ a') (h2 : 0 ≤ l') (h3 : 0 ≤ s') (h4 : s' < 2305843009213693951) : PotE (upd H pd (.dK [(.inr "cells", .ref pc), (.inr "at", .int a'), (.inr "left", .int l'), (.inr "seed", .int s')])) pd pc ns a' l' s' :=
  ⟨upd_same, by rw [upd_ne E.ne.symm]; exact E.c, h1, h2, h3, h4, E.len⟩
theorem PotE.keep {M : Addr → Prop} {H H' : Hp} {pd pc : Addr} {ns : List Int} {a l s : Int} (E : PotE H pd pc ns a l s) (k : Kp M H H') (hd : ¬ M pd) (hc : ¬ M pc) : PotE H' pd pc ns a l s := ⟨k _ _ hd E.d, k _ _ hc E.c, E.a0, E.l0, E.s0, E.s1, E.len⟩
theorem Pot.keep {M : Addr → Prop} {H H' : Hp} {pd pc : Addr} (P : Pot H pd pc) (k : Kp M H H') (hd : ¬ M pd) (hc : ¬ M pc) : Pot H' pd pc := let ⟨_, _, _, _, E⟩ := P; ⟨_, _, _, _, E.keep k hd hc⟩
theorem Pot.new {H : Hp} {pd pc p : Addr} {o : HO} (P : Pot H pd pc) (n : H p = none) : Pot (upd H p o) pd pc := P.keep (M := M0) (Kp.new n) (fun z => z) (fun z => z)
/-- what drawing changes -/
abbrev PM (pd : Addr) : Addr → Prop := fun b => b = pd
theorem Pot.off {H : Hp} {pd pc p : Addr} (P : Pot H pd pc) (n : H p = none) : ¬ PM pd p := fun z => by
  obtain ⟨_, _, _, _, E⟩ := P
  have d := E.d
  rw [← (show p = pd from z), n] at d
  cases d
theorem Pot.ne {H : Hp} {pd pc p : Addr} {o : HO} (P : Pot H pd pc) (e : H p = some o) (h : ∀ kvs, o ≠ .dK kvs) : ¬ PM pd p := fun z => by
  obtain ⟨_, _, _, _, E⟩ := P
  have d := E.d
  rw [← (show p = pd from z), e] at d
  exact h _ (Option.some.inj d)
theorem Pot.noT {H : Hp} {pd pc : Addr} (P : Pot H pd pc) : ∀ a xs, PM pd a → H a ≠ some (.tup xs) := fun a xs m e => P.ne e (fun _ z => by cases z) m
theorem at_some {α : Type} {xs : List α} {d : Int} (h0 : 0 ≤ d) (h1 : d < xs.length) : ∃ v, atI xs d = some v ∧ v ∈ xs := by
  obtain ⟨j, rfl⟩ := Int.eq_ofNat_of_zero_le h0
  have hj : j < xs.length := by omega
  exact ⟨xs[j], atI_nat (List.getElem?_eq_getElem hj), List.getElem_mem hj⟩
theorem none_back {M : Addr → Prop} {H H1 : Hp} {p : Addr} (k : Kp M H H1) (hp : ¬ M p) (n : H1 p = none) : H p = none := by
  cases z : H p with
  | none => rfl
  | some u =>
    have q := k p u hp z
    rw [n] at q
    cases q
theorem Kp.own {M : Addr → Prop} {H H1 : Hp} {p : Addr} {o : HO} (k : Kp M H H1) (n : H p = none) : Kp M H (upd H1 p o) := fun b u hb e => by
  rw [upd_ne (ne_of_none e n)]
  exact k b u hb e
theorem noT0 {H : Hp} : ∀ (a : Addr) xs, M0 a → H a ≠ some (.tup xs) := fun _ _ z => z.elim
theorem putK_new {kvs : List (Key × V)} {k : Key} {v : V} (h : ∀ p ∈ kvs, p.1 ≠ k) : putK kvs k v = kvs ++ [(k, v)] := by
  unfold putK
  rw [if_neg]
  intro z
  obtain ⟨p, hp, e⟩ := List.any_eq_true.mp z
  exact h p hp (of_decide_eq_true e)
structure FunT (K : PySem.W.Frag) (x qual : Str) (st : Stmt) (f : Addr) (fd : FuncData) (c : Addr) : Prop where
  ex : ∃ (oc : Value) (od : Option Addr) (kV doc pm : Value) (an : Option Addr) (ct : Value) (osl : Array (Option Value)),
    fd = PySem.W.fnOf x qual (defArgs st) (defBody st) (defScope st) .none kV doc pm an (.ref c) ct ∧ K.lookup f = some ⟨oc, od, .func fd, osl⟩ ∧ PySem.W.codeIn K (.ref c) qual = true
  kp : PySem.W.keepIn K (.ref f) = true
theorem len_tl (z : Str) : z.length = z.cps.toList.length := by simp [Str.length]
theorem tYes_ok {σ : L2.St} {H : Hp} {Q : Bool → Hp → Prop} (h : Q true H) : tYes σ H Q := h
theorem lt1 (a b : Nat) : ([a] < [b]) ↔ a < b := by
  constructor
  · intro h
    cases h with
    | rel h => exact h
    | cons h => cases h
  · exact fun h => List.Lex.rel h
/-! ### texts of single signs -/
theorem joinL_nil : ∀ ps : List (List Nat), TL.joinL [] ps = ps.flatten
  | [] => rfl
  | [p] => by simp [TL.joinL]
  | p :: q :: r => by
    show p ++ ([] ++ TL.joinL [] (q :: r)) = _
    rw [joinL_nil (q :: r)]
    rfl
theorem join_signs (cs : List Nat) : Txt.join (Str.ofString "") (cs.map fun c => (⟨#[c]⟩ : Str)) = ⟨cs.toArray⟩ := by
  refine TL.ext_tl ?_
  rw [TL.join_eq, TL.tl_join]
  have e : TL.tl (Str.ofString "") = [] := rfl
  rw [e, joinL_nil, List.map_map, TL.tl_mk]
  induction cs with
  | nil => rfl
  | cons c r ih =>
    rw [List.map_cons, List.flatten_cons, ih]
    rfl
theorem sum_ones (cs : List Nat) : ((cs.map fun c => (⟨#[c]⟩ : Str)).map (·.length)).sum = cs.length := by
  induction cs with
  | nil => rfl
  | cons c r ih =>
    rw [List.map_cons, List.map_cons, List.sum_cons, ih, List.length_cons]
    show 1 + r.length = r.length + 1
    omega
end RT

/-! the words that draw -/
namespace RT
open PySem PySem.Spec PyProof.Rows L2
theorem scBegin : FnScope ["_law_script"] ["_law_script"] (defScope sBegin) := ⟨rfl, rfl, rfl, by decide +kernel, rfl, by decide +kernel, by decide +kernel⟩
theorem scNext : FnScope ["_law_draws", "_law_many_here", "_law_cell", "_law_digit"] ["_law_draws", "_law_many_here"] (defScope sNext) := ⟨rfl, rfl, rfl, by decide +kernel, rfl, by decide +kernel, by decide +kernel⟩
theorem scMany : FnScope ["_law_draws", "_law_few", "_law_most"] ["_law_draws", "_law_few", "_law_most"] (defScope sMany) := ⟨rfl, rfl, rfl, by decide +kernel, rfl, by decide +kernel, by decide +kernel⟩
theorem cut63 (xs : List V) : cutV xs none (some 63) = xs.take 63 := by
  unfold cutV
  rw [HT.sIx_none, show HT.sIx xs.length xs.length (some 63) = min 63 xs.length from HT.sIx_nat xs.length xs.length 63]
  rw [List.drop_zero, Nat.sub_zero]
  by_cases h : xs.length ≤ 63
  · rw [Nat.min_eq_right h, List.take_length, List.take_of_length_le h]
  · rw [Nat.min_eq_left (by omega)]
theorem seq_split {ta tb : TS} {D : Ends} {σ : L2.St} {H : Hp} (T : L2.St → Hp → Prop) (S : ∀ σ' H', T σ' H' → tb D σ' H') (h : (∀ σ' H', T σ' H' → tb D σ' H') → ta { D with nx := tb D } σ H) : tSeq ta tb D σ H := h S
section
variable {P : Program} {w : World} {K : PySem.W.Frag} {mg : Str → Option Value} {base : Heap}
def spBegin (K : PySem.W.Frag) : Sp := fun vs H Q _ => ∃ (a : Addr) (ns : List Int), vs = [.ref a] ∧ SqL K H a (ns.map V.int) ∧
  ∀ (pd pc : Addr) (H' : Hp), Kp M0 H H' → Pot H' pd pc → Q (.ref pd) H'
theorem ok_begin {f : Addr} {fd : FuncData} {k : Nat} (F : Fun K "_law_begin" "_law_begin" sBegin f fd) (mli : mg "list" = none) : FnOk P w K mg base CX0 (k + 1) f fd ["_law_script"] (spBegin K) := by
  refine F.ok scBegin (fun vs H Q E h => ?_) (fun cdv A outer s H vs Q E hr h => ?_)
  · obtain ⟨a, ns, rfl, _⟩ := h
    rfl
  · obtain ⟨a, ns, rfl, hS, q⟩ := h
    refine ⟨_, (pss_one (ps_ret (pe_disp (pps_cons pe_str (pe_callTy call_list_of (by rfl) mli (by decide +kernel) (pa_cons (pe_slice sl_list (pv 0) po_none (po_some pe_int)) pa_nil)) (pps_cons pe_str pe_int (pps_cons pe_str pe_int (pps_cons pe_str pe_int pps_nil)))) (by rfl) (by rfl) (fun z => by cases z) (by decide)))), ?_⟩
    intro p np
    refine ⟨.ref a, rfl, 63, rfl, a, ns.map V.int, rfl, sqL_keep (Kp.new np) hS, fun c nc => ?_⟩
    rw [cut63, ← List.map_take]
    have pc : p ≠ c := fun z => by
      rw [← z, upd_same] at nc
      cases nc
    refine ⟨c, (ns.take 63).map V.int, rfl, .inl (SqL.of upd_same), fun l nl => ?_⟩
    have lc : c ≠ l := fun z => by
      rw [← z, upd_same] at nl
      cases nl
    have pl : p ≠ l := fun z => by
      rw [← z, upd_ne pc, upd_same] at nl
      cases nl
    refine ⟨?_, [(.inr "cells", .ref l), (.inr "at", .int 0), (.inr "left", .int 0), (.inr "seed", .int 1000003)], rfl, (by show 4 ≤ 15; decide), ?_⟩
    · rw [upd_ne pl, upd_ne pc, upd_same]
    refine q p l _ (fun b u _ e => ?_) ⟨ns.take 63, 0, 0, 1000003, upd_same, ?_, by decide, by decide, by decide, by decide, by rw [List.length_take]; omega⟩
    · have nb := ne_of_none e np
      have nbc : b ≠ c := ne_of_none (by rw [upd_ne nb]; exact e) nc
      have nbl : b ≠ l := ne_of_none (by rw [upd_ne nbc, upd_ne nb]; exact e) nl
      rw [upd_ne nb, upd_ne nbl, upd_ne nbc, upd_ne nb]
      exact e
    · rw [upd_ne pl.symm, upd_same]
def spNext : Sp := fun vs H Q _ => ∃ (pd pc : Addr) (m : Int), vs = [.ref pd, .int m] ∧ Pot H pd pc ∧ 1 ≤ m ∧ m < 1073741824 ∧
  ∀ (d : Nat) (H' : Hp), (d : Int) < m → Pot H' pd pc → Kp (PM pd) H H' → Q (.int (d : Nat)) H'
theorem ok_next {f : Addr} {fd : FuncData} {k : Nat} (F : Fun K "_law_next" "_law_next" sNext f fd) (ml : mg "len" = none) (mint : mg "int" = none) : FnOk P w K mg base CX0 (k + 1) f fd ["_law_draws", "_law_many_here"] spNext := by
  refine F.ok scNext (fun vs H Q E h => ?_) (fun cdv A outer s H vs Q E hr h => ?_)
  · obtain ⟨pd, pc, m, rfl, _⟩ := h
    rfl
  · obtain ⟨pd, pc, m, rfl, hP, hm1, hm2, q⟩ := h
    obtain ⟨ns, a, l, s0, E⟩ := hP
    refine ⟨_, (pss_cons (ps_if (PW.pt (pw_and (pt_cmpR op_eq (pe_dget (hu_of hr) (pv 0) pe_str (fun _ _ => rfl)) pe_int (nomark _)) (pw_and1 (pt_cmpR op_lt (pe_dget (hu_of hr) (pv 0) pe_str (fun _ _ => rfl)) (pe_callB call_len_seq (by rfl) ml PySem.boot_len (pa_cons (pe_dget (hu_of hr) (pv 0) pe_str (fun _ _ => rfl)) pa_nil)) (nomark _))))) (pss_cons (ps_set (i := 2) scNext.nd rfl (.inl rfl) (pe_ix ix_list (pe_dget (hu_of hr) (pv 0) pe_str (fun _ _ => rfl)) (pe_dget (hu_of hr) (pv 0) pe_str (fun _ _ => rfl)) (fun _ _ => rfl)))
      (pss_cons (ps_dput (hu_of hr) (pv 0) pe_str (pe_op op_add (pe_dget (hu_of hr) (pv 0) pe_str (fun _ _ => rfl)) pe_int) rfl)
      (pss_cons (ps_dput (hu_of hr) (pv 0) pe_str (pe_op op_mod (pe_op op_add (pe_op op_add (pe_op op_mul (pe_dget (hu_of hr) (pv 0) pe_str (fun _ _ => rfl)) pe_int) (pe_op op_mod (pv 2) (pe_op op_pow pe_int pe_int))) pe_int) pe_int) rfl)
      (pss_one (ps_dput (hu_of hr) (pv 0) pe_str (pe_op op_mul (pv 2) (pe_callTy call_int1 (by rfl) mint (by decide +kernel) (pa_cons (pe_cmpR op_ge (pv 2) (pe_op op_pow pe_int pe_int) (nomark _)) pa_nil))) rfl))))) pss_nil)
      (pss_cons (ps_if (pt_cmpR op_gt (pe_dget (hu_of hr) (pv 0) pe_str (fun _ _ => rfl)) pe_int (nomark _)) (pss_cons (ps_set (i := 3) scNext.nd rfl (.inl rfl) (pe_op op_mod (pe_dget (hu_of hr) (pv 0) pe_str (fun _ _ => rfl)) (pv 1)))
      (pss_cons (ps_dput (hu_of hr) (pv 0) pe_str (pe_op op_fdiv (pe_dget (hu_of hr) (pv 0) pe_str (fun _ _ => rfl)) (pv 1)) rfl)
      (pss_one (ps_ret (pv 3))))) pss_nil)
      (pss_cons (ps_dput (hu_of hr) (pv 0) pe_str (pe_op op_mod (pe_op op_add (pe_op op_mul (pe_dget (hu_of hr) (pv 0) pe_str (fun _ _ => rfl)) pe_int) pe_int) pe_int) rfl)
      (pss_one (ps_ret (pe_op op_mod (pe_op op_fdiv (pe_op op_mod (pe_op op_mul (pe_dget (hu_of hr) (pv 0) pe_str (fun _ _ => rfl)) (pe_dget (hu_of hr) (pv 0) pe_str (fun _ _ => rfl))) pe_int) pe_int) (pv 1))))))), ?_⟩
    have e18 : (10 : Int) ^ 18 < 2 ^ 64 := by decide
    have T1 : (3 : Nat) < 1000 := by decide
    have room : (4 : Nat) < sizeLine := by decide
    have wide : ∀ {s : Int}, 0 ≤ s → s < 2305843009213693951 → -(2 ^ 64) < s ∧ s < 2 ^ 64 := fun h0 h1 => by
      have : (2 : Int) ^ 64 = 18446744073709551616 := by decide
      omega
    have q2 : ∀ (y : Int) (H' : Hp), Pot H' pd pc → Kp (PM pd) H H' → Q (.int (y % m)) H' := fun y H' p k => by
      obtain ⟨d, ed⟩ := Int.eq_ofNat_of_zero_le (Int.emod_nonneg y (show m ≠ 0 by omega))
      have lt := Int.emod_lt_of_pos y (show 0 < m by omega)
      rw [ed] at lt ⊢
      exact q d H' lt p k
    -- from the second part on
    refine seq_split (fun σ' H' => ∃ (a l s : Int) (y2 y3 : Option V), σ' = [some (.ref pd), some (.int m), y2, y3] ∧ PotE H' pd pc ns a l s ∧ Kp (PM pd) H H') ?_ (fun S => ?_)
    · rintro _ H2 ⟨a, l, s, y2, y3, rfl, E, k2⟩
      refine ⟨_, rfl, pd, _, rfl, DGet.k (k := .inr "left") E.d, _, _, rfl, rfl, _, rfl, ite2 (fun c => ?A) (fun c => ?B)⟩
      case A =>
        have l0 : 0 < l := of_decide_eq_true c
        refine ⟨_, rfl, pd, _, rfl, DGet.k (k := .inr "left") E.d, _, rfl, _, _, rfl, rfl, (by show (0 : Int) < m; omega), ?_⟩
        refine ⟨_, rfl, pd, _, rfl, DGet.k (k := .inr "left") E.d, _, rfl, _, _, rfl, rfl, ⟨by omega, by omega⟩, _, rfl, pd, _, rfl, DPut.k (k := .inr "left") E.d room, _, rfl, ?_⟩
        exact q2 l _ ⟨ns, a, l / m, s, E.put E.a0 (Int.ediv_nonneg E.l0 (by omega)) E.s0 E.s1⟩ (k2.trans (Kp.put rfl))
      case B =>
        refine ⟨_, rfl, pd, _, rfl, DGet.k (k := .inr "seed") E.d, _, _, rfl, rfl, .inl (wide E.s0 E.s1), _, _, rfl, rfl, _, _, rfl, rfl, (by show (0 : Int) < 2305843009213693951; decide), _, rfl, pd, _, rfl, DPut.k (k := .inr "seed") E.d room, ?_⟩
        have E2 := E.put (s' := (s * 1181783497276652981 + 12345678910987) % 2305843009213693951) E.a0 E.l0 (Int.emod_nonneg _ (by decide)) (Int.emod_lt_of_pos _ (by decide))
        have k3 : Kp (PM pd) H (upd H2 pd _) := k2.trans (Kp.put (M := PM pd) (H := H2) (p := pd) (o := .dK [(.inr "cells", .ref pc), (.inr "at", .int a), (.inr "left", .int l), (.inr "seed", .int ((s * 1181783497276652981 + 12345678910987) % 2305843009213693951))]) rfl)
        refine ⟨_, rfl, pd, _, rfl, DGet.k (k := .inr "seed") E2.d, _, rfl, pd, _, rfl, DGet.k (k := .inr "seed") E2.d, _, _, rfl, rfl, .inl (wide E2.s0 E2.s1), _, _, rfl, rfl, (by show (0 : Int) < 2305843009213693921; decide), _, _, rfl, rfl, ⟨by decide, by decide⟩, _, rfl, _, _, rfl, rfl, (by show (0 : Int) < m; omega), ?_⟩
        exact q2 _ _ ⟨ns, a, l, _, E2⟩ k3
    · refine ⟨_, rfl, pd, _, rfl, DGet.k (k := .inr "left") E.d, rfl, _, rfl, ite2 (fun c => ?A) (fun c => iteF ?B)⟩
      case B => exact S _ _ ⟨a, l, s0, none, none, rfl, E, Kp.refl⟩
      case A =>
        refine ⟨_, rfl, pd, _, rfl, DGet.k (k := .inr "at") E.d, _, rfl, pd, _, rfl, DGet.k (k := .inr "cells") E.d, pc, ns.map V.int, rfl, .inl (SqL.of E.c), _, _, rfl, rfl, _, rfl, ite2 (fun c2 => ?A) (fun c2 => ?B)⟩
        case B => exact S _ _ ⟨a, l, s0, none, none, rfl, E, Kp.refl⟩
        case A =>
          have lt : a < ((ns.map V.int).length : Nat) := of_decide_eq_true c2
          have a0 := E.a0
          obtain ⟨j, rfl⟩ := Int.eq_ofNat_of_zero_le a0
          have hj : j < ns.length := by
            rw [List.length_map] at lt
            omega
          have gj : (ns.map V.int)[j]? = some (.int ns[j]) := by rw [List.getElem?_map, List.getElem?_eq_getElem hj]; rfl
          generalize ns[j] = n at gj
          refine ⟨_, rfl, pd, _, rfl, DGet.k (k := .inr "cells") E.d, _, rfl, pd, _, rfl, DGet.k (k := .inr "at") E.d, pc, _, j, .int n, rfl, rfl, SqL.of E.c, atI_nat (j := j) gj, ?_⟩
          refine ⟨_, rfl, pd, _, rfl, DGet.k (k := .inr "at") E.d, _, _, rfl, rfl, _, rfl, pd, _, rfl, DPut.k (k := .inr "at") E.d room, ?_⟩
          have E2 := E.put (a' := (j : Int) + 1) (l' := l) (s' := s0) (by omega) E.l0 E.s0 E.s1
          refine ⟨_, rfl, pd, _, rfl, DGet.k (k := .inr "seed") E2.d, _, _, rfl, rfl, .inl (wide E2.s0 E2.s1), _, rfl, _, _, rfl, rfl, ⟨by decide, by decide, by decide⟩, _, _, rfl, rfl, (by show (0 : Int) < 10 ^ 30; decide), _, _, rfl, rfl, _, _, rfl, rfl, _, _, rfl, rfl, (by show (0 : Int) < 2305843009213693951; decide), _, rfl, pd, _, rfl, DPut.k (k := .inr "seed") E2.d room, ?_⟩
          have E3 := E2.put (s' := (s0 * 7368787 + n % 10 ^ 30 + 11) % 2305843009213693951) E2.a0 E2.l0 (Int.emod_nonneg _ (by decide)) (Int.emod_lt_of_pos _ (by decide))
          refine ⟨_, rfl, _, rfl, _, _, rfl, rfl, ⟨by decide, by decide, by decide⟩, _, _, rfl, rfl, .inr ⟨_, rfl, _, _, rfl, rfl, .inr ?_, _, rfl, pd, _, rfl, DPut.k (k := .inr "left") E3.d room, ?_⟩⟩
          · split <;> exact ⟨by decide, by decide⟩
          · have n0 : 0 ≤ n * (if (decide ((10 : Int) ^ 18 ≤ n)) = true then 1 else 0) := by
              by_cases z : (10 : Int) ^ 18 ≤ n
              · rw [if_pos (decide_eq_true z)]
                have : (0 : Int) ≤ 10 ^ 18 := by decide
                omega
              · rw [if_neg (by rw [decide_eq_false z]; exact Bool.false_ne_true), Int.mul_zero]
                exact Int.le_refl 0
            exact S _ _ ⟨_, _, _, _, _, rfl, E3.put E3.a0 n0 E3.s0 E3.s1, ((Kp.put (M := PM pd) rfl).trans (Kp.put (M := PM pd) rfl)).trans (Kp.put (M := PM pd) rfl)⟩
def spMany : Sp := fun vs H Q _ => ∃ (pd pc : Addr) (a b : Nat), vs = [.ref pd, .int (a : Nat), .int (b : Nat)] ∧ Pot H pd pc ∧ a ≤ 1000 ∧ b ≤ 1000 ∧
  ∀ (d : Nat) (H' : Hp), d ≤ max a b → Pot H' pd pc → Kp (PM pd) H H' → Q (.int (d : Nat)) H'
theorem ok_many {f fn : Addr} {fd fdn : FuncData} {k : Nat} (F : Fun K "_law_many" "_law_many" sMany f fd) (GN : FnOk P w K mg base CX0 k fn fdn ["_law_draws", "_law_many_here"] spNext) (kn : PySem.W.keepIn K (.ref fn) = true) (bn : Binds K fdn ["_law_draws", "_law_many_here"] []) (gn : mg "_law_next" = some (.ref fn)) :
    FnOk P w K mg base CX0 (k + 1) f fd ["_law_draws", "_law_few", "_law_most"] spMany := by
  refine F.ok scMany (fun vs H Q E h => ?_) (fun cdv A outer s H vs Q E hr h => ?_)
  · obtain ⟨pd, pc, a, b, rfl, _⟩ := h
    rfl
  · obtain ⟨pd, pc, a, b, rfl, hP, ha, hb, q⟩ := h
    refine ⟨_, (pss_cons (ps_if (pt_cmpR op_eq (pe_call GN hr (by rfl) gn kn bn .nil pass0 (pa_cons (pv 0) (pa_cons pe_int pa_nil))) pe_int (nomark _)) (pss_one (ps_ret (pe_call GN hr (by rfl) gn kn bn .nil pass0 (pa_cons (pv 0) (pa_cons (pe_op op_add (pv 2) pe_int) pa_nil))))) pss_nil)
      (pss_one (ps_ret (pe_call GN hr (by rfl) gn kn bn .nil pass0 (pa_cons (pv 0) (pa_cons (pe_op op_add (pv 1) pe_int) pa_nil)))))), ?_⟩
    refine ⟨_, rfl, pd, pc, 8, rfl, hP, by decide, by decide, fun d H1 lt P1 k1 => ⟨rfl, _, rfl, ite2 (fun c => ?_) (fun c => ?_)⟩⟩
    · exact ⟨_, rfl, _, rfl, _, _, rfl, rfl, pd, pc, _, rfl, P1, by omega, by omega, fun e H2 lt2 P2 k2 => q e H2 (by omega) P2 (k1.trans k2)⟩
    · exact ⟨_, rfl, _, rfl, _, _, rfl, rfl, pd, pc, _, rfl, P1, by omega, by omega, fun e H2 lt2 P2 k2 => q e H2 (by omega) P2 (k1.trans k2)⟩
end
end RT

/-! things that are drawn: texts, ints, None, tuples of such; forms as such things -/
namespace RT
open PySem PySem.Spec PyProof.Rows L2
inductive D where
  | str (z : Str)
  | int (i : Int)
  | non
  | tup (ds : List D)
mutual
inductive Rp (H : Hp) : V → D → Prop
  | str {z : Str} : z.length ≤ sizeLine → Rp H (.str z) (.str z)
  | int {i : Int} : Rp H (.int i) (.int i)
  | non : Rp H .non .non
  | tup {a : Addr} {vs : List V} {ds : List D} : H a = some (.tup vs) → Rps H vs ds → Rp H (.ref a) (.tup ds)
inductive Rps (H : Hp) : List V → List D → Prop
  | nil : Rps H [] []
  | cons {v : V} {d : D} {vs : List V} {ds : List D} : Rp H v d → Rps H vs ds → Rps H (v :: vs) (d :: ds)
end
mutual
theorem Rp.keep {H H' : Hp} {M : Addr → Prop} (k : Kp M H H') (h : ∀ a xs, M a → H a ≠ some (.tup xs)) : ∀ {v : V} {d : D}, Rp H v d → Rp H' v d
  | _, _, .str z => .str z
  | _, _, .int => .int
  | _, _, .non => .non
  | _, _, .tup e r => .tup (k _ _ (fun m => h _ _ m e) e) (Rps.keep k h r)
theorem Rps.keep {H H' : Hp} {M : Addr → Prop} (k : Kp M H H') (h : ∀ a xs, M a → H a ≠ some (.tup xs)) : ∀ {vs : List V} {ds : List D}, Rps H vs ds → Rps H' vs ds
  | _, _, .nil => .nil
  | _, _, .cons r t => .cons (r.keep k h) (Rps.keep k h t)
end
theorem Rps.len {H : Hp} : ∀ {vs : List V} {ds : List D}, Rps H vs ds → vs.length = ds.length
  | _, _, .nil => rfl
  | _, _, .cons _ t => by rw [List.length_cons, List.length_cons, Rps.len t]
theorem Rps.app {H : Hp} : ∀ {vs ws : List V} {ds es : List D}, Rps H vs ds → Rps H ws es → Rps H (vs ++ ws) (ds ++ es)
  | _, _, _, _, .nil, r => r
  | _, _, _, _, .cons q t, r => .cons q (Rps.app t r)
theorem Rps.get {H : Hp} : ∀ {vs : List V} {ds : List D}, Rps H vs ds → ∀ (i : Nat) (v : V), vs[i]? = some v → ∃ d, ds[i]? = some d ∧ Rp H v d
  | _, _, .nil, i, v, h => by simp at h
  | _, _, .cons q t, 0, v, h => by
    cases h
    exact ⟨_, rfl, q⟩
  | _, _, .cons q t, i + 1, v, h => Rps.get t i v (by simpa using h)
/-- forms -/
inductive Fo where
  | leaf (w : Str) (r : List D)
  | one (w : Str) (f : Fo) (r : List D)
  | row (fs : List Fo)
  | either (ns : List Str) (fs : List Fo)
  | again (f : Fo)
  | between (f g : Fo)
  | counted (z : Str) (f : Fo)
  | named (x : Str)
mutual
def Fo.enc : Fo → D
  | .leaf w r => .tup (.str w :: r)
  | .one w f r => .tup (.str w :: f.enc :: r)
  | .row fs => .tup [.str "row", .tup (Fo.encs fs)]
  | .either ns fs => .tup [.str "either", .tup (List.zipWith (fun n d => .tup [.str n, d]) ns (Fo.encs fs))]
  | .again f => .tup [.str "again", f.enc, .non]
  | .between f g => .tup [.str "again", f.enc, g.enc]
  | .counted z f => .tup [.str "counted", .str z, f.enc]
  | .named x => .tup [.str "named", .str x]
def Fo.encs : List Fo → List D
  | [] => []
  | f :: r => f.enc :: Fo.encs r
end
mutual
/-- well made, as far as names and shapes go -/
def Fo.ok (N : List Str) : Fo → Prop
  | .leaf w _ => w ∈ ([("text" : Str), "sign", "word", "number", "pick"] : List Str)
  | .one w f _ => w ∈ ([("skip" : Str), "spelt", "turned"] : List Str) ∧ f.ok N
  | .row fs => Fo.oks N fs
  | .either ns fs => ns.length = fs.length ∧ Fo.oks N fs
  | .again f => f.ok N
  | .between f g => f.ok N ∧ g.ok N
  | .counted _ f => f.ok N
  | .named x => x ∈ N
def Fo.oks (N : List Str) : List Fo → Prop
  | [] => True
  | f :: r => f.ok N ∧ Fo.oks N r
end
mutual
/-- how many forms stand in it, itself among them -/
def Fo.size : Fo → Nat
  | .leaf _ _ => 1
  | .one _ f _ => 1 + f.size
  | .row fs => 1 + Fo.sizes fs
  | .either _ fs => 1 + Fo.sizes fs
  | .again f => 1 + f.size
  | .between f g => 1 + f.size + g.size
  | .counted _ f => 1 + f.size
  | .named _ => 1
def Fo.sizes : List Fo → Nat
  | [] => 0
  | f :: r => f.size + Fo.sizes r
end
/-- those that stand in it -/
def Fo.inner : Fo → List Fo
  | .leaf _ _ => []
  | .one _ f _ => [f]
  | .row fs => fs
  | .either _ fs => fs
  | .again f => [f]
  | .between f g => [f, g]
  | .counted _ f => [f]
  | .named _ => []
theorem Fo.size_pos : ∀ f : Fo, 1 ≤ f.size
  | .leaf _ _ | .named _ => Nat.le_refl _
  | .one _ _ _ | .row _ | .either _ _ | .again _ | .counted _ _ => by simp only [Fo.size]; omega
  | .between _ _ => by simp only [Fo.size]; omega
theorem Fo.sizes_app : ∀ fs gs : List Fo, Fo.sizes (fs ++ gs) = Fo.sizes fs + Fo.sizes gs
  | [], gs => by simp [Fo.sizes]
  | f :: r, gs => by
    show f.size + Fo.sizes (r ++ gs) = f.size + Fo.sizes r + Fo.sizes gs
    rw [Fo.sizes_app r gs]
    omega
theorem Fo.oks_app {N : List Str} : ∀ fs gs : List Fo, Fo.oks N fs → Fo.oks N gs → Fo.oks N (fs ++ gs)
  | [], _, _, h => h
  | _ :: r, gs, h, k => ⟨h.1, Fo.oks_app r gs h.2 k⟩
theorem Fo.encs_app : ∀ fs gs : List Fo, Fo.encs (fs ++ gs) = Fo.encs fs ++ Fo.encs gs
  | [], _ => rfl
  | f :: r, gs => by
    show f.enc :: Fo.encs (r ++ gs) = f.enc :: (Fo.encs r ++ Fo.encs gs)
    rw [Fo.encs_app r gs]
theorem Fo.inner_size (f : Fo) : Fo.sizes f.inner + 1 = f.size := by
  cases f <;> simp only [Fo.inner, Fo.sizes, Fo.size] <;> omega
theorem Fo.inner_ok {N : List Str} (f : Fo) (h : f.ok N) : Fo.oks N f.inner := by
  cases f with
  | leaf w r => exact True.intro
  | one w f r => exact ⟨h.2, True.intro⟩
  | row fs => exact h
  | either ns fs => exact h.2
  | again f => exact ⟨h, True.intro⟩
  | between f g => exact ⟨h.1, h.2, True.intro⟩
  | counted z f => exact ⟨h, True.intro⟩
  | named x => exact True.intro
end RT

set_option maxHeartbeats 1000000
/-! del d[k] with a tuple key; calls of a local name; tuples stay -/
namespace RT
open PySem PySem.Spec PyProof.Rows L2
theorem iteF' {b : Bool} {A B : Prop} (e : b = false) (h : B) : if b = true then A else B := by
  rw [e]
  exact iteF h
theorem iteT' {b : Bool} {A B : Prop} (e : b = true) (h : A) : if b = true then A else B := by
  rw [e]
  exact iteT h
/-- del d[k], d a dict with tuple keys -/
def tDDelT (td ty : TE) : L2.TS := fun D σ H => td σ H fun x H1 => ty σ H1 fun y H2 => ∃ (a b : Addr) (kvs : List (List L2.Key × V)) (k : List L2.Key), x = .ref a ∧ H2 a = some (.dT kvs) ∧ y = .ref b ∧ H2 b = some (.tup (k.map kV)) ∧ (valV kvs k).isSome = true ∧ D.nx σ (upd H2 a (.dT (dropK kvs k)))
section
variable {X : Cx}
theorem ps_ddelT {o i : Expr} {td ty : TE} {tpos pos : Pos} (hu : X.A.units + 1 < cLine) (ho : PE X o td) (hi : PE X i ty) : PS X (.Delete [.Subscript o i tpos] pos) (tDDelT td ty) := by
  refine ⟨fun pins s σ H D I h => ?_⟩
  refine wpAny_Delete (wpAny_deleteEach_cons (wpAny_delete_Subscript (thn (ho.run pins s σ H _ I h) fun u s1 ⟨x, H1, I1, rx, q1⟩ => thn (hi.run pins s1 σ H1 _ I1 q1) fun iv s2 ⟨y, H2, I2, ry, a, b, kvs, k, ex, ha, ey, hb, hv, q2⟩ => ?_)))
  subst ex ey
  obtain rfl : u = Value.ref a := rx
  obtain rfl : iv = Value.ref b := ry
  obtain ⟨z, hd, xs, rel, dd⟩ := dt_of I2.hok ha
  have hz : xs.length ≤ sizeLine := by rw [← Paired.length rel]; exact z
  obtain ⟨v0, ev⟩ := Option.isSome_iff_exists.mp hv
  have r := rel.val k
  rw [ev] at r
  cases hp : atKey xs k with
  | none =>
    rw [hp] at r
    exact (show False from r).elim
  | some p =>
    refine wpAny_delItem_heap (hsz := hz) (knd := tupleKind (mixKind X.prog X.w)) (tupleKind_room_in1 hu) (key_of I2.hok hb) hd dd hp fun h' dd' hs => wpAny_deleteEach_nil ⟨σ, _, ?_, q2⟩
    obtain ⟨ob, es, ep, hq, h2, h3, h4, _, h5⟩ := dd'
    exact d_write I2 (by rw [ha]; exact True.intro) hs ⟨ob, hq⟩ ⟨Nat.le_trans (dropK_le kvs k) z, hd, _, (L2.DX.KT_drop k rel).keeps (fun c ys ec => (by rw [upd_ne (ne_of ec ha (fun z => nomatch z))]; exact ec)), ob, es, ep, hq, h2, h3, h4, h5⟩
end
def tKGet (K : PySem.W.Frag) (d : Addr) (td ty : TE) : TE := fun σ H Q => td σ H fun x H1 => x = .ref d ∧ ty σ H1 fun y H2 => ∃ (z : Str) (u0 : Value) (v0 : V), y = .str z ∧ PySem.W.nsIn K d z = some (some u0) ∧ RelV v0 u0 ∧ Q v0 H2
section
variable {X : Cx} {o i : Expr} {pos : Pos} {td ty : TE} {d : Addr} {es : Array DictEntry} {n : Nat}
/-- d[k] -/
theorem pe_kix (D : KDict X.K X.w d es n) (ho : PE X o td) (hi : PE X i ty) (hs : NoSl i) : PE X (.Subscript o i pos) (tKGet X.K d td ty) := by
  refine ⟨fun pins s σ H Q I h => ?_⟩
  refine subD_of PySem.F.slot_dict_getitem.lookup hs (thn (ho.run pins s σ H _ I h) fun u s1 ⟨x, H1, I1, rx, ex, q1⟩ => thn (hi.run pins s1 σ H1 _ I1 q1) fun iv s2 ⟨y, H2, I2, ry, z, u0, v0, ey, en, r, q2⟩ => ?_)
  subst ex ey
  obtain rfl : u = Value.ref d := rx
  obtain ⟨t, rfl⟩ := ry
  exact ⟨kd_type D I2, wpAny_getItem_of (PySem.strKind_is X.prog X.w z t) (PySem.W.mapOf_K (prog := X.prog) I2.kIn D.at_ D.lit) (PySem.W.find_K D.at_ en) ⟨v0, H2, I2.tok _, r, q2⟩⟩
end
/-- f(e, ..), f a local name that holds one def or another -/
def tCallVs (P : Program) (w : World) (K : PySem.W.Frag) (mg : Str → Option Value) (base : Heap) (CX : CXT) (k i : Nat) (E : XK) (t : TA) : TE := fun σ H Q =>
  ∃ (f : Addr) (sp : Sp), σ[i]? = some (some (.ref f)) ∧ PySem.W.keepIn K (.ref f) = true ∧ FnR P w K mg base CX k f sp ∧ t σ H fun vs H1 => sp vs H1 Q E
theorem pe_callVs {X : Cx} {CX : CXT} {k i : Nat} {E : XK} {x : Str} {e : Expr} {es : List Expr} {t : TA} {p pos : Pos} (hr : Room k X.A) (hx : Passes CX X E) (hN : X.N[i]? = some x) (hv : Vis X.env.scope x) (ha : PA X (e :: es) t)
    (hd : (x == ("__debug__" : Str)) = false := by decide) (hcd : (x == ("__classdict__" : Str)) = false := by decide)
    (st : starEach (e :: es) X.env = (false, eval e X.env) :: starEach es X.env := by rfl) (pl : (backTo pos (starEach es X.env)).any (·.1) = false := by rfl) : PE X (.Call (.Name x p) (e :: es) [] pos) (tCallVs X.prog X.w X.K X.mg X.base CX k i E t) :=
  ⟨fun pins s σ H Q I ⟨f, sp, hs, hk, F, h⟩ => (ItX.pe_callV (i := i) F hr hk hx hN hv ha hd hcd st pl).run pins s σ H Q I ⟨hs, h⟩⟩
/-! ### tuples stay -/
abbrev TS (H H' : Hp) : Prop := ∀ (b : Addr) (vs : List V), H b = some (.tup vs) → H' b = some (.tup vs)
theorem TS.new {H : Hp} {p : Addr} {o : HO} (n : H p = none) : TS H (upd H p o) := fun b vs e => by rw [upd_ne (ne_of_none e n)]; exact e
theorem TS.put {H : Hp} {p : Addr} {o u : HO} (e : H p = some u) (h : ∀ vs, u ≠ .tup vs) : TS H (upd H p o) := fun b vs q => by
  rw [upd_ne (ne_of q e fun z => h _ z.symm)]
  exact q
theorem TS.trans {H H1 H2 : Hp} (a : TS H H1) (b : TS H1 H2) : TS H H2 := fun c vs e => b c vs (a c vs e)
mutual
theorem Rp.ts {H H' : Hp} (k : TS H H') : ∀ {v : V} {d : D}, Rp H v d → Rp H' v d
  | _, _, .str z => .str z
  | _, _, .int => .int
  | _, _, .non => .non
  | _, _, .tup e r => .tup (k _ _ e) (Rps.ts k r)
theorem Rps.ts {H H' : Hp} (k : TS H H') : ∀ {vs : List V} {ds : List D}, Rps H vs ds → Rps H' vs ds
  | _, _, .nil => .nil
  | _, _, .cons r t => .cons (r.ts k) (Rps.ts k t)
end
theorem room_of {k : Nat} {A : Around} (hr : Room k A) : A.units + 65 < cLine := by
  have := hr.un
  omega
theorem taken {α : Type} (sel : Nat → Bool) (a : Nat) : ∀ (xs : List α) (off : Nat), (∀ k, off ≤ k → k < off + xs.length → sel k = decide (a ≤ k)) →
    ((xs.zipIdx off).filterMap fun p => if sel p.2 = true then none else some p.1) = xs.take (a - off)
  | [], off, _ => by simp
  | x :: r, off, h => by
    rw [List.zipIdx_cons, List.filterMap_cons]
    have h0 := h off (Nat.le_refl _) (by rw [List.length_cons]; omega)
    have ih := taken sel a r (off + 1) fun k k1 k2 => h k (by omega) (by rw [List.length_cons]; omega)
    by_cases c : a ≤ off
    · rw [decide_eq_true c] at h0
      simp only [h0, if_true, ih]
      rw [show a - off = 0 by omega, show a - (off + 1) = 0 by omega]
      rfl
    · rw [decide_eq_false c] at h0
      simp only [h0, Bool.false_eq_true, if_false, ih]
      rw [show a - off = (a - (off + 1)) + 1 by omega]
      rfl
theorem tail_run {a n : Nat} (ha : a ≤ n) : sliceBounds (some (a : Int)) none none n = ((a : Int), (n : Int), 1) := by
  have h1 : ¬ ((a : Int) < 0) := by omega
  simp only [sliceBounds, Option.getD_none, h1, if_false, show (1 : Int) > 0 by decide, if_true]
  congr 1
  omega
section
variable {P : Program} {w : World} {A : Around} {E : Value → Shared → Prop} {s : Shared}
theorem del_tail {l sl : Addr} {items : Array Value} {n a : Nat} {vl vu : Value} {Q : Unit → Shared → Prop} (e : s.heap.get? l = some { cls := .type "list", data := .seq items n }) (hs : s.heap.IsSliceOf sl vl vu .none)
    (pl : IsPart vl (some (a : Int))) (pu : IsPart vu none) (ha : a ≤ items.size) (hz : items.size ≤ sizeLine) (q : ∀ f : Array Value → Array Value, f items = (items.toList.take a).toArray → Q () { s with heap := s.heap.update l (Obj.mapSeq f) }) :
    wpAny (model P w) A (delItem (.ref l) (.ref sl)) Q E s := by
  have il : s.heap.IsList l items := PySem.IsL.isList e
  obtain ⟨os, hos, hcs, hds⟩ := id hs
  have ty : s.TypeIs (.ref sl) "slice" := ⟨os, hos, hcs⟩
  have nostep : ¬ ((rawPart none == rawInt 0) = true) := Bool.false_ne_true
  refine wpAny_delItem_slot il.typeIs (by decide) PySem.F.slot_list_delitem (wpAny_call_entry PySem.F.slot_list_delitem il.typeIs PySem.F.entry_list_delitem ?_ (PySem.F.args_list_delitem_2 _ _))
  show wpAny _ _ (Builtin.List.listSubscript? (.ref sl) >>= _) _ _ s
  refine wpAny_bind ?_
  unfold Builtin.List.listSubscript?
  refine wpAny_bind (wpAny_specialOf ty slice_no_index (wpAny_pure ?_))
  show wpAny _ _ (typeOf (.ref sl) >>= _) _ _ s
  refine wpAny_bind (wpAny_typeOf ty ?_)
  rw [if_neg (by decide), listSliceParts_eq]
  refine wpAny_bind (wpAny_bind (wpAny_field hos hds (x := .none) rfl (wpAny_bind (wpAny_listPart .none ?_))))
  rw [if_neg nostep]
  refine wpAny_bind (wpAny_field hos hds (x := vl) rfl (wpAny_bind (wpAny_listPart pl ?_)))
  refine wpAny_bind (wpAny_field hos hds (x := vu) rfl (wpAny_bind (wpAny_listPart pu (wpAny_pure ?_))))
  unfold Builtin.List.listItems
  refine wpAny_bind (wpAny_bind (wpAny_seqItems e rfl (wpAny_pure ?_)))
  refine wpAny_bind (wpAny_of_eq ((sliceIndices_raw (some (a : Int)) none none items.size (by simp)).trans (congrArg (pure : Int × Int × Int → Sem (Int × Int × Int)) (tail_run ha))) ?_)
  refine wpAny_bind (wpAny_rule ?_)
  have ff : (List.filterMap (fun p : Value × Nat => if (if (1 : Int) > 0 then (decide ((a : Int) ≤ (p.2 : Int)) && decide ((p.2 : Int) < (items.size : Int)) && ((p.2 : Int) - (a : Int)) % 1 == 0) else (decide ((items.size : Int) < (p.2 : Int)) && decide ((p.2 : Int) ≤ (a : Int)) && ((a : Int) - (p.2 : Int)) % (-1) == 0)) = true then none else some p.1) items.toList.zipIdx).toArray = (items.toList.take a).toArray := by
    refine congrArg List.toArray ?_
    refine (taken (fun k => if (1 : Int) > 0 then (decide ((a : Int) ≤ (k : Int)) && decide ((k : Int) < (items.size : Int)) && ((k : Int) - (a : Int)) % 1 == 0) else (decide ((items.size : Int) < (k : Int)) && decide ((k : Int) ≤ (a : Int)) && ((a : Int) - (k : Int)) % (-1) == 0)) a items.toList 0 fun k _ k2 => ?_).trans (by rw [Nat.sub_zero])
    rw [Nat.zero_add, Array.length_toList] at k2
    rw [if_pos (by decide), Int.emod_one]
    have h2 : decide ((k : Int) < (items.size : Int)) = true := decide_eq_true (by omega)
    rw [h2, Bool.and_true]
    by_cases c : a ≤ k
    · rw [decide_eq_true c, decide_eq_true (show (a : Int) ≤ (k : Int) by omega)]
      rfl
    · rw [decide_eq_false c, decide_eq_false (show ¬ (a : Int) ≤ (k : Int) by omega)]
      rfl
  have q' := q (fun xs => (List.filterMap (fun p : Value × Nat => if (if (1 : Int) > 0 then (decide ((a : Int) ≤ (p.2 : Int)) && decide ((p.2 : Int) < (items.size : Int)) && ((p.2 : Int) - (a : Int)) % 1 == 0) else (decide ((items.size : Int) < (p.2 : Int)) && decide ((p.2 : Int) ≤ (a : Int)) && ((a : Int) - (p.2 : Int)) % (-1) == 0)) = true then none else some p.1) xs.toList.zipIdx).toArray) ff
  refine wpAny_bind (m := Builtin.List.listUpdate (.ref l) _) ?_
  refine wpAny_updateSeq (hz := hz) (_hz' := ?sz) e rfl ?wp
  case sz =>
    refine Nat.le_trans ?_ (Nat.le_succ_of_le hz)
    rw [List.size_toArray]
    refine Nat.le_trans (List.length_filterMap_le _ _) ?_
    rw [List.length_zipIdx, Array.length_toList]
    exact Nat.le_refl _
  case wp => exact wpAny_bind (wpAny_letGo (wpAny_pure ⟨.none, rfl, q'⟩))
end
/-- del xs[a:] -/
def tDelT (to ti : TE) : L2.TS := fun D σ H => to σ H fun x H1 => tPart ti σ H1 fun z H2 => ∃ (l : Addr) (xs : List V) (a : Nat), x = .ref l ∧ z = some ((a : Nat) : Int) ∧ H2 l = some (.lst xs) ∧ a ≤ xs.length ∧ D.nx σ (upd H2 l (.lst (xs.take a)))
section
variable {X : Cx}
theorem ps_delT {o i : Expr} {to ti : TE} {p1 p2 pos : Pos} (ho : PE X o to) (hi : PE X i ti) : PS X (.Delete [.Subscript o (.Slice (some i) none none p1) p2] pos) (tDelT to ti) := by
  refine ⟨fun pins s σ H D I h => ?_⟩
  refine wpAny_Delete (wpAny_deleteEach_cons (wpAny_delete_Subscript (thn (ho.run pins s σ H _ I h) fun u s1 ⟨x, H1, I1, rx, q1⟩ => ?_)))
  refine wpAny_Slice (thn ((po_some hi).run pins s1 σ H1 (fun z H2 => ∃ (l : Addr) (xs : List V) (a : Nat), x = .ref l ∧ z = some ((a : Nat) : Int) ∧ H2 l = some (.lst xs) ∧ a ≤ xs.length ∧ D.nx σ (upd H2 l (.lst (xs.take a)))) I1 q1) fun vl s2 ⟨z, H2, I2, pl, q2⟩ => ?_)
  · refine thn (po_none.run pins s2 σ H2 (fun z H3 => z = none ∧ H3 = H2) I2 ⟨rfl, rfl⟩) fun vu s3 ⟨z3, H3, I3, pu, e3, e4⟩ => ?_
    subst e3 e4
    rw [evalPart_none]
    refine wpAny_pure ?_
    obtain ⟨l, xs, a, ex, ez, hH, ha, q⟩ := q2
    subst ex ez
    obtain rfl : u = .ref l := rx
    have I4 : Inv X pins σ H3 { s3 with heap := s3.heap.push { cls := .type "slice", data := .fields #[vl, vu, .none] } } := I3.kept (t' := s3.toks) fun b ob q => Heap.get?_push_of_some _ q
    obtain ⟨z, its, n, r, hl, e⟩ := I4.lstM hH
    refine del_tail e (Heap.IsSliceOf.new ..) pl pu (by rw [List.size_toArray]; omega) (by rw [List.size_toArray]; omega) fun f hf => wpAny_deleteEach_nil ⟨σ, _, ?_, q⟩
    exact I4.lset (its' := its.take a) (t' := s3.toks) hH e (by rw [hf]) (r.take a) (by rw [List.length_take]; omega)
end
/-! ### t[::-1] -/
theorem back_adjust (n : Nat) : Builtin.Slice.sliceAdjust none none (-1) (n : Int) = ((n : Int) - 1, -1) := by
  unfold Builtin.Slice.sliceAdjust
  first | rfl | simp
theorem back_places (n : Nat) : Builtin.Slice.slicePlaces ((n : Int) - 1) (-1) (-1) = n := by
  unfold Builtin.Slice.slicePlaces
  first | omega | (split <;> omega) | (simp; omega) | (split <;> (try split) <;> simp <;> omega)
theorem fm_congr {α β : Type} {f g : α → Option β} : ∀ l : List α, (∀ x ∈ l, f x = g x) → l.filterMap f = l.filterMap g
  | [], _ => rfl
  | x :: r, h => by
    rw [List.filterMap_cons, List.filterMap_cons, h x (List.mem_cons_self ..), fm_congr r fun y m => h y (List.mem_cons_of_mem _ m)]
theorem back_pick (xs : Array Value) : ((List.range xs.size).filterMap fun (k : Nat) => xs[(((xs.size : Int) - 1) + (k : Int) * (-1)).toNat]?).toArray = xs.toList.reverse.toArray := by
  have e : (List.range xs.size).filterMap (fun (k : Nat) => xs[(((xs.size : Int) - 1) + (k : Int) * (-1)).toNat]?) = ((List.range xs.size).map fun k => xs.size - 1 - k).filterMap (xs[·]?) := by
    rw [List.filterMap_map]
    refine fm_congr _ fun k hk => ?_
    have := List.mem_range.mp hk
    show xs[(((xs.size : Int) - 1) + (k : Int) * (-1)).toNat]? = xs[xs.size - 1 - k]?
    rw [show (((xs.size : Int) - 1) + (k : Int) * (-1)).toNat = xs.size - 1 - k by omega]
  rw [e, PySem.W.krv_range, List.filterMap_reverse, PySem.W.krv_all]
section
variable {P : Program} {w : World} {A : Around} {E : Value → Shared → Prop} {s : Shared}
theorem back_tuple {t sl : Addr} {items : Array Value} {vl vu vs : Value} {Q : Value → Shared → Prop} (ht : IsTup s.heap t items) (hs : s.heap.IsSliceOf sl vl vu vs) (pl : IsPart vl none) (pu : IsPart vu none) (ps : IsPart vs (some (-1))) (hz : items.size ≤ sizeLine)
    (q : Q (.ref s.heap.objs.size) { s with heap := s.heap.push { cls := .type "tuple", data := .seq items.toList.reverse.toArray } }) : wpAny (model P w) A (getItem (.ref t) (.ref sl)) Q E s := by
  obtain ⟨os, hos, hcs, hds⟩ := id hs
  have ty : s.TypeIs (.ref sl) "slice" := ⟨os, hos, hcs⟩
  have fits : sizeOk (.seq items.toList.reverse.toArray) := by
    show items.toList.reverse.toArray.size ≤ sizeLine
    rw [List.size_toArray, List.length_reverse, Array.length_toList]
    exact hz
  unfold getItem
  refine wpAny_holding (wpAny_bind (wpAny_sequenceKey ht.typeIs (by decide) ?_))
  refine wpAny_bind (wpAny_callSpecial?_slot (name := Str.ofString "__getitem__") ht.typeIs PyProof.Rows.slot_tuple_getitem (wpAny_call_entry PyProof.Rows.slot_tuple_getitem ht.typeIs entry_tuple_getitem ?_ (args_tuple_getitem _ _)))
  show wpAny _ _ (Builtin.Tuple.tupleItemsOf (.ref t) >>= _) _ _ s
  refine wpAny_bind (tupleItemsOf_ ht (wpAny_bind (wpAny_typeOf ty ?_)))
  rw [if_pos (by decide)]
  have ap : wpAny (model P w) A.in1 (Builtin.Slice.sliceApplied (.ref sl) (pure (items.size : Int))) (fun r s' => r = (((items.size : Int) - 1), -1, items.size) ∧ s' = s) E s := by
    unfold Builtin.Slice.sliceApplied Builtin.Slice.sliceFields
    refine wpAny_bind (wpAny_bind (wpAny_field hos hds (x := vl) rfl (wpAny_bind (wpAny_field hos hds (x := vu) rfl (wpAny_bind (wpAny_field hos hds (x := vs) rfl (wpAny_pure ?_)))))))
    refine wpAny_bind (HT.slicePart_ ps ?_)
    show wpAny _ _ (if ((-1 : Int) == 0) = true then _ else _) _ _ s
    rw [if_neg (by decide)]
    refine wpAny_bind (HT.slicePart_ pl (wpAny_bind (HT.slicePart_ pu (wpAny_bind (wpAny_pure ?_)))))
    show wpAny _ _ (match Builtin.Slice.sliceAdjust none none (-1) (items.size : Int) with | (lo, hi) => pure (lo, (-1 : Int), Builtin.Slice.slicePlaces lo hi (-1))) _ _ s
    rw [back_adjust]
    show wpAny _ _ (pure ((items.size : Int) - 1, (-1 : Int), Builtin.Slice.slicePlaces ((items.size : Int) - 1) (-1) (-1))) _ _ s
    rw [back_places]
    exact wpAny_pure ⟨rfl, rfl⟩
  refine wpAny_bind (wpAny_mono ap (fun r s' ⟨e1, e2⟩ => ?_) fun _ _ z => z)
  subst e1 e2
  dsimp only
  rw [if_neg (by simp), back_pick]
  exact wpAny_bind (m := Builtin.Tuple.tupleExact _) (wpAny_newObj_type (wpAny_pure ⟨_, rfl, wpAny_pure q⟩) fits)
end
def tRevT (K : PySem.W.Frag) (te : TE) : TE := fun σ H Q => te σ H fun x H1 => ∃ a xs, x = .ref a ∧ SqT K H1 a xs ∧ ∀ p, H1 p = none → Q (.ref p) (upd H1 p (.tup xs.reverse))
section
variable {X : Cx}
theorem pe_revT {e : Expr} {te : TE} {k : Nat} {p1 p2 p3 pos : Pos} (he : PE X e te) : PE X (.Subscript e (.Slice none none (some (.UnaryOp .USub (.Constant (.int 1) k p1) p2)) p3) pos) (tRevT X.K te) := by
  have minus : PO X (some (.UnaryOp .USub (.Constant (.int 1) k p1) p2)) (tPart (tUn (rU fun i => .int (-i)) (tC (.int 1)))) := po_some (pe_un un_neg pe_int)
  refine ⟨fun pins s σ H Q I h => Subscript_ (thn (he.run pins s σ H _ I h) fun v s1 ⟨x, H1, I1, r1, a, xs, ex, hx, q⟩ => ?_)⟩
  subst ex
  obtain rfl : v = .ref a := r1
  refine wpAny_Slice (thn (po_none.run pins s1 σ H1 (fun o H2 => o = none ∧ H2 = H1) I1 ⟨rfl, rfl⟩) fun vl s2 ⟨o2, H2, I2, pl, el, e2⟩ => ?_)
  subst el e2
  refine thn (po_none.run pins s2 σ H2 (fun o H3 => o = none ∧ H3 = H2) I2 ⟨rfl, rfl⟩) fun vu s3 ⟨o3, H3, I3, pu, eu, e3⟩ => ?_
  subst eu e3
  refine thn (minus.run pins s3 σ H3 (fun o H4 => o = some (-1) ∧ H4 = H3) I3 ⟨1, rfl, -1, rfl, rfl, rfl⟩) fun vs s4 ⟨o4, H4, I4, ps, eo, e4⟩ => ?_
  subst eo e4
  have I5 : Inv X pins σ H4 { s4 with heap := s4.heap.push { cls := .type "slice", data := .fields #[vl, vu, vs] } } := I4.kept (t' := s4.toks) fun b ob q => Heap.get?_push_of_some _ q
  obtain ⟨its, r, ht, hz⟩ := I5.tuple hx
  have len := r.length
  refine tail_any (ops := [.ref a, .ref s4.heap.objs.size]) ht.typeIs PyProof.Rows.slot_tuple_getitem.lookup ?_ (by with_unfolding_all rfl)
  refine back_tuple ht (Heap.IsSliceOf.new _ vl vu vs) pl pu ps (by rw [List.size_toArray]; omega) ?_
  refine ⟨.ref _, _, I5.laid (t' := s4.toks) (o := .tup xs.reverse) (fun b ob q => Heap.get?_push_of_some _ q) (Nat.le_refl _) ?_, rfl, q _ (I5.hok.fresh (Nat.le_refl _))⟩
  exact ⟨by rw [List.length_reverse]; exact hz, _, r.reverse, IsTup.new _ _⟩
end
/-- xs.extend(t), t a tuple at any place -/
theorem extend_tuple (l b : Addr) (xs ys : Array Value) (n m : Nat) (dd : Option Addr) (sl : Array (Option Value)) (h0 : ¬(!xs.isEmpty && Builtin.List.listTooLong (xs.size + ys.size)) = true) (h1 : xs.size ≤ sizeLine) (h2 : xs.size + ys.size ≤ sizeLine + 1) :
    Meets (Builtin.«list.extend» ⟨[.ref l, .ref b], []⟩) (fun _ R s => s.heap.get? l = some { cls := .type "list", dict := none, data := .seq xs n, slots := #[] } ∧ s.heap.get? b = some { cls := .type "tuple", dict := dd, data := .seq ys m, slots := sl } ∧
      R (.ok (.ret Value.none)) { s with heap := s.heap.update l (Obj.mapSeq fun x => x ++ ys), toks := s.toks }) := by
  refine .of_wp fun prog w A R s h => ?_
  obtain ⟨hp, g, d, tk, os⟩ := s
  obtain ⟨hl, hb, h⟩ := h
  have f1 := PySem.AutoSeq1.idx_int
  have f2 := PySem.AutoSeq1.sub_tuple_tuple
  have f3 := PySem.AutoSeq1.sub_list_list
  have f4 := PySem.AutoSeq1.sub_tuple_list
  have f5 := PySem.AutoSeq1.sub_list_tuple
  have hz : (xs ++ ys).size ≤ sizeLine + 1 := by rw [Array.size_append]; exact h2
  wp_walk using (wpAny_updateSeq hl rfl (hz := h1) (_hz' := hz)), wpAny_loadPart' hl, wpAny_loadPart' hb
  exact ⟨_, rfl, h⟩
section
variable {X : Cx}
def rExtT : V → List V → Hp → VK → Prop := fun x vs H Q => ∃ l b xs zs, x = .ref l ∧ vs = [.ref b] ∧ H l = some (.lst xs) ∧ H b = some (.tup zs) ∧ xs.length + zs.length ≤ sizeLine ∧ Q .non (upd H l (.lst (xs ++ zs)))
theorem mt_extT : MtR X "list.extend" rExtT := by
  intro pins s σ H x vs v us Q I rx rv h
  obtain ⟨l, b, xs, zs, rfl, rfl, hH, hB, hz, q⟩ := h
  cases rx
  obtain ⟨u, rfl, ru⟩ := rv.one
  cases ru
  obtain ⟨z, its, n, r, hl, e⟩ := I.lstM hH
  obtain ⟨z2, its2, r2, ob, e2, c2, m, d2⟩ := (show ObjOk X.prog X.w H s.heap b (.tup zs) from I.hok b _ hB)
  obtain ⟨oc, od, dt, sl⟩ := ob
  simp only at c2 d2
  subst c2 d2
  have hsz : its.toArray.size + its2.toArray.size ≤ sizeLine := by
    rw [List.size_toArray, List.size_toArray]
    have := r.length
    have := r2.length
    omega
  have hlong : ¬ (!its.toArray.isEmpty && Builtin.List.listTooLong (its.toArray.size + its2.toArray.size)) = true := by
    rw [notLongL hsz, Bool.and_false]
    exact Bool.false_ne_true
  refine call_meets F.slot_list_extend ⟨_, e, rfl⟩ F.entry_list_extend (F.args_list_extend_2 _ _) (extend_tuple l b its.toArray its2.toArray n m od sl hlong (by omega) (by omega)) ⟨e, e2, ?_⟩
  refine ⟨.non, _, I.lset (its' := its ++ its2) hH e (by simp) (r.append r2) ?_, rfl, q⟩
  rw [List.length_append]
  exact hz
end
end RT

set_option maxHeartbeats 2000000
/-! enumerate(t), t a tuple -/
namespace RT
open PySem PySem.Spec PyProof.Rows L2
def IteT (K : PySem.W.Frag) (a : Addr) : L2.It :=
  ⟨fun i H => ∃ (xs : List V) (x : V), SqT K H a xs ∧ xs[i]? = some x,
    fun i H v H' => ∃ T x, v = .ref T ∧ H T = none ∧ H' = upd H T (.tup [.int (i : Nat), x]) ∧ ∀ xs, SqT K H a xs → xs[i]? = some x,
    fun i H => ∃ xs : List V, SqT K H a xs ∧ i = xs.length⟩
theorem made_enumT {a : Addr} {xs : Array Value} : Meets (Builtin.«enumerate.__new__» ⟨[.type "enumerate", .ref a], []⟩) (fun _ R s => s.heap.IsTuple a xs ∧
    R (.ok (.ret (.ref (s.heap.push { cls := .type "tuple_iterator", data := .fields #[.ref a, .int 0 0] }).objs.size))) { s with heap := (s.heap.push { cls := .type "tuple_iterator", data := .fields #[.ref a, .int 0 0] }).push { cls := .type "enumerate", data := .fields #[.none, .bool false, .ref s.heap.objs.size, rawInt 0, .none, .none] } }) :=
  .of_wp fun prog w A R s q => by
    obtain ⟨hp, g, d, tk, os⟩ := s
    obtain ⟨q1, q2⟩ := q
    have sub := sub_enumerate
    have e1 : Heap.IsTuple (Shared.heap ⟨hp, g, d, tk, os⟩) a xs := q1
    wp_walk using wpAny_pyIter_tuple e1
    refine wpAny_stack_any fun st => wpAny_pure ?_
    split
    · rename_i c _ _ _ _ _
      cases (c == Value.type "enumerate")
      · wp_walk using wpAny_pyIter_tuple e1
        exact ⟨_, rfl, q2⟩
      · wp_walk using wpAny_pyIter_tuple e1
        exact ⟨_, rfl, q2⟩
    · wp_walk using wpAny_pyIter_tuple e1
      exact ⟨_, rfl, q2⟩
section
variable {P : Program} {w : World} {A : Around} {E : Value → Shared → Prop} {s : Shared}
theorem call_enumT {a : Addr} {xs : Array Value} {Q : Value → Shared → Prop} (ha : s.heap.IsTuple a xs)
    (q : ∀ h', IsEnum h' (s.heap.objs.size + 1) s.heap.objs.size 0 .none → h'.IsTupleIter s.heap.objs.size a 0 → (∀ b o, s.heap.get? b = some o → h'.get? b = some o) → Q (.ref (s.heap.objs.size + 1)) { s with heap := h' }) :
    wpAny (model P w) A (call (.type "enumerate") [.ref a]) Q E s := by
  refine callType_new PySem.F.called_enumerate (by decide) (PySem.F.typeCall_enumerate_1 _) (PySem.F.newCall_enumerate_1 _) (fun obj => PySem.F.args_object_init_2 obj _) PySem.F.entry_enumerate_new made_enumT ⟨ha, ?_⟩
  have hz : (s.heap.push { cls := .type "tuple_iterator", data := .fields #[.ref a, .int 0 0] }).objs.size = s.heap.objs.size + 1 := Heap.size_push ..
  have p1 : ((s.heap.push { cls := .type "tuple_iterator", data := .fields #[.ref a, .int 0 0] }).push { cls := .type "enumerate", data := .fields #[.none, .bool false, .ref s.heap.objs.size, rawInt 0, .none, .none] }).get? (s.heap.push { cls := .type "tuple_iterator", data := .fields #[.ref a, .int 0 0] }).objs.size = some _ := Heap.get?_push_size _ rfl
  have p0 : ((s.heap.push { cls := .type "tuple_iterator", data := .fields #[.ref a, .int 0 0] }).push { cls := .type "enumerate", data := .fields #[.none, .bool false, .ref s.heap.objs.size, rawInt 0, .none, .none] }).get? s.heap.objs.size = some _ := Heap.get?_push_of_some _ (Heap.get?_push_size _ rfl)
  show _ ∧ _
  rw [hz] at p1 ⊢
  exact ⟨⟨_, p1, rfl⟩, q _ p1 ⟨_, p0, rfl, rfl⟩ fun b o x => Heap.get?_push_of_some _ (Heap.get?_push_of_some _ x)⟩
end
theorem turn_enumT {P : Program} {w : World} {K : PySem.W.Frag} {elts : List Expr} {kk : Nat} {tpos : Pos} {a e it : Addr} (hae : a ≠ e) (hai : a ≠ it) (hei : e ≠ it) :
    Turn P w K (.Tuple elts kk tpos) (IteT K a) [e, it] e (fun i h => (∃ old, IsEnum h e it ((i : Nat) : Int) old) ∧ h.IsTupleIter it a i) where
  mem := by simp
  obj := fun i h ⟨⟨old, he⟩, ⟨o, ho, _, hd⟩⟩ b hb => by
    simp only [List.mem_cons, List.not_mem_nil, or_false] at hb
    rcases hb with rfl | rfl
    · exact ⟨_, he, fun v q => nomatch q⟩
    · exact ⟨o, ho, fun v q => by rw [hd] at q; cases q⟩
  keep := fun i h h' ⟨⟨old, he⟩, hi⟩ k => ⟨⟨old, k e (by simp) _ he⟩, hi.at fun o q => k it (by simp) o q⟩
  item := by
    intro X hP hw hK hc i pins s σ H E I hf st hg
    subst hP hw hK
    obtain ⟨⟨old, he⟩, hit⟩ := st
    obtain ⟨xs, x, hq, hx⟩ := hg
    obtain ⟨its, rv, p, _⟩ := I.tuple hq
    obtain ⟨u, hu, ru⟩ := rv.get hx
    have hel : e < s.heap.objs.size := Heap.lt_size he
    have hil : it < s.heap.objs.size := by obtain ⟨_, q, _⟩ := hit; exact Heap.lt_size q
    have hh : X.A.in1.handled = none := I.ok.hd hc
    refine wpAny_pyNext_enum_itemC (Draws.tuple hh it a hai its.toArray) he ⟨hit, p⟩ (by rw [List.size_toArray]; exact (List.getElem?_eq_some_iff.mp hu).1) hei (by simp [hei, hae.symm]) fun v h' tk e1 ho st' hT hsz hk => ?_
    have q1 : v = u := by
      have z : its[i]? = some v := by simpa using e1
      rw [hu] at z
      exact (Option.some.inj z).symm
    subst q1
    refine ⟨_, rfl, wpAny_letOwnedTupleGo_enum (s := { s with heap := h', toks := tk + 1 }) ho fun h'' he' sb => ?_⟩
    have hT2 : h''.get? s.heap.objs.size = some { cls := .type "tuple", data := .seq #[.int i tk, v] } := (sb.2 _ (Nat.ne_of_gt hel)).trans hT
    have new : ObjOk X.prog X.w (upd H s.heap.objs.size (.tup [.int (i : Nat), x])) h'' s.heap.objs.size (.tup [.int (i : Nat), x]) := ⟨by show 2 ≤ sizeLine; decide, [.int i tk, v], .cons ⟨_, rfl⟩ (.cons ru .nil), ⟨_, hT2, rfl, _, rfl⟩⟩
    have I1 : Inv X pins σ (upd H s.heap.objs.size (.tup [.int (i : Nat), x])) { s with heap := h'', toks := tk + 1 } :=
      I.turnedNew (t' := tk + 1) (ch := [e, it]) (fun b ob hb q => (sb.2 b (fun z => hb (by simp [z]))).trans (hk b ob (fun z => hb (by simp [z])) (fun z => hb (by simp [z])) q)) hf (Nat.le_refl _) new
    refine ⟨.ref s.heap.objs.size, _, I1, rfl, ⟨_, x, rfl, I.hok.fresh (Nat.le_refl _), rfl, fun ys hy => by rw [I.tuple_inj hy hq]; exact hx⟩, ⟨⟨v, ?_⟩, st'.1.at fun o q => (sb.2 it hei.symm).trans q⟩, fun b hb => ?_⟩
    · rw [show ((i + 1 : Nat) : Int) = (i : Int) + 1 by omega]
      exact he'
    · have hb' : b < s.heap.objs.size := by
        simp only [List.mem_cons, List.not_mem_nil, or_false] at hb
        rcases hb with rfl | rfl
        · exact hel
        · exact hil
      rw [upd_ne (Nat.ne_of_lt hb')]
      exact (hf b hb).1
  done := by
    intro X hP hw hK hc i pins s σ H E I hf st hg
    subst hP hw hK
    obtain ⟨⟨old, he⟩, hit⟩ := st
    obtain ⟨xs, hq, rfl⟩ := hg
    obtain ⟨its, rv, p, _⟩ := I.tuple hq
    have l := rv.length
    have hh : X.A.in1.handled = none := I.ok.hd hc
    refine wpAny_pyNext_enum_endD (Draws.tuple hh it a hai its.toArray) he (by rw [show its.toArray.size = xs.length by rw [List.size_toArray]; omega]; exact ⟨hit, p⟩) fun h' eb => ⟨rfl, ?_⟩
    exact I.turnedL (t' := s.toks) (ch := [e, it]) (fun b o hb q => eb b o (fun z => hb (by simp [z])) q) hf
  self := fun A i s Q E ⟨⟨_, he⟩, _⟩ h => wpAny_pyIter_enum he h
def iEnumT (K : PySem.W.Frag) (ta : TA) : TI := fun σ H R => ta σ H fun vs H1 => ∃ a xs, vs = [.ref a] ∧ SqT K H1 a xs ∧ R (IteT K a) H1
theorem pi_enumT {X : Cx} {e : Expr} {ta : TA} {p pos tpos : Pos} {elts : List Expr} {kk : Nat} (hg : Gl X "enumerate") (hm : X.mg "enumerate" = none) (ha : PA X [e] ta) (hs : starEach [e] X.env = [(false, eval e X.env)] := by rfl) :
    PI X (.Tuple elts kk tpos) (.Call (.Name "enumerate" p) [e] [] pos) (iEnumT X.K ta) := by
  refine ⟨fun pins s σ H R I h => ?_⟩
  refine Call_ (ld_blt I hg hm boot_enumerate (PyProof.Rows.callWith_type1 (thn (ha.run pos pins s σ H _ I h) fun us s1 ⟨vs, H1, I1, r1, q1⟩ => ?_) hs rfl))
  obtain ⟨a, xs, ex, hq, q⟩ := q1
  subst ex
  cases r1 with
  | cons r rr =>
  cases rr
  cases r
  obtain ⟨its, rv, p1, _⟩ := I1.tuple hq
  obtain ⟨o1, ho1, _⟩ := id p1
  have la : a < s1.heap.objs.size := Heap.lt_size ho1
  refine call_enumT (show s1.heap.IsTuple a its.toArray from p1) fun h' he hit hk => wpAny_pyIter_enum he ?_
  have I2 : Inv X pins σ H1 { s1 with heap := h' } := I1.kept (t' := s1.toks) hk
  refine ⟨s1.heap.objs.size + 1, [s1.heap.objs.size + 1, s1.heap.objs.size], _, _, H1, rfl, I2, turn_enumT (Nat.ne_of_lt (Nat.lt_succ_of_lt la)) (Nat.ne_of_lt la) (Nat.succ_ne_self _), ⟨⟨.none, he⟩, hit⟩, fun b hb => ?_, q⟩
  have le : s1.heap.objs.size ≤ b := by
    simp only [List.mem_cons, List.not_mem_nil, or_false] at hb
    rcases hb with rfl | rfl <;> first | exact Nat.le_refl _ | exact Nat.le_add_right _ _
  exact I1.fpOk le (I1.hok.fresh le)
/-- a comprehension over enumerate(t) -/
theorem lc_enumT {K : PySem.W.Frag} {a : Addr} {xs : List V} {g : TG} {tt : TT} {te : TE} {vs : List Nat} {σ : L2.St} {H1 : Hp} {D : Addr} {Qd : Hp → Prop} (Pv : Nat → Hp → Prop) (h0 : Pv 0 (upd H1 D (.lst []))) (hl : ∀ i H, Pv i H → SqT K H a xs)
    (hs : ∀ i x H T, xs[i]? = some x → Pv i H → H T = none → g (.ref T) (wipe σ vs) (upd H T (.tup [.int (i : Nat), x])) fun σ2 H2 => wipe σ2 vs = wipe σ vs ∧ tt σ2 H2 fun b H3 =>
      if b = true then te σ2 H3 fun y H4 => ∃ acc, H4 D = some (.lst acc) ∧ acc.length < sizeLine ∧ Pv (i + 1) (upd H4 D (.lst (acc ++ [y]))) else Pv (i + 1) H3) (hd : ∀ H, Pv xs.length H → Qd H) :
    ∃ W : Nat → Nat → Hp → Prop, (∃ m, W 0 m (upd H1 D (.lst []))) ∧ ∀ i m H, W i m H →
      ((IteT K a).stop i H ∧ Qd H) ∨ ((IteT K a).go i H ∧ ∃ Nx : Hp → Prop, (∀ H', Nx H' → ∃ m', m' < m ∧ W (i + 1) m' H') ∧ ∀ x H', (IteT K a).yld i H x H' → g x (wipe σ vs) H' fun σ2 H2 => wipe σ2 vs = wipe σ vs ∧ tt σ2 H2 fun b H3 =>
        if b = true then te σ2 H3 fun y H4 => ∃ acc, H4 D = some (.lst acc) ∧ acc.length < sizeLine ∧ Nx (upd H4 D (.lst (acc ++ [y]))) else Nx H3) := by
  refine ⟨fun i m H => m = xs.length - i ∧ i ≤ xs.length ∧ Pv i H, ⟨xs.length, by simp, Nat.zero_le _, h0⟩, ?_⟩
  rintro i m H ⟨rfl, hi, p⟩
  have q := hl i H p
  by_cases lt : i < xs.length
  · refine .inr ⟨⟨xs, xs[i], q, by simp [lt]⟩, Pv (i + 1), fun H' p' => ⟨xs.length - (i + 1), by omega, rfl, lt, p'⟩, fun v H' y => ?_⟩
    obtain ⟨T, x', rfl, nT, rfl, f1⟩ := y
    exact hs i x' H T (f1 xs q) p nT
  · have e : i = xs.length := by omega
    subst e
    exact .inl ⟨⟨xs, q, rfl⟩, hd H p⟩
end RT

/-! displays of tuples of texts and numbers that are written out -/
namespace RT
open PySem PySem.Spec PyProof.Rows L2
mutual
def litE : D → TE
  | .str z => tC (.str z)
  | .int i => tC (.int i)
  | .non => tC .non
  | .tup ds => tTup (litA ds)
def litA : List D → TA
  | [] => tNil
  | d :: r => tCons (litE d) (litA r)
end
mutual
/-- short enough -/
def D.few : D → Bool
  | .str z => decide (z.length ≤ 1000)
  | .int _ => true
  | .non => true
  | .tup ds => decide (ds.length ≤ 1000) && D.fews ds
def D.fews : List D → Bool
  | [] => true
  | d :: r => d.few && D.fews r
end
theorem line1000 {n : Nat} (h : n ≤ 1000) : n ≤ sizeLine := Nat.le_of_lt (small1000 h)
mutual
theorem lit_read : ∀ (d : D) {σ : L2.St} {H : Hp} {Q : VK}, d.few = true → (∀ (v : V) (H' : Hp), Rp H' v d → Kp M0 H H' → Q v H') → litE d σ H Q
  | .str z, σ, H, Q, h, q => q _ H (.str (line1000 (of_decide_eq_true h))) Kp.refl
  | .int i, σ, H, Q, _, q => q _ H .int Kp.refl
  | .non, σ, H, Q, _, q => q _ H .non Kp.refl
  | .tup ds, σ, H, Q, h, q => lits_read ds (Bool.and_eq_true _ _ ▸ h : _ ∧ _).2 fun vs H1 r k => ⟨by rw [r.len]; exact line1000 (of_decide_eq_true (Bool.and_eq_true _ _ ▸ h : _ ∧ _).1), fun p np => q _ _ (.tup upd_same (r.ts (TS.new np))) (k.trans (Kp.new np))⟩
theorem lits_read : ∀ (ds : List D) {σ : L2.St} {H : Hp} {Q : List V → Hp → Prop}, D.fews ds = true → (∀ (vs : List V) (H' : Hp), Rps H' vs ds → Kp M0 H H' → Q vs H') → litA ds σ H Q
  | [], σ, H, Q, _, q => q _ H .nil Kp.refl
  | d :: r, σ, H, Q, h, q => lit_read d (Bool.and_eq_true _ _ ▸ h : _ ∧ _).1 fun v H1 rv k1 => lits_read r (Bool.and_eq_true _ _ ▸ h : _ ∧ _).2 fun vs H2 rvs k2 => q _ _ (.cons (rv.ts fun b xs e => k2 b _ (fun z => z) e) rvs) (k1.trans k2)
end
/-- a list of such -/
theorem litL_read (ds : List D) {σ : L2.St} {H : Hp} {Q : VK} (h : D.fews ds = true) (hl : ds.length ≤ 1000) (q : ∀ (l : Addr) (vs : List V) (H' : Hp), H' l = some (.lst vs) → H l = none → Rps H' vs ds → Kp M0 H H' → Q (.ref l) H') : tLst (litA ds) σ H Q :=
  lits_read ds h fun vs H1 r k => ⟨by rw [r.len]; exact line1000 hl, fun p np => q p vs _ upd_same (none_back k (fun z => z) np) (r.ts (TS.new np)) (k.trans (Kp.new np))⟩
end RT

set_option maxHeartbeats 1000000
/-! the words that draw forms -/
namespace RT
open PySem PySem.Spec PyProof.Rows L2
abbrev sTd : Stmt := topS 25
abbrev sSt : Stmt := topS 26
abbrev sPk : Stmt := topS 27
abbrev sSp : Stmt := topS 28
abbrev sTu : Stmt := topS 29
theorem scTd : FnScope ["_law_draws", "_law_size", "_law_k"] ["_law_draws"] (defScope sTd) := ⟨rfl, rfl, rfl, by decide +kernel, rfl, by decide +kernel, by decide +kernel⟩
theorem scSt : FnScope ["_law_draws"] ["_law_draws"] (defScope sSt) := ⟨rfl, rfl, rfl, by decide +kernel, rfl, by decide +kernel, by decide +kernel⟩
theorem scPk : FnScope ["_law_draws", "_law_some", "_law_things", "_law_first", "_law_k", "_law_text"] ["_law_draws"] (defScope sPk) := ⟨rfl, rfl, rfl, by decide +kernel, rfl, by decide +kernel, by decide +kernel⟩
theorem scSp : FnScope ["_law_draws", "_law_some", "_law_k", "_law_text"] ["_law_draws"] (defScope sSp) := ⟨rfl, rfl, rfl, by decide +kernel, rfl, by decide +kernel, by decide +kernel⟩
theorem scTu : FnScope ["_law_draws", "_law_way"] ["_law_draws"] (defScope sTu) := ⟨rfl, rfl, rfl, by decide +kernel, rfl, by decide +kernel, by decide +kernel⟩
theorem ts0 {H H' : Hp} (k : Kp M0 H H') : TS H H' := fun b vs e => k b _ (fun z => z) e
theorem pts {H H' : Hp} {pd pc : Addr} (P : Pot H pd pc) (k : Kp (PM pd) H H') : TS H H' := fun b vs e => k b _ (P.ne e fun _ z => by cases z) e
theorem Pot.kp0 {H H' : Hp} {pd pc : Addr} (P : Pot H pd pc) (k : Kp M0 H H') : Pot H' pd pc := P.keep k (fun z => z) (fun z => z)
theorem kpm {H H' : Hp} {pd : Addr} (k : Kp M0 H H') : Kp (PM pd) H H' := k.mono fun _ z => z.elim
/-- a told text's signs -/
abbrev toldL : List Nat := ("ab,;(0) " : Str).cps.toList
def ToldOk (z : Str) : Prop := 1 ≤ z.length ∧ z.length ≤ 12 ∧ ∀ c ∈ z.cps.toList, c ∈ toldL
def setsZ : List Str := ["a", "ab", "bc", "abc", "01", "0123456789", "\nab", " ab"]
section
variable {P : Program} {w : World} {K : PySem.W.Frag} {mg : Str → Option Value} {base : Heap}
def spTd : Sp := fun vs H Q _ => ∃ (pd pc : Addr), vs = [.ref pd] ∧ Pot H pd pc ∧ ∀ (z : Str) (H' : Hp), ToldOk z → Pot H' pd pc → Kp (PM pd) H H' → Q (.str z) H'
theorem ok_td {f fn fm : Addr} {fd fdn fdm : FuncData} {k : Nat} (F : Fun K "_law_told" "_law_told" sTd f fd) (GN : FnOk P w K mg base CX0 k fn fdn ["_law_draws", "_law_many_here"] spNext) (kn : PySem.W.keepIn K (.ref fn) = true) (bn : Binds K fdn ["_law_draws", "_law_many_here"] []) (gn : mg "_law_next" = some (.ref fn))
    (GM : FnOk P w K mg base CX0 k fm fdm ["_law_draws", "_law_few", "_law_most"] spMany) (km : PySem.W.keepIn K (.ref fm) = true) (bm : Binds K fdm ["_law_draws", "_law_few", "_law_most"] []) (gm : mg "_law_many" = some (.ref fm)) (mr : mg "range" = none) :
    FnOk P w K mg base CX0 (k + 1) f fd ["_law_draws"] spTd := by
  refine F.ok scTd (fun vs H Q E h => ?_) (fun cdv A outer sh H vs Q E hr h => ?_)
  · obtain ⟨pd, pc, rfl, _⟩ := h
    rfl
  · obtain ⟨pd, pc, rfl, P0, q⟩ := h
    refine ⟨_, (pss_cons (ps_set (i := 1) scTd.nd rfl (.inl rfl) (pe_op op_add pe_int (pe_call GM hr (by rfl) gm km bm .nil pass0 (pa_cons (pv 0) (pa_cons pe_int (pa_cons pe_int pa_nil))))))
      (pss_one (ps_ret (pe_join pe_str (pe_lc (own := [("_law_k", 2)]) (g := gName 2) (tt := tYes) rfl scTd.nd (pi_range1 (by rfl) mr (pa_cons (pv 1) pa_nil)) (blkOk_by (N := ["_law_draws", "_law_size", "_law_k"]) (sc := defScope sTd) (by decide +kernel)) (fun _ _ _ _ _ => (pg_name (i := 2) scTd.nd rfl (.inl rfl))) (fun _ _ _ _ _ => pts_nil) (fun _ _ _ _ _ => (pe_ix ix_str pe_str (pe_call GN hr (by rfl) gn kn bn .nil pass0 (pa_cons (pv 0) (pa_cons pe_int pa_nil))) (fun _ _ => rfl)))))))), ?_⟩
    refine ⟨_, rfl, pd, pc, 2, 11, rfl, P0, by decide, by decide, fun d H1 ld P1 k1 => ?_⟩
    have ld : d ≤ 11 := ld
    refine ⟨_, _, rfl, rfl, ⟨_, rfl⟩, _, rfl, 1 + (d : Int), rfl, by omega, by omega, fun D nD => ?_⟩
    have hD := P1.off nD
    have hpc : pc ≠ D := let ⟨_, _, _, _, E⟩ := P1; ne_of_none E.c nD
    refine lc_range (lo := 0) (n := (1 + (d : Int)).toNat) (fun i H4 => ∃ cs : List Nat, cs.length = i ∧ (∀ c ∈ cs, c ∈ toldL) ∧ Pot H4 pd pc ∧ Kp (PM pd) H H4 ∧ H4 D = some (.lst (cs.map fun c => V.str ⟨#[c]⟩))) ?_ ?_ ?_
    · exact ⟨[], rfl, fun _ z => (nomatch z), P1.new nD, k1.trans (Kp.new nD), upd_same⟩
    · rintro i H4 hi ⟨cs, lc, hc, P4, k4, e4⟩
      refine ⟨rfl, tYes_ok (iteT ?_)⟩
      refine ⟨_, rfl, pd, pc, 8, rfl, P4, by decide, by decide, fun e H5 le P5 k5 => ?_⟩
      have le8 : e < ("ab,;(0) " : Str).cps.toList.length := by
        have : ("ab,;(0) " : Str).cps.toList.length = 8 := by decide +kernel
        omega
      have e5 := k5 D _ (P4.ne e4 fun _ z => by cases z) e4
      refine ⟨"ab,;(0) ", _, ("ab,;(0) " : Str).cps.toList[e]'le8, rfl, rfl, by decide, atI_nat (List.getElem?_eq_getElem le8), ?_⟩
      have mc : ("ab,;(0) " : Str).cps.toList[e]'le8 ∈ toldL := List.getElem_mem _
      generalize ("ab,;(0) " : Str).cps.toList[e]'le8 = c at mc
      refine ⟨_, e5, by rw [List.length_map]; exact small1000 (by omega), cs ++ [c], by rw [List.length_append, lc]; rfl, fun b hb => ?_, ?_, ?_, by rw [upd_same, List.map_append]; rfl⟩
      · rcases List.mem_append.mp hb with h | h
        · exact hc b h
        · rw [List.mem_singleton.mp h]
          exact mc
      · obtain ⟨ns, a, l, s, E5⟩ := P5
        exact ⟨ns, a, l, s, E5.keep (M := fun b => b = D) (Kp.put rfl) (fun h => hD h.symm) fun h => hpc h⟩
      · intro b u hb e'
        have nb : b ≠ D := fun h => by
          have z := k1 b u hb e'
          rw [h, nD] at z
          cases z
        rw [upd_ne nb]
        exact k5 b u hb (k4 b u hb e')
    · rintro H4 ⟨cs, lc, hc, P4, k4, e4⟩
      refine ⟨_, D, cs.map fun c => (⟨#[c]⟩ : Str), rfl, rfl, .inl (SqL.of (by rw [e4, List.map_map]; rfl)), ?_, ?_⟩
      · rw [sum_ones]
        show cs.length + _ * 0 ≤ _
        omega
      · rw [join_signs]
        refine q _ H4 ⟨?_, ?_, hc⟩ P4 k4
        · rw [len_tl]
          show 1 ≤ cs.length
          omega
        · rw [len_tl]
          show cs.length ≤ 12
          omega
def spSt : Sp := fun vs H Q _ => ∃ (pd pc : Addr), vs = [.ref pd] ∧ Pot H pd pc ∧ ∀ (z : Str) (H' : Hp), z ∈ setsZ → Pot H' pd pc → Kp (PM pd) H H' → Q (.str z) H'
theorem sets_few : D.fews (setsZ.map D.str) = true := by decide +kernel
/-- one of a list of written things, drawn -/
theorem draw_lit {pd pc : Addr} {H H1 : Hp} {ds : List D} {l : Addr} {vs : List V} (P0 : Pot H pd pc) (el : H1 l = some (.lst vs)) (nl : H l = none) (r : Rps H1 vs ds) (k : Kp M0 H H1) {d : Nat} {H2 : Hp} (ld : d < ds.length) (P2 : Pot H2 pd pc) (k2 : Kp (PM pd) H1 H2) :
    ∃ (v : V) (x : D), H2 l = some (.lst vs) ∧ atI vs (d : Int) = some v ∧ ds[d]? = some x ∧ Rp H2 v x ∧ Kp (PM pd) H H2 := by
  have P1 := P0.kp0 k
  have lv := r.len
  have hv : vs[d]? = some (vs[d]'(by omega)) := List.getElem?_eq_getElem (by omega)
  obtain ⟨x, ex, rx⟩ := r.get d _ hv
  exact ⟨_, x, k2 _ _ (P1.ne el fun _ z => by cases z) el, atI_nat hv, ex, rx.ts (pts P1 k2), (kpm k).trans k2⟩
theorem ok_st {f fn : Addr} {fd fdn : FuncData} {k : Nat} (F : Fun K "_law_set" "_law_set" sSt f fd) (GN : FnOk P w K mg base CX0 k fn fdn ["_law_draws", "_law_many_here"] spNext) (kn : PySem.W.keepIn K (.ref fn) = true) (bn : Binds K fdn ["_law_draws", "_law_many_here"] []) (gn : mg "_law_next" = some (.ref fn)) :
    FnOk P w K mg base CX0 (k + 1) f fd ["_law_draws"] spSt := by
  refine F.ok scSt (fun vs H Q E h => ?_) (fun cdv A outer sh H vs Q E hr h => ?_)
  · obtain ⟨pd, pc, rfl, _⟩ := h
    rfl
  · obtain ⟨pd, pc, rfl, P0, q⟩ := h
    refine ⟨_, (pss_one (ps_ret (pe_ix ix_list (pe_lst (pa_cons pe_str (pa_cons pe_str (pa_cons pe_str (pa_cons pe_str (pa_cons pe_str (pa_cons pe_str (pa_cons pe_str (pa_cons pe_str pa_nil))))))))) (pe_call GN hr (by rfl) gn kn bn .nil pass0 (pa_cons (pv 0) (pa_cons pe_int pa_nil))) (fun _ _ => rfl)))), ?_⟩
    unfold tRet tOp
    refine litL_read (setsZ.map D.str) sets_few (by decide) fun l vs H1 el nl r k1 => ?_
    refine ⟨_, rfl, pd, pc, 8, rfl, P0.kp0 k1, by decide, by decide, fun d H2 ld P2 k2 => ?_⟩
    have ld8 : d < (setsZ.map D.str).length := by show d < 8; omega
    obtain ⟨v, x, el2, ev, ex, rx, kk⟩ := draw_lit P0 el nl r k1 ld8 P2 k2
    rw [List.getElem?_map] at ex
    obtain ⟨z, ez, rfl⟩ := Option.map_eq_some_iff.mp ex
    cases rx
    exact ⟨l, vs, _, _, rfl, rfl, SqL.of el2, ev, q z H2 (List.mem_of_getElem? ez) P2 kk⟩
end
end RT

set_option maxHeartbeats 1000000
namespace RT
open PySem PySem.Spec PyProof.Rows L2
def picksZ : List (List Str) := [["a", "b"], ["ab", "b", "aa"], ["0", "1", "2"], ["x", "yx", "yy"], ["a"], ["aa", "ab", "ba", "bb", "ca", "cb", "cc"]]
def thingsD : List D := [.int 0, .int 1, .str "", .str "a", .str "b", .int 7, .str "ab"]
def th (k : Nat) : D := (thingsD[k % 7]?).getD .non
/-- a pick's pairs: texts with things from a on -/
def pk (ss : List Str) (a n : Nat) : List (Str × D) := (List.range n).map fun k => ((ss[k]?).getD "", th (a + k))
def prD (p : Str × D) : D := .tup [.str p.1, p.2]
def pickD (prs : List (Str × D)) : D := .tup [.str "pick", .tup (prs.map prD)]
theorem picks_few : D.fews (picksZ.map fun ss => D.tup (ss.map D.str)) = true := by decide +kernel
theorem picks_len : ∀ ss ∈ picksZ, 1 ≤ ss.length ∧ ss.length ≤ 7 := by decide +kernel
theorem pk_snoc (ss : List Str) (a n : Nat) : pk ss a (n + 1) = pk ss a n ++ [((ss[n]?).getD "", th (a + n))] := by
  unfold pk
  rw [List.range_succ, List.map_append]
  rfl
section
variable {P : Program} {w : World} {K : PySem.W.Frag} {mg : Str → Option Value} {base : Heap}
def spPk : Sp := fun vs H Q _ => ∃ (pd pc : Addr), vs = [.ref pd] ∧ Pot H pd pc ∧ ∀ (v : V) (ss : List Str) (a : Nat) (H' : Hp), ss ∈ picksZ → a < 7 → Rp H' v (pickD (pk ss a ss.length)) → Pot H' pd pc → Kp (PM pd) H H' → Q v H'
theorem ok_pk {f fn : Addr} {fd fdn : FuncData} {k : Nat} (F : Fun K "_law_pick" "_law_pick" sPk f fd) (GN : FnOk P w K mg base CX0 k fn fdn ["_law_draws", "_law_many_here"] spNext) (kn : PySem.W.keepIn K (.ref fn) = true) (bn : Binds K fdn ["_law_draws", "_law_many_here"] []) (gn : mg "_law_next" = some (.ref fn)) (mtu : mg "tuple" = none) (men : mg "enumerate" = none) :
    FnOk P w K mg base CX0 (k + 1) f fd ["_law_draws"] spPk := by
  refine F.ok scPk (fun vs H Q E h => ?_) (fun cdv A outer sh H vs Q E hr h => ?_)
  · obtain ⟨pd, pc, rfl, _⟩ := h
    rfl
  · obtain ⟨pd, pc, rfl, P0, q⟩ := h
    refine ⟨_, (pss_cons (ps_set (i := 1) scPk.nd rfl (.inl rfl) (pe_ix ix_list (pe_lst (pa_cons (pe_tup (pa_cons pe_str (pa_cons pe_str pa_nil))) (pa_cons (pe_tup (pa_cons pe_str (pa_cons pe_str (pa_cons pe_str pa_nil)))) (pa_cons (pe_tup (pa_cons pe_str (pa_cons pe_str (pa_cons pe_str pa_nil)))) (pa_cons (pe_tup (pa_cons pe_str (pa_cons pe_str (pa_cons pe_str pa_nil)))) (pa_cons (pe_tup (pa_cons pe_str pa_nil)) (pa_cons (pe_tup (pa_cons pe_str (pa_cons pe_str (pa_cons pe_str (pa_cons pe_str (pa_cons pe_str (pa_cons pe_str (pa_cons pe_str pa_nil)))))))) pa_nil))))))) (pe_call GN hr (by rfl) gn kn bn .nil pass0 (pa_cons (pv 0) (pa_cons pe_int pa_nil))) (fun _ _ => rfl)))
      (pss_cons (ps_set (i := 2) scPk.nd rfl (.inr rfl) (pe_lst (pa_cons pe_int (pa_cons pe_int (pa_cons pe_str (pa_cons pe_str (pa_cons pe_str (pa_cons pe_int (pa_cons pe_str pa_nil)))))))))
      (pss_cons (ps_set (i := 3) scPk.nd rfl (.inr rfl) (pe_call GN hr (by rfl) gn kn bn .nil pass0 (pa_cons (pv 0) (pa_cons pe_int pa_nil))))
      (pss_one (ps_ret (pe_tup (pa_cons pe_str (pa_cons (pe_callTy call_tuple_of (by rfl) mtu (by decide +kernel) (pa_cons (pe_lc (own := [("_law_k", 4), ("_law_text", 5)]) (g := gTup K 2 (gCons (gName 4) (gCons (gName 5) gNil))) (tt := tYes) rfl scPk.nd (pi_enumT (by rfl) men (pa_cons (pv 1) pa_nil)) (blkOk_by (N := ["_law_draws", "_law_some", "_law_things", "_law_first", "_law_k", "_law_text"]) (sc := defScope sPk) (by decide +kernel)) (fun _ _ _ _ _ => (pg_tup rfl (pgs_cons (pg_name (i := 4) scPk.nd rfl (.inl rfl)) (pgs_cons (pg_name (i := 5) scPk.nd rfl (.inl rfl)) pgs_nil)))) (fun _ _ _ _ _ => pts_nil) (fun _ _ _ _ _ => (pe_tup (pa_cons (pv 5) (pa_cons (pe_ix (show IxR _ (rIxL K) from ix_list) (pv 2) (pe_op op_mod (pe_op op_add (pv 3) (pv 4)) pe_int) (fun _ _ => rfl)) pa_nil))))) pa_nil)) pa_nil)))))))), ?_⟩
    have line : (3000 : Nat) < sizeLine := by rw [sizeLine_eq]; decide
    unfold tSeq tAsg tOp
    refine litL_read (picksZ.map fun ss => D.tup (ss.map D.str)) picks_few (by decide) fun l vs H1 el nl r k1 => ?_
    refine ⟨_, rfl, pd, pc, 6, rfl, P0.kp0 k1, by decide, by decide, fun d H2 ld P2 k2 => ?_⟩
    have ld6 : d < (picksZ.map fun ss => D.tup (ss.map D.str)).length := by show d < 6; omega
    obtain ⟨v, x, el2, ev, ex, rx, kk⟩ := draw_lit P0 el nl r k1 ld6 P2 k2
    rw [List.getElem?_map] at ex
    obtain ⟨ss, es, rfl⟩ := Option.map_eq_some_iff.mp ex
    have mss := List.mem_of_getElem? es
    have lss := picks_len ss mss
    cases rx with
    | @tup sa svs _ esa rsa =>
    refine ⟨l, vs, _, .ref sa, rfl, rfl, SqL.of el2, ev, ?_⟩
    unfold gName
    dsimp only
    refine litL_read thingsD (by decide +kernel) (by decide) fun lt tvs H3 elt nlt rt k3 => ?_
    have P3 := P2.kp0 k3
    refine ⟨_, rfl, pd, pc, 7, rfl, P3, by decide, by decide, fun a H4 la P4 k4 => ?_⟩
    have la7 : a < 7 := by omega
    have elt4 := k4 _ _ (P3.ne elt fun _ z => by cases z) elt
    have t24 : TS H2 H4 := (ts0 k3).trans (pts P3 k4)
    have rt4 := rt.ts (pts P3 k4)
    have esa4 := t24 _ _ esa
    have kk4 : Kp (PM pd) H H4 := (kk.trans (kpm k3)).trans k4
    have lsv := rsa.len
    rw [List.length_map] at lsv
    refine ⟨_, rfl, sa, svs, rfl, SqT.of esa4, fun D nD => ?_⟩
    refine lc_enumT (xs := svs) (fun i H5 => Kp M0 H4 H5 ∧ ∃ os : List V, H5 D = some (.lst os) ∧ os.length = i ∧ Rps H5 os ((pk ss a i).map prD)) ?_ ?_ ?_ ?_
    · exact ⟨Kp.new nD, [], upd_same, rfl, .nil⟩
    · exact fun i H5 h => SqT.of (h.1 _ _ (fun z => z) esa4)
    · rintro i x H5 T hx ⟨k5, os, eD, lo, ro⟩ nT
      have hi := (List.getElem?_eq_some_iff.mp hx).1
      obtain ⟨dx, edx, rx⟩ := rsa.get i x hx
      rw [List.getElem?_map] at edx
      obtain ⟨z, ez, rfl⟩ := Option.map_eq_some_iff.mp edx
      obtain ⟨rfl, lz⟩ : x = .str z ∧ z.length ≤ sizeLine := by
        cases rx with
        | str h => exact ⟨rfl, h⟩
      have k6 : Kp M0 H4 (upd H5 T (.tup [.int (i : Nat), .str z])) := k5.trans (Kp.new nT)
      have eT : upd H5 T (.tup [.int (i : Nat), .str z]) T = some (.tup [.int (i : Nat), .str z]) := upd_same
      have eD6 : upd H5 T (.tup [.int (i : Nat), .str z]) D = some (.lst os) := by rw [upd_ne (ne_of_none eD nT)]; exact eD
      have ro6 := ro.ts (TS.new (o := .tup [.int (i : Nat), .str z]) nT)
      generalize upd H5 T (.tup [.int (i : Nat), .str z]) = H6 at k6 eT eD6 ro6 ⊢
      have l7 : tvs.length = 7 := rt.len
      have hj : (a + i) % 7 < 7 := Nat.mod_lt _ (by decide)
      have htv : tvs[(a + i) % 7]? = some (tvs[(a + i) % 7]'(by omega)) := List.getElem?_eq_getElem (by omega)
      obtain ⟨dt, edt, rdt⟩ := rt4.get _ _ htv
      generalize tvs[(a + i) % 7]'(by omega) = tv at htv rdt
      have eth : th (a + i) = dt := by
        unfold th
        rw [edt]
        rfl
      refine ⟨T, _, rfl, SqT.of eT, rfl, _, _, rfl, _, _, rfl, rfl, rfl, tYes_ok (iteT ?_)⟩
      refine ⟨_, rfl, _, rfl, _, rfl, _, rfl, _, _, rfl, rfl, _, _, rfl, rfl, (by show (0 : Int) < 7; decide), lt, tvs, _, tv, rfl, rfl, SqL.of (k6 _ _ (fun z => z) elt4), ?_, by show 2 ≤ sizeLine; omega, fun p np => ?_⟩
      · exact (show atI tvs ((((a + i) % 7 : Nat)) : Int) = some tv from atI_nat htv)
      have eD7 : upd H6 p (.tup [.str z, tv]) D = some (.lst os) := by rw [upd_ne (ne_of_none eD6 np)]; exact eD6
      have k7 : Kp M0 H4 (upd H6 p (.tup [.str z, tv])) := k6.trans (Kp.new np)
      have t67 : TS H6 (upd H6 p (.tup [.str z, tv])) := TS.new np
      have ep : upd H6 p (.tup [.str z, tv]) p = some (.tup [.str z, tv]) := upd_same
      generalize upd H6 p (.tup [.str z, tv]) = H7 at eD7 k7 t67 ep ⊢
      have t78 : TS H7 (upd H7 D (.lst (os ++ [.ref p]))) := TS.put eD7 fun _ z => by cases z
      refine ⟨os, eD7, by omega, k7.own nD, _, upd_same, by rw [List.length_append, lo]; rfl, ?_⟩
      rw [pk_snoc, List.map_append, ez, eth]
      exact (ro6.ts (t67.trans t78)).app (.cons (.tup (t78 _ _ ep) (.cons (.str lz) (.cons (rdt.ts ((ts0 k7).trans t78)) .nil))) .nil)
    · rintro H5 ⟨k5, os, eD, lo, ro⟩
      rw [lsv] at ro
      refine ⟨D, os, rfl, .inl ⟨SqL.of eD, fun l2 nl2 => ?_⟩⟩
      have r6 : Rp (upd H5 l2 (.tup os)) (.ref l2) (.tup ((pk ss a ss.length).map prD)) := .tup upd_same (ro.ts (TS.new nl2))
      have k6 : Kp M0 H4 (upd H5 l2 (.tup os)) := k5.trans (Kp.new nl2)
      generalize upd H5 l2 (.tup os) = H6 at r6 k6 ⊢
      refine ⟨by show 2 ≤ sizeLine; omega, fun p np => ?_⟩
      exact q _ ss a _ mss la7 (.tup upd_same (.cons (.str (by decide)) (.cons (r6.ts (TS.new np)) .nil))) (P4.kp0 (k6.trans (Kp.new np))) (kk4.trans (kpm (k6.trans (Kp.new np))))
end
end RT

set_option maxHeartbeats 1000000
namespace RT
open PySem PySem.Spec PyProof.Rows L2
def speltZ : List (List Str) := [["a", "b"], ["xa", "y"], ["aa", "ab", "b", "cc", "cd", "x", "z"]]
/-- a spelt pick's pairs: texts with p, q, .. -/
def sk (ss : List Str) (n : Nat) : List (Str × D) := (List.range n).map fun k => ((ss[k]?).getD "", .str ⟨#[112 + k]⟩)
theorem spelt_few : D.fews (speltZ.map fun ss => D.tup (ss.map D.str)) = true := by decide +kernel
theorem spelt_len : ∀ ss ∈ speltZ, 1 ≤ ss.length ∧ ss.length ≤ 7 := by decide +kernel
theorem spelt_sg : ∀ k, k < 7 → ("pqrstuv" : Str).cps.toList[k]? = some (112 + k) := by decide +kernel
theorem sk_snoc (ss : List Str) (n : Nat) : sk ss (n + 1) = sk ss n ++ [((ss[n]?).getD "", .str ⟨#[112 + n]⟩)] := by
  unfold sk
  rw [List.range_succ, List.map_append]
  rfl
def turnedZ : List D := [.tup [.str "turned", .tup [.str "number"], .tup [.tup [.int 0, .int 1], .tup [.int 7, .int 12]]],
  .tup [.str "turned", .tup [.str "word", .str "ab"], .tup [.tup [.str "a", .str "b"], .tup [.str "ab", .str "ba"]]],
  .tup [.str "turned", .tup [.str "pick", .tup [.tup [.str "a", .int 5], .tup [.str "b", .str ""], .tup [.str "c", .str "x"]]], .tup [.tup [.int 5, .str ""]]],
  .tup [.str "turned", .tup [.str "row", .tup [.tup [.str "number"], .tup [.str "text", .str ","], .tup [.str "number"]]], .tup [.tup [.tup [.int 0, .int 0], .tup [.int 1, .int 2]], .tup [.tup [.int 3, .int 4], .tup [.int 4, .int 3]]]]]
section
variable {P : Program} {w : World} {K : PySem.W.Frag} {mg : Str → Option Value} {base : Heap}
def spSp : Sp := fun vs H Q _ => ∃ (pd pc : Addr), vs = [.ref pd] ∧ Pot H pd pc ∧ ∀ (v : V) (d : D) (H' : Hp), ((∃ z ∈ setsZ, d = .tup [.str "spelt", .tup [.str "sign", .str z]]) ∨ ∃ ss ∈ speltZ, d = .tup [.str "spelt", pickD (sk ss ss.length)]) → Rp H' v d → Pot H' pd pc → Kp (PM pd) H H' → Q v H'
theorem ok_sp {f fn fs : Addr} {fd fdn fds : FuncData} {k : Nat} (F : Fun K "_law_spelt" "_law_spelt" sSp f fd) (GN : FnOk P w K mg base CX0 k fn fdn ["_law_draws", "_law_many_here"] spNext) (kn : PySem.W.keepIn K (.ref fn) = true) (bn : Binds K fdn ["_law_draws", "_law_many_here"] []) (gn : mg "_law_next" = some (.ref fn))
    (GSt : FnOk P w K mg base CX0 k fs fds ["_law_draws"] spSt) (kst : PySem.W.keepIn K (.ref fs) = true) (bst : Binds K fds ["_law_draws"] []) (gst : mg "_law_set" = some (.ref fs)) (mtu : mg "tuple" = none) (men : mg "enumerate" = none) :
    FnOk P w K mg base CX0 (k + 1) f fd ["_law_draws"] spSp := by
  refine F.ok scSp (fun vs H Q E h => ?_) (fun cdv A outer sh H vs Q E hr h => ?_)
  · obtain ⟨pd, pc, rfl, _⟩ := h
    rfl
  · obtain ⟨pd, pc, rfl, P0, q⟩ := h
    refine ⟨_, (pss_cons (ps_if (pt_cmpR op_eq (pe_call GN hr (by rfl) gn kn bn .nil pass0 (pa_cons (pv 0) (pa_cons pe_int pa_nil))) pe_int (nomark _)) (pss_one (ps_ret (pe_tup (pa_cons pe_str (pa_cons (pe_tup (pa_cons pe_str (pa_cons (pe_call GSt hr (by rfl) gst kst bst .nil pass0 (pa_cons (pv 0) pa_nil)) pa_nil))) pa_nil))))) pss_nil)
      (pss_cons (ps_set (i := 1) scSp.nd rfl (.inl rfl) (pe_ix ix_list (pe_lst (pa_cons (pe_tup (pa_cons pe_str (pa_cons pe_str pa_nil))) (pa_cons (pe_tup (pa_cons pe_str (pa_cons pe_str pa_nil))) (pa_cons (pe_tup (pa_cons pe_str (pa_cons pe_str (pa_cons pe_str (pa_cons pe_str (pa_cons pe_str (pa_cons pe_str (pa_cons pe_str pa_nil)))))))) pa_nil)))) (pe_call GN hr (by rfl) gn kn bn .nil pass0 (pa_cons (pv 0) (pa_cons pe_int pa_nil))) (fun _ _ => rfl)))
      (pss_one (ps_ret (pe_tup (pa_cons pe_str (pa_cons (pe_tup (pa_cons pe_str (pa_cons (pe_callTy call_tuple_of (by rfl) mtu (by decide +kernel) (pa_cons (pe_lc (own := [("_law_k", 2), ("_law_text", 3)]) (g := gTup K 2 (gCons (gName 2) (gCons (gName 3) gNil))) (tt := tYes) rfl scSp.nd (pi_enumT (by rfl) men (pa_cons (pv 1) pa_nil)) (blkOk_by (N := ["_law_draws", "_law_some", "_law_k", "_law_text"]) (sc := defScope sSp) (by decide +kernel)) (fun _ _ _ _ _ => (pg_tup rfl (pgs_cons (pg_name (i := 2) scSp.nd rfl (.inl rfl)) (pgs_cons (pg_name (i := 3) scSp.nd rfl (.inl rfl)) pgs_nil)))) (fun _ _ _ _ _ => pts_nil) (fun _ _ _ _ _ => (pe_tup (pa_cons (pv 3) (pa_cons (pe_ix ix_str pe_str (pv 2) (fun _ _ => rfl)) pa_nil))))) pa_nil)) pa_nil))) pa_nil))))))), ?_⟩
    have line : (3000 : Nat) < sizeLine := by rw [sizeLine_eq]; decide
    refine ⟨_, rfl, pd, pc, 2, rfl, P0, by decide, by decide, fun e H1 le P1 k1 => ⟨rfl, _, rfl, ite2 (fun c => ?_) (fun c => ?_)⟩⟩
    · refine ⟨_, rfl, pd, pc, rfl, P1, fun z H2 mz P2 k2 => ⟨by show 2 ≤ sizeLine; omega, fun p np => ⟨by show 2 ≤ sizeLine; omega, fun p2 np2 => ?_⟩⟩⟩
      have lz : z.length ≤ 1000 := by
        simp only [setsZ, List.mem_cons, List.not_mem_nil, or_false] at mz
        rcases mz with rfl | rfl | rfl | rfl | rfl | rfl | rfl | rfl <;> decide
      have r1 : Rp (upd H2 p (.tup [.str "sign", .str z])) (.ref p) (.tup [.str "sign", .str z]) := .tup upd_same (.cons (.str (by decide)) (.cons (.str (line1000 lz)) .nil))
      exact q _ _ _ (.inl ⟨z, mz, rfl⟩) (.tup upd_same (.cons (.str (by decide)) (.cons (r1.ts (TS.new np2)) .nil))) ((P2.new np).new np2) (((k1.trans k2).trans (Kp.new np)).trans (Kp.new np2))
    unfold tNext tSeq tAsg tOp
    dsimp only
    refine litL_read (speltZ.map fun ss => D.tup (ss.map D.str)) spelt_few (by decide) fun l vs H2 el nl r k2 => ?_
    refine ⟨_, rfl, pd, pc, 3, rfl, P1.kp0 k2, by decide, by decide, fun d H4 ld P4 k4 => ?_⟩
    have ld3 : d < (speltZ.map fun ss => D.tup (ss.map D.str)).length := by show d < 3; omega
    obtain ⟨v, x, el2, ev, ex, rx, kk⟩ := draw_lit P1 el nl r k2 ld3 P4 k4
    rw [List.getElem?_map] at ex
    obtain ⟨ss, es, rfl⟩ := Option.map_eq_some_iff.mp ex
    have mss := List.mem_of_getElem? es
    have lss := spelt_len ss mss
    cases rx with
    | @tup sa svs _ esa4 rsa =>
    have lsv := rsa.len
    rw [List.length_map] at lsv
    refine ⟨l, vs, _, .ref sa, rfl, rfl, SqL.of el2, ev, ?_⟩
    refine ⟨_, rfl, sa, svs, rfl, SqT.of esa4, fun D nD => ?_⟩
    refine lc_enumT (xs := svs) (fun i H5 => Kp M0 H4 H5 ∧ ∃ os : List V, H5 D = some (.lst os) ∧ os.length = i ∧ Rps H5 os ((sk ss i).map prD)) ?_ ?_ ?_ ?_
    · exact ⟨Kp.new nD, [], upd_same, rfl, .nil⟩
    · exact fun i H5 h => SqT.of (h.1 _ _ (fun z => z) esa4)
    · rintro i x H5 T hx ⟨k5, os, eD, lo, ro⟩ nT
      have hi := (List.getElem?_eq_some_iff.mp hx).1
      obtain ⟨dx, edx, rx⟩ := rsa.get i x hx
      rw [List.getElem?_map] at edx
      obtain ⟨z, ez, rfl⟩ := Option.map_eq_some_iff.mp edx
      obtain ⟨rfl, lz⟩ : x = .str z ∧ z.length ≤ sizeLine := by
        cases rx with
        | str h => exact ⟨rfl, h⟩
      have k6 : Kp M0 H4 (upd H5 T (.tup [.int (i : Nat), .str z])) := k5.trans (Kp.new nT)
      have eT : upd H5 T (.tup [.int (i : Nat), .str z]) T = some (.tup [.int (i : Nat), .str z]) := upd_same
      have eD6 : upd H5 T (.tup [.int (i : Nat), .str z]) D = some (.lst os) := by rw [upd_ne (ne_of_none eD nT)]; exact eD
      have ro6 := ro.ts (TS.new (o := .tup [.int (i : Nat), .str z]) nT)
      generalize upd H5 T (.tup [.int (i : Nat), .str z]) = H6 at k6 eT eD6 ro6 ⊢
      have i7 : i < 7 := by omega
      refine ⟨T, _, rfl, SqT.of eT, rfl, _, _, rfl, _, _, rfl, rfl, rfl, tYes_ok (iteT ?_)⟩
      refine ⟨_, rfl, _, rfl, "pqrstuv", _, 112 + i, rfl, rfl, by decide, atI_nat (spelt_sg i i7), by show 2 ≤ sizeLine; omega, fun p np => ?_⟩
      have eD7 : upd H6 p (.tup [.str z, .str ⟨#[112 + i]⟩]) D = some (.lst os) := by rw [upd_ne (ne_of_none eD6 np)]; exact eD6
      have k7 : Kp M0 H4 (upd H6 p (.tup [.str z, .str ⟨#[112 + i]⟩])) := k6.trans (Kp.new np)
      have t67 : TS H6 (upd H6 p (.tup [.str z, .str ⟨#[112 + i]⟩])) := TS.new np
      have ep : upd H6 p (.tup [.str z, .str ⟨#[112 + i]⟩]) p = some (.tup [.str z, .str ⟨#[112 + i]⟩]) := upd_same
      generalize upd H6 p (.tup [.str z, .str ⟨#[112 + i]⟩]) = H7 at eD7 k7 t67 ep ⊢
      have t78 : TS H7 (upd H7 D (.lst (os ++ [.ref p]))) := TS.put eD7 fun _ z => by cases z
      refine ⟨os, eD7, by omega, k7.own nD, _, upd_same, by rw [List.length_append, lo]; rfl, ?_⟩
      rw [sk_snoc, List.map_append, ez]
      exact (ro6.ts (t67.trans t78)).app (.cons (.tup (t78 _ _ ep) (.cons (.str lz) (.cons (.str (by show 1 ≤ sizeLine; omega)) .nil))) .nil)
    · rintro H5 ⟨k5, os, eD, lo, ro⟩
      rw [lsv] at ro
      refine ⟨D, os, rfl, .inl ⟨SqL.of eD, fun l2 nl2 => ?_⟩⟩
      have r6 : Rp (upd H5 l2 (.tup os)) (.ref l2) (.tup ((sk ss ss.length).map prD)) := .tup upd_same (ro.ts (TS.new nl2))
      have k6 : Kp M0 H4 (upd H5 l2 (.tup os)) := k5.trans (Kp.new nl2)
      generalize upd H5 l2 (.tup os) = H6 at r6 k6 ⊢
      refine ⟨by show 2 ≤ sizeLine; omega, fun p np => ?_⟩
      have r7 : Rp (upd H6 p (.tup [.str "pick", .ref l2])) (.ref p) (pickD (sk ss ss.length)) := .tup upd_same (.cons (.str (by decide)) (.cons (r6.ts (TS.new np)) .nil))
      have k7 : Kp M0 H4 (upd H6 p (.tup [.str "pick", .ref l2])) := k6.trans (Kp.new np)
      generalize upd H6 p (.tup [.str "pick", .ref l2]) = H7 at r7 k7 ⊢
      refine ⟨by show 2 ≤ sizeLine; omega, fun p2 np2 => ?_⟩
      exact q _ _ _ (.inr ⟨ss, mss, rfl⟩) (.tup upd_same (.cons (.str (by decide)) (.cons (r7.ts (TS.new np2)) .nil))) (P4.kp0 (k7.trans (Kp.new np2))) ((k1.trans kk).trans (kpm (k7.trans (Kp.new np2))))
def spTu : Sp := fun vs H Q _ => ∃ (pd pc : Addr), vs = [.ref pd] ∧ Pot H pd pc ∧ ∀ (v : V) (d : D) (H' : Hp), d ∈ turnedZ → Rp H' v d → Pot H' pd pc → Kp (PM pd) H H' → Q v H'
theorem ok_tu {f fn : Addr} {fd fdn : FuncData} {k : Nat} (F : Fun K "_law_turned" "_law_turned" sTu f fd) (GN : FnOk P w K mg base CX0 k fn fdn ["_law_draws", "_law_many_here"] spNext) (kn : PySem.W.keepIn K (.ref fn) = true) (bn : Binds K fdn ["_law_draws", "_law_many_here"] []) (gn : mg "_law_next" = some (.ref fn)) :
    FnOk P w K mg base CX0 (k + 1) f fd ["_law_draws"] spTu := by
  refine F.ok scTu (fun vs H Q E h => ?_) (fun cdv A outer sh H vs Q E hr h => ?_)
  · obtain ⟨pd, pc, rfl, _⟩ := h
    rfl
  · obtain ⟨pd, pc, rfl, P0, q⟩ := h
    refine ⟨_, (pss_cons (ps_set (i := 1) scTu.nd rfl (.inl rfl) (pe_call GN hr (by rfl) gn kn bn .nil pass0 (pa_cons (pv 0) (pa_cons pe_int pa_nil))))
      (pss_cons (ps_if (pt_cmpR op_eq (pv 1) pe_int (nomark _)) (pss_one (ps_ret (pe_tup (pa_cons pe_str (pa_cons (pe_tup (pa_cons pe_str pa_nil)) (pa_cons (pe_tup (pa_cons (pe_tup (pa_cons pe_int (pa_cons pe_int pa_nil))) (pa_cons (pe_tup (pa_cons pe_int (pa_cons pe_int pa_nil))) pa_nil))) pa_nil)))))) pss_nil)
      (pss_cons (ps_if (pt_cmpR op_eq (pv 1) pe_int (nomark _)) (pss_one (ps_ret (pe_tup (pa_cons pe_str (pa_cons (pe_tup (pa_cons pe_str (pa_cons pe_str pa_nil))) (pa_cons (pe_tup (pa_cons (pe_tup (pa_cons pe_str (pa_cons pe_str pa_nil))) (pa_cons (pe_tup (pa_cons pe_str (pa_cons pe_str pa_nil))) pa_nil))) pa_nil)))))) pss_nil)
      (pss_cons (ps_if (pt_cmpR op_eq (pv 1) pe_int (nomark _)) (pss_one (ps_ret (pe_tup (pa_cons pe_str (pa_cons (pe_tup (pa_cons pe_str (pa_cons (pe_tup (pa_cons (pe_tup (pa_cons pe_str (pa_cons pe_int pa_nil))) (pa_cons (pe_tup (pa_cons pe_str (pa_cons pe_str pa_nil))) (pa_cons (pe_tup (pa_cons pe_str (pa_cons pe_str pa_nil))) pa_nil)))) pa_nil))) (pa_cons (pe_tup (pa_cons (pe_tup (pa_cons pe_int (pa_cons pe_str pa_nil))) pa_nil)) pa_nil)))))) pss_nil)
      (pss_one (ps_ret (pe_tup (pa_cons pe_str (pa_cons (pe_tup (pa_cons pe_str (pa_cons (pe_tup (pa_cons (pe_tup (pa_cons pe_str pa_nil)) (pa_cons (pe_tup (pa_cons pe_str (pa_cons pe_str pa_nil))) (pa_cons (pe_tup (pa_cons pe_str pa_nil)) pa_nil)))) pa_nil))) (pa_cons (pe_tup (pa_cons (pe_tup (pa_cons (pe_tup (pa_cons pe_int (pa_cons pe_int pa_nil))) (pa_cons (pe_tup (pa_cons pe_int (pa_cons pe_int pa_nil))) pa_nil))) (pa_cons (pe_tup (pa_cons (pe_tup (pa_cons pe_int (pa_cons pe_int pa_nil))) (pa_cons (pe_tup (pa_cons pe_int (pa_cons pe_int pa_nil))) pa_nil))) pa_nil))) pa_nil)))))))))), ?_⟩
    refine ⟨_, rfl, pd, pc, 4, rfl, P0, by decide, by decide, fun e H1 le P1 k1 => ?_⟩
    have fin : ∀ (d : D) (v : V) (H' : Hp), d ∈ turnedZ → Rp H' v d → Kp M0 H1 H' → Q v H' := fun d v H' m r k => q v d H' m r (P1.kp0 k) (k1.trans (kpm k))
    refine ⟨_, rfl, rfl, _, rfl, ite2 (fun c => ?_) (fun c => ?_)⟩
    · unfold tRet
      exact lit_read (.tup [.str "turned", .tup [.str "number"], .tup [.tup [.int 0, .int 1], .tup [.int 7, .int 12]]]) (by decide +kernel) fun v H' r k => fin _ v H' (by simp [turnedZ]) r k
    refine ⟨_, rfl, rfl, _, rfl, ite2 (fun c => ?_) (fun c => ?_)⟩
    · unfold tRet
      exact lit_read (.tup [.str "turned", .tup [.str "word", .str "ab"], .tup [.tup [.str "a", .str "b"], .tup [.str "ab", .str "ba"]]]) (by decide +kernel) fun v H' r k => fin _ v H' (by simp [turnedZ]) r k
    refine ⟨_, rfl, rfl, _, rfl, ite2 (fun c => ?_) (fun c => ?_)⟩
    · unfold tRet
      exact lit_read (.tup [.str "turned", .tup [.str "pick", .tup [.tup [.str "a", .int 5], .tup [.str "b", .str ""], .tup [.str "c", .str "x"]]], .tup [.tup [.int 5, .str ""]]]) (by decide +kernel) fun v H' r k => fin _ v H' (by simp [turnedZ]) r k
    · unfold tNext tRet
      exact lit_read (.tup [.str "turned", .tup [.str "row", .tup [.tup [.str "number"], .tup [.str "text", .str ","], .tup [.str "number"]]], .tup [.tup [.tup [.int 0, .int 0], .tup [.int 1, .int 2]], .tup [.tup [.int 3, .int 4], .tup [.int 4, .int 3]]]]) (by decide +kernel) fun v H' r k => fin _ v H' (by simp [turnedZ]) r k
end
end RT

set_option maxHeartbeats 1000000
namespace RT
open PySem PySem.Spec PyProof.Rows L2
abbrev sDn : Stmt := topS 30
theorem scDn : FnScope ["_law_draws", "_law_names", "_law_deep", "_law_room", "_law_way", "_law_name", "_law_one", "_law_between", "_law_some", "_law_k", "_law_form"] ["_law_draws", "_law_names", "_law_deep", "_law_room"] (defScope sDn) := ⟨rfl, rfl, rfl, by decide +kernel, rfl, by decide +kernel, by decide +kernel⟩
/-- the names of an either's choices: a, b, .. -/
def ltrs (n : Nat) : List Str := (List.range n).map fun k => ⟨#[97 + k]⟩
/-- the turned forms: what is turned, and the table -/
def turnedF : List (Fo × List D) := [(.leaf "number" [], [.tup [.tup [.int 0, .int 1], .tup [.int 7, .int 12]]]),
  (.leaf "word" [.str "ab"], [.tup [.tup [.str "a", .str "b"], .tup [.str "ab", .str "ba"]]]),
  (.leaf "pick" [.tup [.tup [.str "a", .int 5], .tup [.str "b", .str ""], .tup [.str "c", .str "x"]]], [.tup [.tup [.int 5, .str ""]]]),
  (.row [.leaf "number" [], .leaf "text" [.str ","], .leaf "number" []], [.tup [.tup [.tup [.int 0, .int 0], .tup [.int 1, .int 2]], .tup [.tup [.int 3, .int 4], .tup [.int 4, .int 3]]]])]
/-- a form as it is drawn -/
inductive Dr (N : List Str) : Fo → Prop
  | text {z : Str} : ToldOk z → Dr N (.leaf "text" [.str z])
  | set {w z : Str} : (w = "sign" ∨ w = "word") → z ∈ setsZ → Dr N (.leaf w [.str z])
  | number : Dr N (.leaf "number" [])
  | named {x : Str} : x ∈ N → Dr N (.named x)
  | pick {ss : List Str} {a : Nat} : ss ∈ picksZ → a < 7 → Dr N (.leaf "pick" [.tup ((pk ss a ss.length).map prD)])
  | spelt {z : Str} : z ∈ setsZ → Dr N (.one "spelt" (.leaf "sign" [.str z]) [])
  | speltP {ss : List Str} : ss ∈ speltZ → Dr N (.one "spelt" (.leaf "pick" [.tup ((sk ss ss.length).map prD)]) [])
  | turned {f : Fo} {r : List D} : (f, r) ∈ turnedF → Dr N (.one "turned" f r)
  | skip {f : Fo} : Dr N f → Dr N (.one "skip" f [])
  | counted {z : Str} {f : Fo} : ToldOk z → Dr N f → Dr N (.counted z f)
  | again {f : Fo} : Dr N f → Dr N (.again f)
  | betweenT {z : Str} {f : Fo} : ToldOk z → Dr N f → Dr N (.between f (.leaf "text" [.str z]))
  | betweenS {f : Fo} : Dr N f → Dr N (.between f (.one "skip" (.one "spelt" (.leaf "sign" [.str " "]) []) []))
  | row {fs : List Fo} : fs ≠ [] → fs.length ≤ 7 → (∀ f ∈ fs, Dr N f) → Dr N (.row fs)
  | either {fs : List Fo} : fs ≠ [] → fs.length ≤ 7 → (∀ f ∈ fs, Dr N f) → Dr N (.either (ltrs fs.length) fs)
mutual
/-- how many draws of forms made it, at least -/
def Fo.mu : Fo → Nat
  | .leaf _ _ => 1
  | .one w f _ => 1 + (if w = "skip" then f.mu else 0)
  | .row fs => 1 + Fo.mus fs
  | .either _ fs => 1 + Fo.mus fs
  | .again f => 1 + f.mu
  | .between f _ => 1 + f.mu
  | .counted _ f => 1 + f.mu
  | .named _ => 1
def Fo.mus : List Fo → Nat
  | [] => 0
  | f :: r => f.mu + Fo.mus r
end
theorem Fo.mu_no {w : Str} {f : Fo} {r : List D} (h : w ≠ "skip") : (Fo.one w f r).mu = 1 := by
  simp only [Fo.mu, if_neg h]
theorem Fo.mu_skip {f : Fo} {r : List D} : (Fo.one "skip" f r).mu = 1 + f.mu := by
  simp only [Fo.mu, if_true]
theorem Fo.mus_app : ∀ fs gs : List Fo, Fo.mus (fs ++ gs) = Fo.mus fs + Fo.mus gs
  | [], gs => by simp [Fo.mus]
  | f :: r, gs => by
    show f.mu + Fo.mus (r ++ gs) = f.mu + Fo.mus r + Fo.mus gs
    rw [Fo.mus_app r gs]
    omega
/-- what drawing a form changes: the draws and the room -/
abbrev DM (pd rl : Addr) : Addr → Prop := fun b => b = pd ∨ b = rl
section
variable {P : Program} {w : World} {K : PySem.W.Frag} {mg : Str → Option Value} {base : Heap}
/-- a form less than n deep; the room is 1 or more, and less behind it -/
def spDn (N : List Str) (n : Nat) : Sp := fun vs H Q _ => ∃ (pd pc nl rl : Addr) (dp r : Nat), vs = [.ref pd, .ref nl, .int (dp : Nat), .ref rl] ∧ dp < n ∧ Pot H pd pc ∧ H nl = some (.lst (N.map V.str)) ∧ N ≠ [] ∧ N.length ≤ 12 ∧ (∀ x ∈ N, x.length ≤ 8) ∧ H rl = some (.lst [.int (r : Nat)]) ∧ 1 ≤ r ∧ r ≤ 1000 ∧ rl ≠ pc ∧ nl ≠ rl ∧
  ∀ (v : V) (f : Fo) (r' : Nat) (H' : Hp), Dr N f → Rp H' v f.enc → r' < r → f.mu + r' ≤ r → Pot H' pd pc → H' rl = some (.lst [.int (r' : Nat)]) → Kp (DM pd rl) H H' → Q v H'
theorem none_dn {N : List Str} {f : Addr} {fd : FuncData} {k : Nat} : FnOk P w K mg base CX0 k f fd ["_law_draws", "_law_names", "_law_deep", "_law_room"] (spDn N 0) :=
  ⟨fun vs H Q E h => by obtain ⟨_, _, _, _, _, _, _, h, _⟩ := h; exact absurd h (Nat.not_lt_zero _), fun A outer s H args us vs Q E _ _ _ _ h => by obtain ⟨_, _, _, _, _, _, _, h, _⟩ := h; exact absurd h (Nat.not_lt_zero _)⟩
end
end RT

set_option maxHeartbeats 1000000
namespace RT
open PySem PySem.Spec PyProof.Rows L2
/-- the draw of the way: 8 ways, 16 where one may go deeper -/
theorem dn_way {K : PySem.W.Frag} {tb : L2.TS} {D : Ends} {H1 : Hp} {pd pc nl rl : Addr} {dp r : Nat} {σ : L2.St}
    (s0 : σ[0]? = some (some (.ref pd))) (s2 : σ[2]? = some (some (.int (dp : Nat)))) (s3 : σ[3]? = some (some (.ref rl)))
    (P1 : Pot H1 pd pc) (eR1 : H1 rl = some (.lst [.int (r : Nat)]))
    (S : ∀ (e : Nat) H', e < 16 → (8 ≤ e → 0 < dp ∧ 0 < r) → Pot H' pd pc → Kp (PM pd) H1 H' → tb D (σ.set 4 (some (.int (e : Nat)))) H') :
    tSeq (tAsg (tCall spNext [] E0 (tCons (tVar 0) (tCons (tOp (rIxL K) (tLst (tCons (tC (.int 8)) (tCons (tC (.int 16)) tNil)))
      (tCB (fun xs H Q => (∃ i, xs = [V.int i] ∧ Q (V.int i) H) ∨ ∃ k, xs = [V.bl k] ∧ Q (V.int (if k = true then 1 else 0)) H)
        (tCons (tAndV (tOp (rI0 fun i j => V.bl (decide (j < i))) (tVar 2) (tC (.int 0))) (tOp (rI0 fun i j => V.bl (decide (j < i))) (tOp (rIxL K) (tVar 3) (tC (.int 0))) (tC (.int 0)))) tNil))) tNil))) (gName 4)) tb D σ H1 := by
  refine seq_split (fun σ' H' => ∃ e : Nat, σ' = σ.set 4 (some (.int (e : Nat))) ∧ e < 16 ∧ (8 ≤ e → 0 < dp ∧ 0 < r) ∧ Pot H' pd pc ∧ Kp (PM pd) H1 H') (fun σ' H' T => ?_) (fun go => ?_)
  · obtain ⟨e, rfl, a, b, c, d⟩ := T
    exact S e H' a b c d
  have line : (2000 : Nat) < sizeLine := by rw [sizeLine_eq]; decide
  refine ⟨_, s0, ⟨by show 2 ≤ sizeLine; omega, fun l nl1 => ?_⟩⟩
  have el : upd H1 l (.lst [.int 8, .int 16]) l = some (.lst [.int 8, .int 16]) := upd_same
  have P2 := P1.new (o := .lst [.int 8, .int 16]) nl1
  have k2 : Kp (PM pd) H1 (upd H1 l (.lst [.int 8, .int 16])) := Kp.new nl1
  have eR2 : upd H1 l (.lst [.int 8, .int 16]) rl = some (.lst [.int (r : Nat)]) := by rw [upd_ne (ne_of_none eR1 nl1)]; exact eR1
  generalize upd H1 l (.lst [.int 8, .int 16]) = H2 at el P2 k2 eR2 ⊢
  refine ⟨_, s2, _, _, rfl, rfl, _, rfl, ite2 (fun c => ?_) (fun c => ?_)⟩
  · refine ⟨_, s3, rl, _, 0, .int (r : Nat), rfl, rfl, SqL.of eR2, rfl, _, _, rfl, rfl, .inr ⟨_, rfl, ?_⟩⟩
    have cp : 0 < dp := Int.ofNat_lt.mp (of_decide_eq_true c)
    have i2 : ∃ j : Nat, (if decide ((0 : Int) < (r : Nat)) = true then (1 : Int) else 0) = (j : Nat) ∧ ∃ m : Nat, [V.int 8, V.int 16][j]? = some (V.int (m : Nat)) ∧ 1 ≤ m ∧ m ≤ 16 ∧ (8 < m → 0 < r) := by
      by_cases h : 0 < r
      · exact ⟨1, if_pos (decide_eq_true (show (0 : Int) < (r : Nat) by omega)), 16, rfl, by decide, by decide, fun _ => h⟩
      · exact ⟨0, if_neg (fun z => h (by have := of_decide_eq_true z; omega)), 8, rfl, by decide, by decide, fun z => absurd z (by decide)⟩
    obtain ⟨j, ej, m, em, m1, m16, mr8⟩ := i2
    refine ⟨l, _, _, .int (m : Nat), rfl, rfl, SqL.of el, ?_, pd, pc, m, rfl, P2, by omega, by omega, fun e H3 le P3 k3 => ?_⟩
    · rw [ej]; exact atI_nat em
    · exact go _ _ ⟨e, rfl, by omega, fun e8 => ⟨cp, mr8 (by omega)⟩, P3, k2.trans k3⟩
  · refine .inr ⟨_, rfl, l, _, 0, .int 8, rfl, rfl, SqL.of el, rfl, pd, pc, 8, rfl, P2, by decide, by decide, fun e H3 le P3 k3 => ?_⟩
    exact go _ _ ⟨e, rfl, by omega, fun e8 => absurd le (by omega), P3, k2.trans k3⟩
end RT

set_option maxHeartbeats 1000000
namespace RT
open PySem PySem.Spec PyProof.Rows L2
/-- a list of four things just made: what stands at e is one of them -/
theorem four {α : Type} {a b c d : α} {Z : α → Prop} {e : Nat} (he : e < 4) (ha : Z a) (hb : Z b) (hc : Z c) (hd : Z d) : ∃ v, [a, b, c, d][e]? = some v ∧ Z v := by
  match e, he with
  | 0, _ => exact ⟨a, rfl, ha⟩
  | 1, _ => exact ⟨b, rfl, hb⟩
  | 2, _ => exact ⟨c, rfl, hc⟩
  | 3, _ => exact ⟨d, rfl, hd⟩
/-- the ways below 4: a text, a sign, a word, a number -/
theorem dn_leaf {N : List Str} {K : PySem.W.Frag} {D : Ends} {H : Hp} {pd pc : Addr} {e : Nat} {σ : L2.St}
    (s0 : σ[0]? = some (some (.ref pd))) (s4 : σ[4]? = some (some (.int (e : Nat)))) (P0 : Pot H pd pc) (he : e < 4)
    (S : ∀ v (f : Fo) H', Dr N f → f.mu ≤ 1 → Rp H' v f.enc → Pot H' pd pc → Kp (PM pd) H H' → D.rt v H') :
    tRet (tOp (rIxL K) (tLst (tCons (tTup (tCons (tC (.str "text")) (tCons (tCall spTd [] E0 (tCons (tVar 0) tNil)) tNil)))
      (tCons (tTup (tCons (tC (.str "sign")) (tCons (tCall spSt [] E0 (tCons (tVar 0) tNil)) tNil)))
      (tCons (tTup (tCons (tC (.str "word")) (tCons (tCall spSt [] E0 (tCons (tVar 0) tNil)) tNil)))
      (tCons (tTup (tCons (tC (.str "number")) tNil)) tNil))))) (tVar 4)) D σ H := by
  have line : (3000 : Nat) < sizeLine := by rw [sizeLine_eq]; decide
  have lz : ∀ z ∈ setsZ, z.length ≤ 1000 := fun z mz => by
    simp only [setsZ, List.mem_cons, List.not_mem_nil, or_false] at mz
    rcases mz with rfl | rfl | rfl | rfl | rfl | rfl | rfl | rfl <;> decide
  refine ⟨_, s0, pd, pc, rfl, P0, fun z H1 oz P1 k1 => ⟨by show 2 ≤ sizeLine; omega, fun p np => ?_⟩⟩
  have r1 : Rp (upd H1 p (.tup [.str "text", .str z])) (.ref p) (Fo.enc (.leaf "text" [.str z])) := .tup upd_same (.cons (.str (by decide)) (.cons (.str (by have := oz.2.1; omega)) .nil))
  have P1 := P1.new (o := .tup [.str "text", .str z]) np
  have k1 : Kp (PM pd) H (upd H1 p (.tup [.str "text", .str z])) := k1.trans (Kp.new np)
  generalize upd H1 p (.tup [.str "text", .str z]) = H1 at r1 P1 k1 ⊢
  refine ⟨_, s0, pd, pc, rfl, P1, fun z2 H2 m2 P2 k2 => ⟨by show 2 ≤ sizeLine; omega, fun p2 np => ?_⟩⟩
  have r1 := (r1.keep k2 P1.noT).ts (TS.new (o := .tup [.str "sign", .str z2]) np)
  have r2 : Rp (upd H2 p2 (.tup [.str "sign", .str z2])) (.ref p2) (Fo.enc (.leaf "sign" [.str z2])) := .tup upd_same (.cons (.str (by decide)) (.cons (.str (by have := lz _ m2; omega)) .nil))
  have P2 := P2.new (o := .tup [.str "sign", .str z2]) np
  have k2 : Kp (PM pd) H (upd H2 p2 (.tup [.str "sign", .str z2])) := (k1.trans k2).trans (Kp.new np)
  generalize upd H2 p2 (.tup [.str "sign", .str z2]) = H2 at r1 r2 P2 k2 ⊢
  refine ⟨_, s0, pd, pc, rfl, P2, fun z3 H3 m3 P3 k3 => ⟨by show 2 ≤ sizeLine; omega, fun p3 np => ?_⟩⟩
  have r1 := (r1.keep k3 P2.noT).ts (TS.new (o := .tup [.str "word", .str z3]) np)
  have r2 := (r2.keep k3 P2.noT).ts (TS.new (o := .tup [.str "word", .str z3]) np)
  have r3 : Rp (upd H3 p3 (.tup [.str "word", .str z3])) (.ref p3) (Fo.enc (.leaf "word" [.str z3])) := .tup upd_same (.cons (.str (by decide)) (.cons (.str (by have := lz _ m3; omega)) .nil))
  have P3 := P3.new (o := .tup [.str "word", .str z3]) np
  have k3 : Kp (PM pd) H (upd H3 p3 (.tup [.str "word", .str z3])) := (k2.trans k3).trans (Kp.new np)
  generalize upd H3 p3 (.tup [.str "word", .str z3]) = H3 at r1 r2 r3 P3 k3 ⊢
  refine ⟨by show 1 ≤ sizeLine; omega, fun p4 np => ?_⟩
  have r1 := r1.ts (TS.new (o := .tup [.str "number"]) np)
  have r2 := r2.ts (TS.new (o := .tup [.str "number"]) np)
  have r3 := r3.ts (TS.new (o := .tup [.str "number"]) np)
  have r4 : Rp (upd H3 p4 (.tup [.str "number"])) (.ref p4) (Fo.enc (.leaf "number" [])) := .tup upd_same (.cons (.str (by decide)) .nil)
  have P4 := P3.new (o := .tup [.str "number"]) np
  have k4 : Kp (PM pd) H (upd H3 p4 (.tup [.str "number"])) := k3.trans (Kp.new np)
  generalize upd H3 p4 (.tup [.str "number"]) = H4 at r1 r2 r3 r4 P4 k4 ⊢
  refine ⟨by show 4 ≤ sizeLine; omega, fun l nl => ?_⟩
  have T := TS.new (o := .lst [.ref p, .ref p2, .ref p3, .ref p4]) nl
  obtain ⟨v, ev, f, df, sf, rf⟩ := four (Z := fun v => ∃ f : Fo, Dr N f ∧ f.mu ≤ 1 ∧ Rp (upd H4 l (.lst [.ref p, .ref p2, .ref p3, .ref p4])) v f.enc) he
    ⟨_, .text oz, Nat.le_refl 1, r1.ts T⟩ ⟨_, .set (.inl rfl) m2, Nat.le_refl 1, r2.ts T⟩ ⟨_, .set (.inr rfl) m3, Nat.le_refl 1, r3.ts T⟩ ⟨_, .number, Nat.le_refl 1, r4.ts T⟩
  exact ⟨_, s4, l, _, _, v, rfl, rfl, SqL.of upd_same, atI_nat ev, S v f _ df sf rf (P4.new nl) (k4.trans (Kp.new nl))⟩
end RT

set_option maxHeartbeats 1000000
namespace RT
open PySem PySem.Spec PyProof.Rows L2
theorem turned_fo {N : List Str} {d : D} (h : d ∈ turnedZ) : ∃ f : Fo, Dr N f ∧ f.mu ≤ 1 ∧ f.enc = d := by
  have g : ∀ {f : Fo} {r : List D}, (f, r) ∈ turnedF → (Fo.one "turned" f r).enc = d → ∃ f : Fo, Dr N f ∧ f.mu ≤ 1 ∧ f.enc = d := fun {f r} m e => ⟨.one "turned" f r, .turned m, Nat.le_of_eq (Fo.mu_no (by decide)), e⟩
  simp only [turnedZ, List.mem_cons, List.not_mem_nil, or_false] at h
  rcases h with h | h | h | h
  · exact g (.head _) h.symm
  · exact g (.tail _ (.head _)) h.symm
  · exact g (.tail _ (.tail _ (.head _))) h.symm
  · exact g (.tail _ (.tail _ (.tail _ (.head _)))) h.symm
theorem spelt_fo {N : List Str} {d : D} (h : (∃ z ∈ setsZ, d = .tup [.str "spelt", .tup [.str "sign", .str z]]) ∨ ∃ ss ∈ speltZ, d = .tup [.str "spelt", pickD (sk ss ss.length)]) : ∃ f : Fo, Dr N f ∧ f.mu ≤ 1 ∧ f.enc = d := by
  rcases h with ⟨z, m, rfl⟩ | ⟨ss, m, rfl⟩
  · exact ⟨_, .spelt m, Nat.le_of_eq (Fo.mu_no (by decide)), rfl⟩
  · exact ⟨_, .speltP m, Nat.le_of_eq (Fo.mu_no (by decide)), rfl⟩
theorem two {α : Type} {a b : α} {Z : α → Prop} {e : Nat} (he : e < 2) (ha : Z a) (hb : Z b) : ∃ v, [a, b][e]? = some v ∧ Z v := by
  match e, he with
  | 0, _ => exact ⟨a, rfl, ha⟩
  | 1, _ => exact ⟨b, rfl, hb⟩
/-- the ways from 4 to 7: a name, a pick, spelt or turned -/
theorem dn_near {N : List Str} {K : PySem.W.Frag} {D : Ends} {H : Hp} {pd pc nl : Addr} {e : Nat} {σ : L2.St}
    (s0 : σ[0]? = some (some (.ref pd))) (s1 : σ[1]? = some (some (.ref nl))) (s4 : σ[4]? = some (some (.int (e : Nat)))) (hσ : 5 < σ.length) (P0 : Pot H pd pc) (eN : H nl = some (.lst (N.map V.str))) (nN : N ≠ []) (lN : N.length ≤ 12) (sN : ∀ x ∈ N, x.length ≤ 8) (e4 : 4 ≤ e) (e8 : e < 8)
    (S : ∀ v (f : Fo) H', Dr N f → f.mu ≤ 1 → Rp H' v f.enc → Pot H' pd pc → Kp (PM pd) H H' → D.rt v H') :
    tSeq (tAsg (tTup (tCons (tC (.str "named")) (tCons (tOp (rIxL K) (tVar 1) (tCall spNext [] E0 (tCons (tVar 0) (tCons (tCB (fun xs H Q => ∃ p ys, xs = [.ref p] ∧ (SqL K H p ys ∨ SqT K H p ys) ∧ Q (.int ys.length) H) (tCons (tVar 1) tNil)) tNil)))) tNil))) (gName 5))
      (tRet (tOp (rIxL K) (tLst (tCons (tVar 5) (tCons (tVar 5) (tCons (tCall spPk [] E0 (tCons (tVar 0) tNil)) (tCons (tOp (rIxL K) (tLst (tCons (tCall spSp [] E0 (tCons (tVar 0) tNil)) (tCons (tCall spTu [] E0 (tCons (tVar 0) tNil)) tNil))) (tCall spNext [] E0 (tCons (tVar 0) (tCons (tC (.int 2)) tNil)))) tNil))))) (tOp (rI0 fun i j => .int (i - j)) (tVar 4) (tC (.int 4))))) D σ H := by
  have line : (3000 : Nat) < sizeLine := by rw [sizeLine_eq]; decide
  have lp : 1 ≤ N.length := List.length_pos_iff.mpr nN
  refine ⟨_, s1, _, s0, _, s1, nl, _, rfl, .inl (SqL.of eN), pd, pc, _, rfl, P0, by rw [List.length_map]; omega, by rw [List.length_map]; omega, fun i H1 li P1 k1 => ?_⟩
  rw [List.length_map] at li
  have li : i < N.length := by omega
  have eN1 := k1 _ _ (P0.ne eN fun _ z => by cases z) eN
  have mN : N[i] ∈ N := List.getElem_mem li
  refine ⟨nl, _, _, .str N[i], rfl, rfl, SqL.of eN1, atI_nat (by rw [List.getElem?_map, List.getElem?_eq_getElem li]; rfl), by show 2 ≤ sizeLine; omega, fun p np => ?_⟩
  have r1 : Rp (upd H1 p (.tup [.str "named", .str N[i]])) (.ref p) (Fo.enc (.named N[i])) := .tup upd_same (.cons (.str (by decide)) (.cons (.str (by have := sN _ mN; omega)) .nil))
  have P1 := P1.new (o := .tup [.str "named", .str N[i]]) np
  have k1 : Kp (PM pd) H (upd H1 p (.tup [.str "named", .str N[i]])) := k1.trans (Kp.new np)
  generalize upd H1 p (.tup [.str "named", .str N[i]]) = H1 at r1 P1 k1 ⊢
  have q0 : (σ.set 5 (some (.ref p)))[0]? = some (some (.ref pd)) := by rw [List.getElem?_set_ne (by decide)]; exact s0
  have q4 : (σ.set 5 (some (.ref p)))[4]? = some (some (.int (e : Nat))) := by rw [List.getElem?_set_ne (by decide)]; exact s4
  have q5 : (σ.set 5 (some (.ref p)))[5]? = some (some (.ref p)) := by rw [List.getElem?_set_self hσ]
  refine ⟨_, q5, _, q5, _, q0, pd, pc, rfl, P1, fun v2 ss a H2 mss ha r2 P2 k2 => ?_⟩
  have r1 := r1.keep k2 P1.noT
  have k2 := k1.trans k2
  refine ⟨_, q0, pd, pc, rfl, P2, fun v3 d3 H3 h3 r3 P3 k3 => ?_⟩
  have r1 := r1.keep k3 P2.noT
  have r2 := r2.keep k3 P2.noT
  have k3 := k2.trans k3
  refine ⟨_, q0, pd, pc, rfl, P3, fun v4 d4 H4 h4 r4 P4 k4 => ⟨by show 2 ≤ sizeLine; omega, fun l nl4 => ?_⟩⟩
  have T := TS.new (o := .lst [v3, v4]) nl4
  have r1 := (r1.keep k4 P3.noT).ts T
  have r2 := (r2.keep k4 P3.noT).ts T
  have r3 := (r3.keep k4 P3.noT).ts T
  have r4 := r4.ts T
  have P4 := P4.new (o := .lst [v3, v4]) nl4
  have k4 : Kp (PM pd) H (upd H4 l (.lst [v3, v4])) := (k3.trans k4).trans (Kp.new nl4)
  have el : upd H4 l (.lst [v3, v4]) l = some (.lst [v3, v4]) := upd_same
  generalize upd H4 l (.lst [v3, v4]) = H4 at r1 r2 r3 r4 P4 k4 el ⊢
  refine ⟨_, q0, pd, pc, 2, rfl, P4, by decide, by decide, fun j H5 lj P5 k5 => ?_⟩
  have el := k5 _ _ (P4.ne el fun _ z => by cases z) el
  have r1 := r1.keep k5 P4.noT
  have r2 := r2.keep k5 P4.noT
  have r3 := r3.keep k5 P4.noT
  have r4 := r4.keep k5 P4.noT
  have k5 := k4.trans k5
  obtain ⟨f3, df3, sf3, rfl⟩ := spelt_fo (N := N) h3
  obtain ⟨f4, df4, sf4, rfl⟩ := turned_fo (N := N) h4
  obtain ⟨v, ev, f, df, sf, rf⟩ := two (Z := fun v => ∃ f : Fo, Dr N f ∧ f.mu ≤ 1 ∧ Rp H5 v f.enc) (show j < 2 by omega) ⟨_, df3, sf3, r3⟩ ⟨_, df4, sf4, r4⟩
  refine ⟨l, _, _, v, rfl, rfl, SqL.of el, atI_nat ev, by show 4 ≤ sizeLine; omega, fun l2 n2 => ?_⟩
  have T := TS.new (o := .lst [.ref p, .ref p, v2, v]) n2
  obtain ⟨u, eu, g, dg, sg, rg⟩ := four (Z := fun u => ∃ f : Fo, Dr N f ∧ f.mu ≤ 1 ∧ Rp (upd H5 l2 (.lst [.ref p, .ref p, v2, v])) u f.enc) (show e - 4 < 4 by omega)
    ⟨_, .named mN, Nat.le_refl 1, r1.ts T⟩ ⟨_, .named mN, Nat.le_refl 1, r1.ts T⟩ ⟨_, .pick mss ha, Nat.le_refl 1, r2.ts T⟩ ⟨_, df, sf, rf.ts T⟩
  refine ⟨_, q4, _, _, rfl, rfl, l2, _, _, u, rfl, rfl, SqL.of upd_same, ?_, S u g _ dg sg rg (P5.new n2) (k5.trans (Kp.new n2))⟩
  show atI _ ((e : Int) - 4) = _
  rw [show ((e : Int) - 4) = ((e - 4 : Nat) : Int) by omega]
  exact atI_nat eu
end RT

set_option maxHeartbeats 1000000
namespace RT
open PySem PySem.Spec PyProof.Rows L2
theorem three {α : Type} {a b c : α} {Z : α → Prop} {e : Nat} (he : e < 3) (ha : Z a) (hb : Z b) (hc : Z c) : ∃ v, [a, b, c][e]? = some v ∧ Z v := by
  match e, he with
  | 0, _ => exact ⟨a, rfl, ha⟩
  | 1, _ => exact ⟨b, rfl, hb⟩
  | 2, _ => exact ⟨c, rfl, hc⟩
/-- the way 8: a skip -/
theorem dn_skip {N : List Str} {D : Ends} {H : Hp} {pd pc : Addr} {v : V} {f : Fo} {σ : L2.St}
    (s6 : σ[6]? = some (some v)) (P0 : Pot H pd pc) (df : Dr N f) (rf : Rp H v f.enc)
    (S : ∀ v (g : Fo) H', Dr N g → g.mu ≤ f.mu + 1 → Rp H' v g.enc → Pot H' pd pc → Kp (PM pd) H H' → D.rt v H') :
    tRet (tTup (tCons (tC (.str "skip")) (tCons (tVar 6) tNil))) D σ H := by
  have line : (3000 : Nat) < sizeLine := by rw [sizeLine_eq]; decide
  refine ⟨_, s6, by show 2 ≤ sizeLine; omega, fun p np => S _ (.one "skip" f []) _ (.skip df) (by rw [Fo.mu_skip]; omega) (.tup upd_same (.cons (.str (by decide)) (.cons (rf.ts (TS.new np)) .nil))) (P0.new np) (Kp.new np)⟩
/-- the way 9: counted -/
theorem dn_counted {N : List Str} {D : Ends} {H : Hp} {pd pc : Addr} {v : V} {f : Fo} {σ : L2.St}
    (s0 : σ[0]? = some (some (.ref pd))) (s6 : σ[6]? = some (some v)) (P0 : Pot H pd pc) (df : Dr N f) (rf : Rp H v f.enc)
    (S : ∀ v (g : Fo) H', Dr N g → g.mu ≤ f.mu + 1 → Rp H' v g.enc → Pot H' pd pc → Kp (PM pd) H H' → D.rt v H') :
    tRet (tTup (tCons (tC (.str "counted")) (tCons (tCall spTd [] E0 (tCons (tVar 0) tNil)) (tCons (tVar 6) tNil)))) D σ H := by
  have line : (3000 : Nat) < sizeLine := by rw [sizeLine_eq]; decide
  refine ⟨_, s0, pd, pc, rfl, P0, fun z H1 oz P1 k1 => ⟨_, s6, by show 3 ≤ sizeLine; omega, fun p np => ?_⟩⟩
  have rf := rf.keep k1 P0.noT
  exact S _ (.counted z f) _ (.counted oz df) (by show 1 + f.mu ≤ f.mu + 1; omega) (.tup upd_same (.cons (.str (by decide)) (.cons (.str (by have := oz.2.1; omega)) (.cons (rf.ts (TS.new np)) .nil)))) (P1.new np) (k1.trans (Kp.new np))
/-- the ways 10 and 11: again, with nothing, a text or spaces between -/
theorem dn_again {N : List Str} {K : PySem.W.Frag} {D : Ends} {H : Hp} {pd pc : Addr} {v : V} {f : Fo} {σ : L2.St}
    (s0 : σ[0]? = some (some (.ref pd))) (s6 : σ[6]? = some (some v)) (hσ : 7 < σ.length) (P0 : Pot H pd pc) (df : Dr N f) (rf : Rp H v f.enc)
    (S : ∀ v (g : Fo) H', Dr N g → g.mu ≤ f.mu + 1 → Rp H' v g.enc → Pot H' pd pc → Kp (PM pd) H H' → D.rt v H') :
    tSeq (tAsg (tOp (rIxL K) (tLst (tCons (tC .non) (tCons (tTup (tCons (tC (.str "text")) (tCons (tCall spTd [] E0 (tCons (tVar 0) tNil)) tNil))) (tCons (tTup (tCons (tC (.str "skip")) (tCons (tTup (tCons (tC (.str "spelt")) (tCons (tTup (tCons (tC (.str "sign")) (tCons (tC (.str " ")) tNil))) tNil))) tNil))) tNil)))) (tCall spNext [] E0 (tCons (tVar 0) (tCons (tC (.int 3)) tNil)))) (gName 7))
      (tRet (tTup (tCons (tC (.str "again")) (tCons (tVar 6) (tCons (tVar 7) tNil))))) D σ H := by
  have line : (3000 : Nat) < sizeLine := by rw [sizeLine_eq]; decide
  refine ⟨_, s0, pd, pc, rfl, P0, fun z H1 oz P1 k1 => ⟨by show 2 ≤ sizeLine; omega, fun p np => ?_⟩⟩
  have r1 : Rp (upd H1 p (.tup [.str "text", .str z])) (.ref p) (Fo.enc (.leaf "text" [.str z])) := .tup upd_same (.cons (.str (by decide)) (.cons (.str (by have := oz.2.1; omega)) .nil))
  have rf := (rf.keep k1 P0.noT).ts (TS.new (o := .tup [.str "text", .str z]) np)
  have P1 := P1.new (o := .tup [.str "text", .str z]) np
  have k1 : Kp (PM pd) H (upd H1 p (.tup [.str "text", .str z])) := k1.trans (Kp.new np)
  generalize upd H1 p (.tup [.str "text", .str z]) = H1 at r1 rf P1 k1 ⊢
  refine ⟨by show 2 ≤ sizeLine; omega, fun a na => ⟨by show 2 ≤ sizeLine; omega, fun b nb => ⟨by show 2 ≤ sizeLine; omega, fun c nc => ?_⟩⟩⟩
  have ra : Rp (upd H1 a (.tup [.str "sign", .str " "])) (.ref a) (.tup [.str "sign", .str " "]) := .tup upd_same (.cons (.str (by decide)) (.cons (.str (by show 1 ≤ sizeLine; omega)) .nil))
  have r1 := r1.ts (TS.new (o := .tup [.str "sign", .str " "]) na)
  have rf := rf.ts (TS.new (o := .tup [.str "sign", .str " "]) na)
  have P1 := P1.new (o := .tup [.str "sign", .str " "]) na
  have k1 : Kp (PM pd) H (upd H1 a (.tup [.str "sign", .str " "])) := k1.trans (Kp.new na)
  generalize upd H1 a (.tup [.str "sign", .str " "]) = H1 at r1 rf P1 k1 ra nb nc ⊢
  have rb : Rp (upd H1 b (.tup [.str "spelt", .ref a])) (.ref b) (.tup [.str "spelt", .tup [.str "sign", .str " "]]) := .tup upd_same (.cons (.str (by decide)) (.cons (ra.ts (TS.new nb)) .nil))
  have r1 := r1.ts (TS.new (o := .tup [.str "spelt", .ref a]) nb)
  have rf := rf.ts (TS.new (o := .tup [.str "spelt", .ref a]) nb)
  have P1 := P1.new (o := .tup [.str "spelt", .ref a]) nb
  have k1 : Kp (PM pd) H (upd H1 b (.tup [.str "spelt", .ref a])) := k1.trans (Kp.new nb)
  generalize upd H1 b (.tup [.str "spelt", .ref a]) = H1 at r1 rf P1 k1 rb nc ⊢
  have rc : Rp (upd H1 c (.tup [.str "skip", .ref b])) (.ref c) (Fo.enc (.one "skip" (.one "spelt" (.leaf "sign" [.str " "]) []) [])) := .tup upd_same (.cons (.str (by decide)) (.cons (rb.ts (TS.new nc)) .nil))
  have r1 := r1.ts (TS.new (o := .tup [.str "skip", .ref b]) nc)
  have rf := rf.ts (TS.new (o := .tup [.str "skip", .ref b]) nc)
  have P1 := P1.new (o := .tup [.str "skip", .ref b]) nc
  have k1 : Kp (PM pd) H (upd H1 c (.tup [.str "skip", .ref b])) := k1.trans (Kp.new nc)
  generalize upd H1 c (.tup [.str "skip", .ref b]) = H1 at r1 rf P1 k1 rc ⊢
  refine ⟨by show 3 ≤ sizeLine; omega, fun l nl => ?_⟩
  have T := TS.new (o := .lst [.non, .ref p, .ref c]) nl
  have r1 := r1.ts T
  have rf := rf.ts T
  have rc := rc.ts T
  have P2 := P1.new (o := .lst [.non, .ref p, .ref c]) nl
  have k2 : Kp (PM pd) H (upd H1 l (.lst [.non, .ref p, .ref c])) := k1.trans (Kp.new nl)
  have el : upd H1 l (.lst [.non, .ref p, .ref c]) l = some (.lst [.non, .ref p, .ref c]) := upd_same
  generalize upd H1 l (.lst [.non, .ref p, .ref c]) = H2 at r1 rf rc P2 k2 el ⊢
  refine ⟨_, s0, pd, pc, 3, rfl, P2, by decide, by decide, fun j H3 lj P3 k3 => ?_⟩
  have el := k3 _ _ (P2.ne el fun _ z => by cases z) el
  have r1 := r1.keep k3 P2.noT
  have rf := rf.keep k3 P2.noT
  have rc := rc.keep k3 P2.noT
  have k3 := k2.trans k3
  obtain ⟨u, eu, d, ru, hg⟩ := three (Z := fun u => ∃ d : RT.D, Rp H3 u d ∧ ∃ g : Fo, Dr N g ∧ g.mu ≤ f.mu + 1 ∧ g.enc = .tup [.str "again", f.enc, d]) (show j < 3 by omega)
    ⟨.non, .non, _, .again df, by show 1 + f.mu ≤ f.mu + 1; omega, rfl⟩ ⟨_, r1, _, .betweenT oz df, by show 1 + f.mu ≤ f.mu + 1; omega, rfl⟩ ⟨_, rc, _, .betweenS df, by show 1 + f.mu ≤ f.mu + 1; omega, rfl⟩
  obtain ⟨g, dg, sg, eg⟩ := hg
  refine ⟨l, _, _, u, rfl, rfl, SqL.of el, atI_nat eu, ?_⟩
  have q6 : (σ.set 7 (some u))[6]? = some (some v) := by rw [List.getElem?_set_ne (by decide)]; exact s6
  have q7 : (σ.set 7 (some u))[7]? = some (some u) := by rw [List.getElem?_set_self hσ]
  refine ⟨_, q6, _, q7, by show 3 ≤ sizeLine; omega, fun p4 np4 => S _ g _ dg sg ?_ (P3.new np4) (k3.trans (Kp.new np4))⟩
  rw [eg]
  exact .tup upd_same (.cons (.str (by decide)) (.cons (rf.ts (TS.new np4)) (.cons (ru.ts (TS.new np4)) .nil)))
end RT

set_option maxHeartbeats 1000000
namespace RT
open PySem PySem.Spec PyProof.Rows L2
section
variable {P : Program} {w : World} {K : PySem.W.Frag} {mg : Str → Option Value} {base : Heap}
/-- over a list, numbered -/
theorem lc_enum {K : PySem.W.Frag} {a : Addr} {xs : List V} {g : TG} {tt : TT} {te : TE} {vs : List Nat} {σ : L2.St} {H1 : Hp} {D : Addr} {Qd : Hp → Prop} (Pv : Nat → Hp → Prop) (h0 : Pv 0 (upd H1 D (.lst []))) (hl : ∀ i H, i ≤ xs.length → Pv i H → SqL K H a xs)
    (hs : ∀ i x H T, xs[i]? = some x → Pv i H → H T = none → g (.ref T) (wipe σ vs) (upd H T (.tup [.int (i : Nat), x])) fun σ2 H2 => wipe σ2 vs = wipe σ vs ∧ tt σ2 H2 fun b H3 =>
      if b = true then te σ2 H3 fun y H4 => ∃ acc, H4 D = some (.lst acc) ∧ acc.length < sizeLine ∧ Pv (i + 1) (upd H4 D (.lst (acc ++ [y]))) else Pv (i + 1) H3) (hd : ∀ H, Pv xs.length H → Qd H) :
    ∃ W : Nat → Nat → Hp → Prop, (∃ m, W 0 m (upd H1 D (.lst []))) ∧ ∀ i m H, W i m H →
      ((Ite K a).stop i H ∧ Qd H) ∨ ((Ite K a).go i H ∧ ∃ Nx : Hp → Prop, (∀ H', Nx H' → ∃ m', m' < m ∧ W (i + 1) m' H') ∧ ∀ x H', (Ite K a).yld i H x H' → g x (wipe σ vs) H' fun σ2 H2 => wipe σ2 vs = wipe σ vs ∧ tt σ2 H2 fun b H3 =>
        if b = true then te σ2 H3 fun y H4 => ∃ acc, H4 D = some (.lst acc) ∧ acc.length < sizeLine ∧ Nx (upd H4 D (.lst (acc ++ [y]))) else Nx H3) := by
  refine ⟨fun i m H => m = xs.length - i ∧ i ≤ xs.length ∧ Pv i H, ⟨xs.length, by simp, Nat.zero_le _, h0⟩, ?_⟩
  rintro i m H ⟨rfl, hi, p⟩
  have q := hl i H hi p
  by_cases hlt : i < xs.length
  · refine .inr ⟨⟨xs, xs[i], q, by simp [hlt]⟩, Pv (i + 1), fun H' p' => ⟨xs.length - (i + 1), by omega, rfl, hlt, p'⟩, fun x H' y => ?_⟩
    obtain ⟨T, x', rfl, nT, rfl, y⟩ := y
    exact hs i x' H T (y xs q) p nT
  · have e : i = xs.length := by omega
    subst e
    exact .inl ⟨⟨xs, q, Nat.le_refl _⟩, hd H p⟩
theorem encs_len : ∀ gs : List Fo, (Fo.encs gs).length = gs.length
  | [] => rfl
  | _ :: r => congrArg (· + 1) (encs_len r)
/-- an either's choices: texts a, b, .. with what stands in ds -/
def ei (ds : List D) (n : Nat) : List D := (List.range n).map fun k => .tup [.str ⟨#[97 + k]⟩, (ds[k]?).getD .non]
theorem ei_snoc (ds : List D) (n : Nat) : ei ds (n + 1) = ei ds n ++ [.tup [.str ⟨#[97 + n]⟩, (ds[n]?).getD .non]] := by
  unfold ei
  rw [List.range_succ, List.map_append]
  rfl
theorem ei_zip (ds : List D) : ei ds ds.length = List.zipWith (fun n d => .tup [.str n, d]) (ltrs ds.length) ds := by
  apply List.ext_getElem
  · simp [ei, ltrs]
  · intro i h1 h2
    have h : i < ds.length := by simpa [ei] using h1
    simp [ei, ltrs, List.getElem?_eq_getElem h]
theorem abc_sg : ∀ k, k < 8 → ("abcdefgh" : Str).cps.toList[k]? = some (97 + k) := by decide +kernel
theorem ok_dn {N : List Str} {n : Nat} {f fn fm ftd fst fpk fsp ftu fr : Addr} {fd fdn fdm fdtd fdst fdpk fdsp fdtu fdr : FuncData} {k : Nat} (F : Fun K "_law_drawn" "_law_drawn" sDn f fd)
    (GN : FnOk P w K mg base CX0 k fn fdn ["_law_draws", "_law_many_here"] spNext) (kn : PySem.W.keepIn K (.ref fn) = true) (bn : Binds K fdn ["_law_draws", "_law_many_here"] []) (gn : mg "_law_next" = some (.ref fn))
    (GM : FnOk P w K mg base CX0 k fm fdm ["_law_draws", "_law_few", "_law_most"] spMany) (km : PySem.W.keepIn K (.ref fm) = true) (bm : Binds K fdm ["_law_draws", "_law_few", "_law_most"] []) (gm : mg "_law_many" = some (.ref fm))
    (GTd : FnOk P w K mg base CX0 k ftd fdtd ["_law_draws"] spTd) (ktd : PySem.W.keepIn K (.ref ftd) = true) (btd : Binds K fdtd ["_law_draws"] []) (gtd : mg "_law_told" = some (.ref ftd))
    (GSt : FnOk P w K mg base CX0 k fst fdst ["_law_draws"] spSt) (kst : PySem.W.keepIn K (.ref fst) = true) (bst : Binds K fdst ["_law_draws"] []) (gst : mg "_law_set" = some (.ref fst))
    (GPk : FnOk P w K mg base CX0 k fpk fdpk ["_law_draws"] spPk) (kpk : PySem.W.keepIn K (.ref fpk) = true) (bpk : Binds K fdpk ["_law_draws"] []) (gpk : mg "_law_pick" = some (.ref fpk))
    (GSp : FnOk P w K mg base CX0 k fsp fdsp ["_law_draws"] spSp) (ksp : PySem.W.keepIn K (.ref fsp) = true) (bsp : Binds K fdsp ["_law_draws"] []) (gsp : mg "_law_spelt" = some (.ref fsp))
    (GTu : FnOk P w K mg base CX0 k ftu fdtu ["_law_draws"] spTu) (ktu : PySem.W.keepIn K (.ref ftu) = true) (btu : Binds K fdtu ["_law_draws"] []) (gtu : mg "_law_turned" = some (.ref ftu))
    (GR : FnOk P w K mg base CX0 k fr fdr ["_law_draws", "_law_names", "_law_deep", "_law_room"] (spDn N n)) (kr : PySem.W.keepIn K (.ref fr) = true) (br : Binds K fdr ["_law_draws", "_law_names", "_law_deep", "_law_room"] []) (gr : mg "_law_drawn" = some (.ref fr))
    (ml : mg "len" = none) (mint : mg "int" = none) (mr : mg "range" = none) (mtu : mg "tuple" = none) (men : mg "enumerate" = none) :
    FnOk P w K mg base CX0 (k + 1) f fd ["_law_draws", "_law_names", "_law_deep", "_law_room"] (spDn N (n + 1)) := by
  refine F.ok scDn (fun vs H Q E h => ?_) (fun cdv A outer sh H vs Q E hr h => ?_)
  · obtain ⟨pd, pc, nl, rl, dp, r, rfl, _⟩ := h
    rfl
  · obtain ⟨pd, pc, nl, rl, dp, r, rfl, hd, P0, eN, nN, lN, sN, eR, r1, r1000, rpc, nrl, q⟩ := h
    refine ⟨_, (pss_cons (ps_asg (pe_op op_sub (pe_ix ix_list (pv 3) pe_int (fun _ _ => rfl)) pe_int) (pg_sub (pv 3) pe_int set_list))
      (pss_cons (ps_set (i := 4) scDn.nd rfl (.inl rfl) (pe_call GN hr (by rfl) gn kn bn .nil pass0 (pa_cons (pv 0) (pa_cons (pe_ix ix_list (pe_lst (pa_cons pe_int (pa_cons pe_int pa_nil))) (pe_callTy call_int1 (by rfl) mint (by decide +kernel) (pa_cons (pe_and (pe_cmpR op_gt (pv 2) pe_int (nomark _)) (pe_one (pe_cmpR op_gt (pe_ix ix_list (pv 3) pe_int (fun _ _ => rfl)) pe_int (nomark _)))) pa_nil)) (fun _ _ => rfl)) pa_nil))))
      (pss_cons (ps_if (pt_cmpR op_lt (pv 4) pe_int (nomark _)) (pss_one (ps_ret (pe_ix ix_list (pe_lst (pa_cons (pe_tup (pa_cons pe_str (pa_cons (pe_call GTd hr (by rfl) gtd ktd btd .nil pass0 (pa_cons (pv 0) pa_nil)) pa_nil))) (pa_cons (pe_tup (pa_cons pe_str (pa_cons (pe_call GSt hr (by rfl) gst kst bst .nil pass0 (pa_cons (pv 0) pa_nil)) pa_nil))) (pa_cons (pe_tup (pa_cons pe_str (pa_cons (pe_call GSt hr (by rfl) gst kst bst .nil pass0 (pa_cons (pv 0) pa_nil)) pa_nil))) (pa_cons (pe_tup (pa_cons pe_str pa_nil)) pa_nil))))) (pv 4) (fun _ _ => rfl)))) pss_nil)
      (pss_cons (ps_if (pt_cmpR op_lt (pv 4) pe_int (nomark _)) (pss_cons (ps_set (i := 5) scDn.nd rfl (.inl rfl) (pe_tup (pa_cons pe_str (pa_cons (pe_ix ix_list (pv 1) (pe_call GN hr (by rfl) gn kn bn .nil pass0 (pa_cons (pv 0) (pa_cons (pe_callB call_len_seq (by rfl) ml PySem.boot_len (pa_cons (pv 1) pa_nil)) pa_nil))) (fun _ _ => rfl)) pa_nil))))
      (pss_one (ps_ret (pe_ix ix_list (pe_lst (pa_cons (pv 5) (pa_cons (pv 5) (pa_cons (pe_call GPk hr (by rfl) gpk kpk bpk .nil pass0 (pa_cons (pv 0) pa_nil)) (pa_cons (pe_ix ix_list (pe_lst (pa_cons (pe_call GSp hr (by rfl) gsp ksp bsp .nil pass0 (pa_cons (pv 0) pa_nil)) (pa_cons (pe_call GTu hr (by rfl) gtu ktu btu .nil pass0 (pa_cons (pv 0) pa_nil)) pa_nil))) (pe_call GN hr (by rfl) gn kn bn .nil pass0 (pa_cons (pv 0) (pa_cons pe_int pa_nil))) (fun _ _ => rfl)) pa_nil))))) (pe_op op_sub (pv 4) pe_int) (fun _ _ => rfl))))) pss_nil)
      (pss_cons (ps_set (i := 6) scDn.nd rfl (.inl rfl) (pe_call GR hr (by rfl) gr kr br .nil pass0 (pa_cons (pv 0) (pa_cons (pv 1) (pa_cons (pe_op op_sub (pv 2) pe_int) (pa_cons (pv 3) pa_nil))))))
      (pss_cons (ps_if (pt_cmpR op_eq (pv 4) pe_int (nomark _)) (pss_one (ps_ret (pe_tup (pa_cons pe_str (pa_cons (pv 6) pa_nil))))) pss_nil)
      (pss_cons (ps_if (pt_cmpR op_eq (pv 4) pe_int (nomark _)) (pss_one (ps_ret (pe_tup (pa_cons pe_str (pa_cons (pe_call GTd hr (by rfl) gtd ktd btd .nil pass0 (pa_cons (pv 0) pa_nil)) (pa_cons (pv 6) pa_nil)))))) pss_nil)
      (pss_cons (ps_if (pt_cmpR op_lt (pv 4) pe_int (nomark _)) (pss_cons (ps_set (i := 7) scDn.nd rfl (.inl rfl) (pe_ix ix_list (pe_lst (pa_cons pe_non (pa_cons (pe_tup (pa_cons pe_str (pa_cons (pe_call GTd hr (by rfl) gtd ktd btd .nil pass0 (pa_cons (pv 0) pa_nil)) pa_nil))) (pa_cons (pe_tup (pa_cons pe_str (pa_cons (pe_tup (pa_cons pe_str (pa_cons (pe_tup (pa_cons pe_str (pa_cons pe_str pa_nil))) pa_nil))) pa_nil))) pa_nil)))) (pe_call GN hr (by rfl) gn kn bn .nil pass0 (pa_cons (pv 0) (pa_cons pe_int pa_nil))) (fun _ _ => rfl)))
      (pss_one (ps_ret (pe_tup (pa_cons pe_str (pa_cons (pv 6) (pa_cons (pv 7) pa_nil))))))) pss_nil)
      (pss_cons (ps_set (i := 8) scDn.nd rfl (.inl rfl) (pe_lst (pa_cons (pv 6) pa_nil)))
      (pss_cons (ps_for PassesOwn.never rfl (pi_range1 (by rfl) mr (pa_cons (pe_call GM hr (by rfl) gm km bm .nil pass0 (pa_cons (pv 0) (pa_cons pe_int (pa_cons pe_int pa_nil)))) pa_nil)) (pg_name (i := 9) scDn.nd rfl (.inl rfl)) (pss_one (ps_if (pt_cmpR op_gt (pe_ix ix_list (pv 3) pe_int (fun _ _ => rfl)) pe_int (nomark _)) (pss_one (ps_expr (pe_bm PySem.F.plainAttrs_list PySem.F.slot_list_append PySem.F.type_list_append mt_append (pv 8) (pa_cons (pe_call GR hr (by rfl) gr kr br .nil pass0 (pa_cons (pv 0) (pa_cons (pv 1) (pa_cons (pe_op op_sub (pv 2) pe_int) (pa_cons (pv 3) pa_nil))))) pa_nil)))) pss_nil)))
      (pss_cons (ps_if (pt_cmpR op_lt (pv 4) pe_int (nomark _)) (pss_one (ps_ret (pe_tup (pa_cons pe_str (pa_cons (pe_callTy call_tuple_of (by rfl) mtu (by decide +kernel) (pa_cons (pv 8) pa_nil)) pa_nil))))) pss_nil)
      (pss_one (ps_ret (pe_tup (pa_cons pe_str (pa_cons (pe_callTy call_tuple_of (by rfl) mtu (by decide +kernel) (pa_cons (pe_lc (own := [("_law_k", 9), ("_law_form", 10)]) (g := gTup K 2 (gCons (gName 9) (gCons (gName 10) gNil))) (tt := tYes) rfl scDn.nd (pi_enum (by rfl) men (pa_cons (pv 8) pa_nil)) (blkOk_by (N := ["_law_draws", "_law_names", "_law_deep", "_law_room", "_law_way", "_law_name", "_law_one", "_law_between", "_law_some", "_law_k", "_law_form"]) (sc := defScope sDn) (by decide +kernel)) (fun _ _ _ _ _ => (pg_tup rfl (pgs_cons (pg_name (i := 9) scDn.nd rfl (.inl rfl)) (pgs_cons (pg_name (i := 10) scDn.nd rfl (.inl rfl)) pgs_nil)))) (fun _ _ _ _ _ => pts_nil) (fun _ _ _ _ _ => (pe_tup (pa_cons (pe_ix ix_str pe_str (pv 9) (fun _ _ => rfl)) (pa_cons (pv 10) pa_nil))))) pa_nil)) pa_nil)))))))))))))))), ?_⟩
    refine ⟨_, rfl, rl, _, 0, .int (r : Nat), rfl, rfl, SqL.of eR, rfl, _, _, rfl, rfl, ?_⟩
    refine ⟨_, rfl, rl, _, 0, 0, rfl, rfl, eR, rfl, ?_⟩
    have k1 : Kp (DM pd rl) H (upd H rl (.lst [.int ((r - 1 : Nat) : Int)])) := Kp.put (.inr rfl)
    have P1 : Pot (upd H rl (.lst [.int ((r - 1 : Nat) : Int)])) pd pc := P0.keep (M := fun b => b = rl) (Kp.put rfl) (fun z => P0.ne eR (fun _ z => by cases z) z.symm) (fun z => rpc z.symm)
    have eR1 : upd H rl (.lst [.int ((r - 1 : Nat) : Int)]) rl = some (.lst [.int ((r - 1 : Nat) : Int)]) := upd_same
    have eN1 : upd H rl (.lst [.int ((r - 1 : Nat) : Int)]) nl = some (.lst (N.map V.str)) := by rw [upd_ne nrl]; exact eN
    have er : V.int ((r : Nat) - 1) = V.int ((r - 1 : Nat) : Int) := by congr 1; omega
    dsimp only [List.set_cons_zero]
    rw [er]
    generalize upd H rl (.lst [.int ((r - 1 : Nat) : Int)]) = H1 at k1 P1 eR1 eN1 ⊢
    refine dn_way (r := r - 1) (nl := nl) rfl rfl rfl P1 eR1 fun e H2 e16 de P2 k2 => ?_
    have eN2 := k2 _ _ (P1.ne eN1 fun _ z => by cases z) eN1
    have eR2 := k2 _ _ (P1.ne eR1 fun _ z => by cases z) eR1
    have k2 : Kp (DM pd rl) H H2 := k1.trans (k2.mono fun b z => .inl z)
    refine ⟨_, rfl, _, _, rfl, rfl, _, rfl, ite2 (fun c => ?_) (fun c => ?_)⟩
    · have e4 : e < 4 := Int.ofNat_lt.mp (of_decide_eq_true c)
      refine dn_leaf (N := N) rfl rfl P2 e4 fun v f H3 df sf rf P3 k3 => q v f (r - 1) H3 df rf (by omega) (by omega) P3 (k3 _ _ (P2.ne eR2 fun _ z => by cases z) eR2) (k2.trans (k3.mono fun b z => .inl z))
    have e4 : 4 ≤ e := Nat.le_of_not_lt fun h => c (decide_eq_true (Int.ofNat_lt.mpr h))
    refine ⟨_, rfl, _, _, rfl, rfl, _, rfl, ite2 (fun c => ?_) (fun c => ?_)⟩
    · have e8 : e < 8 := Int.ofNat_lt.mp (of_decide_eq_true c)
      refine dn_near (N := N) rfl rfl rfl (Nat.lt_of_lt_of_eq (by decide : 5 < 11) rfl) P2 eN2 nN lN sN e4 e8 fun v f H3 df sf rf P3 k3 => q v f (r - 1) H3 df rf (by omega) (by omega) P3 (k3 _ _ (P2.ne eR2 fun _ z => by cases z) eR2) (k2.trans (k3.mono fun b z => .inl z))
    have e8 : 8 ≤ e := Nat.le_of_not_lt fun h => c (decide_eq_true (Int.ofNat_lt.mpr h))
    obtain ⟨dp0, rr0⟩ := de e8
    have ed : V.int ((dp : Nat) - 1) = V.int ((dp - 1 : Nat) : Int) := by congr 1; omega
    refine ⟨_, rfl, _, rfl, _, rfl, _, _, rfl, rfl, _, rfl, pd, pc, nl, rl, dp - 1, r - 1, by show [V.ref pd, V.ref nl, V.int ((dp : Nat) - 1), V.ref rl] = _; rw [ed], by omega, P2, eN2, nN, lN, sN, eR2, rr0, by omega, rpc, nrl, fun v f r' H3 df rf hr hs P3 eR3 k3 => ?_⟩
    have eN3 := k3 _ _ (fun z => z.elim (P2.ne eN2 fun _ z => by cases z) nrl) eN2
    have k3 : Kp (DM pd rl) H H3 := k2.trans k3
    have fin : ∀ v (g : Fo) H', Dr N g → g.mu ≤ f.mu + 1 → Rp H' v g.enc → Pot H' pd pc → Kp (PM pd) H3 H' → Q v H' := fun v g H' dg sg rg P k => q v g r' H' dg rg (by omega) (by omega) P (k _ _ (P3.ne eR3 fun _ z => by cases z) eR3) (k3.trans (k.mono fun b z => .inl z))
    refine ⟨_, rfl, rfl, _, rfl, ite2 (fun c => ?_) (fun c => ?_)⟩
    · exact dn_skip rfl P3 df rf fin
    refine ⟨_, rfl, rfl, _, rfl, ite2 (fun c => ?_) (fun c => ?_)⟩
    · exact dn_counted rfl rfl P3 df rf fin
    refine ⟨_, rfl, _, _, rfl, rfl, _, rfl, ite2 (fun c => ?_) (fun c => ?_)⟩
    · exact dn_again rfl rfl (Nat.lt_of_lt_of_eq (by decide : 7 < 11) rfl) P3 df rf fin
    have line : (3000 : Nat) < sizeLine := by rw [sizeLine_eq]; decide
    refine ⟨_, rfl, by show 1 ≤ sizeLine; omega, fun Da nD => ?_⟩
    have hD : ¬ DM pd rl Da := fun z => z.elim (P3.off nD) (fun z => by rw [z, eR3] at nD; cases nD)
    have nDH : H Da = none := by
      cases h : H Da with
      | none => rfl
      | some o => have z := k3 _ _ hD h; rw [nD] at z; cases z
    have nDl : nl ≠ Da := ne_of_none eN3 nD
    have nDr : rl ≠ Da := ne_of_none eR3 nD
    refine ⟨_, rfl, pd, pc, 2, 6, rfl, P3.new nD, by decide, by decide, fun m H5 lm P5 k5 => ?_⟩
    have lm : m ≤ 6 := lm
    have rf5 := (rf.ts (TS.new (o := .lst [v]) nD)).keep k5 (P3.new nD).noT
    have eD5 := k5 Da _ (fun z => hD (.inl z)) upd_same
    have eN5 := k5 nl _ (fun z => P2.ne eN2 (fun _ z => by cases z) z) (by rw [upd_ne nDl]; exact eN3)
    have eR5 := k5 rl _ (fun z => P3.ne eR3 (fun _ z => by cases z) z) (by rw [upd_ne nDr]; exact eR3)
    have k35 : Kp (DM pd rl) H H5 := (k3.trans (Kp.new nD)).trans (k5.mono fun b z => .inl z)
    refine ⟨(m : Nat), rfl, by omega, by omega, for_range (lo := 0) (n := m) (fun i σ H6 => ∃ (y9 : Option V) (ws : List V) (fs : List Fo) (r4 : Nat), σ = [some (.ref pd), some (.ref nl), some (.int (dp : Nat)), some (.ref rl), some (.int (e : Nat)), none, some v, none, some (.ref Da), y9, none] ∧ fs ≠ [] ∧ fs.length ≤ i + 1 ∧ (∀ f ∈ fs, Dr N f) ∧ r4 < r - 1 ∧ Fo.mus fs + r4 ≤ r - 1 ∧ Pot H6 pd pc ∧ Kp (DM pd rl) H H6 ∧ H6 rl = some (.lst [.int (r4 : Nat)]) ∧ H6 nl = some (.lst (N.map V.str)) ∧ H6 Da = some (.lst ws) ∧ Rps H6 ws (Fo.encs fs)) ?_ ?_ ?_⟩
    · exact ⟨none, [v], [f], r', rfl, by simp, Nat.le_refl _, fun g hg => by rw [List.mem_singleton.mp hg]; exact df, hr, by show f.mu + 0 + _ ≤ _; omega, P5, k35, eR5, eN5, eD5, .cons rf5 .nil⟩
    · rintro i σ H6 hi ⟨y9, ws, fs, r4, rfl, ne, lf, al, h4, hz, P6, k6, eR6, eN6, eD6, rs⟩
      refine ⟨_, rfl, rl, _, 0, .int (r4 : Nat), rfl, rfl, SqL.of eR6, rfl, _, _, rfl, rfl, _, rfl, ite2 (fun c => ?_) (fun c => ?_)⟩
      · have r40 : 0 < r4 := Int.ofNat_lt.mp (of_decide_eq_true c)
        refine ⟨_, rfl, .inl ⟨rfl, _, SqL.of eD6⟩, _, rfl, _, rfl, _, rfl, _, _, rfl, rfl, _, rfl, pd, pc, nl, rl, dp - 1, r4, by show [V.ref pd, V.ref nl, V.int ((dp : Nat) - 1), V.ref rl] = _; rw [ed], by omega, P6, eN6, nN, lN, sN, eR6, r40, by omega, rpc, nrl, fun u g r5 H7 dg rg hr5 hs5 P7 eR7 k7 => ?_⟩
        have eD7 := k7 _ _ hD eD6
        have eN7 := k7 _ _ (fun z => z.elim (P6.ne eN6 fun _ z => by cases z) nrl) eN6
        have noT : ∀ a xs, DM pd rl a → H6 a ≠ some (.tup xs) := fun a xs z => z.elim (P6.noT a xs) (fun z => by rw [z, eR6]; exact fun z => nomatch z)
        have rs7 := rs.keep k7 noT
        have T : TS H7 (upd H7 Da (.lst (ws ++ [u]))) := TS.put eD7 fun _ z => by cases z
        have lw : ws.length = (Fo.encs fs).length := rs.len
        have le : ∀ gs : List Fo, (Fo.encs gs).length = gs.length := fun gs => by
          induction gs with
          | nil => rfl
          | cons a b ih => exact congrArg (· + 1) ih
        rw [le] at lw
        refine ⟨Da, _, _, rfl, rfl, eD7, by omega, ?_⟩
        refine ⟨_, ws ++ [u], fs ++ [g], r5, rfl, by simp, by rw [List.length_append]; exact Nat.succ_le_succ lf, fun a ha => ?_, by omega, ?_, P7.keep (M := fun b => b = Da) (Kp.put rfl) (fun z => hD (.inl z.symm)) (fun z => ?_), (k6.trans k7).own nDH, by rw [upd_ne nDr]; exact eR7, by rw [upd_ne nDl]; exact eN7, upd_same, ?_⟩
        · rcases List.mem_append.mp ha with h | h
          · exact al a h
          · rw [List.mem_singleton.mp h]; exact dg
        · rw [Fo.mus_app]
          show Fo.mus fs + (g.mu + 0) + _ ≤ _
          omega
        · obtain ⟨_, _, _, _, E⟩ := P3
          exact ne_of_none E.c nD z
        · rw [Fo.encs_app]
          exact (rs7.ts T).app (.cons (rg.ts T) .nil)
      · exact ⟨_, ws, fs, r4, rfl, ne, by omega, al, h4, hz, P6, k6, eR6, eN6, eD6, rs⟩
    · rintro σ H6 ⟨y9, ws, fs, r4, rfl, ne, lf, al, h4, hz, P6, k6, eR6, eN6, eD6, rs⟩
      have lf7 : fs.length ≤ 7 := by omega
      refine ⟨_, rfl, _, _, rfl, rfl, _, rfl, ite2 (fun c => ?_) (fun c => ?_)⟩
      · refine ⟨_, rfl, Da, ws, rfl, .inl ⟨SqL.of eD6, fun a na => ⟨by show 2 ≤ sizeLine; omega, fun p np => ?_⟩⟩⟩
        have ra : Rp (upd H6 a (.tup ws)) (.ref a) (.tup (Fo.encs fs)) := .tup upd_same (rs.ts (TS.new na))
        exact q _ (.row fs) r4 _ (.row ne lf7 al) (.tup upd_same (.cons (.str (by decide)) (.cons (ra.ts (TS.new np)) .nil))) (by omega) (by show 1 + Fo.mus fs + _ ≤ _; omega) ((P6.new na).new np) (by rw [upd_ne (ne_of_none (by rw [upd_ne (ne_of_none eR6 na)]; exact eR6) np), upd_ne (ne_of_none eR6 na)]; exact eR6) ((k6.trans (Kp.new na)).trans (Kp.new np))
      refine ⟨_, rfl, Da, ws, rfl, SqL.of eD6, fun L nL => ?_⟩
      have lw : ws.length = fs.length := rs.len.trans (encs_len fs)
      refine lc_enum (xs := ws) (fun i H7 => Kp M0 H6 H7 ∧ ∃ os : List V, H7 L = some (.lst os) ∧ os.length = i ∧ Rps H7 os (ei (Fo.encs fs) i)) ?_ ?_ ?_ ?_
      · exact ⟨Kp.new nL, [], upd_same, rfl, .nil⟩
      · exact fun i H7 _ h => SqL.of (h.1 _ _ (fun z => z) eD6)
      · rintro i x H7 T hx ⟨k7, os, eL, lo, ro⟩ nT
        have hi := (List.getElem?_eq_some_iff.mp hx).1
        obtain ⟨dx, edx, rx⟩ := rs.get i x hx
        have rx := (rx.keep k7 noT0).ts (TS.new (o := .tup [.int (i : Nat), x]) nT)
        have k8 : Kp M0 H6 (upd H7 T (.tup [.int (i : Nat), x])) := k7.trans (Kp.new nT)
        have eT : upd H7 T (.tup [.int (i : Nat), x]) T = some (.tup [.int (i : Nat), x]) := upd_same
        have eL8 : upd H7 T (.tup [.int (i : Nat), x]) L = some (.lst os) := by rw [upd_ne (ne_of_none eL nT)]; exact eL
        have ro8 := ro.ts (TS.new (o := .tup [.int (i : Nat), x]) nT)
        generalize upd H7 T (.tup [.int (i : Nat), x]) = H8 at rx k8 eT eL8 ro8 ⊢
        refine ⟨T, _, rfl, SqT.of eT, rfl, _, _, rfl, _, _, rfl, rfl, rfl, tYes_ok (iteT ?_)⟩
        refine ⟨_, rfl, "abcdefgh", _, 97 + i, rfl, rfl, by decide, atI_nat (abc_sg i (by omega)), _, rfl, by show 2 ≤ sizeLine; omega, fun p np => ?_⟩
        have eL9 : upd H8 p (.tup [.str ⟨#[97 + i]⟩, x]) L = some (.lst os) := by rw [upd_ne (ne_of_none eL8 np)]; exact eL8
        have k9 : Kp M0 H6 (upd H8 p (.tup [.str ⟨#[97 + i]⟩, x])) := k8.trans (Kp.new np)
        have t89 : TS H8 (upd H8 p (.tup [.str ⟨#[97 + i]⟩, x])) := TS.new np
        have ep : upd H8 p (.tup [.str ⟨#[97 + i]⟩, x]) p = some (.tup [.str ⟨#[97 + i]⟩, x]) := upd_same
        generalize upd H8 p (.tup [.str ⟨#[97 + i]⟩, x]) = H9 at eL9 k9 t89 ep ⊢
        have t9 : TS H9 (upd H9 L (.lst (os ++ [.ref p]))) := TS.put eL9 fun _ z => by cases z
        refine ⟨os, eL9, by omega, k9.own nL, _, upd_same, by rw [List.length_append, lo]; rfl, ?_⟩
        rw [ei_snoc, edx]
        exact (ro8.ts (t89.trans t9)).app (.cons (.tup (t9 _ _ ep) (.cons (.str (by show 1 ≤ sizeLine; omega)) (.cons (rx.ts (t89.trans t9)) .nil))) .nil)
      · rintro H7 ⟨k7, os, eL, lo, ro⟩
        rw [lw, ← encs_len fs, ei_zip, encs_len fs] at ro
        have eR7 := k7 _ _ (fun z => z) eR6
        have P7 := P6.kp0 k7
        have k7 : Kp (DM pd rl) H H7 := k6.trans (k7.mono fun b z => z.elim)
        refine ⟨L, os, rfl, .inl ⟨SqL.of eL, fun a na => ⟨by show 2 ≤ sizeLine; omega, fun p np => ?_⟩⟩⟩
        have ra : Rp (upd H7 a (.tup os)) (.ref a) (.tup (List.zipWith (fun n d => .tup [.str n, d]) (ltrs fs.length) (Fo.encs fs))) := .tup upd_same (ro.ts (TS.new na))
        exact q _ (.either (ltrs fs.length) fs) r4 _ (.either ne lf7 al) (.tup upd_same (.cons (.str (by decide)) (.cons (ra.ts (TS.new np)) .nil))) (by omega) (by show 1 + Fo.mus fs + _ ≤ _; omega) ((P7.new na).new np) (by rw [upd_ne (ne_of_none (by rw [upd_ne (ne_of_none eR7 na)]; exact eR7) np), upd_ne (ne_of_none eR7 na)]; exact eR7) ((k7.trans (Kp.new na)).trans (Kp.new np))
end
end RT

set_option maxHeartbeats 1000000
/-! the least of some texts -/
namespace RT
open PySem PySem.Spec PyProof.Rows L2 LK
abbrev sLf : Stmt := topS 18
abbrev sJo : Stmt := topS 19
abbrev sLe : Stmt := topS 20
theorem scLf : FnScope ["texts"] ["texts"] (defScope sLf) := ⟨rfl, rfl, rfl, by decide +kernel, rfl, by decide +kernel, by decide +kernel⟩
theorem scJo : FnScope ["texts"] ["texts"] (defScope sJo) := ⟨rfl, rfl, rfl, by decide +kernel, rfl, by decide +kernel, by decide +kernel⟩
theorem scLe : FnScope ["texts", "found", "text"] ["texts"] (defScope sLe) := ⟨rfl, rfl, rfl, by decide +kernel, rfl, by decide +kernel, by decide +kernel⟩
theorem FunT.ok {P : Program} {w : World} {K : PySem.W.Frag} {mg : Str → Option Value} {base : Heap} {x qual : Str} {st : Stmt} {f c : Addr} {fd : FuncData} {N ps : List Str} {k : Nat} {sp : Sp} (F : FunT K x qual st f fd c) (S : FnScope N ps (defScope st)) (len : ∀ vs H Q E, sp vs H Q E → vs.length = ps.length)
    (hbody : ∀ (A : Around) (outer : List Env) (s : Shared) (H : Hp) (vs : List V) (Q : VK) (E : XK), Room k (A.deeper (envOfC qual (defScope st) s.heap.objs.size f (.ref c))) → sp vs H Q E →
      ∃ t, PSs (cxOf CX0 P w K mg base N qual (defScope st) f (.ref c) A outer s H E).nox (defBody st) t ∧ t { nx := fun _ H' => Q .non H', rt := Q } (start N vs) H) : FnOk P w K mg base CX0 (k + 1) f fd ps sp := by
  obtain ⟨oc, od, kV, doc, pm, an, ct, osl, rfl, lk, hcd⟩ := F.ex
  refine fn_of lk hcd S len fun A outer s H vs Q E hr hsp => ?_
  obtain ⟨t, h, q⟩ := hbody A outer s H vs Q E hr hsp
  exact ⟨t, h.nox, q⟩
/-- the code object at c, whose table lies at P, makes the lambda called q -/
structure Mkr (base : Heap) (mg : Str → Option Value) (T : List (Addr × Str)) (c P : Addr) (q : Str) : Prop where
  TB : LamX.TabB base mg c P
  mem : (P, q) ∈ T
  un : ∀ p ∈ T, p.1 = P → p.2 = q
abbrev qLf : Str := "lesser_first" ++ ".<locals>." ++ "<lambda>"
section
variable {P : Program} {w : World} {K : PySem.W.Frag} {mg : Str → Option Value} {base : Heap}
def spLf (T : List (Addr × Str)) (K : PySem.W.Frag) : Sp := fun vs H Q _ => ∃ (l : Addr) (zs : List Str), vs = [.ref l] ∧ SqL K H l (zs.map V.str) ∧ LamX.Tabs T H ∧ (∀ z ∈ zs, z.length ≤ sizeLine) ∧
  ∀ (p : Addr) (ys : List Str) (H' : Hp), LamX.ExtN H H' → LamX.Tabs T H' → H' p = some (.lst (ys.map V.str)) → ys.Perm zs → ys.Pairwise (fun a b => ltK b a = false) → Q (.ref p) H'
theorem sqL_ext {K : PySem.W.Frag} {H H' : Hp} {a : Addr} {xs : List V} (e : LamX.ExtN H H') (h : SqL K H a xs) : SqL K H' a xs := by
  rcases h with (h | ⟨o, h⟩) | h
  · exact .inl (.inl (e _ _ h fun _ z => nomatch z))
  · exact .inl (.inr ⟨o, e _ _ h fun _ z => nomatch z⟩)
  · exact .inr h
theorem Tabs.new {T : List (Addr × Str)} {H : Hp} {p : Addr} {o : HO} (t : LamX.Tabs T H) (n : H p = none) : LamX.Tabs T (upd H p o) := t.ext fun b u e => by rw [upd_ne (ne_of_none e n)]; exact e
theorem ext_new {H : Hp} {p : Addr} {o : HO} (n : H p = none) : LamX.ExtN H (upd H p o) := fun b u e _ => by rw [upd_ne (ne_of_none e n)]; exact e
theorem ext_none {H H' : Hp} {p : Addr} (e : LamX.ExtN H H') (n : H' p = none) (ht : ∀ ps, H p = some (.tbl ps) → ∃ qs, H' p = some (.tbl qs)) : H p = none := by
  cases z : H p with
  | none => rfl
  | some u =>
    by_cases c : ∃ ps, u = .tbl ps
    · obtain ⟨ps, rfl⟩ := c
      obtain ⟨qs, h⟩ := ht ps z
      rw [n] at h
      cases h
    · have := e p u z fun ps h => c ⟨ps, h⟩
      rw [n] at this
      cases this
theorem ok_lf {T : List (Addr × Str)} {c T0 f : Addr} {fd : FuncData} {k : Nat} (F : FunT K "lesser_first" "lesser_first" sLf f fd c) (MK : Mkr base mg T c T0 qLf) (mso : mg "sorted" = none) (ml : mg "len" = none) :
    FnOk P w K mg base CX0 (k + 1) f fd ["texts"] (spLf T K) := by
  refine F.ok scLf (fun vs H Q E h => ?_) (fun A outer s H vs Q E hr h => ?_)
  · obtain ⟨l, zs, rfl, _⟩ := h
    rfl
  · obtain ⟨l, zs, rfl, hs, hT, hz, q⟩ := h
    refine ⟨_, pss_one (ps_ret (pe_callBK (cr_sortK hr) (by rfl) mso (by decide +kernel) (pa_cons (pv 0) pa_nil) (pk_cons (pe_la MK.TB rfl MK.mem MK.un (by rfl) (fun y hy e => by
      revert e
      simp only [List.mem_cons, List.not_mem_nil, or_false] at hy
      rcases hy with rfl | rfl <;> exact fun e => nomatch e)) pk_nil))), ?_⟩
    refine ⟨_, rfl, hT, fun f' c' H1 e1 T1 f0 f1 c1 => ?_⟩
    refine ⟨l, f', zs, rfl, rfl, sqL_ext e1 hs, fun z mz => key_la (x := "text") f1 c1 (oneS_by (by rfl)) (fun _ _ _ => rfl) (body_len (oneS_by (by rfl)) (by rfl) ml (hz z mz) (by decide)), fun p ys np pm sr => ?_⟩
    exact q p ys _ (e1.trans (ext_new np)) (Tabs.new T1 np) upd_same pm sr
end
end RT

/-! least texts, without the program -/
namespace RT
open PySem PySem.Spec PyProof.Rows L2 LK
def oV : Option Str → V
  | none => .non
  | some z => .str z
theorem ky_inj {a b : Str} (h : ky a = ky b) : a = b := TL.ext_tl (List.cons.inj h).2
/-- none is the greatest -/
def LeO : Option Str → Option Str → Prop
  | _, none => True
  | none, some _ => False
  | some a, some b => ¬ ky b < ky a
theorem LeO.refl : ∀ a, LeO a a
  | none => True.intro
  | some a => List.lt_irrefl _
theorem lt_of_not {a b : List Nat} (h : ¬ a < b) : a = b ∨ b < a := by
  by_cases c : b < a
  · exact .inr c
  · exact .inl (List.le_antisymm c h)
theorem LeO.trans : ∀ {a b c}, LeO a b → LeO b c → LeO a c
  | _, _, none, _, _ => True.intro
  | none, some _, some _, h, _ => h.elim
  | none, none, some _, _, h => h.elim
  | some _, none, some _, _, h => h.elim
  | some a, some b, some c, h, k => fun z => by
    rcases lt_of_not k with e | e
    · rw [e] at z; exact h z
    · exact h (List.lt_trans e z)
theorem LeO.antisymm : ∀ {a b}, LeO a b → LeO b a → a = b
  | none, none, _, _ => rfl
  | none, some _, h, _ => h.elim
  | some _, none, _, h => h.elim
  | some a, some b, h, k => by rw [ky_inj (List.le_antisymm h k)]
theorem LeO.total : ∀ a b, LeO a b ∨ LeO b a
  | _, none => .inl True.intro
  | none, some _ => .inr True.intro
  | some a, some b => by
    by_cases c : ky b < ky a
    · exact .inr fun z => List.lt_irrefl _ (List.lt_trans c z)
    · exact .inl c
theorem leO_of {a b : Str} (h : ltK b a = false) : LeO (some a) (some b) := of_decide_eq_false h
theorem cons_lt_iff {a b : Nat} {l r : List Nat} : a :: l < b :: r ↔ a < b ∨ (a = b ∧ l < r) := by
  constructor
  · intro z
    cases z with
    | rel z => exact .inl z
    | cons z => exact .inr ⟨rfl, z⟩
  · rintro (z | ⟨rfl, z⟩)
    · exact List.Lex.rel z
    · exact List.Lex.cons z
theorem LeO.len {a b : Str} (h : LeO (some a) (some b)) : a.length ≤ b.length := by
  rcases lt_of_not (show ¬ ky b < ky a from h) with e | e
  · exact Nat.le_of_eq (List.cons.inj e).1.symm
  · rcases cons_lt_iff.mp (show a.length :: _ < b.length :: _ from e) with z | ⟨z, _⟩
    · exact Nat.le_of_lt z
    · exact Nat.le_of_eq z
theorem len_cps (z : Str) : z.cps.toList.length = z.length := (len_tl z).symm
theorem app_cps (a b : Str) : (a ++ b).cps.toList = a.cps.toList ++ b.cps.toList := by
  show (a.cps ++ b.cps).toList = _
  simp
theorem app_len (a b : Str) : (a ++ b).length = a.length + b.length := by
  rw [← len_cps, app_cps, List.length_append, len_cps, len_cps]
theorem lex_app : ∀ {a b c d : List Nat}, a.length = b.length → ¬ b < a → ¬ d < c → ¬ b ++ d < a ++ c
  | [], [], _, _, _, _, h => h
  | x :: a, y :: b, c, d, hl, h, k => fun z => by
    cases z with
    | rel z => exact h (List.Lex.rel z)
    | cons z => exact lex_app (by simpa using hl) (fun q => h (List.Lex.cons q)) k z
  | [], _ :: _, _, _, h, _, _ => by cases h
  | _ :: _, [], _, _, h, _, _ => by cases h
theorem leO_iff {a b : Str} : LeO (some a) (some b) ↔ a.length < b.length ∨ (a.length = b.length ∧ ¬ b.cps.toList < a.cps.toList) := by
  constructor
  · intro h
    have l := h.len
    by_cases e : a.length = b.length
    · refine .inr ⟨e, fun z => h ?_⟩
      show b.length :: _ < a.length :: _
      rw [e]
      exact List.Lex.cons z
    · exact .inl (by omega)
  · rintro (h | ⟨e, h⟩)
    · intro z
      rcases cons_lt_iff.mp (show b.length :: _ < a.length :: _ from z) with z | ⟨z, _⟩ <;> omega
    · intro z
      have z : b.length :: b.cps.toList < a.length :: a.cps.toList := z
      rw [e] at z
      cases z with
      | rel z => exact Nat.lt_irrefl _ z
      | cons z => exact h z
theorem app_le {a b c d : Str} (h : LeO (some a) (some b)) (k : LeO (some c) (some d)) : LeO (some (a ++ c)) (some (b ++ d)) := by
  rw [leO_iff, app_len, app_len]
  rcases leO_iff.mp h with h | ⟨e, h⟩
  · have := k.len
    exact .inl (by omega)
  · rcases leO_iff.mp k with k | ⟨e2, k⟩
    · exact .inl (by omega)
    · refine .inr ⟨by omega, ?_⟩
      rw [app_cps, app_cps]
      exact lex_app (by rw [len_cps, len_cps]; exact e) h k
theorem eq_empty {z : Str} (h : z.length = 0) : z = ("" : Str) := by
  refine TL.ext_tl ?_
  have : z.cps.toList = [] := List.eq_nil_of_length_eq_zero (by rw [len_cps]; exact h)
  show z.cps.toList = _
  rw [this]
  rfl
theorem app_empty (a : Str) : a ++ ("" : Str) = a := by
  refine TL.ext_tl ?_
  show (a ++ ("" : Str)).cps.toList = a.cps.toList
  rw [app_cps]
  show a.cps.toList ++ [] = _
  rw [List.append_nil]
theorem empty_app (a : Str) : ("" : Str) ++ a = a := by
  refine TL.ext_tl ?_
  show (("" : Str) ++ a).cps.toList = a.cps.toList
  rw [app_cps]
  rfl
theorem le_app1 (a c : Str) : LeO (some a) (some (a ++ c)) := by
  by_cases h : c.length = 0
  · rw [eq_empty h, app_empty]; exact LeO.refl _
  · rw [leO_iff, app_len]; exact .inl (by omega)
theorem le_app2 (a c : Str) : LeO (some c) (some (a ++ c)) := by
  by_cases h : a.length = 0
  · rw [eq_empty h, empty_app]; exact LeO.refl _
  · rw [leO_iff, app_len]; exact .inl (by omega)
/-- the least of some -/
def IsMin (l : List (Option Str)) (o : Option Str) : Prop := (∀ x ∈ l, LeO o x) ∧ (o = none ∨ o ∈ l)
theorem IsMin.uniq {l : List (Option Str)} {o p : Option Str} (h : IsMin l o) (k : IsMin l p) : o = p := by
  rcases h.2 with rfl | h2
  · rcases k.2 with rfl | k2
    · rfl
    · exact LeO.antisymm (h.1 _ k2) True.intro
  · rcases k.2 with rfl | k2
    · exact LeO.antisymm True.intro (k.1 _ h2)
    · exact LeO.antisymm (h.1 _ k2) (k.1 _ h2)
def minO : Option Str → Option Str → Option Str
  | none, b => b
  | a, none => a
  | some x, some y => if ltK y x = true then some y else some x
theorem minO_le (a b : Option Str) : LeO (minO a b) a ∧ LeO (minO a b) b ∧ (minO a b = a ∨ minO a b = b) := by
  cases a with
  | none => exact ⟨by cases b <;> exact True.intro, LeO.refl _, .inr rfl⟩
  | some x =>
    cases b with
    | none => exact ⟨LeO.refl _, True.intro, .inl rfl⟩
    | some y =>
      show LeO (if _ then _ else _) _ ∧ LeO (if _ then _ else _) _ ∧ ((if _ then _ else _) = _ ∨ (if _ then _ else _) = _)
      by_cases c : ltK y x = true
      · rw [if_pos c]
        refine ⟨fun z => ?_, LeO.refl _, .inr rfl⟩
        exact List.lt_irrefl _ (List.lt_trans z (of_decide_eq_true c))
      · rw [if_neg c]
        exact ⟨LeO.refl _, leO_of (by simpa using c), .inl rfl⟩
def leastO : List (Option Str) → Option Str
  | [] => none
  | a :: r => minO a (leastO r)
theorem leastO_min : ∀ l, IsMin l (leastO l)
  | [] => ⟨fun _ h => (nomatch h), .inl rfl⟩
  | a :: r => by
    obtain ⟨h1, h2⟩ := leastO_min r
    obtain ⟨m1, m2, m3⟩ := minO_le a (leastO r)
    refine ⟨fun x hx => ?_, ?_⟩
    · rcases List.mem_cons.mp hx with rfl | hx
      · exact m1
      · exact m2.trans (h1 x hx)
    · show minO a (leastO r) = none ∨ minO a (leastO r) ∈ a :: r
      rcases m3 with e | e
      · rw [e]; exact .inr List.mem_cons_self
      · rw [e]
        exact h2.imp id fun z => List.mem_cons_of_mem _ z
/-- all, one behind another -/
def catO : List (Option Str) → Option Str
  | [] => some ""
  | none :: _ => none
  | some a :: r => (catO r).map (a ++ ·)
theorem catO_none : ∀ {l : List (Option Str)}, none ∈ l → catO l = none
  | none :: _, _ => rfl
  | some a :: r, h => by
    have h : none ∈ r := by simpa using h
    show (catO r).map _ = none
    rw [catO_none h]
    rfl
theorem join_cons (a : Str) (r : List Str) : Txt.join ("" : Str) (a :: r) = a ++ Txt.join ("" : Str) r := by
  refine TL.ext_tl ?_
  rw [TL.join_eq, TL.join_eq, TL.tl_join]
  have e : TL.tl (Str.ofString "") = [] := rfl
  show TL.joinL (TL.tl (Str.ofString "")) _ = (a ++ _).cps.toList
  rw [app_cps, e, joinL_nil]
  show _ = a.cps.toList ++ TL.tl _
  rw [TL.tl_join, e, joinL_nil]
  rfl
theorem catO_some : ∀ zs : List Str, catO (zs.map some) = some (Txt.join ("" : Str) zs)
  | [] => rfl
  | a :: r => by
    show (catO (r.map some)).map (a ++ ·) = _
    rw [catO_some r, join_cons]
    rfl
theorem catO_mono : ∀ {l m : List (Option Str)}, l.length = m.length → (∀ (i : Nat) a b, l[i]? = some a → m[i]? = some b → LeO a b) → LeO (catO l) (catO m)
  | [], [], _, _ => LeO.refl _
  | a :: l, b :: m, hl, h => by
    have ih := catO_mono (l := l) (m := m) (by simpa using hl) fun i x y e1 e2 => h (i + 1) x y (by simpa using e1) (by simpa using e2)
    have h0 := h 0 a b rfl rfl
    cases b with
    | none => exact True.intro
    | some b =>
      cases a with
      | none => exact h0.elim
      | some a =>
        show LeO ((catO l).map _) ((catO m).map _)
        cases e2 : catO m with
        | none => exact True.intro
        | some d =>
          rw [e2] at ih
          cases e1 : catO l with
          | none => rw [e1] at ih; exact ih.elim
          | some c => rw [e1] at ih; exact app_le h0 ih
  | [], _ :: _, h, _ => by cases h
  | _ :: _, [], h, _ => by cases h
theorem le_catO : ∀ {l : List (Option Str)} {a : Option Str}, a ∈ l → LeO a (catO l)
  | none :: _, _, _ => True.intro
  | some b :: r, a, h => by
    show LeO a ((catO r).map _)
    cases e : catO r with
    | none => exact True.intro
    | some c =>
      rcases List.mem_cons.mp h with rfl | h
      · exact le_app1 b c
      · have ih := le_catO h
        rw [e] at ih
        exact ih.trans (le_app2 b c)
/-! ### forms -/
def pairT : D → Option Str
  | .tup (.str t :: _) => some t
  | _ => none
def leafT (w : Str) (r : List D) : Option Str :=
  if w = "number" then some "0" else
  match r with
  | .str z :: _ => if w = "text" then some z else some ⟨(z.cps.toList.take 1).toArray⟩
  | .tup ps :: _ => leastO (ps.map pairT)
  | _ => none
mutual
def ev (E : Str → Option Str) : Fo → Option Str
  | .leaf w r => leafT w r
  | .one w f _ => if w = "spelt" then some "" else ev E f
  | .row fs => catO (evs E fs)
  | .either _ fs => leastO (evs E fs)
  | .again _ => some ""
  | .between _ _ => some ""
  | .counted z _ => some ("0" ++ z)
  | .named x => E x
def evs (E : Str → Option Str) : List Fo → List (Option Str)
  | [] => []
  | f :: r => ev E f :: evs E r
end
theorem evs_map (E : Str → Option Str) : ∀ fs, evs E fs = fs.map (ev E)
  | [] => rfl
  | f :: r => by rw [List.map_cons, ← evs_map E r]; rfl
mutual
theorem ev_mono {E E' : Str → Option Str} (h : ∀ x, LeO (E x) (E' x)) : ∀ f : Fo, LeO (ev E f) (ev E' f)
  | .leaf _ _ => LeO.refl _
  | .one w f _ => by
    simp only [ev]
    split
    · exact LeO.refl _
    · exact ev_mono h f
  | .row fs => catO_mono (evs_mono h fs).1 (evs_mono h fs).2
  | .either _ fs => by
    obtain ⟨hl, he⟩ := evs_mono h fs
    simp only [ev]
    have m1 := leastO_min (evs E fs)
    have m2 := leastO_min (evs E' fs)
    rcases m2.2 with e | e
    · rw [e]; cases leastO (evs E fs) <;> exact True.intro
    · obtain ⟨i, hi⟩ := List.mem_iff_getElem?.mp e
      have hlt : i < (evs E fs).length := by rw [hl]; exact (List.getElem?_eq_some_iff.mp hi).1
      exact (m1.1 _ (List.getElem_mem hlt)).trans (he i _ _ (List.getElem?_eq_getElem hlt) hi)
  | .again _ => LeO.refl _
  | .between _ _ => LeO.refl _
  | .counted _ _ => LeO.refl _
  | .named x => h x
theorem evs_mono {E E' : Str → Option Str} (h : ∀ x, LeO (E x) (E' x)) : ∀ fs : List Fo, (evs E fs).length = (evs E' fs).length ∧ ∀ (i : Nat) a b, (evs E fs)[i]? = some a → (evs E' fs)[i]? = some b → LeO a b
  | [] => ⟨rfl, fun i a b e => by simp [evs] at e⟩
  | f :: r => by
    obtain ⟨hl, he⟩ := evs_mono h r
    refine ⟨congrArg (· + 1) hl, fun i a b e1 e2 => ?_⟩
    cases i with
    | zero =>
      cases e1
      cases e2
      exact ev_mono h f
    | succ i => exact he i a b e1 e2
end
theorem none_le {t : Option Str} : LeO t none := by cases t <;> exact True.intro
mutual
/-- nothing gets less than t by names that are t or more -/
theorem ev_sup {E E' : Str → Option Str} {t : Option Str} (h : ∀ x, E' x = E x ∨ LeO t (E' x)) (hm : ∀ x, LeO (E' x) (E x)) : ∀ f : Fo, ev E' f = ev E f ∨ LeO t (ev E' f)
  | .leaf _ _ => .inl rfl
  | .one w f _ => by
    simp only [ev]
    split
    · exact .inl rfl
    · exact ev_sup h hm f
  | .row fs => by
    simp only [ev]
    rcases evs_sup h hm fs with e | ⟨a, ha, k⟩
    · exact .inl (by rw [e])
    · exact .inr (k.trans (le_catO ha))
  | .either _ fs => by
    simp only [ev]
    have m2 := leastO_min (evs E' fs)
    have m1 := leastO_min (evs E fs)
    obtain ⟨hl, he⟩ := evs_mono hm fs
    rcases m2.2 with e | e
    · rw [e]; exact .inr none_le
    · obtain ⟨i, hi⟩ := List.mem_iff_getElem?.mp e
      rcases evs_at h hm fs i with z | ⟨a, ea, k⟩
      · refine .inl (IsMin.uniq ⟨fun x hx => ?_, .inr ?_⟩ m1)
        · obtain ⟨j, hj⟩ := List.mem_iff_getElem?.mp hx
          have hlt : j < (evs E' fs).length := by rw [hl]; exact (List.getElem?_eq_some_iff.mp hj).1
          exact (m2.1 _ (List.getElem_mem hlt)).trans (he j _ _ (List.getElem?_eq_getElem hlt) hj)
        · exact List.mem_of_getElem? (z.symm.trans hi)
      · rw [hi] at ea
        cases ea
        exact .inr k
  | .again _ => .inl rfl
  | .between _ _ => .inl rfl
  | .counted _ _ => .inl rfl
  | .named x => h x
theorem evs_sup {E E' : Str → Option Str} {t : Option Str} (h : ∀ x, E' x = E x ∨ LeO t (E' x)) (hm : ∀ x, LeO (E' x) (E x)) : ∀ fs : List Fo, evs E' fs = evs E fs ∨ ∃ a ∈ evs E' fs, LeO t a
  | [] => .inl rfl
  | f :: r => by
    rcases ev_sup h hm f with e | k
    · rcases evs_sup h hm r with e2 | ⟨a, ha, k⟩
      · exact .inl (by simp only [evs, e, e2])
      · exact .inr ⟨a, List.mem_cons_of_mem _ ha, k⟩
    · exact .inr ⟨_, List.mem_cons_self, k⟩
theorem evs_at {E E' : Str → Option Str} {t : Option Str} (h : ∀ x, E' x = E x ∨ LeO t (E' x)) (hm : ∀ x, LeO (E' x) (E x)) : ∀ (fs : List Fo) (i : Nat), (evs E' fs)[i]? = (evs E fs)[i]? ∨ ∃ a, (evs E' fs)[i]? = some a ∧ LeO t a
  | [], i => .inl rfl
  | f :: r, 0 => (ev_sup h hm f).imp (fun e => congrArg some e) fun k => ⟨_, rfl, k⟩
  | f :: r, i + 1 => evs_at h hm r i
end
end RT

/-! from the least text on, and round by round: the same -/
namespace RT
open PySem PySem.Spec PyProof.Rows L2 LK
theorem look_some {α : Type} {l : List (Str × α)} {x : Str} {a : α} (nd : (l.map (·.1)).Nodup) (h : (x, a) ∈ l) : l.lookup x = some a := by
  induction l with
  | nil => cases h
  | cons p r ih =>
    obtain ⟨y, b⟩ := p
    have nd' := List.nodup_cons.mp nd
    rcases List.mem_cons.mp h with e | h
    · cases e
      simp [List.lookup]
    · have ne : ¬ x = y := fun e => nd'.1 (by
        show y ∈ r.map (·.1)
        rw [← e]
        exact List.mem_map.mpr ⟨_, h, rfl⟩)
      have e : (x == y) = false := by simpa using ne
      simp only [List.lookup, e]
      exact ih nd'.2 h
theorem mem_look {α : Type} {l : List (Str × α)} {x : Str} {a : α} (h : l.lookup x = some a) : (x, a) ∈ l := PySem.mem_of_lookup h
theorem look_none_iff {α : Type} {l : List (Str × α)} {x : Str} : l.lookup x = none ↔ x ∉ l.map (·.1) := by
  induction l with
  | nil => simp
  | cons p r ih =>
    obtain ⟨y, b⟩ := p
    by_cases e : x = y
    · subst e; simp [List.lookup]
    · have e' : (x == y) = false := by simpa using e
      simp only [List.lookup, e', List.map_cons, List.mem_cons, e, false_or]
      exact ih
/-- the texts known after j rounds -/
def KK (tb : List (Str × Fo)) : Nat → Str → Option Str
  | 0, _ => none
  | j + 1, x => match tb.lookup x with
    | some f => ev (KK tb j) f
    | none => none
theorem KK_at {tb : List (Str × Fo)} (nd : (tb.map (·.1)).Nodup) {j : Nat} {x : Str} {f : Fo} (h : (x, f) ∈ tb) : KK tb (j + 1) x = ev (KK tb j) f := by
  show (match tb.lookup x with | some f => ev (KK tb j) f | none => none) = _
  rw [look_some nd h]
theorem KK_out {tb : List (Str × Fo)} {j : Nat} {x : Str} (h : x ∉ tb.map (·.1)) : KK tb j x = none := by
  cases j with
  | zero => rfl
  | succ j =>
    show (match tb.lookup x with | some f => ev (KK tb j) f | none => none) = _
    rw [look_none_iff.mpr h]
theorem KK_anti {tb : List (Str × Fo)} : ∀ j x, LeO (KK tb (j + 1) x) (KK tb j x)
  | 0, x => none_le
  | j + 1, x => by
    show LeO (match tb.lookup x with | some f => ev (KK tb (j + 1)) f | none => none) (match tb.lookup x with | some f => ev (KK tb j) f | none => none)
    cases tb.lookup x with
    | none => exact LeO.refl _
    | some f => exact ev_mono (KK_anti j) f
structure KInv (tb : List (Str × Fo)) (kvs : List (Str × Str)) : Prop where
  nd : (kvs.map (·.1)).Nodup
  sub : ∀ x t, (x, t) ∈ kvs → x ∈ tb.map (·.1)
  fix : ∀ x t f, (x, t) ∈ kvs → (x, f) ∈ tb → ev (kvs.lookup ·) f = some t
  top : ∀ x t y f, (x, t) ∈ kvs → (y, f) ∈ tb → kvs.lookup y = none → LeO (some t) (ev (kvs.lookup ·) f)
  kj : ∀ j, kvs.length ≤ j → ∀ x t, (x, t) ∈ kvs → LeO (KK tb j x) (some t)
theorem KInv.nil {tb : List (Str × Fo)} : KInv tb [] := ⟨List.nodup_nil, fun _ _ h => (nomatch h), fun _ _ _ h => (nomatch h), fun _ _ _ _ h => (nomatch h), fun _ _ _ _ h => (nomatch h)⟩
theorem look_snoc {kvs : List (Str × Str)} {x y : Str} {t : Str} (hx : kvs.lookup x = none) : (kvs ++ [(x, t)]).lookup y = if y = x then some t else kvs.lookup y := by
  rw [List.lookup_append]
  by_cases e : y = x
  · subst e
    rw [hx, if_pos rfl]
    simp [List.lookup]
  · have e' : (y == x) = false := by simpa using e
    rw [if_neg e]
    simp only [List.lookup, e']
    cases kvs.lookup y <;> rfl
theorem KInv.step {tb : List (Str × Fo)} {kvs : List (Str × Str)} (K : KInv tb kvs) (ndt : (tb.map (·.1)).Nodup) {x' t' : Str} {f' : Fo} (hf : (x', f') ∈ tb) (hx : kvs.lookup x' = none) (he : ev (kvs.lookup ·) f' = some t')
    (hm : ∀ y g, (y, g) ∈ tb → kvs.lookup y = none → LeO (some t') (ev (kvs.lookup ·) g)) : KInv tb (kvs ++ [(x', t')]) := by
  have L : ∀ y, (kvs ++ [(x', t')]).lookup y = if y = x' then some t' else kvs.lookup y := fun y => look_snoc hx
  have sup : ∀ y, (kvs ++ [(x', t')]).lookup y = kvs.lookup y ∨ LeO (some t') ((kvs ++ [(x', t')]).lookup y) := fun y => by
    rw [L]
    by_cases e : y = x'
    · rw [if_pos e]; exact .inr (LeO.refl _)
    · rw [if_neg e]; exact .inl rfl
  have mono : ∀ y, LeO ((kvs ++ [(x', t')]).lookup y) (kvs.lookup y) := fun y => by
    rw [L]
    by_cases e : y = x'
    · rw [if_pos e, e, hx]; exact True.intro
    · rw [if_neg e]; exact LeO.refl _
  have le' : ∀ x t, (x, t) ∈ kvs → LeO (some t) (some t') := fun x t h => by
    have := K.top x t x' f' h hf hx
    rw [he] at this
    exact this
  have fx : ∀ f t, ev (kvs.lookup ·) f = some t → LeO (some t) (some t') → ev ((kvs ++ [(x', t')]).lookup ·) f = some t := fun f t h1 h2 => by
    rcases ev_sup sup mono f with e | e
    · exact e.trans h1
    · refine LeO.antisymm ?_ (h2.trans e)
      have := ev_mono mono f
      rw [h1] at this
      exact this
  refine ⟨?_, fun x t h => ?_, fun x t f h hfb => ?_, fun x t y f h hfb hy => ?_, fun j hj x t h => ?_⟩
  · rw [List.map_append, List.nodup_append]
    refine ⟨K.nd, by simp, fun a ha b hb => ?_⟩
    have : b = x' := by simpa using hb
    rw [this]
    exact fun e => look_none_iff.mp hx (by rw [← e]; exact ha)
  · rcases List.mem_append.mp h with h | h
    · exact K.sub x t h
    · have h : (x, t) = (x', t') := by simpa using h
      cases h
      exact List.mem_map.mpr ⟨_, hf, rfl⟩
  · rcases List.mem_append.mp h with h | h
    · exact fx f t (K.fix x t f h hfb) (le' x t h)
    · have h : (x, t) = (x', t') := by simpa using h
      cases h
      have : f = f' := by
        have e1 := look_some ndt hfb
        rw [look_some ndt hf] at e1
        exact (Option.some.inj e1).symm
      rw [this]
      exact fx f' _ he (LeO.refl _)
  · rw [L] at hy
    have ne : y ≠ x' := fun e => by rw [if_pos e] at hy; cases hy
    rw [if_neg ne] at hy
    have tt : LeO (some t) (some t') := by
      rcases List.mem_append.mp h with h | h
      · exact le' x t h
      · have h : (x, t) = (x', t') := by simpa using h
        cases h
        exact LeO.refl _
    rcases ev_sup sup mono f with e | e
    · have e : ev ((kvs ++ [(x', t')]).lookup ·) f = _ := e
      rw [e]
      exact tt.trans (hm y f hfb hy)
    · exact tt.trans e
  · rw [List.length_append] at hj
    rcases List.mem_append.mp h with h | h
    · exact K.kj j (by have : [(x', t')].length = 1 := rfl; omega) x t h
    · have h : (x, t) = (x', t') := by simpa using h
      cases h
      obtain ⟨i, rfl⟩ : ∃ i, j = i + 1 := ⟨j - 1, by have : [(x', t')].length = 1 := rfl; omega⟩
      rw [KK_at ndt hf]
      have := ev_mono (E := KK tb i) (E' := (kvs.lookup ·)) (fun y => ?_) f'
      · have e : ev (kvs.lookup ·) f' = some t' := he
        rw [e] at this
        exact this
      · cases e : kvs.lookup y with
        | none => exact none_le
        | some u => exact K.kj i (by have : [(x', t')].length = 1 := rfl; omega) y u (mem_look e)
theorem KInv.end_ {tb : List (Str × Fo)} {kvs : List (Str × Str)} (K : KInv tb kvs) (ndt : (tb.map (·.1)).Nodup) (h : ∀ y g, (y, g) ∈ tb → kvs.lookup y = none → ev (kvs.lookup ·) g = none) {j : Nat} (hj : kvs.length ≤ j) (x : Str) : KK tb j x = kvs.lookup x := by
  have fixp : ∀ y g, (y, g) ∈ tb → ev (kvs.lookup ·) g = kvs.lookup y := fun y g hg => by
    cases e : kvs.lookup y with
    | none => exact h y g hg e
    | some t => exact K.fix y t g (mem_look e) hg
  have below : ∀ i y, LeO (kvs.lookup y) (KK tb i y) := fun i => by
    induction i with
    | zero => exact fun y => none_le
    | succ i ih =>
      intro y
      by_cases hy : y ∈ tb.map (·.1)
      · obtain ⟨⟨y', g⟩, hg, rfl⟩ := List.mem_map.mp hy
        rw [KK_at ndt hg, ← fixp y' g hg]
        exact ev_mono ih g
      · rw [KK_out hy]; exact none_le
  refine LeO.antisymm ?_ (below j x)
  cases e : kvs.lookup x with
  | none => exact none_le
  | some t => exact K.kj j hj x t (mem_look e)
theorem nodup_len {α : Type} [BEq α] [LawfulBEq α] : ∀ {l m : List α}, l.Nodup → (∀ x ∈ l, x ∈ m) → l.length ≤ m.length
  | [], _, _, _ => Nat.zero_le _
  | a :: r, m, nd, h => by
    obtain ⟨n1, n2⟩ := List.nodup_cons.mp nd
    have ih := nodup_len (l := r) (m := m.erase a) n2 fun x hx => (List.mem_erase_of_ne (a := x) (b := a) fun e => n1 (by rw [← e]; exact hx)).mpr (h x (List.mem_cons_of_mem _ hx))
    rw [List.length_erase_of_mem (h a List.mem_cons_self)] at ih
    have := List.length_pos_of_mem (h a List.mem_cons_self)
    rw [List.length_cons]
    omega
theorem KInv.len {tb : List (Str × Fo)} {kvs : List (Str × Str)} (K : KInv tb kvs) : kvs.length ≤ tb.length := by
  have h := nodup_len K.nd (m := tb.map (·.1)) fun x hx => by
    obtain ⟨⟨y, t⟩, h, rfl⟩ := List.mem_map.mp hx
    exact K.sub y t h
  rw [List.length_map, List.length_map] at h
  exact h
/-! ### how long the texts get -/
def Bd (r : Nat) : Nat → Nat
  | 0 => 0
  | j + 1 => r * (13 + Bd r j)
theorem Bd_mono1 {r : Nat} (hr : 1 ≤ r) (j : Nat) : Bd r j ≤ Bd r (j + 1) := by
  show Bd r j ≤ r * (13 + Bd r j)
  calc Bd r j ≤ 1 * (13 + Bd r j) := by omega
    _ ≤ r * (13 + Bd r j) := Nat.mul_le_mul_right _ hr
theorem Bd_mono {r : Nat} (hr : 1 ≤ r) {i j : Nat} (h : i ≤ j) : Bd r i ≤ Bd r j := by
  induction j with
  | zero => rw [Nat.le_zero.mp h]; exact Nat.le_refl _
  | succ j ih =>
    by_cases e : i = j + 1
    · rw [e]; exact Nat.le_refl _
    · exact Nat.le_trans (ih (by omega)) (Bd_mono1 hr j)
theorem Bd_few {n : Nat} (h1 : 1 ≤ n) (h2 : n ≤ 12) : Bd (16 / n) n ≤ 130000 := by
  have : ∀ n, n < 13 → 1 ≤ n → Bd (16 / n) n ≤ 130000 := by decide +kernel
  exact this n (by omega) h1
/-- the names known after j rounds, counted -/
def cnt (tb : List (Str × Fo)) (j : Nat) : Nat := (tb.map (·.1)).countP fun x => (KK tb j x).isSome
theorem countP_le {α : Type} {p q : α → Bool} (h : ∀ x, p x = true → q x = true) : ∀ l : List α, l.countP p ≤ l.countP q ∧ (l.countP p = l.countP q → ∀ x ∈ l, q x = true → p x = true)
  | [] => ⟨Nat.le_refl _, fun _ _ hx => (nomatch hx)⟩
  | a :: r => by
    obtain ⟨i1, i2⟩ := countP_le h r
    rw [List.countP_cons, List.countP_cons]
    by_cases c : p a = true
    · rw [if_pos c, if_pos (h a c)]
      refine ⟨by omega, fun e x hx hq => ?_⟩
      rcases List.mem_cons.mp hx with rfl | hx
      · exact c
      · exact i2 (by omega) x hx hq
    · rw [if_neg c]
      by_cases d : q a = true
      · rw [if_pos d]
        exact ⟨by omega, fun e => by omega⟩
      · rw [if_neg d]
        refine ⟨by omega, fun e x hx hq => ?_⟩
        rcases List.mem_cons.mp hx with rfl | hx
        · exact absurd hq d
        · exact i2 (by omega) x hx hq
theorem cnt_le (tb : List (Str × Fo)) (j : Nat) : cnt tb j ≤ tb.length := by
  have := List.countP_le_length (p := fun x => (KK tb j x).isSome) (l := tb.map (·.1))
  rw [List.length_map] at this
  exact this
/-- what a form's text has at most, by names of at most M signs -/
def LenOk (r : Nat) (f : Fo) : Prop := ∀ (E : Str → Option Str) (M : Nat) (t : Str), (∀ x u, E x = some u → u.length ≤ M) → ev E f = some t → t.length ≤ r * (13 + M)
theorem KK_len {tb : List (Str × Fo)} {r : Nat} (ndt : (tb.map (·.1)).Nodup) (hr : 1 ≤ r) (hf : ∀ x f, (x, f) ∈ tb → LenOk r f) : ∀ j x t, KK tb j x = some t → t.length ≤ Bd r (cnt tb j)
  | 0, x, t, h => nomatch h
  | j + 1, x, t, h => by
    have ih := KK_len ndt hr hf j
    have up : ∀ x, (KK tb j x).isSome = true → (KK tb (j + 1) x).isSome = true := fun x hx => by
      have a := KK_anti (tb := tb) j x
      cases e : KK tb j x with
      | none => rw [e] at hx; cases hx
      | some u =>
        cases e2 : KK tb (j + 1) x with
        | none => rw [e, e2] at a; exact a.elim
        | some v => rfl
    obtain ⟨c1, c2⟩ := countP_le up (tb.map (·.1))
    have c1 : cnt tb j ≤ cnt tb (j + 1) := c1
    have hx : x ∈ tb.map (·.1) := Decidable.byContradiction fun z => by
      rw [KK_out z] at h
      cases h
    by_cases e : cnt tb j = cnt tb (j + 1)
    · have s := c2 e x hx (by rw [h]; rfl)
      cases e2 : KK tb j x with
      | none => rw [e2] at s; cases s
      | some u =>
        have a := KK_anti (tb := tb) j x
        rw [h, e2] at a
        rw [← e]
        exact Nat.le_trans a.len (ih x u e2)
    · obtain ⟨⟨y, f⟩, hy, ey⟩ := List.mem_map.mp hx
      have ey : y = x := ey
      subst ey
      have h' : ev (KK tb j) f = some t := by rw [← KK_at ndt hy]; exact h
      have := hf y f hy (KK tb j) (Bd r (cnt tb j)) t ih h'
      exact Nat.le_trans this (Bd_mono hr (show cnt tb j + 1 ≤ cnt tb (j + 1) by omega))
end RT

/-! what is drawn is well made -/
namespace RT
open PySem PySem.Spec PyProof.Rows L2 LK
theorem sizes_mus {fs : List Fo} (h : ∀ f ∈ fs, f.size ≤ 8 * f.mu) : Fo.sizes fs ≤ 8 * Fo.mus fs := by
  induction fs with
  | nil => exact Nat.le_refl _
  | cons f r ih =>
    have h1 := h f List.mem_cons_self
    have h2 := ih fun g hg => h g (List.mem_cons_of_mem _ hg)
    show f.size + Fo.sizes r ≤ 8 * (f.mu + Fo.mus r)
    omega
theorem turned_size {f : Fo} {r : List D} (h : (f, r) ∈ turnedF) : f.size ≤ 4 := by
  simp only [turnedF, List.mem_cons, List.not_mem_nil, or_false, Prod.mk.injEq] at h
  rcases h with ⟨rfl, rfl⟩ | ⟨rfl, rfl⟩ | ⟨rfl, rfl⟩ | ⟨rfl, rfl⟩ <;> decide
theorem Dr.size {N : List Str} {f : Fo} (h : Dr N f) : f.size ≤ 8 * f.mu := by
  induction h with
  | text _ => show 1 ≤ 8 * 1; decide
  | set _ _ => show 1 ≤ 8 * 1; decide
  | number => show 1 ≤ 8 * 1; decide
  | named _ => show 1 ≤ 8 * 1; decide
  | pick _ _ => show 1 ≤ 8 * 1; decide
  | spelt _ => rw [Fo.mu_no (by decide)]; show 2 ≤ 8; decide
  | speltP _ => rw [Fo.mu_no (by decide)]; show 2 ≤ 8; decide
  | turned m =>
    rw [Fo.mu_no (by decide)]
    have := turned_size m
    show 1 + Fo.size _ ≤ 8
    omega
  | skip _ ih => rw [Fo.mu_skip]; show 1 + Fo.size _ ≤ 8 * (1 + _); omega
  | counted _ _ ih => show 1 + Fo.size _ ≤ 8 * (1 + Fo.mu _); omega
  | again _ ih => show 1 + Fo.size _ ≤ 8 * (1 + Fo.mu _); omega
  | betweenT _ _ ih => show 1 + Fo.size _ + 1 ≤ 8 * (1 + Fo.mu _); omega
  | betweenS _ ih => show 1 + Fo.size _ + 3 ≤ 8 * (1 + Fo.mu _); omega
  | row _ _ _ ih => have := sizes_mus ih; show 1 + Fo.sizes _ ≤ 8 * (1 + Fo.mus _); omega
  | either _ _ _ ih => have := sizes_mus ih; show 1 + Fo.sizes _ ≤ 8 * (1 + Fo.mus _); omega
theorem LenOk.mono {r s : Nat} {f : Fo} (h : LenOk r f) (l : r ≤ s) : LenOk s f := fun E M t hE e => Nat.le_trans (h E M t hE e) (Nat.mul_le_mul_right _ l)
theorem LenOk.const {f : Fo} {r : Nat} (hr : 1 ≤ r) (h : ∀ E t, ev E f = some t → t.length ≤ 13) : LenOk r f := fun E M t _ e => by
  have := h E t e
  calc t.length ≤ 1 * (13 + M) := by omega
    _ ≤ r * (13 + M) := Nat.mul_le_mul_right _ hr
theorem cat_len {E : Str → Option Str} {M : Nat} (hE : ∀ x u, E x = some u → u.length ≤ M) : ∀ {fs : List Fo} {t : Str}, (∀ f ∈ fs, LenOk f.mu f) → catO (evs E fs) = some t → t.length ≤ Fo.mus fs * (13 + M)
  | [], t, _, e => by
    cases e
    exact Nat.zero_le _
  | f :: r, t, h, e => by
    have e : catO (ev E f :: evs E r) = some t := e
    cases e1 : ev E f with
    | none => rw [e1] at e; cases e
    | some a =>
      rw [e1] at e
      have e : (catO (evs E r)).map (a ++ ·) = some t := e
      cases e2 : catO (evs E r) with
      | none => rw [e2] at e; cases e
      | some b =>
        rw [e2] at e
        cases e
        have h1 := h f List.mem_cons_self E M a hE e1
        have h2 := cat_len hE (fun g hg => h g (List.mem_cons_of_mem _ hg)) e2
        rw [app_len]
        show _ ≤ (f.mu + Fo.mus r) * (13 + M)
        rw [Nat.add_mul]
        omega
theorem mem_evs {E : Str → Option Str} {fs : List Fo} {a : Option Str} (h : a ∈ evs E fs) : ∃ f ∈ fs, ev E f = a := by
  rw [evs_map] at h
  obtain ⟨f, m, e⟩ := List.mem_map.mp h
  exact ⟨f, m, e⟩
theorem mu_mem {f : Fo} {fs : List Fo} (h : f ∈ fs) : f.mu ≤ Fo.mus fs := by
  induction fs with
  | nil => cases h
  | cons g r ih =>
    show f.mu ≤ g.mu + Fo.mus r
    rcases List.mem_cons.mp h with rfl | h
    · omega
    · have := ih h; omega
theorem least_mem {l : List (Option Str)} {t : Str} (h : leastO l = some t) : some t ∈ l := by
  rcases (leastO_min l).2 with e | e
  · rw [h] at e; cases e
  · rw [h] at e; exact e
theorem pick_len {E : Str → Option Str} {ps : List (Str × D)} {t : Str} {n : Nat} (hp : ∀ p ∈ ps, p.1.length ≤ n) (e : ev E (.leaf "pick" [.tup (ps.map prD)]) = some t) : t.length ≤ n := by
  have e : leastO ((ps.map prD).map pairT) = some t := e
  have m := least_mem e
  rw [List.map_map] at m
  obtain ⟨p, hp', ep⟩ := List.mem_map.mp m
  have ep : some p.1 = some t := ep
  cases ep
  exact hp p hp'
theorem text_ev {E : Str → Option Str} {z : Str} : ev E (.leaf "text" [.str z]) = some z := by
  show leafT "text" [.str z] = _
  unfold leafT
  rw [if_neg (by decide)]
  show (if ("text" : Str) = "text" then some z else _) = _
  rw [if_pos rfl]
theorem set_ev {E : Str → Option Str} {w z : Str} (hw : w = "sign" ∨ w = "word") : ev E (.leaf w [.str z]) = some ⟨(z.cps.toList.take 1).toArray⟩ := by
  show leafT w [.str z] = _
  unfold leafT
  rcases hw with rfl | rfl
  · rw [if_neg (by decide)]
    show (if ("sign" : Str) = "text" then some z else _) = _
    rw [if_neg (by decide)]
  · rw [if_neg (by decide)]
    show (if ("word" : Str) = "text" then some z else _) = _
    rw [if_neg (by decide)]
theorem set_len {E : Str → Option Str} {w z t : Str} (hw : w = "sign" ∨ w = "word") (e : ev E (.leaf w [.str z]) = some t) : t.length ≤ 1 := by
  rw [set_ev hw] at e
  cases e
  rw [len_tl]
  show ((z.cps.toList.take 1).toArray.toList).length ≤ 1
  rw [List.toList_toArray, List.length_take]
  omega
theorem pk_short {ss : List Str} {a : Nat} (h : ss ∈ picksZ) : ∀ p ∈ pk ss a ss.length, p.1.length ≤ 12 := by
  intro p hp
  unfold pk at hp
  obtain ⟨k, hk, rfl⟩ := List.mem_map.mp hp
  have hk := List.mem_range.mp hk
  have : ∀ ss ∈ picksZ, ∀ z ∈ ss, z.length ≤ 12 := by decide +kernel
  show ((ss[k]?).getD "").length ≤ 12
  rw [List.getElem?_eq_getElem hk]
  exact this ss h _ (List.getElem_mem hk)
theorem sk_short {ss : List Str} (h : ss ∈ speltZ) : ∀ p ∈ sk ss ss.length, p.1.length ≤ 12 := by
  intro p hp
  unfold sk at hp
  obtain ⟨k, hk, rfl⟩ := List.mem_map.mp hp
  have hk := List.mem_range.mp hk
  have : ∀ ss ∈ speltZ, ∀ z ∈ ss, z.length ≤ 12 := by decide +kernel
  show ((ss[k]?).getD "").length ≤ 12
  rw [List.getElem?_eq_getElem hk]
  exact this ss h _ (List.getElem_mem hk)
theorem spelt_ev {E : Str → Option Str} {f : Fo} {r : List D} : ev E (.one "spelt" f r) = some ("" : Str) := by
  simp only [ev, if_true]
theorem skip_ev {E : Str → Option Str} {f : Fo} {r : List D} : ev E (.one "skip" f r) = ev E f := by
  simp only [ev, if_neg (show ¬ ("skip" : Str) = "spelt" by decide)]
theorem turned_ev {E : Str → Option Str} {f : Fo} {r : List D} : ev E (.one "turned" f r) = ev E f := by
  simp only [ev, if_neg (show ¬ ("turned" : Str) = "spelt" by decide)]
theorem turned_len {E : Str → Option Str} {f : Fo} {r : List D} {t : Str} (h : (f, r) ∈ turnedF) (e : ev E f = some t) : t.length ≤ 13 := by
  simp only [turnedF, List.mem_cons, List.not_mem_nil, or_false, Prod.mk.injEq] at h
  rcases h with ⟨rfl, rfl⟩ | ⟨rfl, rfl⟩ | ⟨rfl, rfl⟩ | ⟨rfl, rfl⟩
  · have e : some ("0" : Str) = some t := e
    cases e
    decide
  · exact Nat.le_trans (set_len (.inr rfl) e) (by decide)
  · have := pick_len (ps := [("a", .int 5), ("b", .str ""), ("c", .str "x")]) (n := 12) (by decide +kernel) e
    omega
  · have e : some (("0" : Str) ++ (("," : Str) ++ (("0" : Str) ++ ("" : Str)))) = some t := e
    cases e
    decide +kernel
theorem Dr.mu_pos {N : List Str} {f : Fo} (h : Dr N f) : 1 ≤ f.mu := by
  cases f with
  | one w f r => show 1 ≤ 1 + _; omega
  | leaf _ _ => exact Nat.le_refl _
  | named _ => exact Nat.le_refl _
  | row _ => show 1 ≤ 1 + _; omega
  | either _ _ => show 1 ≤ 1 + _; omega
  | again _ => show 1 ≤ 1 + _; omega
  | between _ _ => show 1 ≤ 1 + _; omega
  | counted _ _ => show 1 ≤ 1 + _; omega
theorem Dr.len {N : List Str} {f : Fo} (h : Dr N f) : LenOk f.mu f := by
  have pos := h.mu_pos
  induction h with
  | text h =>
    refine .const pos fun E t e => ?_
    rw [text_ev] at e
    cases e
    have := h.2.1
    omega
  | set w m => exact .const pos fun E t e => Nat.le_trans (set_len w e) (by decide)
  | number =>
    refine .const pos fun E t e => ?_
    have e : some ("0" : Str) = some t := e
    cases e
    decide
  | named m =>
    intro E M t hE e
    have := hE _ t e
    show _ ≤ 1 * _
    omega
  | pick m a => exact .const pos fun E t e => Nat.le_trans (pick_len (n := 12) (pk_short m) e) (by decide)
  | spelt m => exact .const pos fun E t e => by rw [spelt_ev] at e; cases e; decide
  | speltP m => exact .const pos fun E t e => by rw [spelt_ev] at e; cases e; decide
  | turned m => exact .const pos fun E t e => by rw [turned_ev] at e; exact turned_len m e
  | skip d ih =>
    intro E M t hE e
    rw [skip_ev] at e
    rw [Fo.mu_skip]
    exact (ih d.mu_pos).mono (Nat.le_add_left ..) E M t hE e
  | counted h d ih =>
    refine .const pos fun E t e => ?_
    cases e
    rw [app_len]
    have := h.2.1
    have : ("0" : Str).length = 1 := by decide
    omega
  | again d ih => exact .const pos fun E t e => by cases e; decide
  | betweenT h d ih => exact .const pos fun E t e => by cases e; decide
  | betweenS d ih => exact .const pos fun E t e => by cases e; decide
  | row ne l7 al ih =>
    intro E M t hE e
    have := cat_len hE (fun f m => ih f m (al f m).mu_pos) e
    refine Nat.le_trans this (Nat.mul_le_mul_right _ ?_)
    show _ ≤ 1 + _
    omega
  | either ne l7 al ih =>
    intro E M t hE e
    obtain ⟨f, m, ef⟩ := mem_evs (least_mem e)
    refine Nat.le_trans (ih f m (al f m).mu_pos E M t hE ef) (Nat.mul_le_mul_right _ ?_)
    have := mu_mem m
    show _ ≤ 1 + _
    omega
/-- what the program asks of a form when it tells its least text -/
inductive Gd : Fo → Prop
  | text {z : Str} : z.length ≤ 12 → Gd (.leaf "text" [.str z])
  | set {w z : Str} : (w = "sign" ∨ w = "word") → 1 ≤ z.length → z.length ≤ 12 → Gd (.leaf w [.str z])
  | number : Gd (.leaf "number" [])
  | pick {ps : List (Str × D)} : ps ≠ [] → ps.length ≤ 10 → (∀ p ∈ ps, p.1.length ≤ 12) → Gd (.leaf "pick" [.tup (ps.map prD)])
  | one {w : Str} {f : Fo} {r : List D} : (w = "skip" ∨ w = "spelt" ∨ w = "turned") → Gd f → Gd (.one w f r)
  | row {fs : List Fo} : fs.length ≤ 10 → (∀ f ∈ fs, Gd f) → LenOk 16 (.row fs) → Gd (.row fs)
  | either {ns : List Str} {fs : List Fo} : ns.length = fs.length → fs.length ≤ 10 → (∀ f ∈ fs, Gd f) → Gd (.either ns fs)
  | again {f : Fo} : Gd f → Gd (.again f)
  | between {f g : Fo} : Gd f → Gd g → Gd (.between f g)
  | counted {z : Str} {f : Fo} : z.length ≤ 12 → Gd f → Gd (.counted z f)
  | named {x : Str} : Gd (.named x)
theorem Gd.inner {f : Fo} (h : Gd f) : ∀ g ∈ f.inner, Gd g := by
  cases h with
  | one _ h => exact fun g m => by rw [List.mem_singleton.mp m]; exact h
  | row _ h _ => exact h
  | either _ _ h => exact h
  | again h => exact fun g m => by rw [List.mem_singleton.mp m]; exact h
  | between h k =>
    intro g m
    rcases List.mem_cons.mp m with rfl | m
    · exact h
    · rw [List.mem_singleton.mp m]; exact k
  | counted _ h => exact fun g m => by rw [List.mem_singleton.mp m]; exact h
  | _ => exact fun g m => (nomatch m)
theorem Gd.len {f : Fo} (h : Gd f) : LenOk 16 f := by
  induction h with
  | text h => exact .const (by decide) fun E t e => by rw [text_ev] at e; cases e; omega
  | set w _ _ => exact .const (by decide) fun E t e => Nat.le_trans (set_len w e) (by decide)
  | number =>
    refine .const (by decide) fun E t e => ?_
    have e : some ("0" : Str) = some t := e
    cases e
    decide
  | pick _ _ h => exact .const (by decide) fun E t e => Nat.le_trans (pick_len h e) (by decide)
  | one w _ ih =>
    rcases w with rfl | rfl | rfl
    · exact fun E M t hE e => by rw [skip_ev] at e; exact ih E M t hE e
    · exact .const (by decide) fun E t e => by rw [spelt_ev] at e; cases e; decide
    · exact fun E M t hE e => by rw [turned_ev] at e; exact ih E M t hE e
  | row _ _ h _ => exact h
  | either _ _ _ ih =>
    intro E M t hE e
    obtain ⟨f, m, ef⟩ := mem_evs (least_mem e)
    exact ih f m E M t hE ef
  | again _ _ => exact .const (by decide) fun E t e => by cases e; decide
  | between _ _ _ _ => exact .const (by decide) fun E t e => by cases e; decide
  | counted h _ _ =>
    refine .const (by decide) fun E t e => ?_
    cases e
    rw [app_len]
    have : ("0" : Str).length = 1 := by decide
    omega
  | named =>
    intro E M t hE e
    have := hE _ t e
    omega
theorem turned_gd {f : Fo} {r : List D} (h : (f, r) ∈ turnedF) : Gd f := by
  have ok := h
  simp only [turnedF, List.mem_cons, List.not_mem_nil, or_false, Prod.mk.injEq] at h
  rcases h with ⟨rfl, rfl⟩ | ⟨rfl, rfl⟩ | ⟨rfl, rfl⟩ | ⟨rfl, rfl⟩
  · exact .number
  · exact .set (.inr rfl) (by decide) (by decide)
  · exact .pick (ps := [("a", .int 5), ("b", .str ""), ("c", .str "x")]) (by simp) (by decide) (by decide +kernel)
  · refine .row (by decide) (fun f m => ?_) (.const (by decide) fun E t e => turned_len ok e)
    simp only [List.mem_cons, List.not_mem_nil, or_false] at m
    rcases m with rfl | rfl | rfl
    · exact .number
    · exact .text (by decide)
    · exact .number
theorem sets_len : ∀ z ∈ setsZ, 1 ≤ z.length ∧ z.length ≤ 12 := by decide +kernel
theorem Dr.gd {N : List Str} {f : Fo} (h : Dr N f) (hm : f.mu ≤ 16) : Gd f := by
  induction h with
  | text h => exact .text h.2.1
  | set w m => exact .set w (sets_len _ m).1 (sets_len _ m).2
  | number => exact .number
  | named _ => exact .named
  | @pick ss a m h =>
    have l := picks_len ss m
    refine .pick ?_ ?_ (pk_short m)
    · intro e
      have e := congrArg List.length e
      rw [show (pk ss a ss.length).length = ss.length by simp [pk]] at e
      have : ([] : List (Str × D)).length = 0 := rfl
      omega
    · rw [show (pk ss a ss.length).length = ss.length by simp [pk]]; omega
  | spelt m => exact .one (.inr (.inl rfl)) (.set (.inl rfl) (sets_len _ m).1 (sets_len _ m).2)
  | @speltP ss m =>
    have l := spelt_len ss m
    refine .one (.inr (.inl rfl)) (.pick ?_ ?_ (sk_short m))
    · intro e
      have e := congrArg List.length e
      rw [show (sk ss ss.length).length = ss.length by simp [sk]] at e
      have : ([] : List (Str × D)).length = 0 := rfl
      omega
    · rw [show (sk ss ss.length).length = ss.length by simp [sk]]; omega
  | turned m => exact .one (.inr (.inr rfl)) (turned_gd m)
  | skip d ih => rw [Fo.mu_skip] at hm; exact .one (.inl rfl) (ih (by omega))
  | @counted z f h d ih => have hm : 1 + f.mu ≤ 16 := hm; exact .counted h.2.1 (ih (by omega))
  | @again f d ih => have hm : 1 + f.mu ≤ 16 := hm; exact .again (ih (by omega))
  | @betweenT z f h d ih => have hm : 1 + f.mu ≤ 16 := hm; exact .between (ih (by omega)) (.text h.2.1)
  | @betweenS f d ih => have hm : 1 + f.mu ≤ 16 := hm; exact .between (ih (by omega)) (.one (.inl rfl) (.one (.inr (.inl rfl)) (.set (.inl rfl) (by decide) (by decide))))
  | @row fs ne l7 al ih =>
    have hm : 1 + Fo.mus fs ≤ 16 := hm
    exact .row (by omega) (fun f m => ih f m (by have := mu_mem m; omega)) ((Dr.row (N := N) ne l7 al).len.mono hm)
  | @either fs ne l7 al ih =>
    have hm : 1 + Fo.mus fs ≤ 16 := hm
    exact .either (by simp [ltrs]) (by omega) fun f m => ih f m (by have := mu_mem m; omega)
theorem oks_of {N : List Str} {fs : List Fo} (h : ∀ f ∈ fs, f.ok N) : Fo.oks N fs := by
  induction fs with
  | nil => exact True.intro
  | cons f r ih => exact ⟨h f List.mem_cons_self, ih fun g m => h g (List.mem_cons_of_mem _ m)⟩
theorem Dr.ok {N : List Str} {f : Fo} (h : Dr N f) : f.ok N := by
  have one : ∀ {w : Str} {f : Fo} {r : List D}, w ∈ ([("skip" : Str), "spelt", "turned"] : List Str) → f.ok N → (Fo.one w f r).ok N := fun a b => ⟨a, b⟩
  have leaf : ∀ {w : Str} {r : List D}, w ∈ ([("text" : Str), "sign", "word", "number", "pick"] : List Str) → (Fo.leaf w r).ok N := fun a => a
  induction h with
  | text h => exact leaf (by decide)
  | set w m => rcases w with rfl | rfl <;> exact leaf (by decide)
  | number => exact leaf (by decide)
  | named m => exact m
  | pick _ _ => exact leaf (by decide)
  | spelt _ => exact one (by decide) (leaf (by decide))
  | speltP _ => exact one (by decide) (leaf (by decide))
  | turned m =>
    refine one (by decide) ?_
    simp only [turnedF, List.mem_cons, List.not_mem_nil, or_false, Prod.mk.injEq] at m
    rcases m with ⟨rfl, rfl⟩ | ⟨rfl, rfl⟩ | ⟨rfl, rfl⟩ | ⟨rfl, rfl⟩
    · exact leaf (by decide)
    · exact leaf (by decide)
    · exact leaf (by decide)
    · exact ⟨leaf (by decide), leaf (by decide), leaf (by decide), True.intro⟩
  | skip d ih => exact one (by decide) ih
  | counted h d ih => exact ih
  | again d ih => exact ih
  | betweenT h d ih => exact ⟨ih, leaf (by decide)⟩
  | betweenS d ih => exact ⟨ih, one (by decide) (one (by decide) (leaf (by decide)))⟩
  | row _ _ _ ih => exact oks_of ih
  | either _ _ _ ih => exact ⟨by simp [ltrs], oks_of ih⟩
end RT

set_option maxHeartbeats 1000000
namespace RT
open PySem PySem.Spec PyProof.Rows L2 LK
theorem inV_none : ∀ os : List (Option Str), inV .non (os.map oV) = os.any (·.isNone)
  | [] => rfl
  | o :: r => by
    have ih := inV_none r
    unfold inV at ih ⊢
    rw [List.map_cons, List.any_cons, List.any_cons, ih]
    cases o <;> rfl
theorem flat_oV (os : List (Option Str)) : (os.map oV).all flatV = true := by
  rw [List.all_eq_true]
  intro v hv
  obtain ⟨o, _, rfl⟩ := List.mem_map.mp hv
  cases o <;> rfl
theorem sum_len : ∀ zs : List Str, (zs.map (·.length)).sum = (Txt.join ("" : Str) zs).length
  | [] => rfl
  | z :: r => by rw [join_cons, app_len, List.map_cons, List.sum_cons, sum_len r]
section
variable {P : Program} {w : World} {K : PySem.W.Frag} {mg : Str → Option Value} {base : Heap}
def spJo (K : PySem.W.Frag) : Sp := fun vs H Q _ => ∃ (l : Addr) (os : List (Option Str)), vs = [.ref l] ∧ SqL K H l (os.map oV) ∧ (∀ t, catO os = some t → t.length ≤ 3000000) ∧ Q (oV (catO os)) H
theorem ok_jo {f : Addr} {fd : FuncData} {k : Nat} (F : Fun K "_joined" "_joined" sJo f fd) : FnOk P w K mg base CX0 (k + 1) f fd ["texts"] (spJo K) := by
  refine F.ok scJo (fun vs H Q E h => ?_) (fun cdv A outer sh H vs Q E hr h => ?_)
  · obtain ⟨l, os, rfl, _⟩ := h
    rfl
  · obtain ⟨l, os, rfl, hs, hl, q⟩ := h
    refine ⟨_, (pss_one (ps_ret (pe_ifExp (pt_cmpR op_in_seq pe_non (pv 0) (by rfl)) pe_non (pe_join pe_str (pv 0))))), ?_⟩
    refine ⟨_, rfl, l, _, rfl, .inl hs, rfl, flat_oV os, _, rfl, ?_⟩
    rw [inV_none]
    refine ite2 (fun c => ?_) (fun c => ?_)
    · have m : none ∈ os := by
        obtain ⟨o, ho, e⟩ := List.any_eq_true.mp c
        cases o with
        | none => exact ho
        | some _ => cases e
      rw [catO_none m] at q
      exact q
    · have al : ∃ zs : List Str, os = zs.map some := by
        have n : ∀ o ∈ os, o.isNone = false := fun o ho => by
          cases z : o.isNone with
          | false => rfl
          | true => exact absurd (List.any_eq_true.mpr ⟨o, ho, z⟩) c
        clear hs hl q c
        induction os with
        | nil => exact ⟨[], rfl⟩
        | cons o r ih =>
          obtain ⟨zs, e⟩ := ih fun x hx => n x (List.mem_cons_of_mem _ hx)
          have := n o List.mem_cons_self
          cases o with
          | none => cases this
          | some z => exact ⟨z :: zs, by rw [e]; rfl⟩
      obtain ⟨zs, rfl⟩ := al
      rw [catO_some] at q
      have e : (zs.map some).map oV = zs.map V.str := by rw [List.map_map]; rfl
      refine ⟨⟨_, rfl⟩, _, rfl, _, l, zs, rfl, rfl, .inl (by rw [← e]; exact hs), ?_, q⟩
      have := hl _ (catO_some zs)
      rw [sum_len]
      show _ + _ * 0 ≤ _
      omega
def spLe (T : List (Addr × Str)) (K : PySem.W.Frag) : Sp := fun vs H Q _ => ∃ (l : Addr) (os : List (Option Str)), vs = [.ref l] ∧ SqL K H l (os.map oV) ∧ os.length ≤ 1000 ∧ (∀ z, some z ∈ os → z.length ≤ sizeLine) ∧ LamX.Tabs T H ∧
  ∀ (H' : Hp), LamX.ExtN H H' → LamX.Tabs T H' → Q (oV (leastO os)) H'
theorem ok_le {T : List (Addr × Str)} {f fl : Addr} {fd fdl : FuncData} {k : Nat} (F : Fun K "_least" "_least" sLe f fd) (GLf : FnOk P w K mg base CX0 k fl fdl ["texts"] (spLf T K)) (klf : PySem.W.keepIn K (.ref fl) = true) (blf : Binds K fdl ["texts"] []) (glf : mg "lesser_first" = some (.ref fl)) :
    FnOk P w K mg base CX0 (k + 1) f fd ["texts"] (spLe T K) := by
  refine F.ok scLe (fun vs H Q E h => ?_) (fun cdv A outer sh H vs Q E hr h => ?_)
  · obtain ⟨l, os, rfl, _⟩ := h
    rfl
  · obtain ⟨l, os, rfl, hs, hl, hz, hT, q⟩ := h
    refine ⟨_, (pss_cons (ps_set (i := 1) scLe.nd rfl (.inl rfl) (pe_call GLf hr (by rfl) glf klf blf .nil pass0 (pa_cons (pe_lc (own := [("text", 2)]) (g := gName 2) rfl scLe.nd (pi_list (pv 0)) (blkOk_by (N := ["texts", "found", "text"]) (sc := defScope sLe) (by decide +kernel)) (fun _ _ _ _ _ => (pg_name (i := 2) scLe.nd rfl (.inl rfl))) (fun _ _ _ _ _ => (pts_one (pt_cmpR op_notN (pv 2) pe_non (nomark _)))) (fun _ _ _ _ _ => (pv 2))) pa_nil)))
      (pss_one (ps_ret (pe_ifExp (pt_truth (pv 1) (by intro _; rfl)) (pe_ix ix_list (pv 1) pe_int (fun _ _ => rfl)) pe_non)))), ?_⟩
    refine ⟨_, rfl, l, rfl, ⟨_, hs⟩, fun D nD => ?_⟩
    refine lc_list (K := K) (a := l) (xs := os.map oV) (fun i H4 => i ≤ os.length ∧ Kp M0 H H4 ∧ H4 D = some (.lst (((os.take i).filterMap id).map V.str))) ?_ ?_ ?_ ?_
    · exact ⟨Nat.zero_le _, Kp.new nD, upd_same⟩
    · exact fun i H4 _ h => sqL_keep h.2.1 hs
    · rintro i x H4 hx ⟨hi, k4, e4⟩
      rw [List.getElem?_map] at hx
      obtain ⟨o, eo, rfl⟩ := Option.map_eq_some_iff.mp hx
      have lt := (List.getElem?_eq_some_iff.mp eo).1
      have tk : os.take (i + 1) = os.take i ++ [o] := by rw [List.take_add_one, eo]; rfl
      refine ⟨rfl, _, rfl, rfl, _, rfl, ?_⟩
      cases o with
      | none => exact iteF ⟨lt, k4, by rw [tk, List.filterMap_append, e4]; simp⟩
      | some z =>
        refine iteT ⟨_, rfl, _, e4, ?_, lt, k4.own nD, ?_⟩
        · rw [List.length_map]
          refine Nat.lt_of_le_of_lt (List.length_filterMap_le _ _) ?_
          rw [List.length_take, sizeLine_eq]
          omega
        · rw [upd_same, tk, List.filterMap_append, List.map_append]
          rfl
    · rintro H4 ⟨_, k4, e4⟩
      rw [List.length_map, List.take_length] at e4
      have T4 : LamX.Tabs T H4 := hT.ext fun b o e => k4 b o (fun z => z) e
      refine ⟨D, os.filterMap id, rfl, SqL.of e4, T4, fun z mz => ?_, fun p ys H5 x5 T5 e5 pm sr => ?_⟩
      · obtain ⟨o, mo, eo⟩ := List.mem_filterMap.mp mz
        have eo : o = some z := eo
        exact hz z (by rw [← eo]; exact mo)
      have fin := q H5 (fun b o e n => x5 b o (k4 b o (fun z => z) e) n) T5
      refine ⟨_, rfl, _, .inl ⟨_, SqL.of e5, rfl⟩, ?_⟩
      have mem : ∀ z, z ∈ ys ↔ some z ∈ os := fun z => by
        rw [pm.mem_iff, List.mem_filterMap]
        exact ⟨fun ⟨o, a, b⟩ => by have b : o = some z := b; rw [← b]; exact a, fun h => ⟨_, h, rfl⟩⟩
      cases ys with
      | nil =>
        refine iteF ?_
        have : leastO os = none := IsMin.uniq (leastO_min os) ⟨fun o ho => by
          cases o with
          | none => exact True.intro
          | some z => exact absurd ((mem z).mpr ho) List.not_mem_nil, .inl rfl⟩
        rw [this] at fin
        exact fin
      | cons y r =>
        refine iteT ?_
        have : leastO os = some y := IsMin.uniq (leastO_min os) ⟨fun o ho => by
          cases o with
          | none => exact none_le
          | some z =>
            rcases List.mem_cons.mp ((mem z).mpr ho) with rfl | h
            · exact LeO.refl _
            · exact leO_of ((List.pairwise_cons.mp sr).1 z h), .inr ((mem y).mp List.mem_cons_self)⟩
        rw [this] at fin
        exact ⟨_, rfl, p, _, 0, .str y, rfl, rfl, SqL.of e5, atI_nat (j := 0) rfl, fin⟩
end
end RT

set_option maxHeartbeats 1000000
namespace RT
open PySem PySem.Spec PyProof.Rows L2 LK
theorem Rp.tupE {H : Hp} {v : V} {ds : List D} (r : Rp H v (.tup ds)) : ∃ (a : Addr) (vs : List V), v = .ref a ∧ H a = some (.tup vs) ∧ Rps H vs ds := by
  cases r with
  | tup e r => exact ⟨_, _, rfl, e, r⟩
theorem Rps.one {H : Hp} {vs : List V} {d : D} (r : Rps H vs [d]) : ∃ v, vs = [v] ∧ Rp H v d := by
  cases r with
  | cons a b => cases b; exact ⟨_, rfl, a⟩
theorem Rps.two {H : Hp} {vs : List V} {d e : D} (r : Rps H vs [d, e]) : ∃ v w, vs = [v, w] ∧ Rp H v d ∧ Rp H w e := by
  cases r with
  | cons a b =>
    obtain ⟨w, rfl, q⟩ := b.one
    exact ⟨_, w, rfl, a, q⟩
theorem Rps.three {H : Hp} {vs : List V} {d e f : D} (r : Rps H vs [d, e, f]) : ∃ v w u, vs = [v, w, u] ∧ Rp H v d ∧ Rp H w e ∧ Rp H u f := by
  cases r with
  | cons a b =>
    obtain ⟨w, u, rfl, q⟩ := b.two
    exact ⟨_, w, u, rfl, a, q⟩
theorem Rp.strE {H : Hp} {v : V} {z : Str} (r : Rp H v (.str z)) : v = .str z ∧ z.length ≤ sizeLine := by
  cases r with
  | str h => exact ⟨rfl, h⟩
abbrev sInner : Stmt := topS 1
theorem scInner : FnScope ["form", "word", "_", "inner"] ["form"] (defScope sInner) := ⟨rfl, rfl, rfl, by decide +kernel, rfl, by decide +kernel, by decide +kernel⟩
theorem none_upd {H : Hp} {p l : Addr} {o : HO} (h : upd H p o l = none) : H l = none := by
  unfold upd at h
  split at h
  · cases h
  · exact h
theorem enc_ref {H : Hp} {v : V} {f : Fo} (r : Rp H v f.enc) : ∃ a, v = .ref a := by
  cases f <;> (cases r; exact ⟨_, rfl⟩)
theorem encs_map : ∀ fs : List Fo, Fo.encs fs = fs.map Fo.enc
  | [] => rfl
  | f :: r => by
    rw [List.map_cons, ← encs_map r]
    rfl
theorem encs_app (fs gs : List Fo) : Fo.encs (fs ++ gs) = Fo.encs fs ++ Fo.encs gs := Fo.encs_app fs gs
theorem sizes_len : ∀ fs : List Fo, fs.length ≤ Fo.sizes fs
  | [] => Nat.le_refl _
  | f :: r => by
    have h := sizes_len r
    have k := f.size_pos
    simp only [Fo.sizes, List.length_cons]
    omega
section
variable {P : Program} {w : World} {K : PySem.W.Frag} {mg : Str → Option Value} {base : Heap}
def spInner (N : List Str) : Sp := fun vs H Q _ => ∃ (v : V) (f : Fo), vs = [v] ∧ Rp H v f.enc ∧ f.ok N ∧ f.size ≤ 100000 ∧
  ∀ (us : List V) (l : Addr) (H' : Hp), H l = none → H' l = some (.lst us) → Rps H' us (Fo.encs f.inner) → Kp M0 H H' → Q (.ref l) H'
theorem ok_inner {N : List Str} {f : Addr} {fd : FuncData} {k : Nat} (F : Fun K "inner_forms" "inner_forms" sInner f fd) (mli : mg "list" = none) : FnOk P w K mg base CX0 (k + 1) f fd ["form"] (spInner N) := by
  refine F.ok scInner (fun vs H Q E h => ?_) (fun cdv A outer s H vs Q E hr h => ?_)
  · obtain ⟨v, f, rfl, _⟩ := h
    rfl
  · obtain ⟨v, fo, rfl, hR, hok, hsz, q⟩ := h
    refine ⟨_, (pss_cons (ps_set (i := 1) scInner.nd rfl (.inl rfl) (pe_ix ix_tup (pv 0) pe_int (fun _ _ => rfl)))
      (pss_cons (ps_if (pt_cmpR op_in_seq (pv 1) (pe_tup (pa_cons pe_str (pa_cons pe_str (pa_cons pe_str pa_nil)))) (by rfl)) (pss_one (ps_ret (pe_lst (pa_cons (pe_ix ix_tup (pv 0) pe_int (fun _ _ => rfl)) pa_nil)))) pss_nil)
      (pss_cons (ps_if (pt_cmpR op_eq (pv 1) pe_str (nomark _)) (pss_one (ps_ret (pe_callTy call_list_of (by rfl) mli (by decide +kernel) (pa_cons (pe_ix ix_tup (pv 0) pe_int (fun _ _ => rfl)) pa_nil)))) pss_nil)
      (pss_cons (ps_if (pt_cmpR op_eq (pv 1) pe_str (nomark _)) (pss_one (ps_ret (pe_lc (own := [("_", 2), ("inner", 3)]) (g := gTup K 2 (gCons (gName 2) (gCons (gName 3) gNil))) (tt := tYes) rfl scInner.nd (pi_tup (pe_ix ix_tup (pv 0) pe_int (fun _ _ => rfl))) (blkOk_by (N := ["form", "word", "_", "inner"]) (sc := defScope sInner) (by decide +kernel)) (fun _ _ _ _ _ => (pg_tup rfl (pgs_cons (pg_name (i := 2) scInner.nd rfl (.inl rfl)) (pgs_cons (pg_name (i := 3) scInner.nd rfl (.inl rfl)) pgs_nil)))) (fun _ _ _ _ _ => pts_nil) (fun _ _ _ _ _ => (pv 3))))) pss_nil)
      (pss_cons (ps_if (pt_cmpR op_eq (pv 1) pe_str (nomark _)) (pss_one (ps_ret (pe_ifExp (pt_cmpR op_isN (pe_ix ix_tup (pv 0) pe_int (fun _ _ => rfl)) pe_non (nomark _)) (pe_lst (pa_cons (pe_ix ix_tup (pv 0) pe_int (fun _ _ => rfl)) pa_nil)) (pe_lst (pa_cons (pe_ix ix_tup (pv 0) pe_int (fun _ _ => rfl)) (pa_cons (pe_ix ix_tup (pv 0) pe_int (fun _ _ => rfl)) pa_nil)))))) pss_nil)
      (pss_cons (ps_if (pt_cmpR op_eq (pv 1) pe_str (nomark _)) (pss_one (ps_ret (pe_lst (pa_cons (pe_ix ix_tup (pv 0) pe_int (fun _ _ => rfl)) pa_nil)))) pss_nil)
      (pss_one (ps_ret (pe_lst pa_nil))))))))), ?_⟩
    have noT : ∀ (H : Hp) (a : Addr) xs, M0 a → H a ≠ some (.tup xs) := fun _ _ _ z => z.elim
    have new : ∀ {H : Hp} {p : Addr} {o : HO} {v : V} {d : D}, H p = none → Rp H v d → Rp (upd H p o) v d := fun n r => r.keep (Kp.new (M := M0) n) (noT _)
    -- the word and the first test
    have go : ∀ (w : Str) (ds : List D), fo.enc = .tup (.str w :: ds) → ∃ (a : Addr) (us : List V), v = .ref a ∧ H a = some (.tup (.str w :: us)) ∧ Rps H us ds := fun w ds e => by
      rw [e] at hR
      cases hR with
      | tup e1 r =>
        cases r with
        | cons r1 r2 =>
          cases r1
          exact ⟨_, _, rfl, e1, r2⟩
    have nT : ∀ {p a : Addr} {o : HO} {us : List V}, H p = none → H a = some (.tup us) → upd H p o a = some (.tup us) := fun n e => by rw [upd_ne (ne_of_none e n)]; exact e
    have fin : ∀ {p l : Addr} {o : HO} (us : List V), H p = none → upd H p o l = none → Rps H us (Fo.encs fo.inner) → Q (.ref l) (upd (upd H p o) l (.lst us)) := fun us n1 n2 r =>
      q us _ _ (none_upd n2) upd_same ((r.keep (Kp.new (M := M0) n1) (noT _)).keep (Kp.new (M := M0) n2) (noT _)) ((Kp.new n1).trans (Kp.new n2))
    cases fo with
    | leaf w r =>
      obtain ⟨a, us, rfl, ea, ru⟩ := go w r rfl
      have five : w ∈ ([("text" : Str), "sign", "word", "number", "pick"] : List Str) := hok
      simp only [List.mem_cons, List.not_mem_nil, or_false] at five
      rcases five with rfl | rfl | rfl | rfl | rfl <;>
      · refine ⟨_, rfl, a, _, 0, .str _, rfl, rfl, SqT.of ea, atI_nat (j := 0) rfl, ?_⟩
        refine ⟨_, rfl, by show 3 ≤ sizeLine; decide, fun p np => ⟨p, _, rfl, .inr (SqT.of upd_same), rfl, rfl, _, rfl, iteF' (by decide) ?_⟩⟩
        refine ⟨_, rfl, rfl, _, rfl, iteF' (by decide) ?_⟩
        refine ⟨_, rfl, rfl, _, rfl, iteF' (by decide) ?_⟩
        refine ⟨_, rfl, rfl, _, rfl, iteF' (by decide) ?_⟩
        refine ⟨_, rfl, rfl, _, rfl, iteF' (by decide) ?_⟩
        exact ⟨Nat.zero_le _, fun l nl => fin [] np nl .nil⟩
    | named x =>
      obtain ⟨a, us, rfl, ea, ru⟩ := go "named" _ rfl
      refine ⟨_, rfl, a, _, 0, .str _, rfl, rfl, SqT.of ea, atI_nat (j := 0) rfl, ?_⟩
      refine ⟨_, rfl, by show 3 ≤ sizeLine; decide, fun p np => ⟨p, _, rfl, .inr (SqT.of upd_same), rfl, rfl, _, rfl, iteF' (by decide) ?_⟩⟩
      refine ⟨_, rfl, rfl, _, rfl, iteF' (by decide) ?_⟩
      refine ⟨_, rfl, rfl, _, rfl, iteF' (by decide) ?_⟩
      refine ⟨_, rfl, rfl, _, rfl, iteF' (by decide) ?_⟩
      refine ⟨_, rfl, rfl, _, rfl, iteF' (by decide) ?_⟩
      exact ⟨Nat.zero_le _, fun l nl => fin [] np nl .nil⟩
    | one w f r =>
      obtain ⟨a, us, rfl, ea, ru⟩ := go w _ rfl
      cases ru with
      | cons r1 r2 =>
        have three : w ∈ ([("skip" : Str), "spelt", "turned"] : List Str) := hok.1
        simp only [List.mem_cons, List.not_mem_nil, or_false] at three
        rcases three with rfl | rfl | rfl <;>
        · refine ⟨_, rfl, a, _, 0, .str _, rfl, rfl, SqT.of ea, atI_nat (j := 0) rfl, ?_⟩
          refine ⟨_, rfl, by show 3 ≤ sizeLine; decide, fun p np => ⟨p, _, rfl, .inr (SqT.of upd_same), rfl, rfl, _, rfl, iteT' (by decide) ?_⟩⟩
          exact ⟨_, rfl, a, _, 1, _, rfl, rfl, SqT.of (nT np ea), atI_nat (j := 1) rfl, by show 1 ≤ sizeLine; decide, fun l nl => fin [_] np nl (.cons r1 .nil)⟩
    | row fs =>
      obtain ⟨a, us, rfl, ea, ru⟩ := go "row" _ rfl
      cases ru with
      | cons r1 r2 =>
        cases r1 with
        | tup eb rs =>
          refine ⟨_, rfl, a, _, 0, .str _, rfl, rfl, SqT.of ea, atI_nat (j := 0) rfl, ?_⟩
          refine ⟨_, rfl, by show 3 ≤ sizeLine; decide, fun p np => ⟨p, _, rfl, .inr (SqT.of upd_same), rfl, rfl, _, rfl, iteF' (by decide) ?_⟩⟩
          refine ⟨_, rfl, rfl, _, rfl, iteT' (by decide) ?_⟩
          exact ⟨_, rfl, a, _, 1, _, rfl, rfl, SqT.of (nT np ea), atI_nat (j := 1) rfl, _, _, rfl, .inr (SqT.of (nT np eb)), fun l nl => fin _ np nl rs⟩
    | again f =>
      obtain ⟨a, us, rfl, ea, ru⟩ := go "again" _ rfl
      cases ru with
      | cons r1 r2 =>
        cases r2 with
        | cons r3 r4 =>
          cases r3
          refine ⟨_, rfl, a, _, 0, .str _, rfl, rfl, SqT.of ea, atI_nat (j := 0) rfl, ?_⟩
          refine ⟨_, rfl, by show 3 ≤ sizeLine; decide, fun p np => ⟨p, _, rfl, .inr (SqT.of upd_same), rfl, rfl, _, rfl, iteF' (by decide) ?_⟩⟩
          refine ⟨_, rfl, rfl, _, rfl, iteF' (by decide) ?_⟩
          refine ⟨_, rfl, rfl, _, rfl, iteF' (by decide) ?_⟩
          refine ⟨_, rfl, rfl, _, rfl, iteT' (by decide) ?_⟩
          refine ⟨_, rfl, a, _, 2, .non, rfl, rfl, SqT.of (nT np ea), atI_nat (j := 2) rfl, rfl, _, rfl, iteT' (by decide) ?_⟩
          exact ⟨_, rfl, a, _, 1, _, rfl, rfl, SqT.of (nT np ea), atI_nat (j := 1) rfl, by show 1 ≤ sizeLine; decide, fun l nl => fin [_] np nl (.cons r1 .nil)⟩
    | between f g =>
      obtain ⟨a, us, rfl, ea, ru⟩ := go "again" _ rfl
      cases ru with
      | cons r1 r2 =>
        cases r2 with
        | cons r3 r4 =>
          cases r4
          obtain ⟨c, rfl⟩ := enc_ref r3
          refine ⟨_, rfl, a, _, 0, .str _, rfl, rfl, SqT.of ea, atI_nat (j := 0) rfl, ?_⟩
          refine ⟨_, rfl, by show 3 ≤ sizeLine; decide, fun p np => ⟨p, _, rfl, .inr (SqT.of upd_same), rfl, rfl, _, rfl, iteF' (by decide) ?_⟩⟩
          refine ⟨_, rfl, rfl, _, rfl, iteF' (by decide) ?_⟩
          refine ⟨_, rfl, rfl, _, rfl, iteF' (by decide) ?_⟩
          refine ⟨_, rfl, rfl, _, rfl, iteT' (by decide) ?_⟩
          refine ⟨_, rfl, a, _, 2, .ref c, rfl, rfl, SqT.of (nT np ea), atI_nat (j := 2) rfl, rfl, _, rfl, iteF' (decide_eq_false fun z => by cases z) ?_⟩
          exact ⟨_, rfl, a, _, 1, _, rfl, rfl, SqT.of (nT np ea), atI_nat (j := 1) rfl, _, rfl, a, _, 2, _, rfl, rfl, SqT.of (nT np ea), atI_nat (j := 2) rfl, by show 2 ≤ sizeLine; decide, fun l nl => fin [_, _] np nl (.cons r1 (.cons r3 .nil))⟩
    | counted z f =>
      obtain ⟨a, us, rfl, ea, ru⟩ := go "counted" _ rfl
      cases ru with
      | cons r1 r2 =>
        cases r2 with
        | cons r3 r4 =>
          refine ⟨_, rfl, a, _, 0, .str _, rfl, rfl, SqT.of ea, atI_nat (j := 0) rfl, ?_⟩
          refine ⟨_, rfl, by show 3 ≤ sizeLine; decide, fun p np => ⟨p, _, rfl, .inr (SqT.of upd_same), rfl, rfl, _, rfl, iteF' (by decide) ?_⟩⟩
          refine ⟨_, rfl, rfl, _, rfl, iteF' (by decide) ?_⟩
          refine ⟨_, rfl, rfl, _, rfl, iteF' (by decide) ?_⟩
          refine ⟨_, rfl, rfl, _, rfl, iteF' (by decide) ?_⟩
          refine ⟨_, rfl, rfl, _, rfl, iteT' (by decide) ?_⟩
          exact ⟨_, rfl, a, _, 2, _, rfl, rfl, SqT.of (nT np ea), atI_nat (j := 2) rfl, by show 1 ≤ sizeLine; decide, fun l nl => fin [_] np nl (.cons r3 .nil)⟩
    | either ns fs =>
      obtain ⟨a, us, rfl, ea, ru⟩ := go "either" _ rfl
      cases ru with
      | cons r1 r2 =>
        cases r1 with
        | @tup b ws _ eb rs =>
          refine ⟨_, rfl, a, _, 0, .str _, rfl, rfl, SqT.of ea, atI_nat (j := 0) rfl, ?_⟩
          refine ⟨_, rfl, by show 3 ≤ sizeLine; decide, fun p np => ⟨p, _, rfl, .inr (SqT.of upd_same), rfl, rfl, _, rfl, iteF' (by decide) ?_⟩⟩
          refine ⟨_, rfl, rfl, _, rfl, iteF' (by decide) ?_⟩
          refine ⟨_, rfl, rfl, _, rfl, iteT' (by decide) ?_⟩
          refine ⟨_, rfl, a, _, 1, .ref b, rfl, rfl, SqT.of (nT np ea), atI_nat (j := 1) rfl, b, rfl, ⟨_, SqT.of (nT np eb)⟩, fun D nD => ?_⟩
          have hl : ns.length = fs.length := hok.1
          have lw : ws.length = fs.length := by
            rw [rs.len, List.length_zipWith, encs_map, List.length_map]
            omega
          refine lc_tup (xs := ws) (fun i H4 => Kp M0 (upd H p (.tup [.str "skip", .str "spelt", .str "turned"])) H4 ∧ ∃ acc, H4 D = some (.lst acc) ∧ acc.length = i ∧ Rps H4 acc (Fo.encs (fs.take i))) ?_ ?_ ?_ ?_
          · exact ⟨Kp.new nD, [], upd_same, rfl, by rw [List.take_zero]; exact .nil⟩
          · exact fun i H4 _ h => SqT.of (h.1 _ _ (fun z => z) (nT np eb))
          · rintro i x H4 hx ⟨k4, acc, e4, la, ra⟩
            obtain ⟨d, hd, rd⟩ := rs.get i x hx
            have hi : i < fs.length := by
              rw [← lw]
              exact (List.getElem?_eq_some_iff.mp hx).1
            have hn : ns[i]? = some ns[i] := List.getElem?_eq_getElem (by omega)
            have hf : fs[i]? = some fs[i] := List.getElem?_eq_getElem hi
            rw [List.getElem?_zipWith, hn, encs_map, List.getElem?_map, hf] at hd
            cases hd
            cases rd with
            | @tup c vs2 _ ec rc =>
              cases rc with
              | cons c1 c2 =>
                cases c2 with
                | cons c3 c4 =>
                  cases c4
                  refine ⟨c, _, rfl, SqT.of (k4 _ _ (fun z => z) (nT np ec)), rfl, _, _, rfl, _, _, rfl, rfl, rfl, tYes_ok (iteT ⟨_, rfl, acc, e4, ?_, ?_⟩)⟩
                  · have := Fo.inner_size (.either ns fs)
                    have hsz2 : (Fo.either ns fs).size ≤ 100000 := hsz
                    have lf := sizes_len fs
                    simp only [Fo.inner] at this
                    rw [la, sizeLine_eq]
                    omega
                  · refine ⟨fun b u n e => ?_, _, upd_same, by rw [List.length_append, la]; rfl, ?_⟩
                    · rw [upd_ne (ne_of_none e nD)]
                      exact k4 b u n e
                    · rw [List.take_add_one, hf, encs_app]
                      refine Rps.app (ra.keep (M := fun b => b = D) (Kp.put rfl) (fun a xs m e => ?_)) (.cons ?_ .nil)
                      · rw [m, e4] at e
                        cases e
                      · refine ((new np c3).keep k4 (noT _)).keep (M := fun b => b = D) (Kp.put rfl) (fun a xs m e => ?_)
                        rw [m, e4] at e
                        cases e
          · rintro H4 ⟨k4, acc, e4, la, ra⟩
            rw [lw, List.take_length] at ra
            exact q acc D H4 (none_upd nD) e4 ra ((Kp.new np).trans k4)
end
abbrev sTab : Stmt := topS 3
theorem scTab : FnScope ["book", "name", "form"] ["book"] (defScope sTab) := ⟨rfl, rfl, rfl, by decide +kernel, rfl, by decide +kernel, by decide +kernel⟩
/-- a dict of the names' forms, in the rows' order -/
def TabAt (H : Hp) (a : Addr) (tb : List (Str × Fo)) : Prop := ∃ us : List V, H a = some (.dK (List.zipWith (fun (x : Str × Fo) u => ((.inr x.1 : L2.Key), u)) tb us)) ∧ us.length = tb.length ∧ ∀ (j : Nat) (u : V) (x : Str × Fo), us[j]? = some u → tb[j]? = some x → Rp H u x.2.enc
def rowD (r : Str × Fo) : D := .tup [.str r.1, r.2.enc]
def bookD (s0 : Str) (tb : List (Str × Fo)) : D := .tup [.str s0, .tup (tb.map rowD)]
theorem zip_val : ∀ {tb : List (Str × Fo)} {us : List V} {i : Nat} {x : Str} {f : Fo} {u : V}, (tb.map (·.1)).Nodup → tb[i]? = some (x, f) → us[i]? = some u → valV (List.zipWith (fun (x : Str × Fo) u => ((.inr x.1 : L2.Key), u)) tb us) (.inr x) = some u
  | [], _, _, _, _, _, _, h, _ => by simp at h
  | _ :: _, [], _, _, _, _, _, _, h => by simp at h
  | (y, g) :: tb, v :: us, 0, x, f, u, _, h1, h2 => by
    cases h1
    cases h2
    exact valV_pos rfl
  | (y, g) :: tb, v :: us, i + 1, x, f, u, nd, h1, h2 => by
    have h1 : tb[i]? = some (x, f) := by simpa using h1
    have h2 : us[i]? = some u := by simpa using h2
    have ih := zip_val (List.nodup_cons.mp nd).2 h1 h2
    have ne : ¬ y = x := fun e => (List.nodup_cons.mp nd).1 (by
      show y ∈ tb.map (·.1)
      rw [e]
      exact List.mem_map.mpr ⟨_, List.mem_of_getElem? h1, rfl⟩)
    show valV (((.inr y : L2.Key), v) :: List.zipWith (fun (x : Str × Fo) u => ((.inr x.1 : L2.Key), u)) tb us) (.inr x) = some u
    rw [valV_neg (fun z => ne (Sum.inr.inj z))]
    exact ih
theorem FnOk.ex {P : Program} {w : World} {K : PySem.W.Frag} {mg : Str → Option Value} {base : Heap} {α : Type} {k : Nat} {f : Addr} {fd : FuncData} {ps : List Str} {sp : α → Sp} (h0 : ∀ a, FnOk P w K mg base CX0 k f fd ps (sp a)) : FnOk P w K mg base CX0 k f fd ps (fun vs H Q E => ∃ a, sp a vs H Q E) :=
  ⟨fun vs H Q E ⟨a, h⟩ => (h0 a).len vs H Q E h, fun A outer s H args us vs Q E hr h1 h2 h3 ⟨a, h⟩ => (h0 a).run A outer s H args us vs Q E hr h1 h2 h3 h⟩
/-- the book on the heap; its rows are a tuple with nothing of its own -/
structure BkAt (H : Hp) (ba rows : Addr) (ps : List V) (s0 : Str) (tb : List (Str × Fo)) : Prop where
  eb : H ba = some (.tup [.str s0, .ref rows])
  er : ∃ o : Obj, H rows = some (.frz o (.tup ps)) ∧ o.cls = .type "tuple" ∧ o.dict = none
  len : ps.length = tb.length
  row : ∀ (i : Nat) (x : V), ps[i]? = some x → ∃ (n : Str) (f : Fo) (p : Addr) (u : V), tb[i]? = some (n, f) ∧ x = .ref p ∧ H p = some (.tup [.str n, u]) ∧ Rp H u f.enc
/-- tuples stay, and such of which more is known -/
def Fz (H H' : Hp) : Prop := TS H H' ∧ ∀ (b : Addr) (o : Obj) (vs : List V), H b = some (.frz o (.tup vs)) → H' b = some (.frz o (.tup vs))
theorem fz0 {H H' : Hp} (k : Kp M0 H H') : Fz H H' := ⟨ts0 k, fun b _ _ e => k b _ (fun z => z) e⟩
theorem BkAt.fz {H H' : Hp} {ba rows : Addr} {ps : List V} {s0 : Str} {tb : List (Str × Fo)} (b : BkAt H ba rows ps s0 tb) (k : Fz H H') : BkAt H' ba rows ps s0 tb :=
  ⟨k.1 _ _ b.eb, let ⟨o, e, r⟩ := b.er; ⟨o, k.2 _ _ _ e, r⟩, b.len, fun i x hx => let ⟨n, f, p, u, h1, h2, h3, h4⟩ := b.row i x hx; ⟨n, f, p, u, h1, h2, k.1 _ _ h3, h4.ts k.1⟩⟩
theorem BkAt.sq {K : PySem.W.Frag} {H : Hp} {ba rows : Addr} {ps : List V} {s0 : Str} {tb : List (Str × Fo)} (b : BkAt H ba rows ps s0 tb) : SqT K H rows ps := let ⟨o, e, _⟩ := b.er; .inl (.inr ⟨o, e⟩)
def BkA (H : Hp) (v : V) (s0 : Str) (tb : List (Str × Fo)) : Prop := ∃ (ba rows : Addr) (ps : List V), v = .ref ba ∧ BkAt H ba rows ps s0 tb
theorem BkA.fz {H H' : Hp} {v : V} {s0 : Str} {tb : List (Str × Fo)} (b : BkA H v s0 tb) (k : Fz H H') : BkA H' v s0 tb := let ⟨ba, rows, ps, e, h⟩ := b; ⟨ba, rows, ps, e, h.fz k⟩
section
variable {P : Program} {w : World} {K : PySem.W.Frag} {mg : Str → Option Value} {base : Heap}
def spTab : Sp := fun vs H Q _ => ∃ (v : V) (s0 : Str) (tb : List (Str × Fo)), vs = [v] ∧ BkA H v s0 tb ∧ (tb.map (·.1)).Nodup ∧ tb.length ≤ 1000 ∧
  ∀ (d : Addr) (H' : Hp), H d = none → TabAt H' d tb → Kp M0 H H' → Q (.ref d) H'
theorem ok_tab {f : Addr} {fd : FuncData} {k : Nat} (F : Fun K "form_table" "form_table" sTab f fd) : FnOk P w K mg base CX0 (k + 1) f fd ["book"] spTab := by
  refine F.ok scTab (fun vs H Q E h => ?_) (fun cdv A outer s H vs Q E hr h => ?_)
  · obtain ⟨v, s0, tb, rfl, _⟩ := h
    rfl
  · obtain ⟨v, s0, tb, rfl, rv, nd, few, q⟩ := h
    obtain ⟨b, rows, ps, rfl, bk⟩ := rv
    have eb := bk.eb
    have row := bk.row
    have lp := bk.len
    refine ⟨_, (pss_one (ps_ret (pe_dc (own := [("name", 1), ("form", 2)]) (g := gTup K 2 (gCons (gName 1) (gCons (gName 2) gNil))) (tt := tYes) rfl scTab.nd (pi_tup (pe_ix ix_tup (pv 0) pe_int (fun _ _ => rfl))) (blkOk_by (N := ["book", "name", "form"]) (sc := defScope sTab) (by decide +kernel))
      (fun _ _ _ _ _ => (pg_tup rfl (pgs_cons (pg_name (i := 1) scTab.nd rfl (.inl rfl)) (pgs_cons (pg_name (i := 2) scTab.nd rfl (.inl rfl)) pgs_nil)))) (fun _ _ _ _ _ => pts_nil) (fun _ _ _ _ _ => (pv 1)) (fun _ _ _ _ _ => (pv 2))))), ?_⟩
    refine ⟨_, rfl, b, _, 1, .ref rows, rfl, rfl, SqT.of eb, atI_nat (j := 1) rfl, rows, rfl, ⟨_, bk.sq⟩, fun D nD => ?_⟩
    refine dc_tup (xs := ps) (fun i H4 => Kp M0 H H4 ∧ ∃ us : List V, H4 D = some (.dK (List.zipWith (fun (x : Str × Fo) u => ((.inr x.1 : L2.Key), u)) (tb.take i) us)) ∧ us.length = i ∧ i ≤ tb.length ∧ ∀ (j : Nat) (u : V) (x : Str × Fo), us[j]? = some u → tb[j]? = some x → Rp H u x.2.enc) ?_ ?_ ?_ ?_
    · exact ⟨Kp.new nD, [], by rw [upd_same, List.take_zero]; rfl, rfl, Nat.zero_le _, fun j u x e => by simp at e⟩
    · exact fun i H4 _ h => (bk.fz (fz0 h.1)).sq
    · rintro i x H4 hx ⟨k4, us, e4, lu, li, hu⟩
      obtain ⟨n, f, p, u, hb, rfl, ep, ru⟩ := row i x hx
      have hi := (List.getElem?_eq_some_iff.mp hb).1
      have tk : tb.take (i + 1) = tb.take i ++ [(n, f)] := by rw [List.take_add_one, hb]; rfl
      refine ⟨p, _, rfl, SqT.of (k4 _ _ (fun z => z) ep), rfl, _, _, rfl, _, _, rfl, rfl, rfl, tYes_ok (iteT ⟨_, rfl, _, rfl, _, .inr n, rfl, e4, ?_, fun b u n e => ?_, us ++ [u], ?_, ?_, hi, ?_⟩)⟩
      · rw [List.length_zipWith, List.length_take, lu, sizeLine_eq]
        omega
      · rw [upd_ne (ne_of_none e nD)]
        exact k4 b u n e
      · rw [upd_same, putK_new, tk, List.zipWith_append (by rw [List.length_take, lu]; omega)]
        · rfl
        · intro y hy e
          obtain ⟨j, hj⟩ := List.mem_iff_getElem?.mp hy
          have jl : j < i := by
            have z := (List.getElem?_eq_some_iff.mp hj).1
            rw [List.length_zipWith, lu] at z
            omega
          rw [List.getElem?_zipWith, List.getElem?_take_of_lt jl, List.getElem?_eq_getElem (show j < tb.length by omega), List.getElem?_eq_getElem (show j < us.length by omega)] at hj
          cases hj
          have ne := List.pairwise_iff_getElem.mp (List.nodup_iff_pairwise_ne.mp nd) j i (by rw [List.length_map]; omega) (by rw [List.length_map]; exact hi) jl
          rw [List.getElem_map, List.getElem_map, (List.getElem?_eq_some_iff.mp hb).2] at ne
          exact ne (Sum.inr.inj e)
      · rw [List.length_append, lu]
        rfl
      · intro j v x e1 e2
        by_cases cj : j < us.length
        · rw [List.getElem?_append_left cj] at e1
          exact hu j v x e1 e2
        · rw [List.getElem?_append_right (by omega)] at e1
          have z : j - us.length = 0 := by
            have q := (List.getElem?_eq_some_iff.mp e1).1
            rw [List.length_singleton] at q
            omega
          rw [z] at e1
          cases e1
          have ej : j = i := by omega
          rw [ej, hb] at e2
          cases e2
          exact ru
    · rintro H4 ⟨k4, us, e4, lu, li, hu⟩
      rw [lp, List.take_length] at e4
      exact q D H4 nD ⟨us, e4, by omega, fun j u x h1 h2 => (hu j u x h1 h2).ts fun b vs e => k4 _ _ (fun z => z) e⟩ k4
end
end RT

set_option maxHeartbeats 1000000
namespace RT
open PySem PySem.Spec PyProof.Rows L2 LK
abbrev sIi : Stmt := topS 11
abbrev sTl : Stmt := topS 17
theorem scIi : FnScope ["item"] ["item"] (defScope sIi) := ⟨rfl, rfl, rfl, by decide +kernel, rfl, by decide +kernel, by decide +kernel⟩
theorem scTl : FnScope ["item", "inner", "leasts", "word", "text", "_"] ["item", "inner", "leasts"] (defScope sTl) := ⟨rfl, rfl, rfl, by decide +kernel, rfl, by decide +kernel, by decide +kernel⟩
theorem two_line : (2 : Nat) ≤ sizeLine := by rw [sizeLine_eq]; decide
def Fo.word : Fo → Str
  | .leaf w _ => w
  | .one w _ _ => w
  | .row _ => "row"
  | .either _ _ => "either"
  | .again _ => "again"
  | .between _ _ => "again"
  | .counted _ _ => "counted"
  | .named _ => "named"
theorem Fo.enc_word (f : Fo) : ∃ ds, f.enc = .tup (.str f.word :: ds) := by
  cases f <;> exact ⟨_, rfl⟩
theorem noDue : ∀ w ∈ ([("text" : Str), "sign", "word", "number", "pick", "skip", "spelt", "turned", "row", "either", "again", "counted", "named"] : List Str), decide (V.str w = V.str "due") = false := by decide
theorem Fo.no_due {N : List Str} {f : Fo} (h : f.ok N) : decide ((V.str f.word) = V.str "due") = false := by
  cases f with
  | leaf w r =>
    have h : w ∈ ([("text" : Str), "sign", "word", "number", "pick"] : List Str) := h
    exact noDue w (by
      simp only [List.mem_cons, List.not_mem_nil, or_false] at h ⊢
      rcases h with h | h | h | h | h <;> simp [h])
  | one w f r =>
    have h : w ∈ ([("skip" : Str), "spelt", "turned"] : List Str) := h.1
    exact noDue w (by
      simp only [List.mem_cons, List.not_mem_nil, or_false] at h ⊢
      rcases h with h | h | h <;> simp [h])
  | row _ => exact noDue "row" (by decide)
  | either _ _ => exact noDue "either" (by decide)
  | again _ => exact noDue "again" (by decide)
  | between _ _ => exact noDue "again" (by decide)
  | counted _ _ => exact noDue "counted" (by decide)
  | named _ => exact noDue "named" (by decide)
theorem ts_ext {H H' : Hp} (e : LamX.ExtN H H') : TS H H' := fun b vs h => e b _ h fun _ z => nomatch z
theorem mem_of_evs {E : Str → Option Str} {fs : List Fo} {z : Str} (h : some z ∈ evs E fs) : ∃ f ∈ fs, ev E f = some z := mem_evs h
theorem look_val {kvs : List (Str × Str)} {x : Str} : valV (kvs.map fun p => ((.inr p.1 : L2.Key), V.str p.2)) (.inr x) = (kvs.lookup x).map V.str := by
  induction kvs with
  | nil => rfl
  | cons p r ih =>
    obtain ⟨y, t⟩ := p
    show valV (((.inr y : L2.Key), V.str t) :: _) (.inr x) = _
    by_cases e : x = y
    · subst e
      rw [valV_pos rfl]
      simp [List.lookup]
    · have e' : (x == y) = false := by simpa using e
      rw [valV_neg (fun z => e (Sum.inr.inj z).symm)]
      simp only [List.lookup, e']
      exact ih
/-- a dict of least texts -/
def LsAt (H : Hp) (d : Addr) (kvs : List (Str × Str)) : Prop := H d = some (.dK (kvs.map fun p => ((.inr p.1 : L2.Key), V.str p.2)))
structure TlAt (T : List (Addr × Str)) (K : PySem.W.Frag) (H H1 : Hp) (a : Addr) (us : List V) (l d : Addr) (xs : List V) (kvs : List (Str × Str)) : Prop where
  ea : H1 a = some (.tup us)
  el : H1 l = some (.lst xs)
  ed : LsAt H1 d kvs
  T : LamX.Tabs T H1
  X : LamX.ExtN H H1
theorem TlAt.new {T : List (Addr × Str)} {K : PySem.W.Frag} {H H1 : Hp} {a : Addr} {us : List V} {l d : Addr} {xs : List V} {kvs : List (Str × Str)} {p : Addr} {o : HO} (C : TlAt T K H H1 a us l d xs kvs) (n : H1 p = none) : TlAt T K H (upd H1 p o) a us l d xs kvs :=
  ⟨by rw [upd_ne (ne_of_none C.ea n)]; exact C.ea, by rw [upd_ne (ne_of_none C.el n)]; exact C.el, by unfold LsAt; rw [upd_ne (ne_of_none C.ed n)]; exact C.ed, Tabs.new C.T n, C.X.trans (ext_new n)⟩
section
variable {P : Program} {w : World} {K : PySem.W.Frag} {mg : Str → Option Value} {base : Heap}
theorem ok_ii {N : List Str} {f fi : Addr} {fd fdi : FuncData} {k : Nat} (F : Fun K "inner_items" "inner_items" sIi f fd) (GI : FnOk P w K mg base CX0 k fi fdi ["form"] (spInner N)) (ki : PySem.W.keepIn K (.ref fi) = true) (bi : Binds K fdi ["form"] []) (gi : mg "inner_forms" = some (.ref fi)) :
    FnOk P w K mg base CX0 (k + 1) f fd ["item"] (spInner N) := by
  refine F.ok scIi (fun vs H Q E h => ?_) (fun cdv A outer sh H vs Q E hr h => ?_)
  · obtain ⟨v, f, rfl, _⟩ := h
    rfl
  · obtain ⟨v, fo, rfl, hR, hok, hsz, q⟩ := h
    refine ⟨_, (pss_one (ps_ret (pe_ifExp (pt_cmpR op_eq (pe_ix ix_tup (pv 0) pe_int (fun _ _ => rfl)) pe_str (nomark _)) (pe_lst (pa_cons (pe_ix ix_tup (pv 0) pe_int (fun _ _ => rfl)) pa_nil)) (pe_call GI hr (by rfl) gi ki bi .nil pass0 (pa_cons (pv 0) pa_nil))))), ?_⟩
    obtain ⟨ds, ee⟩ := fo.enc_word
    have hR2 := hR
    rw [ee] at hR2
    obtain ⟨a, us, rfl, ea, ru⟩ := Rp.tupE hR2
    cases ru with
    | cons r1 r2 =>
    obtain ⟨rfl, _⟩ := r1.strE
    exact ⟨_, rfl, a, _, 0, .str fo.word, rfl, rfl, SqT.of ea, atI_nat (j := 0) rfl, rfl, _, rfl, iteF' (Fo.no_due hok) ⟨_, rfl, _, fo, rfl, hR, hok, hsz, q⟩⟩
def spTl (T : List (Addr × Str)) (N : List Str) : Sp := fun vs H Q _ => ∃ (v : V) (f : Fo) (l d : Addr) (os : List (Option Str)) (kvs : List (Str × Str)), vs = [v, .ref l, .ref d] ∧ Rp H v f.enc ∧ f.ok N ∧ Gd f ∧ H l = some (.lst (os.map oV)) ∧ os = evs (kvs.lookup ·) f.inner ∧ LsAt H d kvs ∧ (∀ x t, kvs.lookup x = some t → t.length ≤ 130000) ∧ LamX.Tabs T H ∧
  ∀ (H' : Hp), LamX.ExtN H H' → LamX.Tabs T H' → Q (oV (ev (kvs.lookup ·) f)) H'
theorem ok_tl {T : List (Addr × Str)} {N : List Str} {f fl fj : Addr} {fd fdl fdj : FuncData} {k : Nat} (F : Fun K "_told_least" "_told_least" sTl f fd)
    (GLe : FnOk P w K mg base CX0 k fl fdl ["texts"] (spLe T K)) (kle : PySem.W.keepIn K (.ref fl) = true) (ble : Binds K fdl ["texts"] []) (gle : mg "_least" = some (.ref fl))
    (GJo : FnOk P w K mg base CX0 k fj fdj ["texts"] (spJo K)) (kjo : PySem.W.keepIn K (.ref fj) = true) (bjo : Binds K fdj ["texts"] []) (gjo : mg "_joined" = some (.ref fj)) :
    FnOk P w K mg base CX0 (k + 1) f fd ["item", "inner", "leasts"] (spTl T N) := by
  refine F.ok scTl (fun vs H Q E h => ?_) (fun cdv A outer sh H vs Q E hr h => ?_)
  · obtain ⟨v, f, l, d, os, kvs, rfl, _⟩ := h
    rfl
  · obtain ⟨v, f, l, d, os, kvs, rfl, rv, ok, gd, el, eos, ed, hk, hT, q⟩ := h
    refine ⟨_, (pss_cons (ps_set (i := 3) scTl.nd rfl (.inl rfl) (pe_ix ix_tup (pv 0) pe_int (fun _ _ => rfl)))
      (pss_cons (ps_if (pt_cmpR op_eq (pv 3) pe_str (nomark _)) (pss_one (ps_ret (pe_ix ix_tup (pv 0) pe_int (fun _ _ => rfl)))) pss_nil)
      (pss_cons (ps_if (pt_cmpR op_in_seq (pv 3) (pe_tup (pa_cons pe_str (pa_cons pe_str pa_nil))) (by rfl)) (pss_one (ps_ret (pe_ix ix_str (pe_ix ix_tup (pv 0) pe_int (fun _ _ => rfl)) pe_int (fun _ _ => rfl)))) pss_nil)
      (pss_cons (ps_if (pt_cmpR op_eq (pv 3) pe_str (nomark _)) (pss_one (ps_ret pe_str)) pss_nil)
      (pss_cons (ps_if (pt_cmpR op_eq (pv 3) pe_str (nomark _)) (pss_one (ps_ret (pe_call GLe hr (by rfl) gle kle ble .nil pass0 (pa_cons (pe_lc (own := [("text", 4), ("_", 5)]) (g := gTup K 2 (gCons (gName 4) (gCons (gName 5) gNil))) (tt := tYes) rfl scTl.nd (pi_tup (pe_ix ix_tup (pv 0) pe_int (fun _ _ => rfl))) (blkOk_by (N := ["item", "inner", "leasts", "word", "text", "_"]) (sc := defScope sTl) (by decide +kernel)) (fun _ _ _ _ _ => (pg_tup rfl (pgs_cons (pg_name (i := 4) scTl.nd rfl (.inl rfl)) (pgs_cons (pg_name (i := 5) scTl.nd rfl (.inl rfl)) pgs_nil)))) (fun _ _ _ _ _ => pts_nil) (fun _ _ _ _ _ => (pv 4))) pa_nil)))) pss_nil)
      (pss_cons (ps_if (pt_cmpR op_eq (pv 3) pe_str (nomark _)) (pss_one (ps_ret (pe_call GLe hr (by rfl) gle kle ble .nil pass0 (pa_cons (pe_ix ix_tup (pv 0) pe_int (fun _ _ => rfl)) pa_nil)))) pss_nil)
      (pss_cons (ps_if (pt_cmpR op_in_seq (pv 3) (pe_tup (pa_cons pe_str (pa_cons pe_str pa_nil))) (by rfl)) (pss_one (ps_ret pe_str)) pss_nil)
      (pss_cons (ps_if (pt_cmpR op_eq (pv 3) pe_str (nomark _)) (pss_one (ps_ret (pe_op op_add_str pe_str (pe_ix ix_tup (pv 0) pe_int (fun _ _ => rfl))))) pss_nil)
      (pss_cons (ps_if (pt_cmpR op_eq (pv 3) pe_str (nomark _)) (pss_one (ps_ret (pe_call GJo hr (by rfl) gjo kjo bjo .nil pass0 (pa_cons (pe_op op_cat (pe_lst (pa_cons (pe_ix ix_tup (pv 0) pe_int (fun _ _ => rfl)) pa_nil)) (pe_op op_rep (pv 1) (pe_ix ix_tup (pv 0) pe_int (fun _ _ => rfl)))) pa_nil)))) pss_nil)
      (pss_cons (ps_if (pt_cmpR op_eq (pv 3) pe_str (nomark _)) (pss_one (ps_ret (pe_call GJo hr (by rfl) gjo kjo bjo .nil pass0 (pa_cons (pv 1) pa_nil)))) pss_nil)
      (pss_cons (ps_if (pt_cmpR op_eq (pv 3) pe_str (nomark _)) (pss_one (ps_ret (pe_call GLe hr (by rfl) gle kle ble .nil pass0 (pa_cons (pv 1) pa_nil)))) pss_nil)
      (pss_cons (ps_if (pt_cmpR op_eq (pv 3) pe_str (nomark _)) (pss_one (ps_ret (pe_dget1 (hu_of hr) (pv 2) (pe_ix ix_tup (pv 0) pe_int (fun _ _ => rfl)) ⟨rfl, rfl, rfl, rfl⟩))) pss_nil)
      (pss_one (ps_ret (pe_ix ix_list (pv 1) pe_int (fun _ _ => rfl)))))))))))))))), ?_⟩
    have lens : ∀ {g : Fo} {z : Str}, Gd g → ev (kvs.lookup ·) g = some z → z.length ≤ 2200000 := fun hg e => by
      have := hg.len (kvs.lookup ·) 130000 _ hk e
      omega
    have line : (3000000 : Nat) < sizeLine := by rw [sizeLine_eq]; decide
    cases gd with
    | @text z hz =>
      obtain ⟨a, us, rfl, ea, ru⟩ := Rp.tupE rv
      obtain ⟨v1, v2, rfl, r1, r2⟩ := ru.two
      obtain ⟨rfl, _⟩ := r1.strE
      obtain ⟨rfl, hz2⟩ := r2.strE
      have C : TlAt T K H H a _ l d _ kvs := ⟨ea, el, ed, hT, LamX.ExtN.refl H⟩
      refine ⟨_, rfl, a, _, 0, .str _, rfl, rfl, SqT.of ea, atI_nat (j := 0) rfl, ?_⟩
      refine ⟨_, rfl, rfl, _, rfl, iteT' (by decide) ?_⟩
      refine ⟨_, rfl, a, _, 1, .str z, rfl, rfl, SqT.of ea, atI_nat (j := 1) rfl, ?_⟩
      have fin := q H C.X C.T
      rw [text_ev] at fin
      exact fin
    | @set w z hw h1 h12 =>
      obtain ⟨a, us, rfl, ea, ru⟩ := Rp.tupE rv
      obtain ⟨v1, v2, rfl, r1, r2⟩ := ru.two
      obtain ⟨rfl, _⟩ := r1.strE
      obtain ⟨rfl, hz2⟩ := r2.strE
      have C : TlAt T K H H a _ l d _ kvs := ⟨ea, el, ed, hT, LamX.ExtN.refl H⟩
      obtain ⟨c, r, ec⟩ : ∃ c r, z.cps.toList = c :: r := by
        cases e : z.cps.toList with
        | nil =>
          rw [← len_cps, e] at h1
          exact absurd h1 (by decide)
        | cons c r => exact ⟨c, r, rfl⟩
      have evz : ev (kvs.lookup ·) (.leaf w [.str z]) = some ⟨#[c]⟩ := by
        rw [set_ev hw, ec]
        rfl
      rcases hw with rfl | rfl
      · refine ⟨_, rfl, a, _, 0, .str _, rfl, rfl, SqT.of ea, atI_nat (j := 0) rfl, ?_⟩
        refine ⟨_, rfl, rfl, _, rfl, iteF' (by decide) ?_⟩
        refine ⟨_, rfl, two_line, fun p np => ⟨p, _, rfl, .inr (SqT.of upd_same), rfl, rfl, _, rfl, iteT' (by decide) ?_⟩⟩
        have C := C.new (o := .tup [.str "sign", .str "word"]) np
        generalize upd _ p (.tup [.str "sign", .str "word"]) = H1 at C ⊢
        refine ⟨_, rfl, a, _, 1, .str z, rfl, rfl, SqT.of C.ea, atI_nat (j := 1) rfl, z, 0, c, rfl, rfl, by omega, atI_nat (j := 0) (by rw [ec]; rfl), ?_⟩
        have fin := q H1 C.X C.T
        rw [evz] at fin
        exact fin
      · refine ⟨_, rfl, a, _, 0, .str _, rfl, rfl, SqT.of ea, atI_nat (j := 0) rfl, ?_⟩
        refine ⟨_, rfl, rfl, _, rfl, iteF' (by decide) ?_⟩
        refine ⟨_, rfl, two_line, fun p np => ⟨p, _, rfl, .inr (SqT.of upd_same), rfl, rfl, _, rfl, iteT' (by decide) ?_⟩⟩
        have C := C.new (o := .tup [.str "sign", .str "word"]) np
        generalize upd _ p (.tup [.str "sign", .str "word"]) = H1 at C ⊢
        refine ⟨_, rfl, a, _, 1, .str z, rfl, rfl, SqT.of C.ea, atI_nat (j := 1) rfl, z, 0, c, rfl, rfl, by omega, atI_nat (j := 0) (by rw [ec]; rfl), ?_⟩
        have fin := q H1 C.X C.T
        rw [evz] at fin
        exact fin
    | number =>
      obtain ⟨a, us, rfl, ea, ru⟩ := Rp.tupE rv
      obtain ⟨v1, rfl, r1⟩ := ru.one
      obtain ⟨rfl, _⟩ := r1.strE
      have C : TlAt T K H H a _ l d _ kvs := ⟨ea, el, ed, hT, LamX.ExtN.refl H⟩
      refine ⟨_, rfl, a, _, 0, .str _, rfl, rfl, SqT.of ea, atI_nat (j := 0) rfl, ?_⟩
      refine ⟨_, rfl, rfl, _, rfl, iteF' (by decide) ?_⟩
      refine ⟨_, rfl, two_line, fun p np => ⟨p, _, rfl, .inr (SqT.of upd_same), rfl, rfl, _, rfl, iteF' (by decide) ?_⟩⟩
      have C := C.new (o := .tup [.str "sign", .str "word"]) np
      generalize upd _ p (.tup [.str "sign", .str "word"]) = H1 at C ⊢
      refine ⟨_, rfl, rfl, _, rfl, iteT' (by decide) ?_⟩
      exact q H1 C.X C.T
    | @pick ps ne l10 hp =>
      obtain ⟨a, us, rfl, ea, ru⟩ := Rp.tupE rv
      obtain ⟨v1, v2, rfl, r1, r2⟩ := ru.two
      obtain ⟨rfl, _⟩ := r1.strE
      obtain ⟨b, ws, rfl, eb, rb⟩ := Rp.tupE r2
      have C : TlAt T K H H a _ l d _ kvs := ⟨ea, el, ed, hT, LamX.ExtN.refl H⟩
      refine ⟨_, rfl, a, _, 0, .str _, rfl, rfl, SqT.of ea, atI_nat (j := 0) rfl, ?_⟩
      refine ⟨_, rfl, rfl, _, rfl, iteF' (by decide) ?_⟩
      refine ⟨_, rfl, two_line, fun p np => ⟨p, _, rfl, .inr (SqT.of upd_same), rfl, rfl, _, rfl, iteF' (by decide) ?_⟩⟩
      have C := C.new (o := .tup [.str "sign", .str "word"]) np
      generalize upd _ p (.tup [.str "sign", .str "word"]) = H1 at C ⊢
      refine ⟨_, rfl, rfl, _, rfl, iteF' (by decide) ?_⟩
      refine ⟨_, rfl, rfl, _, rfl, iteT' (by decide) ?_⟩
      have eb1 := ts_ext C.X b _ eb
      have rb1 := rb.ts (ts_ext C.X)
      have lw : ws.length = ps.length := by rw [rb.len, List.length_map]
      refine ⟨_, rfl, a, _, 1, .ref b, rfl, rfl, SqT.of C.ea, atI_nat (j := 1) rfl, b, rfl, ⟨_, SqT.of eb1⟩, fun D nD => ?_⟩
      refine lc_tup (xs := ws) (fun i H4 => i ≤ ps.length ∧ Kp M0 H1 H4 ∧ H4 D = some (.lst (((ps.take i).map fun p => some p.1).map oV))) ?_ ?_ ?_ ?_
      · exact ⟨Nat.zero_le _, Kp.new nD, upd_same⟩
      · exact fun i H4 _ h => SqT.of (h.2.1 _ _ (fun z => z) eb1)
      · rintro i x H4 hx ⟨hi, k4, e4⟩
        obtain ⟨dd, hd, rd⟩ := rb1.get i x hx
        rw [List.getElem?_map] at hd
        obtain ⟨p, ep, rfl⟩ := Option.map_eq_some_iff.mp hd
        obtain ⟨c, us2, rfl, ec, rc⟩ := Rp.tupE rd
        obtain ⟨u1, u2, rfl, c1, c2⟩ := rc.two
        obtain ⟨rfl, _⟩ := c1.strE
        have lt := (List.getElem?_eq_some_iff.mp ep).1
        refine ⟨c, _, rfl, SqT.of (k4 _ _ (fun z => z) ec), rfl, _, _, rfl, _, _, rfl, rfl, rfl, tYes_ok (iteT ⟨_, rfl, _, e4, ?_, lt, k4.own nD, ?_⟩)⟩
        · rw [List.length_map, List.length_map, List.length_take]
          omega
        · rw [upd_same, List.take_add_one, ep, List.map_append, List.map_append]
          rfl
      · rintro H4 ⟨_, k4, e4⟩
        rw [lw, List.take_length] at e4
        have x4 : LamX.ExtN H1 H4 := fun b o e n => k4 b o (fun z => z) e
        have T4 : LamX.Tabs T H4 := C.T.ext fun b o e => k4 b o (fun z => z) e
        refine ⟨D, _, rfl, SqL.of e4, by rw [List.length_map]; omega, fun z mz => ?_, T4, fun H5 x5 T5 => ?_⟩
        · obtain ⟨p, mp, ep⟩ := List.mem_map.mp mz
          cases ep
          have := hp p mp
          omega
        · have fin := q H5 ((C.X.trans x4).trans x5) T5
          have e : ev (kvs.lookup ·) (.leaf "pick" [.tup (ps.map prD)]) = leastO (ps.map fun p => some p.1) := by
            show leastO ((ps.map prD).map pairT) = _
            rw [List.map_map]
            rfl
          rw [e] at fin
          exact fin
    | @one w f r hw gf =>
      obtain ⟨a, us, rfl, ea, ru⟩ := Rp.tupE rv
      cases ru with
      | cons r1 r2 =>
      obtain ⟨rfl, _⟩ := r1.strE
      have C : TlAt T K H H a _ l d _ kvs := ⟨ea, el, ed, hT, LamX.ExtN.refl H⟩
      have eo : os = [ev (kvs.lookup ·) f] := eos
      rcases hw with rfl | rfl | rfl
      · refine ⟨_, rfl, a, _, 0, .str _, rfl, rfl, SqT.of ea, atI_nat (j := 0) rfl, ?_⟩
        refine ⟨_, rfl, rfl, _, rfl, iteF' (by decide) ?_⟩
        refine ⟨_, rfl, two_line, fun p np => ⟨p, _, rfl, .inr (SqT.of upd_same), rfl, rfl, _, rfl, iteF' (by decide) ?_⟩⟩
        have C := C.new (o := .tup [.str "sign", .str "word"]) np
        generalize upd _ p (.tup [.str "sign", .str "word"]) = H1 at C ⊢
        refine ⟨_, rfl, rfl, _, rfl, iteF' (by decide) ?_⟩
        refine ⟨_, rfl, rfl, _, rfl, iteF' (by decide) ?_⟩
        refine ⟨_, rfl, rfl, _, rfl, iteF' (by decide) ?_⟩
        refine ⟨_, rfl, two_line, fun p np => ⟨p, _, rfl, .inr (SqT.of upd_same), rfl, rfl, _, rfl, iteF' (by decide) ?_⟩⟩
        have C := C.new (o := .tup [.str "spelt", .str "again"]) np
        generalize upd _ p (.tup [.str "spelt", .str "again"]) = H1 at C ⊢
        refine ⟨_, rfl, rfl, _, rfl, iteF' (by decide) ?_⟩
        refine ⟨_, rfl, rfl, _, rfl, iteF' (by decide) ?_⟩
        refine ⟨_, rfl, rfl, _, rfl, iteF' (by decide) ?_⟩
        refine ⟨_, rfl, rfl, _, rfl, iteF' (by decide) ?_⟩
        refine ⟨_, rfl, rfl, _, rfl, iteF' (by decide) ?_⟩
        refine ⟨_, rfl, l, _, 0, oV (ev (kvs.lookup ·) f), rfl, rfl, SqL.of C.el, atI_nat (j := 0) (by rw [eo]; rfl), ?_⟩
        have fin := q H1 C.X C.T
        rw [skip_ev] at fin
        exact fin
      · refine ⟨_, rfl, a, _, 0, .str _, rfl, rfl, SqT.of ea, atI_nat (j := 0) rfl, ?_⟩
        refine ⟨_, rfl, rfl, _, rfl, iteF' (by decide) ?_⟩
        refine ⟨_, rfl, two_line, fun p np => ⟨p, _, rfl, .inr (SqT.of upd_same), rfl, rfl, _, rfl, iteF' (by decide) ?_⟩⟩
        have C := C.new (o := .tup [.str "sign", .str "word"]) np
        generalize upd _ p (.tup [.str "sign", .str "word"]) = H1 at C ⊢
        refine ⟨_, rfl, rfl, _, rfl, iteF' (by decide) ?_⟩
        refine ⟨_, rfl, rfl, _, rfl, iteF' (by decide) ?_⟩
        refine ⟨_, rfl, rfl, _, rfl, iteF' (by decide) ?_⟩
        refine ⟨_, rfl, two_line, fun p np => ⟨p, _, rfl, .inr (SqT.of upd_same), rfl, rfl, _, rfl, iteT' (by decide) ?_⟩⟩
        have C := C.new (o := .tup [.str "spelt", .str "again"]) np
        generalize upd _ p (.tup [.str "spelt", .str "again"]) = H1 at C ⊢
        have fin := q H1 C.X C.T
        rw [spelt_ev] at fin
        exact fin
      · refine ⟨_, rfl, a, _, 0, .str _, rfl, rfl, SqT.of ea, atI_nat (j := 0) rfl, ?_⟩
        refine ⟨_, rfl, rfl, _, rfl, iteF' (by decide) ?_⟩
        refine ⟨_, rfl, two_line, fun p np => ⟨p, _, rfl, .inr (SqT.of upd_same), rfl, rfl, _, rfl, iteF' (by decide) ?_⟩⟩
        have C := C.new (o := .tup [.str "sign", .str "word"]) np
        generalize upd _ p (.tup [.str "sign", .str "word"]) = H1 at C ⊢
        refine ⟨_, rfl, rfl, _, rfl, iteF' (by decide) ?_⟩
        refine ⟨_, rfl, rfl, _, rfl, iteF' (by decide) ?_⟩
        refine ⟨_, rfl, rfl, _, rfl, iteF' (by decide) ?_⟩
        refine ⟨_, rfl, two_line, fun p np => ⟨p, _, rfl, .inr (SqT.of upd_same), rfl, rfl, _, rfl, iteF' (by decide) ?_⟩⟩
        have C := C.new (o := .tup [.str "spelt", .str "again"]) np
        generalize upd _ p (.tup [.str "spelt", .str "again"]) = H1 at C ⊢
        refine ⟨_, rfl, rfl, _, rfl, iteF' (by decide) ?_⟩
        refine ⟨_, rfl, rfl, _, rfl, iteF' (by decide) ?_⟩
        refine ⟨_, rfl, rfl, _, rfl, iteF' (by decide) ?_⟩
        refine ⟨_, rfl, rfl, _, rfl, iteF' (by decide) ?_⟩
        refine ⟨_, rfl, rfl, _, rfl, iteF' (by decide) ?_⟩
        refine ⟨_, rfl, l, _, 0, oV (ev (kvs.lookup ·) f), rfl, rfl, SqL.of C.el, atI_nat (j := 0) (by rw [eo]; rfl), ?_⟩
        have fin := q H1 C.X C.T
        rw [turned_ev] at fin
        exact fin
    | @row fs l10 gfs hl =>
      obtain ⟨a, us, rfl, ea, ru⟩ := Rp.tupE rv
      obtain ⟨v1, v2, rfl, r1, r2⟩ := ru.two
      obtain ⟨rfl, _⟩ := r1.strE
      have C : TlAt T K H H a _ l d _ kvs := ⟨ea, el, ed, hT, LamX.ExtN.refl H⟩
      have eo : os = evs (kvs.lookup ·) fs := eos
      refine ⟨_, rfl, a, _, 0, .str _, rfl, rfl, SqT.of ea, atI_nat (j := 0) rfl, ?_⟩
      refine ⟨_, rfl, rfl, _, rfl, iteF' (by decide) ?_⟩
      refine ⟨_, rfl, two_line, fun p np => ⟨p, _, rfl, .inr (SqT.of upd_same), rfl, rfl, _, rfl, iteF' (by decide) ?_⟩⟩
      have C := C.new (o := .tup [.str "sign", .str "word"]) np
      generalize upd _ p (.tup [.str "sign", .str "word"]) = H1 at C ⊢
      refine ⟨_, rfl, rfl, _, rfl, iteF' (by decide) ?_⟩
      refine ⟨_, rfl, rfl, _, rfl, iteF' (by decide) ?_⟩
      refine ⟨_, rfl, rfl, _, rfl, iteF' (by decide) ?_⟩
      refine ⟨_, rfl, two_line, fun p np => ⟨p, _, rfl, .inr (SqT.of upd_same), rfl, rfl, _, rfl, iteF' (by decide) ?_⟩⟩
      have C := C.new (o := .tup [.str "spelt", .str "again"]) np
      generalize upd _ p (.tup [.str "spelt", .str "again"]) = H1 at C ⊢
      refine ⟨_, rfl, rfl, _, rfl, iteF' (by decide) ?_⟩
      refine ⟨_, rfl, rfl, _, rfl, iteF' (by decide) ?_⟩
      refine ⟨_, rfl, rfl, _, rfl, iteT' (by decide) ?_⟩
      refine ⟨_, rfl, l, os, rfl, SqL.of C.el, fun t et => ?_, ?_⟩
      · rw [eo] at et
        have := hl (kvs.lookup ·) 130000 t hk et
        omega
      · have fin := q H1 C.X C.T
        rw [eo]
        exact fin
    | @either ns fs hn l10 gfs =>
      obtain ⟨a, us, rfl, ea, ru⟩ := Rp.tupE rv
      obtain ⟨v1, v2, rfl, r1, r2⟩ := ru.two
      obtain ⟨rfl, _⟩ := r1.strE
      have C : TlAt T K H H a _ l d _ kvs := ⟨ea, el, ed, hT, LamX.ExtN.refl H⟩
      have eo : os = evs (kvs.lookup ·) fs := eos
      refine ⟨_, rfl, a, _, 0, .str _, rfl, rfl, SqT.of ea, atI_nat (j := 0) rfl, ?_⟩
      refine ⟨_, rfl, rfl, _, rfl, iteF' (by decide) ?_⟩
      refine ⟨_, rfl, two_line, fun p np => ⟨p, _, rfl, .inr (SqT.of upd_same), rfl, rfl, _, rfl, iteF' (by decide) ?_⟩⟩
      have C := C.new (o := .tup [.str "sign", .str "word"]) np
      generalize upd _ p (.tup [.str "sign", .str "word"]) = H1 at C ⊢
      refine ⟨_, rfl, rfl, _, rfl, iteF' (by decide) ?_⟩
      refine ⟨_, rfl, rfl, _, rfl, iteF' (by decide) ?_⟩
      refine ⟨_, rfl, rfl, _, rfl, iteF' (by decide) ?_⟩
      refine ⟨_, rfl, two_line, fun p np => ⟨p, _, rfl, .inr (SqT.of upd_same), rfl, rfl, _, rfl, iteF' (by decide) ?_⟩⟩
      have C := C.new (o := .tup [.str "spelt", .str "again"]) np
      generalize upd _ p (.tup [.str "spelt", .str "again"]) = H1 at C ⊢
      refine ⟨_, rfl, rfl, _, rfl, iteF' (by decide) ?_⟩
      refine ⟨_, rfl, rfl, _, rfl, iteF' (by decide) ?_⟩
      refine ⟨_, rfl, rfl, _, rfl, iteF' (by decide) ?_⟩
      refine ⟨_, rfl, rfl, _, rfl, iteT' (by decide) ?_⟩
      refine ⟨_, rfl, l, os, rfl, SqL.of C.el, ?_, fun z mz => ?_, C.T, fun H5 x5 T5 => ?_⟩
      · rw [eo, evs_map, List.length_map]
        omega
      · rw [eo] at mz
        obtain ⟨g, mg', eg⟩ := mem_evs mz
        have := lens (gfs g mg') eg
        omega
      · have fin := q H5 (C.X.trans x5) T5
        rw [eo]
        exact fin
    | @again f gf =>
      obtain ⟨a, us, rfl, ea, ru⟩ := Rp.tupE rv
      cases ru with
      | cons r1 r2 =>
      obtain ⟨rfl, _⟩ := r1.strE
      have C : TlAt T K H H a _ l d _ kvs := ⟨ea, el, ed, hT, LamX.ExtN.refl H⟩
      refine ⟨_, rfl, a, _, 0, .str _, rfl, rfl, SqT.of ea, atI_nat (j := 0) rfl, ?_⟩
      refine ⟨_, rfl, rfl, _, rfl, iteF' (by decide) ?_⟩
      refine ⟨_, rfl, two_line, fun p np => ⟨p, _, rfl, .inr (SqT.of upd_same), rfl, rfl, _, rfl, iteF' (by decide) ?_⟩⟩
      have C := C.new (o := .tup [.str "sign", .str "word"]) np
      generalize upd _ p (.tup [.str "sign", .str "word"]) = H1 at C ⊢
      refine ⟨_, rfl, rfl, _, rfl, iteF' (by decide) ?_⟩
      refine ⟨_, rfl, rfl, _, rfl, iteF' (by decide) ?_⟩
      refine ⟨_, rfl, rfl, _, rfl, iteF' (by decide) ?_⟩
      refine ⟨_, rfl, two_line, fun p np => ⟨p, _, rfl, .inr (SqT.of upd_same), rfl, rfl, _, rfl, iteT' (by decide) ?_⟩⟩
      have C := C.new (o := .tup [.str "spelt", .str "again"]) np
      generalize upd _ p (.tup [.str "spelt", .str "again"]) = H1 at C ⊢
      exact q H1 C.X C.T
    | @between f g gf gg =>
      obtain ⟨a, us, rfl, ea, ru⟩ := Rp.tupE rv
      cases ru with
      | cons r1 r2 =>
      obtain ⟨rfl, _⟩ := r1.strE
      have C : TlAt T K H H a _ l d _ kvs := ⟨ea, el, ed, hT, LamX.ExtN.refl H⟩
      refine ⟨_, rfl, a, _, 0, .str _, rfl, rfl, SqT.of ea, atI_nat (j := 0) rfl, ?_⟩
      refine ⟨_, rfl, rfl, _, rfl, iteF' (by decide) ?_⟩
      refine ⟨_, rfl, two_line, fun p np => ⟨p, _, rfl, .inr (SqT.of upd_same), rfl, rfl, _, rfl, iteF' (by decide) ?_⟩⟩
      have C := C.new (o := .tup [.str "sign", .str "word"]) np
      generalize upd _ p (.tup [.str "sign", .str "word"]) = H1 at C ⊢
      refine ⟨_, rfl, rfl, _, rfl, iteF' (by decide) ?_⟩
      refine ⟨_, rfl, rfl, _, rfl, iteF' (by decide) ?_⟩
      refine ⟨_, rfl, rfl, _, rfl, iteF' (by decide) ?_⟩
      refine ⟨_, rfl, two_line, fun p np => ⟨p, _, rfl, .inr (SqT.of upd_same), rfl, rfl, _, rfl, iteT' (by decide) ?_⟩⟩
      have C := C.new (o := .tup [.str "spelt", .str "again"]) np
      generalize upd _ p (.tup [.str "spelt", .str "again"]) = H1 at C ⊢
      exact q H1 C.X C.T
    | @counted z f hz gf =>
      obtain ⟨a, us, rfl, ea, ru⟩ := Rp.tupE rv
      obtain ⟨v1, v2, v3, rfl, r1, r2, r3⟩ := ru.three
      obtain ⟨rfl, _⟩ := r1.strE
      obtain ⟨rfl, _⟩ := r2.strE
      have C : TlAt T K H H a _ l d _ kvs := ⟨ea, el, ed, hT, LamX.ExtN.refl H⟩
      refine ⟨_, rfl, a, _, 0, .str _, rfl, rfl, SqT.of ea, atI_nat (j := 0) rfl, ?_⟩
      refine ⟨_, rfl, rfl, _, rfl, iteF' (by decide) ?_⟩
      refine ⟨_, rfl, two_line, fun p np => ⟨p, _, rfl, .inr (SqT.of upd_same), rfl, rfl, _, rfl, iteF' (by decide) ?_⟩⟩
      have C := C.new (o := .tup [.str "sign", .str "word"]) np
      generalize upd _ p (.tup [.str "sign", .str "word"]) = H1 at C ⊢
      refine ⟨_, rfl, rfl, _, rfl, iteF' (by decide) ?_⟩
      refine ⟨_, rfl, rfl, _, rfl, iteF' (by decide) ?_⟩
      refine ⟨_, rfl, rfl, _, rfl, iteF' (by decide) ?_⟩
      refine ⟨_, rfl, two_line, fun p np => ⟨p, _, rfl, .inr (SqT.of upd_same), rfl, rfl, _, rfl, iteF' (by decide) ?_⟩⟩
      have C := C.new (o := .tup [.str "spelt", .str "again"]) np
      generalize upd _ p (.tup [.str "spelt", .str "again"]) = H1 at C ⊢
      refine ⟨_, rfl, rfl, _, rfl, iteT' (by decide) ?_⟩
      refine ⟨_, rfl, a, _, 1, .str z, rfl, rfl, SqT.of C.ea, atI_nat (j := 1) rfl, "0", z, rfl, rfl, ?_, q H1 C.X C.T⟩
      have : ("0" : Str).length = 1 := by decide
      omega
    | @named x =>
      obtain ⟨a, us, rfl, ea, ru⟩ := Rp.tupE rv
      obtain ⟨v1, v2, rfl, r1, r2⟩ := ru.two
      obtain ⟨rfl, _⟩ := r1.strE
      obtain ⟨rfl, _⟩ := r2.strE
      have C : TlAt T K H H a _ l d _ kvs := ⟨ea, el, ed, hT, LamX.ExtN.refl H⟩
      refine ⟨_, rfl, a, _, 0, .str _, rfl, rfl, SqT.of ea, atI_nat (j := 0) rfl, ?_⟩
      refine ⟨_, rfl, rfl, _, rfl, iteF' (by decide) ?_⟩
      refine ⟨_, rfl, two_line, fun p np => ⟨p, _, rfl, .inr (SqT.of upd_same), rfl, rfl, _, rfl, iteF' (by decide) ?_⟩⟩
      have C := C.new (o := .tup [.str "sign", .str "word"]) np
      generalize upd _ p (.tup [.str "sign", .str "word"]) = H1 at C ⊢
      refine ⟨_, rfl, rfl, _, rfl, iteF' (by decide) ?_⟩
      refine ⟨_, rfl, rfl, _, rfl, iteF' (by decide) ?_⟩
      refine ⟨_, rfl, rfl, _, rfl, iteF' (by decide) ?_⟩
      refine ⟨_, rfl, two_line, fun p np => ⟨p, _, rfl, .inr (SqT.of upd_same), rfl, rfl, _, rfl, iteF' (by decide) ?_⟩⟩
      have C := C.new (o := .tup [.str "spelt", .str "again"]) np
      generalize upd _ p (.tup [.str "spelt", .str "again"]) = H1 at C ⊢
      refine ⟨_, rfl, rfl, _, rfl, iteF' (by decide) ?_⟩
      refine ⟨_, rfl, rfl, _, rfl, iteF' (by decide) ?_⟩
      refine ⟨_, rfl, rfl, _, rfl, iteF' (by decide) ?_⟩
      refine ⟨_, rfl, rfl, _, rfl, iteF' (by decide) ?_⟩
      refine ⟨_, rfl, rfl, _, rfl, iteT' (by decide) ?_⟩
      refine ⟨_, rfl, d, rfl, .inl ⟨_, .inl C.ed⟩, _, rfl, a, _, 1, .str x, rfl, rfl, SqT.of C.ea, atI_nat (j := 1) rfl, _, DGet.k (k := .inr x) C.ed, ?_⟩
      have fin := q H1 C.X C.T
      rw [look_val]
      have e : ((kvs.lookup x).map V.str).getD .non = oV (kvs.lookup x) := by cases kvs.lookup x <;> rfl
      rw [e]
      exact fin
end
end RT

set_option maxHeartbeats 1000000
/-! folded, with a lambda that tells -/
namespace RT
open PySem PySem.Spec PyProof.Rows L2 LK
abbrev sFo : Stmt := topS 9
abbrev sLo : Stmt := topS 16
theorem scFo : FnScope ["whole", "inner_of", "told_of", "done", "todo", "part", "inner", "start", "told", "one"] ["whole", "inner_of", "told_of"] (defScope sFo) := ⟨rfl, rfl, rfl, by decide +kernel, rfl, by decide +kernel, by decide +kernel⟩
theorem Tabs.keep {T : List (Addr × Str)} {H H' : Hp} (t : LamX.Tabs T H) (e : ∀ b o, H b = some o → (∀ xs, o ≠ .lst xs) → H' b = some o) : LamX.Tabs T H' := fun p hp => by
  obtain ⟨ps, h1, h2, h3⟩ := t p hp
  refine ⟨ps, e _ _ h1 (fun _ z => nomatch z), h2, fun pos cv hc => ?_⟩
  obtain ⟨c, e1, e2⟩ := h3 pos cv hc
  exact ⟨c, e1, e _ _ e2 fun _ z => by unfold LamX.CodeO at z; cases z⟩
theorem Tabs.putL {T : List (Addr × Str)} {H : Hp} {p : Addr} {xs : List V} {o : HO} (t : LamX.Tabs T H) (h : H p = some (.lst xs)) : LamX.Tabs T (upd H p o) := Tabs.keep t fun b u e n => by
  rw [upd_ne fun z => n xs (by rw [z, h] at e; exact (Option.some.inj e).symm)]
  exact e
/-- what still waits: a form, or a form whose parts have been told -/
inductive TI where
  | new (f : Fo)
  | rest (f : Fo) (il : Addr)
def TI.wt : TI → Nat
  | .new f => 2 * f.size
  | .rest _ _ => 1
def wts (ts : List TI) : Nat := (ts.map TI.wt).sum
def TI.fo : TI → Fo
  | .new f => f
  | .rest f _ => f
def Good (E : Str → Option Str) (w : Fo) : List TI → List (Option Str) → Prop
  | [], done => done = [ev E w]
  | .new f :: ts, done => Good E w ts (done ++ [ev E f])
  | .rest f _ :: ts, done => ∃ d0, done = d0 ++ evs E f.inner ∧ Good E w ts (d0 ++ [ev E f])
theorem good_news {E : Str → Option Str} {w : Fo} {ts : List TI} : ∀ (fs : List Fo) {done : List (Option Str)}, Good E w ts (done ++ evs E fs) → Good E w (fs.map TI.new ++ ts) done
  | [], done, h => by
    have e : done ++ evs E [] = done := List.append_nil _
    rw [e] at h
    exact h
  | f :: r, done, h => by
    show Good E w (r.map TI.new ++ ts) (done ++ [ev E f])
    refine good_news r ?_
    rw [List.append_assoc]
    exact h
/-- how it lies on the heap -/
def TIAt (H : Hp) (dl tl : Addr) (v : V) : TI → Prop
  | .new f => ∃ (p : Addr) (u : V), v = .ref p ∧ H p = some (.tup [u, .non]) ∧ Rp H u f.enc
  | .rest f il => ∃ (p : Addr) (u : V) (ivs : List V), v = .ref p ∧ H p = some (.tup [u, .ref il]) ∧ Rp H u f.enc ∧ H il = some (.lst ivs) ∧ ivs.length = f.inner.length ∧ il ≠ dl ∧ il ≠ tl
/-- all but the two lists and tables stays -/
def Kd (dl tl : Addr) (H H' : Hp) : Prop := ∀ b o, b ≠ dl → b ≠ tl → (∀ ps, o ≠ .tbl ps) → H b = some o → H' b = some o
theorem Kd.refl {dl tl : Addr} {H : Hp} : Kd dl tl H H := fun _ _ _ _ _ e => e
theorem Kd.trans {dl tl : Addr} {H H1 H2 : Hp} (a : Kd dl tl H H1) (b : Kd dl tl H1 H2) : Kd dl tl H H2 := fun c o h1 h2 n e => b c o h1 h2 n (a c o h1 h2 n e)
theorem Kd.new {dl tl p : Addr} {H : Hp} {o : HO} (n : H p = none) : Kd dl tl H (upd H p o) := fun b u _ _ _ e => by rw [upd_ne (ne_of_none e n)]; exact e
theorem Kd.d {dl tl : Addr} {H : Hp} {o : HO} : Kd dl tl H (upd H dl o) := fun b u h _ _ e => by rw [upd_ne h]; exact e
theorem Kd.t {dl tl : Addr} {H : Hp} {o : HO} : Kd dl tl H (upd H tl o) := fun b u _ h _ e => by rw [upd_ne h]; exact e
theorem Kd.ext {dl tl : Addr} {H H' : Hp} (e : LamX.ExtN H H') : Kd dl tl H H' := fun b u _ _ n h => e b u h n
theorem Kd.kp {dl tl : Addr} {H H' : Hp} (e : Kp M0 H H') : Kd dl tl H H' := fun b u _ _ n h => e b u (fun z => z) h
theorem Kd.to {dl tl : Addr} {H H' : Hp} (k : Kd dl tl H H') (n1 : H dl = none) (n2 : H tl = none) : LamX.ExtN H H' := fun b u h n => k b u (ne_of_none h n1) (ne_of_none h n2) n h
theorem Kd.ts {dl tl : Addr} {H H' : Hp} {xs ys : List V} (k : Kd dl tl H H') (h1 : H dl = some (.lst xs)) (h2 : H tl = some (.lst ys)) : TS H H' := fun b vs e => k b _ (ne_of e h1 fun z => nomatch z) (ne_of e h2 fun z => nomatch z) (fun _ z => nomatch z) e
theorem TIAt.keep {H H' : Hp} {dl tl : Addr} {v : V} {t : TI} (h : TIAt H dl tl v t) (k : Kd dl tl H H') (ts : TS H H') : TIAt H' dl tl v t := by
  cases t with
  | new f =>
    obtain ⟨p, u, rfl, e, r⟩ := h
    exact ⟨p, u, rfl, ts _ _ e, r.ts ts⟩
  | rest f il =>
    obtain ⟨p, u, ivs, rfl, e, r, ei, li, n1, n2⟩ := h
    exact ⟨p, u, ivs, rfl, ts _ _ e, r.ts ts, k _ _ n1 n2 (fun _ z => nomatch z) ei, li, n1, n2⟩
/-- the stack: us on the heap stands for ts -/
def StkAt (H : Hp) (dl tl : Addr) (us : List V) (ts : List TI) : Prop := us.length = ts.length ∧ ∀ (i : Nat) (v : V) (t : TI), us[i]? = some v → ts[i]? = some t → TIAt H dl tl v t
theorem StkAt.keep {H H' : Hp} {dl tl : Addr} {us : List V} {ts : List TI} (h : StkAt H dl tl us ts) (k : Kd dl tl H H') (s : TS H H') : StkAt H' dl tl us ts := ⟨h.1, fun i v t a b => (h.2 i v t a b).keep k s⟩
theorem StkAt.app {H : Hp} {dl tl : Addr} {us vs : List V} {ts ss : List TI} (h : StkAt H dl tl us ts) (k : StkAt H dl tl vs ss) : StkAt H dl tl (us ++ vs) (ts ++ ss) := by
  refine ⟨by rw [List.length_append, List.length_append, h.1, k.1], fun i v t a b => ?_⟩
  by_cases c : i < us.length
  · rw [List.getElem?_append_left c] at a
    rw [List.getElem?_append_left (by rw [← h.1]; exact c)] at b
    exact h.2 i v t a b
  · rw [List.getElem?_append_right (by omega)] at a
    rw [List.getElem?_append_right (by rw [← h.1]; omega), ← h.1] at b
    exact k.2 _ v t a b
theorem StkAt.last {H : Hp} {dl tl : Addr} {us : List V} {ts : List TI} (h : StkAt H dl tl us ts) (ne : us ≠ []) : ∃ (v : V) (t : TI) (ts0 : List TI), us[us.length - 1]? = some v ∧ ts = ts0 ++ [t] ∧ TIAt H dl tl v t ∧ StkAt H dl tl us.dropLast ts0 := by
  have hp := List.length_pos_iff.mpr ne
  have hl := h.1
  have nt : ts ≠ [] := fun z => by rw [z] at hl; rw [hl] at hp; exact Nat.lt_irrefl _ hp
  have e := (List.dropLast_concat_getLast nt).symm
  refine ⟨_, ts.getLast nt, ts.dropLast, List.getElem?_eq_getElem (by omega), e, h.2 (us.length - 1) _ _ (List.getElem?_eq_getElem (by omega)) ?_, ?_, fun i v t a b => ?_⟩
  · rw [hl, ← List.getLast?_eq_getElem?, List.getLast?_eq_some_getLast nt]
  · rw [List.length_dropLast, List.length_dropLast, hl]
  · have i1 : i < us.length - 1 := by
      have := (List.getElem?_eq_some_iff.mp a).1
      rw [List.length_dropLast] at this
      exact this
    refine h.2 i v t ?_ ?_
    · rw [List.getElem?_dropLast, if_pos i1] at a
      exact a
    · rw [List.getElem?_dropLast, if_pos (by omega)] at b
      exact b
theorem stk_news {H : Hp} {dl tl : Addr} {us : List V} {fs : List Fo} (hl : us.length = fs.length) (h : ∀ (i : Nat) (v : V) (f : Fo), us[i]? = some v → fs[i]? = some f → TIAt H dl tl v (.new f)) : StkAt H dl tl us (fs.map TI.new) :=
  ⟨by rw [List.length_map, hl], fun i v t a b => by
    rw [List.getElem?_map] at b
    obtain ⟨f, ef, rfl⟩ := Option.map_eq_some_iff.mp b
    exact h i v f a ef⟩
def TIok (N : List Str) (t : TI) : Prop := t.fo.ok N ∧ Gd t.fo ∧ t.fo.size ≤ 1000
theorem inner_le {f g : Fo} (h : g ∈ f.inner) : g.size < f.size := by
  have h1 := Fo.inner_size f
  have : ∀ {fs : List Fo}, g ∈ fs → g.size ≤ Fo.sizes fs := fun {fs} h => by
    induction fs with
    | nil => cases h
    | cons a r ih =>
      show g.size ≤ a.size + Fo.sizes r
      rcases List.mem_cons.mp h with rfl | h
      · omega
      · have := ih h; omega
  have := this h
  omega
theorem oks_mem {N : List Str} {fs : List Fo} (h : Fo.oks N fs) : ∀ f ∈ fs, f.ok N := by
  induction fs with
  | nil => exact fun _ h => nomatch h
  | cons a r ih =>
    intro f m
    rcases List.mem_cons.mp m with rfl | m
    · exact h.1
    · exact ih h.2 f m
theorem TIok.inner {N : List Str} {f : Fo} (h : TIok N (.new f)) : ∀ g ∈ f.inner, TIok N (.new g) := fun g m => ⟨oks_mem (Fo.inner_ok f h.1) g m, h.2.1.inner g m, by have := inner_le m; have := h.2.2; show g.size ≤ 1000; have : f.size ≤ 1000 := h.2.2; omega⟩
theorem wts_app (a b : List TI) : wts (a ++ b) = wts a + wts b := by unfold wts; rw [List.map_append, List.sum_append]
theorem wts_new (fs : List Fo) : wts (fs.map TI.new) = 2 * Fo.sizes fs := by
  induction fs with
  | nil => rfl
  | cons f r ih =>
    have e : wts ((f :: r).map TI.new) = 2 * f.size + wts (r.map TI.new) := by unfold wts; rw [List.map_cons, List.map_cons, List.sum_cons]; rfl
    rw [e, ih]
    show _ = 2 * (f.size + Fo.sizes r)
    omega
theorem wts_rev (ts : List TI) : wts ts.reverse = wts ts := by unfold wts; rw [List.map_reverse, List.sum_reverse]
theorem cut_from {xs ys : List V} : cutV (xs ++ ys) (some ((xs.length : Nat) : Int)) none = ys := by
  unfold cutV
  rw [HT.sIx_none, HT.sIx_nat]
  have e : min xs.length (xs ++ ys).length = xs.length := by rw [List.length_append]; omega
  rw [e, List.drop_left', List.take_of_length_le]
  · rw [List.length_append]; omega
  · rfl
end RT

set_option maxHeartbeats 1000000
namespace RT
open PySem PySem.Spec PyProof.Rows L2 LK
/-- the lambda in a call's third place -/
def lamOf : List Stmt → Arguments × Expr × Scope
  | [.Return (some (.Call _ [_, _, .Lambda a b s _] _ _)) _] => (a, b, s)
  | _ => (defArgs (.Pass ⟨0, 0, 0, 0⟩), .Name "" ⟨0, 0, 0, 0⟩, defScope (.Pass ⟨0, 0, 0, 0⟩))
abbrev qLo : Str := "least_of" ++ ".<locals>." ++ "<lambda>"
abbrev mkLo (cl : List (Str × Addr)) (c : Addr) : LF := ⟨qLo, (lamOf (defBody sLo)).1, (lamOf (defBody sLo)).2.1, (lamOf (defBody sLo)).2.2, cl, c⟩
section
variable {P : Program} {w : World} {K : PySem.W.Frag} {mg : Str → Option Value} {base : Heap}
/-- the lambda's promise, ws: the dict of least texts -/
def spLa (T : List (Addr × Str)) (N : List Str) (ws : List (Option V)) : Sp := fun vs H Q _ => ∃ (v : V) (f : Fo) (l d : Addr) (os : List (Option Str)) (kvs : List (Str × Str)), vs = [v, .ref l] ∧ ws = [some (.ref d)] ∧ Rp H v f.enc ∧ f.ok N ∧ Gd f ∧ H l = some (.lst (os.map oV)) ∧ os = evs (kvs.lookup ·) f.inner ∧ LsAt H d kvs ∧ (∀ x t, kvs.lookup x = some t → t.length ≤ 130000) ∧ LamX.Tabs T H ∧
  ∀ (H' : Hp), LamX.ExtN H H' → LamX.Tabs T H' → Q (oV (ev (kvs.lookup ·) f)) H'
def spFo (T : List (Addr × Str)) (N : List Str) (fi : Addr) (cl : List (Str × Addr)) (ws : List (Option V)) : Sp := fun vs H Q _ => ∃ (v : V) (fo : Fo) (f c' d : Addr) (kvs : List (Str × Str)), vs = [v, .ref fi, .ref f] ∧ ws = [some (.ref d)] ∧ Rp H v fo.enc ∧ fo.ok N ∧ Gd fo ∧ fo.size ≤ 1000 ∧ H f = some (LaO f (mkLo cl c')) ∧ H c' = some (LamX.CodeO c' qLo) ∧ LsAt H d kvs ∧ (∀ x t, kvs.lookup x = some t → t.length ≤ 130000) ∧ LamX.Tabs T H ∧
  ∀ (H' : Hp), LamX.ExtN H H' → LamX.Tabs T H' → Q (oV (ev (kvs.lookup ·) fo)) H'
theorem la_ne {f : Addr} {F : LF} {xs : List V} : LaO f F ≠ .lst xs := fun z => by unfold LaO at z; cases z
theorem la_nt {f : Addr} {F : LF} (ps : Array Value) : LaO f F ≠ .tbl ps := fun z => by unfold LaO at z; cases z
theorem Rps.rev {H : Hp} : ∀ {vs : List V} {ds : List D}, Rps H vs ds → Rps H vs.reverse ds.reverse
  | _, _, .nil => .nil
  | _, _, .cons a r => by
    rw [List.reverse_cons, List.reverse_cons]
    exact (Rps.rev r).app (.cons a .nil)
/-- where the fold stands -/
structure FS (T : List (Addr × Str)) (N : List Str) (E : Str → Option Str) (fo : Fo) (H : Hp) (dl tl : Addr) (H2 : Hp) (us : List V) (ts : List TI) (os : List (Option Str)) : Prop where
  ed : H2 dl = some (.lst (os.map oV))
  et : H2 tl = some (.lst us)
  stk : StkAt H2 dl tl us ts
  ok : ∀ t ∈ ts, TIok N t
  good : Good E fo ts.reverse os
  few : os.length + wts ts ≤ 2000
  tabs : LamX.Tabs T H2
  kd : Kd dl tl H H2
theorem wt_pos (t : TI) : 1 ≤ t.wt := by
  cases t with
  | new f => have := f.size_pos; show 1 ≤ 2 * f.size; omega
  | rest _ _ => exact Nat.le_refl _
theorem len_wts (ts : List TI) : ts.length ≤ wts ts := by
  induction ts with
  | nil => exact Nat.le_refl _
  | cons t r ih =>
    have e : wts (t :: r) = t.wt + wts r := rfl
    have := wt_pos t
    rw [e, List.length_cons]
    omega
theorem evs_len (E : Str → Option Str) (fs : List Fo) : (evs E fs).length = fs.length := by rw [evs_map, List.length_map]
theorem inner_len {f : Fo} (h : f.size ≤ 1000) : f.inner.length ≤ 1000 := by
  have h1 := Fo.inner_size f
  have h2 := sizes_len f.inner
  omega
theorem ok_fo {T : List (Addr × Str)} {N : List Str} {g fi : Addr} {fd : FuncData} {k : Nat} (F : Fun K "folded" "folded" sFo g fd) (bF : Binds K fd ["whole", "inner_of", "told_of"] [])
    (ki : PySem.W.keepIn K (.ref fi) = true) (GI : FnR P w K mg base CX0 k fi (fun vs H Q E => spInner N (vs ++ []) H Q E)) (cl : List (Str × Addr)) (GL : ∀ f c', LOk P w K mg base CX0 k f (mkLo cl c') ["leasts"] (spLa T N)) (ml : mg "len" = none) :
    FnC P w K mg base CX0 (k + 1) g cl ["leasts"] (spFo T N fi cl) := by
  intro A outer s H us vs ws Q E hr e0 C nf r hsp
  have e0' := e0
  obtain ⟨v, fo, f, c', d, kvs, rfl, ews, hv, okf, gdf, szf, hf, hc, hd, hk, hT, q⟩ := hsp
  obtain ⟨oc, od, kV, doc, pm, an, cdv, ct, osl, rfl, lk, hcd⟩ := F.ex
  have hb := bF s us (e0.mod.kin.keeps fun b o e => (e0.bs b o e).1) (by rw [List.append_nil, ← r.length]; rfl)
  rw [List.append_nil] at hb
  refine LamX.run_ofS (N := ["whole", "inner_of", "told_of", "done", "todo", "part", "inner", "start", "told", "one"]) lk hcd scFo hr e0 hb r rfl fun hr => ?_
  have FL := GL f c'
  suffices z : ∃ t, PSs (cxOf CX0 P w K mg base ["whole", "inner_of", "told_of", "done", "todo", "part", "inner", "start", "told", "one"] "folded" (defScope sFo) g cdv A outer s H E).nox (defBody sFo) t ∧ t { nx := fun _ H' => Q .non H', rt := Q } (L2.start ["whole", "inner_of", "told_of", "done", "todo", "part", "inner", "start", "told", "one"] [v, .ref fi, .ref f]) H by
    obtain ⟨t, h1, h2⟩ := z
    exact ⟨t, h1.nox, h2⟩
  have hr : Room k (cxOf CX0 P w K mg base ["whole", "inner_of", "told_of", "done", "todo", "part", "inner", "start", "told", "one"] "folded" (defScope sFo) g cdv A outer s H E).nox.A := hr
  have CA : NdefX.CellsAt (mkLo cl c').cl ["leasts"] ws (cxOf CX0 P w K mg base ["whole", "inner_of", "told_of", "done", "todo", "part", "inner", "start", "told", "one"] "folded" (defScope sFo) g cdv A outer s H E).nox.s_0.heap (cxOf CX0 P w K mg base ["whole", "inner_of", "told_of", "done", "todo", "part", "inner", "start", "told", "one"] "folded" (defScope sFo) g cdv A outer s H E).nox.H_0 := C
  have nfA : ∀ y c, (mkLo cl c').cl.lookup y = some c → c ∉ (cxOf CX0 P w K mg base ["whole", "inner_of", "told_of", "done", "todo", "part", "inner", "start", "told", "one"] "folded" (defScope sFo) g cdv A outer s H E).nox.fs := nf
  have hkL : k ≤ k := Nat.le_refl _
  refine ⟨_, (pss_cons (ps_set (i := 3) scFo.nd rfl (.inl rfl) (pe_lst pa_nil))
      (pss_cons (ps_set (i := 4) scFo.nd rfl (.inl rfl) (pe_lst (pa_cons (pe_tup (pa_cons (pv 0) (pa_cons pe_non pa_nil))) pa_nil)))
      (pss_cons (ps_while PassesOwn.never (pt_truth (pv 4) (by intro _; rfl)) (pss_cons (ps_asg (pe_bm0 PySem.F.plainAttrs_list PySem.F.slot_list_pop PySem.F.type_list_pop mt_pop (pv 4)) (pg_tup rfl (pgs_cons (pg_name (i := 5) scFo.nd rfl (.inl rfl)) (pgs_cons (pg_name (i := 6) scFo.nd rfl (.inl rfl)) pgs_nil))))
      (pss_cons (ps_if (pt_cmpR op_isN (pv 6) pe_non (nomark _)) (pss_cons (ps_set (i := 6) scFo.nd rfl (.inl rfl) (pe_callVs (i := 1) (hr.mono (by omega)) pass0 rfl (.inl rfl) (pa_cons (pv 5) pa_nil)))
      (pss_one (ps_if (pt_truth (pv 6) (by intro _; rfl)) (pss_cons (ps_expr (pe_bm PySem.F.plainAttrs_list PySem.F.slot_list_append PySem.F.type_list_append mt_append (pv 4) (pa_cons (pe_tup (pa_cons (pv 5) (pa_cons (pv 6) pa_nil))) pa_nil)))
      (pss_cons (ps_expr (pe_bm PySem.F.plainAttrs_list PySem.F.slot_list_extend PySem.F.type_list_extend mt_extend (pv 4) (pa_cons (pe_lc (own := [("one", 9)]) (g := gName 9) (tt := tYes) rfl scFo.nd (pi_list (pe_revL (pv 6))) (blkOk_by (N := ["whole", "inner_of", "told_of", "done", "todo", "part", "inner", "start", "told", "one"]) (sc := defScope sFo) (by decide +kernel)) (fun _ _ _ _ _ => (pg_name (i := 9) scFo.nd rfl (.inl rfl))) (fun _ _ _ _ _ => pts_nil) (fun _ _ _ _ _ => (pe_tup (pa_cons (pv 9) (pa_cons pe_non pa_nil))))) pa_nil)))
      (pss_one ps_continue))) pss_nil))) pss_nil)
      (pss_cons (ps_set (i := 7) scFo.nd rfl (.inl rfl) (pe_op op_sub (pe_callB call_len_seq (by rfl) ml PySem.boot_len (pa_cons (pv 3) pa_nil)) (pe_callB call_len_seq (by rfl) ml PySem.boot_len (pa_cons (pv 6) pa_nil))))
      (pss_cons (ps_set (i := 8) scFo.nd rfl (.inl rfl) (pe_slice sl_list (pv 3) (po_some (pv 7)) po_none))
      (pss_cons (ps_delT (pv 3) (pv 7))
      (pss_one (ps_expr (pe_bm PySem.F.plainAttrs_list PySem.F.slot_list_append PySem.F.type_list_append mt_append (pv 3) (pa_cons (pe_callL (i := 2) FL CA nfA (fun _ _ _ z => nomatch z) hr hkL pass0 rfl (.inl rfl) (pa_cons (pv 5) (pa_cons (pv 8) pa_nil))) pa_nil))))))))))
      (pss_one (ps_ret (pe_ix ix_list (pv 3) pe_int (fun _ _ => rfl))))))), ?_⟩
  have line : (3000000 : Nat) < sizeLine := by rw [sizeLine_eq]; decide
  refine ⟨Nat.zero_le _, fun dl nd => ?_⟩
  refine ⟨_, rfl, by show 2 ≤ sizeLine; omega, fun p np => ⟨by show 1 ≤ sizeLine; omega, fun tl nt => ?_⟩⟩
  have ntl : H tl = none := none_upd (none_upd nt)
  have dt : dl ≠ tl := fun z => by
    rw [← z, upd_ne (fun z2 => by rw [← z2, upd_same] at np; cases np), upd_same] at nt
    cases nt
  have npH : H p = none := none_upd np
  have S0 : FS T N (kvs.lookup ·) fo H dl tl (upd (upd (upd H dl (.lst [])) p (.tup [v, .non])) tl (.lst [.ref p])) [.ref p] [.new fo] [] := by
    have pd : dl ≠ p := fun z2 => by rw [← z2, upd_same] at np; cases np
    have pt : p ≠ tl := fun z => by rw [← z, upd_same] at nt; cases nt
    refine ⟨by rw [upd_ne dt, upd_ne pd, upd_same]; rfl, upd_same, ?_, ?_, rfl, ?_, Tabs.new (Tabs.new (Tabs.new hT nd) np) nt, ((Kd.d).trans (Kd.new np)).trans Kd.t⟩
    · refine ⟨rfl, fun i a t h1 h2 => ?_⟩
      cases i with
      | zero =>
        cases h1
        cases h2
        exact ⟨p, v, rfl, by rw [upd_ne pt, upd_same], ((hv.ts (TS.new nd)).ts (TS.new np)).ts (TS.new nt)⟩
      | succ i => simp at h1
    · intro t m
      rw [List.mem_singleton.mp m]
      exact ⟨okf, gdf, szf⟩
    · show 0 + (2 * fo.size + 0) ≤ 2000
      omega
  generalize upd (upd (upd H dl _) p _) tl _ = H1 at S0 ⊢
  refine ⟨fun n σ H2 => ∃ (us : List V) (ts : List TI) (os : List (Option Str)) (y5 y6 y7 y8 : Option V), σ = [some v, some (.ref fi), some (.ref f), some (.ref dl), some (.ref tl), y5, y6, y7, y8, none] ∧ n = wts ts ∧ FS T N (kvs.lookup ·) fo H dl tl H2 us ts os,
    ⟨_, [.ref p], [.new fo], [], none, none, none, none, rfl, rfl, S0⟩, ?_⟩
  rintro n σ H2 ⟨us, ts, os, y5, y6, y7, y8, rfl, rfl, S⟩
  by_cases hu : us = []
  · subst hu
    have e : ts = [] := List.eq_nil_of_length_eq_zero S.stk.1.symm
    subst e
    have g : os = [ev (kvs.lookup ·) fo] := S.good
    refine ⟨_, rfl, false, .inl ⟨[], SqL.of S.et, rfl⟩, iteF ?_⟩
    exact ⟨_, rfl, dl, _, 0, oV (ev (kvs.lookup ·) fo), rfl, rfl, SqL.of S.ed, atI_nat (j := 0) (by rw [g]; rfl), q H2 (S.kd.to nd ntl) S.tabs⟩
  obtain ⟨v1, t, ts0, ev1, rfl, ta, sk⟩ := S.stk.last hu
  refine ⟨_, rfl, true, .inl ⟨us, SqL.of S.et, by cases us with
    | nil => exact absurd rfl hu
    | cons => rfl⟩, iteT ?_⟩
  refine ⟨fun σ' H' => ∃ (us' : List V) (ts' : List TI) (os' : List (Option Str)) (y5 y6 y7 y8 : Option V), σ' = [some v, some (.ref fi), some (.ref f), some (.ref dl), some (.ref tl), y5, y6, y7, y8, none] ∧ wts ts' < wts (ts0 ++ [t]) ∧ FS T N (kvs.lookup ·) fo H dl tl H' us' ts' os',
    fun σ' H' ⟨us', ts', os', z5, z6, z7, z8, e1, e2, r⟩ => ⟨_, e2, us', ts', os', z5, z6, z7, z8, e1, rfl, r⟩, ?_⟩
  refine ⟨_, rfl, .inl ⟨rfl, _, SqL.of S.et⟩, tl, us, v1, rfl, rfl, S.et, ev1, ?_⟩
  have k23 : Kd dl tl H2 (upd H2 tl (.lst us.dropLast)) := Kd.t
  have s23 : TS H2 (upd H2 tl (.lst us.dropLast)) := TS.put S.et fun _ z => by cases z
  have ta3 := ta.keep k23 s23
  have sk3 := sk.keep k23 s23
  have ed3 : upd H2 tl (.lst us.dropLast) dl = some (.lst (os.map oV)) := by rw [upd_ne dt]; exact S.ed
  have et3 : upd H2 tl (.lst us.dropLast) tl = some (.lst us.dropLast) := upd_same
  have T3 : LamX.Tabs T (upd H2 tl (.lst us.dropLast)) := Tabs.putL S.tabs S.et
  have kd3 : Kd dl tl H (upd H2 tl (.lst us.dropLast)) := S.kd.trans k23
  generalize upd H2 tl (.lst us.dropLast) = H3 at ta3 sk3 ed3 et3 T3 kd3 ⊢
  have okt : TIok N t := S.ok t (by simp)
  have ok0 : ∀ x ∈ ts0, TIok N x := fun x m => S.ok x (List.mem_append_left _ m)
  have few := S.few
  rw [wts_app] at few
  have ew : wts (ts0 ++ [t]) = wts ts0 + t.wt := by rw [wts_app]; rfl
  rw [ew]
  have ew1 : wts [t] = t.wt := rfl
  rw [ew1] at few
  have gd := S.good
  rw [List.reverse_append] at gd
  have lsk := sk3.1
  have lw0 := len_wts ts0
  obtain ⟨p1, u, y, rfl, e1, r1, hy⟩ : ∃ (p1 : Addr) (u y : V), v1 = .ref p1 ∧ H3 p1 = some (.tup [u, y]) ∧ Rp H3 u t.fo.enc ∧ ((y = .non ∧ t = .new t.fo) ∨ ∃ (il : Addr) (ivs : List V), y = .ref il ∧ t = .rest t.fo il ∧ H3 il = some (.lst ivs) ∧ ivs.length = t.fo.inner.length ∧ il ≠ dl ∧ il ≠ tl) := by
    cases t with
    | new f1 =>
      obtain ⟨p1, u, rfl, e1, r1⟩ := ta3
      exact ⟨p1, u, .non, rfl, e1, r1, .inl ⟨rfl, rfl⟩⟩
    | rest f1 il =>
      obtain ⟨p1, u, ivs, rfl, e1, r1, e2, l2, n1, n2⟩ := ta3
      exact ⟨p1, u, .ref il, rfl, e1, r1, .inr ⟨il, ivs, rfl, rfl, e2, l2, n1, n2⟩⟩
  refine ⟨p1, _, rfl, SqT.of e1, rfl, _, _, rfl, _, _, rfl, rfl, ?_⟩
  dsimp only
  refine seq_split (fun σ' H' => ∃ (il : Addr) (ivs : List V) (d0 : List (Option Str)), σ' = [some v, some (.ref fi), some (.ref f), some (.ref dl), some (.ref tl), some u, some (.ref il), y7, y8, none] ∧ os = d0 ++ evs (kvs.lookup ·) t.fo.inner ∧ Good (kvs.lookup ·) fo ts0.reverse (d0 ++ [ev (kvs.lookup ·) t.fo]) ∧ Rp H' u t.fo.enc ∧ H' il = some (.lst ivs) ∧ ivs.length = t.fo.inner.length ∧ il ≠ dl ∧ il ≠ tl ∧
    H' dl = some (.lst (os.map oV)) ∧ H' tl = some (.lst us.dropLast) ∧ StkAt H' dl tl us.dropLast ts0 ∧ LamX.Tabs T H' ∧ Kd dl tl H H') ?_ (fun go => ?_)
  · -- the parts have been told
    rintro _ H4 ⟨il, ivs, d0, rfl, eos, gd4, r4, e4, l4, n1, n2, ed4, et4, sk4, T4, kd4⟩
    have lo : os.length = d0.length + ivs.length := by rw [eos, List.length_append, evs_len, l4]
    have li := inner_len okt.2.2
    refine ⟨_, rfl, dl, _, rfl, .inl (SqL.of ed4), _, rfl, il, _, rfl, .inl (SqL.of e4), _, _, rfl, rfl, ?_⟩
    have est : (((os.map oV).length : Nat) : Int) - ((ivs.length : Nat) : Int) = ((d0.length : Nat) : Int) := by rw [List.length_map]; omega
    dsimp only
    rw [est]
    have eml : os.map oV = d0.map oV ++ (evs (kvs.lookup ·) t.fo.inner).map oV := by rw [eos, List.map_append]
    have ld : (d0.map oV).length = d0.length := List.length_map ..
    refine ⟨_, rfl, _, rfl, _, rfl, dl, _, rfl, SqL.of ed4, fun q4 nq => ?_⟩
    have ecut : cutV (os.map oV) (some ((d0.length : Nat) : Int)) none = (evs (kvs.lookup ·) t.fo.inner).map oV := by
      rw [eml, ← ld]
      exact cut_from
    rw [ecut]
    have k45 : Kd dl tl H4 (upd H4 q4 (.lst ((evs (kvs.lookup ·) t.fo.inner).map oV))) := Kd.new nq
    have s45 : TS H4 (upd H4 q4 (.lst ((evs (kvs.lookup ·) t.fo.inner).map oV))) := TS.new nq
    have nqd : dl ≠ q4 := ne_of_none ed4 nq
    have nqt : tl ≠ q4 := ne_of_none et4 nq
    have ed5 : upd H4 q4 (.lst ((evs (kvs.lookup ·) t.fo.inner).map oV)) dl = some (.lst (os.map oV)) := by rw [upd_ne nqd]; exact ed4
    have et5 : upd H4 q4 (.lst ((evs (kvs.lookup ·) t.fo.inner).map oV)) tl = some (.lst us.dropLast) := by rw [upd_ne nqt]; exact et4
    have eq5 : upd H4 q4 (.lst ((evs (kvs.lookup ·) t.fo.inner).map oV)) q4 = some (.lst ((evs (kvs.lookup ·) t.fo.inner).map oV)) := upd_same
    have sk5 := sk4.keep k45 s45
    have r5 := r4.ts s45
    have T5 : LamX.Tabs T (upd H4 q4 (.lst ((evs (kvs.lookup ·) t.fo.inner).map oV))) := Tabs.new T4 nq
    have kd5 := kd4.trans k45
    generalize upd H4 q4 _ = H5 at ed5 et5 eq5 sk5 r5 T5 kd5 ⊢
    refine ⟨_, rfl, _, rfl, _, rfl, dl, _, d0.length, rfl, rfl, ed5, by rw [List.length_map]; omega, ?_⟩
    have etk : (os.map oV).take d0.length = d0.map oV := by rw [eml, ← ld, List.take_left']; rfl
    rw [etk]
    have k56 : Kd dl tl H5 (upd H5 dl (.lst (d0.map oV))) := Kd.d
    have s56 : TS H5 (upd H5 dl (.lst (d0.map oV))) := TS.put ed5 fun _ z => by cases z
    have ed6 : upd H5 dl (.lst (d0.map oV)) dl = some (.lst (d0.map oV)) := upd_same
    have et6 : upd H5 dl (.lst (d0.map oV)) tl = some (.lst us.dropLast) := by rw [upd_ne dt.symm]; exact et5
    have eq6 : upd H5 dl (.lst (d0.map oV)) q4 = some (.lst ((evs (kvs.lookup ·) t.fo.inner).map oV)) := by rw [upd_ne nqd.symm]; exact eq5
    have sk6 := sk5.keep k56 s56
    have r6 := r5.ts s56
    have T6 : LamX.Tabs T (upd H5 dl (.lst (d0.map oV))) := Tabs.putL T5 ed5
    have kd6 := kd5.trans k56
    generalize upd H5 dl _ = H6 at ed6 et6 eq6 sk6 r6 T6 kd6 ⊢
    have X6 := kd6.to nd ntl
    refine ⟨_, rfl, .inl ⟨rfl, _, SqL.of ed6⟩, rfl, X6 _ _ hf la_nt, _, rfl, _, rfl, X6 _ _ hf la_nt, X6 _ _ hc LamX.codeO_ne, u, t.fo, q4, d, _, kvs, rfl, ews, r6, okt.1, okt.2.1, eq6, rfl, X6 _ _ hd (fun _ z => nomatch z), hk, T6, fun H7 x7 T7 => ?_⟩
    have k67 : Kd dl tl H6 H7 := Kd.ext x7
    have ed7 := x7 _ _ ed6 fun _ z => nomatch z
    have et7 := x7 _ _ et6 fun _ z => nomatch z
    have sk7 := sk6.keep k67 (ts_ext x7)
    have wp := wt_pos t
    refine ⟨dl, _, _, rfl, rfl, ed7, by rw [List.length_map]; omega, us.dropLast, ts0, d0 ++ [ev (kvs.lookup ·) t.fo], _, _, _, _, rfl, by omega, ⟨by rw [upd_same, List.map_append]; rfl, by rw [upd_ne dt.symm]; exact et7, sk7.keep Kd.d (TS.put ed7 fun _ z => by cases z), ok0, gd4, ?_, Tabs.putL T7 ed7, (kd6.trans k67).trans Kd.d⟩⟩
    rw [List.length_append]
    show d0.length + 1 + _ ≤ _
    omega
  · refine ⟨_, rfl, rfl, _, rfl, ?_⟩
    rcases hy with ⟨rfl, et⟩ | ⟨il, ivs, rfl, et, e2, l2, n1, n2⟩
    · refine iteT ?_
      have okt' : TIok N (.new t.fo) := okt
      refine ⟨fi, _, rfl, ki, GI, _, rfl, u, t.fo, rfl, r1, okt.1, by have := okt.2.2; omega, fun ivs il H4 n4 e4 r4 k4 => ?_⟩
      have d3 : Kd dl tl H3 H4 := Kd.kp k4
      have t4 : TS H3 H4 := RT.ts0 k4
      have nld : il ≠ dl := (ne_of_none ed3 n4).symm
      have nlt : il ≠ tl := (ne_of_none et3 n4).symm
      have li : ivs.length = t.fo.inner.length := by rw [r4.len, encs_map, List.length_map]
      have ed4 := k4 _ _ (fun z => z) ed3
      have et4 := k4 _ _ (fun z => z) et3
      have sk4 := sk3.keep d3 t4
      have T4 : LamX.Tabs T H4 := T3.ext fun b o e => k4 b o (fun z => z) e
      have kd4 := kd3.trans d3
      have r1' := r1.ts t4
      have gd1 : Good (kvs.lookup ·) fo ts0.reverse (os ++ [ev (kvs.lookup ·) t.fo]) := by
        have z := gd
        rw [et] at z
        exact z
      have esz := Fo.inner_size t.fo
      have sz1 : t.fo.size ≤ 1000 := okt.2.2
      have l1000 := inner_len sz1
      have ewt : t.wt = 2 * t.fo.size := by rw [et]; rfl
      by_cases hi : ivs = []
      · have e0 : t.fo.inner = [] := List.eq_nil_of_length_eq_zero (by rw [← li, hi]; rfl)
        refine ⟨_, rfl, false, .inl ⟨_, SqL.of e4, by rw [hi]; rfl⟩, iteF ?_⟩
        exact go _ _ ⟨il, ivs, os, rfl, by rw [e0]; exact (List.append_nil _).symm, gd1, r1', e4, li, nld, nlt, ed4, et4, sk4, T4, kd4⟩
      refine ⟨_, rfl, true, .inl ⟨_, SqL.of e4, by cases ivs with
        | nil => exact absurd rfl hi
        | cons => rfl⟩, iteT ?_⟩
      refine ⟨_, rfl, .inl ⟨rfl, _, SqL.of et4⟩, _, rfl, _, rfl, by show 2 ≤ sizeLine; omega, fun p np => ?_⟩
      have d5 : Kd dl tl H4 (upd H4 p (.tup [u, .ref il])) := Kd.new np
      have t5 : TS H4 (upd H4 p (.tup [u, .ref il])) := TS.new np
      have ed5 : upd H4 p (.tup [u, .ref il]) dl = some (.lst (os.map oV)) := by rw [upd_ne (ne_of_none ed4 np)]; exact ed4
      have et5 : upd H4 p (.tup [u, .ref il]) tl = some (.lst us.dropLast) := by rw [upd_ne (ne_of_none et4 np)]; exact et4
      have ep5 : upd H4 p (.tup [u, .ref il]) p = some (.tup [u, .ref il]) := upd_same
      have e5 : upd H4 p (.tup [u, .ref il]) il = some (.lst ivs) := by rw [upd_ne (ne_of_none e4 np)]; exact e4
      have sk5 := sk4.keep d5 t5
      have T5 : LamX.Tabs T (upd H4 p (.tup [u, .ref il])) := Tabs.new T4 np
      have kd5 := kd4.trans d5
      have r5 := r4.ts t5
      have r15 := r1'.ts t5
      generalize upd H4 p _ = H5 at ed5 et5 ep5 e5 sk5 T5 kd5 r5 r15 ⊢
      refine ⟨tl, _, _, rfl, rfl, et5, by omega, ?_⟩
      have d6 : Kd dl tl H5 (upd H5 tl (.lst (us.dropLast ++ [.ref p]))) := Kd.t
      have t6 : TS H5 (upd H5 tl (.lst (us.dropLast ++ [.ref p]))) := TS.put et5 fun _ z => by cases z
      have ed6 : upd H5 tl (.lst (us.dropLast ++ [.ref p])) dl = some (.lst (os.map oV)) := by rw [upd_ne dt]; exact ed5
      have et6 : upd H5 tl (.lst (us.dropLast ++ [.ref p])) tl = some (.lst (us.dropLast ++ [.ref p])) := upd_same
      have e6 : upd H5 tl (.lst (us.dropLast ++ [.ref p])) il = some (.lst ivs) := by rw [upd_ne nlt]; exact e5
      have sk6 := sk5.keep d6 t6
      have T6 : LamX.Tabs T (upd H5 tl (.lst (us.dropLast ++ [.ref p]))) := Tabs.putL T5 et5
      have kd6 := kd5.trans d6
      have r6 := r5.ts t6
      have r16 := r15.ts t6
      have ep6 := t6 _ _ ep5
      generalize upd H5 tl _ = H6 at ed6 et6 e6 sk6 T6 kd6 r6 r16 ep6 ⊢
      have skr : StkAt H6 dl tl [.ref p] [.rest t.fo il] := ⟨rfl, fun i a b h1 h2 => by
        cases i with
        | zero =>
          cases h1
          cases h2
          exact ⟨p, u, ivs, rfl, ep6, r16, e6, li, nld, nlt⟩
        | succ i => simp at h1⟩
      have sk6 := sk6.app skr
      refine ⟨_, rfl, .inl ⟨rfl, _, SqL.of et6⟩, _, rfl, il, ivs, rfl, SqL.of e6, fun rl nr => ⟨rl, rfl, ⟨_, SqL.of upd_same⟩, fun D nD => ?_⟩⟩
      have k67 : Kp M0 H6 (upd H6 rl (.lst ivs.reverse)) := Kp.new nr
      have er7 : upd H6 rl (.lst ivs.reverse) rl = some (.lst ivs.reverse) := upd_same
      generalize upd H6 rl (.lst ivs.reverse) = H7 at k67 er7 nD ⊢
      refine lc_list (K := K) (a := rl) (xs := ivs.reverse) (fun i H8 => i ≤ ivs.length ∧ Kp M0 H7 H8 ∧ ∃ qs : List V, H8 D = some (.lst qs) ∧ qs.length = i ∧ ∀ (j : Nat) (a : V), qs[j]? = some a → ∃ (q : Addr) (x : V), a = .ref q ∧ ivs.reverse[j]? = some x ∧ H8 q = some (.tup [x, .non])) ?_ ?_ ?_ ?_
      · exact ⟨Nat.zero_le _, Kp.new nD, [], upd_same, rfl, fun j a h => by simp at h⟩
      · exact fun i H8 _ h => SqL.of (h.2.1 _ _ (fun z => z) er7)
      · rintro i x H8 hx ⟨hi8, k8, qs, e8, lq, hq⟩
        have lt := (List.getElem?_eq_some_iff.mp hx).1
        rw [List.length_reverse] at lt
        refine ⟨rfl, tYes_ok (iteT ⟨_, rfl, by show 2 ≤ sizeLine; omega, fun q nq => ⟨qs, by rw [upd_ne (ne_of_none e8 nq)]; exact e8, by omega, lt, ?_, qs ++ [.ref q], upd_same, by rw [List.length_append, lq]; rfl, fun j a h => ?_⟩⟩)⟩
        · exact (k8.trans (Kp.new nq)).own nD
        · have qD : q ≠ D := fun z => by rw [z, e8] at nq; cases nq
          have t8 : TS H8 (upd (upd H8 q (.tup [x, .non])) D (.lst (qs ++ [.ref q]))) := (TS.new nq).trans (TS.put (by rw [upd_ne (ne_of_none e8 nq)]; exact e8) fun _ z => by cases z)
          by_cases c : j < qs.length
          · rw [List.getElem?_append_left c] at h
            obtain ⟨q2, x2, ea, ex, eq⟩ := hq j a h
            exact ⟨q2, x2, ea, ex, t8 _ _ eq⟩
          · rw [List.getElem?_append_right (by omega)] at h
            have ej : j - qs.length = 0 := by
              have := (List.getElem?_eq_some_iff.mp h).1
              rw [List.length_singleton] at this
              omega
            rw [ej] at h
            cases h
            have ej : j = i := by omega
            rw [ej]
            exact ⟨q, x, rfl, hx, by rw [upd_ne qD, upd_same]⟩
      · rintro H8 ⟨_, k8, qs, e8, lq, hq⟩
        rw [List.length_reverse] at lq
        have k68 := k67.trans k8
        have d8 : Kd dl tl H6 H8 := Kd.kp k68
        have t8 : TS H6 H8 := RT.ts0 k68
        have et8 := k68 _ _ (fun z => z) et6
        have ed8 := k68 _ _ (fun z => z) ed6
        have sk8 := sk6.keep d8 t8
        have r8 := (r6.ts t8).rev
        have ee : (Fo.encs t.fo.inner).reverse = Fo.encs t.fo.inner.reverse := by rw [encs_map, encs_map, List.map_reverse]
        rw [ee] at r8
        have T8 : LamX.Tabs T H8 := T6.ext fun b o e => k68 b o (fun z => z) e
        have skn : StkAt H8 dl tl qs (t.fo.inner.reverse.map TI.new) := stk_news (by rw [List.length_reverse]; omega) fun j a g h1 h2 => by
          obtain ⟨q, x, rfl, ex, eq⟩ := hq j a h1
          obtain ⟨dd, hd, rd⟩ := r8.get j x ex
          rw [encs_map, List.getElem?_map, h2] at hd
          cases hd
          exact ⟨q, x, rfl, eq, rd⟩
        have sk9 := sk8.app skn
        refine ⟨tl, D, _, _, rfl, rfl, et8, e8, by rw [List.length_append]; show us.dropLast.length + 1 + qs.length ≤ _; omega, ?_⟩
        refine ⟨_, (ts0 ++ [.rest t.fo il]) ++ t.fo.inner.reverse.map TI.new, os, _, _, _, _, rfl, ?_, ⟨by rw [upd_ne dt]; exact ed8, upd_same, sk9.keep Kd.t (TS.put et8 fun _ z => by cases z), ?_, ?_, ?_, Tabs.putL T8 et8, (kd6.trans d8).trans Kd.t⟩⟩
        · rw [wts_app, wts_app, List.map_reverse, wts_rev, wts_new]
          show wts ts0 + 1 + _ < _
          omega
        · intro x m
          rcases List.mem_append.mp m with m | m
          · rcases List.mem_append.mp m with m | m
            · exact ok0 x m
            · rw [List.mem_singleton.mp m]
              exact okt
          · obtain ⟨g, mg', rfl⟩ := List.mem_map.mp m
            exact okt'.inner g (List.mem_reverse.mp mg')
        · rw [List.reverse_append, List.map_reverse, List.reverse_reverse, List.reverse_append]
          refine good_news _ ?_
          exact ⟨os, rfl, gd1⟩
        · rw [wts_app, wts_app, List.map_reverse, wts_rev, wts_new]
          show _ + (wts ts0 + 1 + _) ≤ _
          omega
    · refine iteF ?_
      have gd2 := gd
      rw [et] at gd2
      obtain ⟨d0, eo, g0⟩ := gd2
      exact go _ _ ⟨il, ivs, d0, rfl, eo, g0, r1, e2, l2, n1, n2, ed3, et3, sk3, T3, kd3⟩
end
end RT

set_option maxHeartbeats 1000000
namespace RT
open PySem PySem.Spec PyProof.Rows L2 LK
theorem scLo : FnScope ["item", "leasts"] ["item", "leasts"] (defScope sLo) := ⟨rfl, rfl, rfl, by decide +kernel, rfl, by decide +kernel, by decide +kernel⟩
section
variable {P : Program} {w : World} {K : PySem.W.Frag} {mg : Str → Option Value} {base : Heap}
theorem la_ok {T : List (Addr × Str)} {N : List Str} {ft : Addr} {fdt : FuncData} {k : Nat} (GTl : FnOk P w K mg base CX0 k ft fdt ["item", "inner", "leasts"] (spTl T N)) (ktl : PySem.W.keepIn K (.ref ft) = true) (btl : Binds K fdt ["item", "inner", "leasts"] []) (gtl : mg "_told_least" = some (.ref ft)) (cl : List (Str × Addr)) (f c' : Addr) :
    LOk P w K mg base CX0 (k + 1) f (mkLo cl c') ["leasts"] (spLa T N) := by
  refine lok_of (N := ["part", "inner", "leasts"]) (ps := ["part", "inner"]) (NdefX.nscope_by (by rfl)) (fun pm ctv us hl => match us, hl with | [_, _], _ => rfl) (fun ws vs H Q E h => ?_) (fun A outer s H vs ws Q E hr hf hc lw h => ?_)
  · obtain ⟨v, f, l, d, os, kvs, rfl, _⟩ := h
    rfl
  · obtain ⟨v, f, l, d, os, kvs, rfl, rfl, rv, ok, gd, hl, eos, hd, hk, hT, q⟩ := h
    refine ⟨_, (pe_call GTl hr (by rfl) gtl ktl btl .nil pass0 (pa_cons (pv 0) (pa_cons (pv 1) (pa_cons (pv 2) pa_nil)))), ?_⟩
    exact ⟨_, rfl, _, rfl, _, rfl, v, f, l, d, os, kvs, rfl, rv, ok, gd, hl, eos, hd, hk, hT, q⟩
def spLo (T : List (Addr × Str)) (N : List Str) : Sp := fun vs H Q _ => ∃ (v : V) (fo : Fo) (d : Addr) (kvs : List (Str × Str)), vs = [v, .ref d] ∧ Rp H v fo.enc ∧ fo.ok N ∧ Gd fo ∧ fo.size ≤ 1000 ∧ LsAt H d kvs ∧ (∀ x t, kvs.lookup x = some t → t.length ≤ 130000) ∧ LamX.Tabs T H ∧
  ∀ (H' : Hp), LamX.ExtN H H' → LamX.Tabs T H' → Q (oV (ev (kvs.lookup ·) fo)) H'
theorem ok_lo {T : List (Addr × Str)} {N : List Str} {c T0 f fg fi : Addr} {fd : FuncData} {k : Nat} (F : FunT K "least_of" "least_of" sLo f fd c) (MK : Mkr base mg T c T0 qLo) (FC : ∀ cl, FnC P w K mg base CX0 k fg cl ["leasts"] (spFo T N fi cl)) (kfo : PySem.W.keepIn K (.ref fg) = true) (gfo : mg "folded" = some (.ref fg)) (gii : mg "inner_items" = some (.ref fi)) :
    FnOk P w K mg base CX0 (k + 1) f fd ["item", "leasts"] (spLo T N) := by
  refine F.ok scLo (fun vs H Q E h => ?_) (fun A outer s H vs Q E hr h => ?_)
  · obtain ⟨v, fo, d, kvs, rfl, _⟩ := h
    rfl
  · obtain ⟨v, fo, d, kvs, rfl, rv, ok, gd, sz, hd, hk, hT, q⟩ := h
    refine ⟨_, (pss_one (ps_ret (pe_callC (js := [1]) (FC _) (fun ok => NdefX.Caps.made (scope := (lamOf (defBody sLo)).2.2) (fr := ["leasts"]) ok (NdefX.ndef_free (fr := ["leasts"]) (by rfl)) (NdefX.ndef_fr (sc := defScope sLo) (by rfl)) rfl) hr (Nat.le_refl _) (by rfl) gfo kfo pass0 (pa_cons (pv 0) (pa_cons (pe_glob (v := .ref fi) (by rfl) gii rfl) (pa_cons (pe_la MK.TB rfl MK.mem MK.un (by rfl) (NdefX.ndef_free (fr := ["leasts"]) (by rfl))) pa_nil)))))), ?_⟩
    refine ⟨_, rfl, hT, fun f' c' H1 e1 T1 f0 f1 c1 => ?_⟩
    exact ⟨v, fo, f', c', d, kvs, rfl, rfl, rv.ts (ts_ext e1), ok, gd, sz, f1, c1, e1 _ _ hd (fun _ z => nomatch z), hk, T1, fun H' x' T' => q H' (e1.trans x') T'⟩
end
end RT

set_option maxHeartbeats 1000000
namespace RT
open PySem PySem.Spec PyProof.Rows L2 LK
abbrev sLt : Stmt := topS 15
abbrev sLx : Stmt := topS 13
theorem scLt : FnScope ["table", "leasts", "found", "text", "done", "name", "pair"] ["table"] (defScope sLt) := ⟨rfl, rfl, rfl, by decide +kernel, rfl, by decide +kernel, by decide +kernel⟩
theorem scLx : FnScope ["book", "name"] ["book", "name"] (defScope sLx) := ⟨rfl, rfl, rfl, by decide +kernel, rfl, by decide +kernel, by decide +kernel⟩
abbrev qLt : Str := "least_texts" ++ ".<locals>." ++ "<lambda>"
/-- names with their texts, as tuples -/
def ItsAt (H : Hp) (E : Str → Option Str) (its : List V) (l : List (Str × Fo)) : Prop := its.length = l.length ∧ ∀ (j : Nat) (a : V) (p : Str × Fo), its[j]? = some a → l[j]? = some p → ∃ q : Addr, a = .ref q ∧ H q = some (.tup [oV (ev E p.2), .str p.1])
theorem ItsAt.ts {H H' : Hp} {E : Str → Option Str} {its : List V} {l : List (Str × Fo)} (h : ItsAt H E its l) (k : TS H H') : ItsAt H' E its l := ⟨h.1, fun j a p h1 h2 => by
  obtain ⟨q, e, eq⟩ := h.2 j a p h1 h2
  exact ⟨q, e, k _ _ eq⟩⟩
theorem ItsAt.snoc {H : Hp} {E : Str → Option Str} {its : List V} {l : List (Str × Fo)} {q : Addr} {p : Str × Fo} (h : ItsAt H E its l) (e : H q = some (.tup [oV (ev E p.2), .str p.1])) : ItsAt H E (its ++ [.ref q]) (l ++ [p]) := by
  refine ⟨by rw [List.length_append, List.length_append, h.1]; rfl, fun j a r h1 h2 => ?_⟩
  by_cases c : j < its.length
  · rw [List.getElem?_append_left c] at h1
    rw [List.getElem?_append_left (by rw [← h.1]; exact c)] at h2
    exact h.2 j a r h1 h2
  · rw [List.getElem?_append_right (by omega)] at h1
    rw [List.getElem?_append_right (by rw [← h.1]; omega), ← h.1] at h2
    have z : j - its.length = 0 := by
      have := (List.getElem?_eq_some_iff.mp h1).1
      rw [List.length_singleton] at this
      omega
    rw [z] at h1 h2
    cases h1
    cases h2
    exact ⟨q, rfl, e⟩
/-- all but the dict and tables stays -/
def RX (d : Addr) (H H' : Hp) : Prop := ∀ b o, b ≠ d → (∀ ps, o ≠ .tbl ps) → H b = some o → H' b = some o
theorem RX.ext {d : Addr} {H H1 H2 : Hp} (a : RX d H H1) (b : LamX.ExtN H1 H2) : RX d H H2 := fun c o h n e => b c o (a c o h n e) n
theorem RX.to {d : Addr} {H H' : Hp} (k : RX d H H') (n : H d = none) : LamX.ExtN H H' := fun b o e n' => k b o (ne_of_none e n) n' e
theorem ext_kp {H H' : Hp} (k : Kp M0 H H') : LamX.ExtN H H' := fun b o e _ => k b o (fun z => z) e
theorem tabs_kp {T : List (Addr × Str)} {H H' : Hp} (t : LamX.Tabs T H) (k : Kp M0 H H') : LamX.Tabs T H' := t.ext fun b o e => k b o (fun z => z) e
theorem Tabs.putO {T : List (Addr × Str)} {H : Hp} {p : Addr} {u o : HO} (t : LamX.Tabs T H) (h : H p = some u) (n1 : ∀ ps, u ≠ .tbl ps) (n2 : ∀ φ, u ≠ .ext φ) : LamX.Tabs T (upd H p o) := fun x hx => by
  obtain ⟨ps, h1, h2, h3⟩ := t x hx
  refine ⟨ps, by rw [upd_ne (ne_of h1 h fun z => n1 _ z.symm)]; exact h1, h2, fun pos cv hc => ?_⟩
  obtain ⟨c, e1, e2⟩ := h3 pos cv hc
  exact ⟨c, e1, by rw [upd_ne (ne_of e2 h fun z => n2 _ z.symm)]; exact e2⟩
/-- the names that are not done -/
def und (kvs : List (Str × Str)) (l : List (Str × Fo)) : List (Str × Fo) := l.filter fun p => (kvs.lookup p.1).isNone
theorem und_snoc {kvs : List (Str × Str)} {l : List (Str × Fo)} {p : Str × Fo} : und kvs (l ++ [p]) = if (kvs.lookup p.1).isNone = true then und kvs l ++ [p] else und kvs l := by
  unfold und
  rw [List.filter_append]
  cases h : (kvs.lookup p.1).isNone with
  | true => rw [if_pos rfl]; simp [h]
  | false => rw [if_neg (by simp)]; simp [h]
/-- those of them that have a text -/
def fnd (E : Str → Option Str) (l : List (Str × Fo)) : List (Str × Fo) := l.filter fun p => (ev E p.2).isSome
theorem fnd_snoc {E : Str → Option Str} {l : List (Str × Fo)} {p : Str × Fo} : fnd E (l ++ [p]) = if (ev E p.2).isSome = true then fnd E l ++ [p] else fnd E l := by
  unfold fnd
  rw [List.filter_append]
  cases h : (ev E p.2).isSome with
  | true => rw [if_pos rfl]; simp [h]
  | false => rw [if_neg (by simp)]; simp [h]
structure TbOk (N : List Str) (r : Nat) (tb : List (Str × Fo)) : Prop where
  nd : (tb.map (·.1)).Nodup
  few : tb.length ≤ 12
  r1 : 1 ≤ r
  bd : Bd r tb.length ≤ 130000
  ok : ∀ x f, (x, f) ∈ tb → f.ok N ∧ Gd f ∧ LenOk r f ∧ f.size ≤ 1000
section
variable {P : Program} {w : World} {K : PySem.W.Frag} {mg : Str → Option Value} {base : Heap}
def spLt (T : List (Addr × Str)) (N : List Str) : Sp := fun vs H Q _ => ∃ (t : Addr) (tb : List (Str × Fo)) (r : Nat), vs = [.ref t] ∧ TabAt H t tb ∧ TbOk N r tb ∧ LamX.Tabs T H ∧
  ∀ (d : Addr) (kvs : List (Str × Str)) (H' : Hp), LamX.ExtN H H' → LamX.Tabs T H' → LsAt H' d kvs → KInv tb kvs → (∀ y g, (y, g) ∈ tb → kvs.lookup y = none → ev (kvs.lookup ·) g = none) → Q (.ref d) H'
theorem ok_lt {T : List (Addr × Str)} {N : List Str} {c T0 f fl : Addr} {fd fdl : FuncData} {k : Nat} (F : FunT K "least_texts" "least_texts" sLt f fd c) (MK : Mkr base mg T c T0 qLt) (GLo : FnOk P w K mg base CX0 k fl fdl ["item", "leasts"] (spLo T N)) (klo : PySem.W.keepIn K (.ref fl) = true) (blo : Binds K fdl ["item", "leasts"] []) (glo : mg "least_of" = some (.ref fl)) (mmi : mg "min" = none) (ml : mg "len" = none) :
    FnOk P w K mg base CX0 (k + 1) f fd ["table"] (spLt T N) := by
  refine F.ok scLt (fun vs H Q E h => ?_) (fun A outer s H vs Q E hr h => ?_)
  · obtain ⟨t, tb, r, rfl, _⟩ := h
    rfl
  · obtain ⟨t, tb, r, rfl, ht, TB, hT, q⟩ := h
    have line : (3000000 : Nat) < sizeLine := by rw [sizeLine_eq]; decide
    obtain ⟨us, et, lus, hus⟩ := ht
    refine ⟨_, (pss_cons (ps_set (i := 1) scLt.nd rfl (.inr rfl) pe_dnewK)
      (pss_one (ps_while PassesOwn.never (pt_val pe_bl) (pss_cons (ps_lock (ps_setLc (i := 2) (own := [("name", 5)]) (g := gName 5) rfl scLt.nd rfl rfl rfl (pi_keys (pv 0)) (blkOk_by (N := ["table", "leasts", "found", "text", "done", "name", "pair"]) (sc := defScope sLt) (by decide +kernel)) (fun _ _ _ _ _ => (pg_name (i := 5) scLt.nd rfl (.inl rfl))) (fun _ _ _ _ _ => (pts_one (pt_cmp (pc_dnotin (hu_of hr) (pv 5) (pv 1))))) (fun _ _ _ _ _ => (pe_tup (pa_cons (pe_call GLo hr (by rfl) glo klo blo .nil pass0 (pa_cons (pe_dget (hu_of hr) (pv 0) (pv 5) (fun _ _ => rfl)) (pa_cons (pv 1) pa_nil))) (pa_cons (pv 5) pa_nil))))))
      (pss_cons (ps_setLc (i := 2) (own := [("pair", 6)]) (g := gName 6) rfl scLt.nd rfl rfl rfl (pi_list (pv 2)) (blkOk_by (N := ["table", "leasts", "found", "text", "done", "name", "pair"]) (sc := defScope sLt) (by decide +kernel)) (fun _ _ _ _ _ => (pg_name (i := 6) scLt.nd rfl (.inl rfl))) (fun _ _ _ _ _ => (pts_one (pt_cmpR op_notN (pe_ix (show IxR _ (rIxT K) from ix_tup) (pv 6) pe_int (fun _ _ => rfl)) pe_non (nomark _)))) (fun _ _ _ _ _ => (pv 6)))
      (pss_cons (ps_if (pt_not (pt_truth (pv 2) (by intro _; rfl))) (pss_one (ps_ret (pv 1))) pss_nil)
      (pss_cons (ps_asg (pe_callBK (cr_minK hr) (by rfl) mmi (by decide +kernel) (pa_cons (pv 2) pa_nil) (pk_cons (pe_la MK.TB rfl MK.mem MK.un (by rfl) (NdefX.ndef_free (fr := []) (by rfl))) pk_nil)) (pg_tup rfl (pgs_cons (pg_name (i := 3) scLt.nd rfl (.inl rfl)) (pgs_cons (pg_name (i := 4) scLt.nd rfl (.inl rfl)) pgs_nil))))
      (pss_one (ps_dput (hu_of hr) (pv 1) (pv 4) (pv 3) rfl))))))))), ?_⟩
    intro d nd
    have td : t ≠ d := ne_of_none et nd
    have S0 : LsAt (upd H d (.dK [])) d [] := upd_same
    have T0' : LamX.Tabs T (upd H d (.dK [])) := Tabs.new hT nd
    have R0 : RX d H (upd H d (.dK [])) := fun b o h _ e => by rw [upd_ne h]; exact e
    generalize upd H d (.dK []) = H1 at S0 T0' R0 ⊢
    refine ⟨fun n σ H2 => ∃ (kvs : List (Str × Str)) (y2 y3 y4 : Option V), σ = [some (.ref t), some (.ref d), y2, y3, y4, none, none] ∧ n = tb.length - kvs.length ∧ LsAt H2 d kvs ∧ KInv tb kvs ∧ (∀ x u, (x, u) ∈ kvs → u.length ≤ Bd r kvs.length) ∧ LamX.Tabs T H2 ∧ RX d H H2,
      ⟨_, [], none, none, none, rfl, rfl, S0, KInv.nil, fun _ _ h => absurd h List.not_mem_nil, T0', R0⟩, ?_⟩
    rintro n σ H2 ⟨kvs, y2, y3, y4, rfl, rfl, S, KI, hb, T2, R2⟩
    refine ⟨true, rfl, iteT ?_⟩
    have lk := KI.len
    have few := TB.few
    have hk : ∀ x u, kvs.lookup x = some u → u.length ≤ 130000 := fun x u h => Nat.le_trans (hb x u (mem_look h)) (Nat.le_trans (Bd_mono TB.r1 lk) TB.bd)
    have et2 := R2 _ _ td (by intro _ z; cases z) et
    have rus : ∀ (j : Nat) (u : V) (x : Str × Fo), us[j]? = some u → tb[j]? = some x → Rp H2 u x.2.enc := fun j u x h1 h2 => (hus j u x h1 h2).ts fun b vs e => R2 _ _ (fun z => by rw [z, nd] at e; cases e) (fun _ z => nomatch z) e
    refine ⟨fun σ' H' => ∃ (kvs' : List (Str × Str)) (y2 y3 y4 : Option V), σ' = [some (.ref t), some (.ref d), y2, y3, y4, none, none] ∧ tb.length - kvs'.length < tb.length - kvs.length ∧ LsAt H' d kvs' ∧ KInv tb kvs' ∧ (∀ x u, (x, u) ∈ kvs' → u.length ≤ Bd r kvs'.length) ∧ LamX.Tabs T H' ∧ RX d H H',
      fun σ' H' ⟨kvs', z2, z3, z4, e1, e2, r⟩ => ⟨_, e2, kvs', z2, z3, z4, e1, rfl, r⟩, ?_⟩
    refine ⟨t, _, et2, trivial, fun od => ?_⟩
    have lT : (List.zipWith (fun (x : Str × Fo) u => ((.inr x.1 : L2.Key), u)) tb us).length = tb.length := by rw [List.length_zipWith, lus, Nat.min_self]
    have atT : ∀ (i : Nat) (x : Str) (g : Fo), tb[i]? = some (x, g) → ∃ u, us[i]? = some u ∧ Rp H2 u g.enc ∧ valV (List.zipWith (fun (x : Str × Fo) u => ((.inr x.1 : L2.Key), u)) tb us) (.inr x) = some u := fun i x g h => by
      have hi := (List.getElem?_eq_some_iff.mp h).1
      have hu : us[i]? = some (us[i]'(by omega)) := List.getElem?_eq_getElem (by omega)
      exact ⟨_, hu, rus i _ _ hu h, zip_val TB.nd h hu⟩
    generalize hzT : List.zipWith (fun (x : Str × Fo) u => ((.inr x.1 : L2.Key), u)) tb us = kT at et2 lT atT ⊢
    have keyT : ∀ (i : Nat) (k : L2.Key) (v : V), kT[i]? = some (k, v) → ∃ x g, tb[i]? = some (x, g) ∧ k = .inr x := fun i k v h => by
      rw [← hzT, List.getElem?_zipWith] at h
      cases e1 : tb[i]? with
      | none => rw [e1] at h; cases h
      | some p =>
        rw [e1] at h
        cases e2 : us[i]? with
        | none => rw [e2] at h; cases h
        | some u =>
          rw [e2] at h
          cases h
          exact ⟨p.1, p.2, rfl, rfl⟩
    have SL : LsAt (upd H2 t (.frz od (.dK kT))) d kvs := by unfold LsAt; rw [upd_ne td.symm]; exact S
    have eL : upd H2 t (.frz od (.dK kT)) t = some (.frz od (.dK kT)) := upd_same
    have TL : LamX.Tabs T (upd H2 t (.frz od (.dK kT))) := Tabs.putO T2 et2 (by intro _ z; cases z) (by intro _ z; cases z)
    have sL : TS H2 (upd H2 t (.frz od (.dK kT))) := TS.put et2 fun _ z => by cases z
    have rvT : ∀ (i : Nat) (x : Str) (g : Fo), tb[i]? = some (x, g) → ∃ u, Rp (upd H2 t (.frz od (.dK kT))) u g.enc ∧ valV kT (.inr x) = some u := fun i x g h => by
      obtain ⟨u, _, ru, vu⟩ := atT i x g h
      exact ⟨u, ru.ts sL, vu⟩
    -- behind the lock
    have back : ∀ H3, LamX.ExtN (upd H2 t (.frz od (.dK kT))) H3 → H3 t = some (.frz od (.dK kT)) ∧ LamX.ExtN H2 (upd H3 t (.dK kT)) := fun H3 x3 => by
      refine ⟨x3 _ _ eL (by intro _ z; cases z), fun b o e n => ?_⟩
      by_cases hb : b = t
      · rw [hb, upd_same]
        rw [hb, et2] at e
        exact e
      · rw [upd_ne hb]
        exact x3 b o (by rw [upd_ne hb]; exact e) n
    generalize hHL : upd H2 t (.frz od (.dK kT)) = HL at SL eL TL sL rvT back ⊢
    refine ⟨_, rfl, t, od, rfl, .inl ⟨_, eL, fun D nD => ?_⟩⟩
    refine lc_it walk_keys (fun i H4 => i ≤ tb.length ∧ LamX.ExtN HL H4 ∧ LamX.Tabs T H4 ∧ ∃ its : List V, H4 D = some (.lst its) ∧ ItsAt H4 (kvs.lookup ·) its (und kvs (tb.take i))) ?_ ?_ ?_ ?_
    · exact ⟨Nat.zero_le _, ext_new nD, Tabs.new TL nD, [], upd_same, rfl, fun j a p h => by simp at h⟩
    · exact fun i H4 _ h => h.2.1 _ _ eL (by intro _ z; cases z)
    · rintro i x H3 H4 hi ⟨hi4, x4, T4, its, e4, i4⟩ ⟨rfl, k, v, ek, rfl⟩
      obtain ⟨n, g, eg, rfl⟩ := keyT i k v ek
      obtain ⟨u, ru, vu⟩ := rvT i n g eg
      have lt := (List.getElem?_eq_some_iff.mp eg).1
      have tk : tb.take (i + 1) = tb.take i ++ [(n, g)] := by rw [List.take_add_one, eg]; rfl
      have S4 : LsAt H4 d kvs := x4 _ _ SL (by intro _ z; cases z)
      have et4 := x4 _ _ eL (by intro _ z; cases z)
      refine ⟨rfl, _, rfl, _, rfl, d, _, rfl, DGet.k (k := .inr n) S4, _, rfl, ?_⟩
      rw [look_val]
      cases hl : kvs.lookup n with
      | some z =>
        refine iteF' (by rfl) ⟨lt, x4, T4, its, e4, ?_⟩
        rw [tk, und_snoc, if_neg (by show ¬ (kvs.lookup n).isNone = true; rw [hl]; exact Bool.false_ne_true)]
        exact i4
      | none =>
        refine iteT' (by rfl) ?_
        obtain ⟨okg, gdg, _, szg⟩ := TB.ok n g (List.mem_of_getElem? eg)
        refine ⟨_, rfl, _, rfl, t, _, rfl, .inl ⟨kT, .inr n, .inr ⟨od, et4⟩, rfl, vu.symm⟩, _, rfl, u, g, d, kvs, rfl, ru.ts (ts_ext x4), okg, gdg, szg, S4, hk, T4, fun H5 x5 T5 => ?_⟩
        refine ⟨_, rfl, by show 2 ≤ sizeLine; omega, fun p np => ?_⟩
        have e5 := x5 _ _ e4 (by intro _ z; cases z)
        have lits : its.length ≤ tb.length := by
          rw [i4.1]
          refine Nat.le_trans (List.length_filter_le _ _) ?_
          rw [List.length_take]
          omega
        have i5 : ItsAt (upd H5 p (.tup [oV (ev (kvs.lookup ·) g), kV (.inr n)])) (kvs.lookup ·) its (und kvs (tb.take i)) := (i4.ts (ts_ext x5)).ts (TS.new np)
        have ep : upd H5 p (.tup [oV (ev (kvs.lookup ·) g), kV (.inr n)]) p = some (.tup [oV (ev (kvs.lookup ·) g), kV (.inr n)]) := upd_same
        have e6 : upd H5 p (.tup [oV (ev (kvs.lookup ·) g), kV (.inr n)]) D = some (.lst its) := by rw [upd_ne (ne_of_none e5 np)]; exact e5
        have x6 : LamX.ExtN HL (upd H5 p (.tup [oV (ev (kvs.lookup ·) g), kV (.inr n)])) := (x4.trans x5).trans (ext_new np)
        have T6 := Tabs.new (o := .tup [oV (ev (kvs.lookup ·) g), kV (.inr n)]) T5 np
        generalize upd H5 p _ = H6 at i5 ep e6 x6 T6 ⊢
        have s67 : TS H6 (upd H6 D (.lst (its ++ [.ref p]))) := TS.put e6 fun _ z => by cases z
        refine ⟨its, e6, by omega, lt, fun b o e n' => ?_, Tabs.putL T6 e6, _, upd_same, ?_⟩
        · rw [upd_ne (ne_of_none e nD)]
          exact x6 b o e n'
        · rw [tk, und_snoc, if_pos (by show (kvs.lookup n).isNone = true; rw [hl]; rfl)]
          exact (i5.ts s67).snoc (s67 _ _ ep)
    · rintro H4 ⟨_, x4, T4, its, e4, i4⟩
      rw [lT, List.take_length] at i4
      obtain ⟨f4, xU⟩ := back H4 x4
      refine ⟨f4, ?_⟩
      have TU : LamX.Tabs T (upd H4 t (.dK kT)) := Tabs.putO T4 f4 (by intro _ z; cases z) (by intro _ z; cases z)
      have sU : TS H4 (upd H4 t (.dK kT)) := TS.put f4 fun _ z => by cases z
      have Dt : D ≠ t := fun z => by rw [z, f4] at e4; cases e4
      have eU : upd H4 t (.dK kT) D = some (.lst its) := by rw [upd_ne Dt]; exact e4
      have iU := i4.ts sU
      generalize upd H4 t (.dK kT) = H5 at xU TU eU iU ⊢
      -- those that have a text
      have lits : its.length ≤ 12 := by
        rw [iU.1]
        exact Nat.le_trans (List.length_filter_le _ _) few
      refine ⟨_, rfl, D, rfl, ⟨_, SqL.of eU⟩, fun D2 nD2 => ?_⟩
      refine lc_list (K := K) (a := D) (xs := its) (fun i H6 => i ≤ its.length ∧ Kp M0 H5 H6 ∧ ∃ is2 : List V, H6 D2 = some (.lst is2) ∧ ItsAt H6 (kvs.lookup ·) is2 (fnd (kvs.lookup ·) ((und kvs tb).take i)) ∧ is2.length ≤ i) ?_ ?_ ?_ ?_
      · exact ⟨Nat.zero_le _, Kp.new nD2, [], upd_same, ⟨rfl, fun j a p h => by simp at h⟩, Nat.le_refl _⟩
      · exact fun i H6 _ h => SqL.of (h.2.1 _ _ (fun z => z) eU)
      · rintro i x H6 hx ⟨hi, k6, is2, e6, i6, l6⟩
        have lt := (List.getElem?_eq_some_iff.mp hx).1
        have hp : (und kvs tb)[i]? = some ((und kvs tb)[i]'(by rw [← iU.1]; exact lt)) := List.getElem?_eq_getElem _
        obtain ⟨p, ep, eq⟩ : ∃ p, (und kvs tb)[i]? = some p ∧ True := ⟨_, hp, trivial⟩
        obtain ⟨q0, rfl, e0⟩ := iU.2 i x p hx ep
        have e0' := k6 _ _ (fun z => z) e0
        have tk : (und kvs tb).take (i + 1) = (und kvs tb).take i ++ [p] := by rw [List.take_add_one, ep]; rfl
        refine ⟨rfl, _, rfl, q0, _, 0, oV (ev (kvs.lookup ·) p.2), rfl, rfl, SqT.of e0', atI_nat (j := 0) rfl, rfl, _, rfl, ?_⟩
        cases hv : ev (kvs.lookup ·) p.2 with
        | none =>
          refine iteF' (by rfl) ⟨lt, k6, is2, e6, ?_, by omega⟩
          rw [tk, fnd_snoc, if_neg (by show ¬ (ev (kvs.lookup ·) p.2).isSome = true; rw [hv]; exact Bool.false_ne_true)]
          exact i6
        | some z =>
          have s67 : TS H6 (upd H6 D2 (.lst (is2 ++ [.ref q0]))) := TS.put e6 fun _ z => by cases z
          refine iteT' (by rfl) ⟨_, rfl, is2, e6, by omega, lt, k6.own nD2, _, upd_same, ?_, by rw [List.length_append]; show is2.length + 1 ≤ _; omega⟩
          rw [tk, fnd_snoc, if_pos (by show (ev (kvs.lookup ·) p.2).isSome = true; rw [hv]; rfl)]
          exact (i6.ts s67).snoc (s67 _ _ e0')
      · rintro H6 ⟨_, k6, is2, e6, i6, l6⟩
        rw [iU.1, List.take_length] at i6
        have x6 : LamX.ExtN H2 H6 := xU.trans (ext_kp k6)
        have T6 := tabs_kp TU k6
        have S6 : LsAt H6 d kvs := x6 _ _ S (by intro _ z; cases z)
        have R6 := R2.ext x6
        have memF : ∀ y g, (y, g) ∈ tb → kvs.lookup y = none → ∀ z, ev (kvs.lookup ·) g = some z → (y, g) ∈ fnd (kvs.lookup ·) (und kvs tb) := fun y g hg hn z hz => by
          unfold fnd und
          rw [List.mem_filter, List.mem_filter]
          exact ⟨⟨hg, by show (kvs.lookup y).isNone = true; rw [hn]; rfl⟩, by show (ev (kvs.lookup ·) g).isSome = true; rw [hz]; rfl⟩
        by_cases hi : is2 = []
        · refine ⟨_, rfl, false, .inl ⟨_, SqL.of e6, by rw [hi]; rfl⟩, iteT' (by rfl) ?_⟩
          have e0 : fnd (kvs.lookup ·) (und kvs tb) = [] := List.eq_nil_of_length_eq_zero (by rw [← i6.1, hi]; rfl)
          refine ⟨_, rfl, q d kvs H6 (R6.to nd) T6 S6 KI fun y g hg hn => ?_⟩
          cases hv : ev (kvs.lookup ·) g with
          | none => rfl
          | some z =>
            have := memF y g hg hn z hv
            rw [e0] at this
            exact absurd this List.not_mem_nil
        refine ⟨_, rfl, true, .inl ⟨_, SqL.of e6, by cases is2 with
          | nil => exact absurd rfl hi
          | cons => rfl⟩, iteF' (by rfl) ?_⟩
        refine ⟨_, rfl, T6, fun f' c' H7 x7 T7 f0 f1 c1 => ?_⟩
        have e7 := x7 _ _ e6 (by intro _ z; cases z)
        have i7 := i6.ts (ts_ext x7)
        have inF : ∀ p, p ∈ fnd (kvs.lookup ·) (und kvs tb) → p ∈ tb ∧ kvs.lookup p.1 = none ∧ ∃ z, ev (kvs.lookup ·) p.2 = some z := fun p hp => by
          unfold fnd und at hp
          rw [List.mem_filter, List.mem_filter] at hp
          refine ⟨hp.1.1, ?_, ?_⟩
          · have h := hp.1.2
            cases z : kvs.lookup p.1 with
            | none => rfl
            | some _ => rw [z] at h; cases h
          · have h := hp.2
            cases z : ev (kvs.lookup ·) p.2 with
            | none => rw [z] at h; cases h
            | some y => exact ⟨y, rfl⟩
        have lenZ : ∀ p, p ∈ fnd (kvs.lookup ·) (und kvs tb) → ∀ z, ev (kvs.lookup ·) p.2 = some z → z.length ≤ 2200000 := fun p hp z hz => by
          have := (TB.ok p.1 p.2 (inF p hp).1).2.1.len (kvs.lookup ·) 130000 z hk hz
          omega
        have pos : 0 < is2.length := List.length_pos_iff.mpr hi
        refine ⟨D2, f', is2, (fnd (kvs.lookup ·) (und kvs tb)).map fun p => (ev (kvs.lookup ·) p.2).getD "", rfl, rfl, SqL.of e7, by rw [List.length_map]; exact i7.1, pos, fun i a z ha hz => ?_, fun i a z ha hz hmin => ?_⟩
        · rw [List.getElem?_map] at hz
          obtain ⟨p, ep, rfl⟩ := Option.map_eq_some_iff.mp hz
          obtain ⟨q0, rfl, e0⟩ := i7.2 i a p ha ep
          have mp := List.mem_of_getElem? ep
          obtain ⟨_, _, z, ez⟩ := inF p mp
          rw [ez] at e0
          have lz := lenZ p mp z ez
          rw [show (ev (kvs.lookup ·) p.2).getD "" = z by rw [ez]; rfl]
          exact key_la (x := "pair") f1 c1 (oneS_by (by rfl)) (fun _ _ _ => rfl) (body_len0 (oneS_by (by rfl)) (by rfl) ml e0 (by omega) (by decide))
        · rw [List.getElem?_map] at hz
          obtain ⟨p, ep, rfl⟩ := Option.map_eq_some_iff.mp hz
          obtain ⟨q0, rfl, e0⟩ := i7.2 i a p ha ep
          have mp := List.mem_of_getElem? ep
          obtain ⟨mt, ln, z, ez⟩ := inF p mp
          rw [ez] at e0
          rw [show (ev (kvs.lookup ·) p.2).getD "" = z by rw [ez]; rfl] at hmin
          have S7 : LsAt H7 d kvs := x7 _ _ S6 (by intro _ z; cases z)
          have few2 : kvs.length < 13 := by omega
          refine ⟨q0, _, rfl, SqT.of e0, rfl, _, _, rfl, _, _, rfl, rfl, ?_⟩
          refine ⟨_, rfl, _, rfl, _, rfl, d, _, rfl, DPut.k (k := .inr p.1) S7 (by rw [List.length_map]; omega), ?_⟩
          have KI2 := KI.step TB.nd (x' := p.1) (t' := z) (f' := p.2) mt ln ez fun y g hg hn => by
            cases hv : ev (kvs.lookup ·) g with
            | none => exact none_le
            | some z2 =>
              have m2 := memF y g hg hn z2 hv
              refine leO_of (hmin z2 ?_)
              exact List.mem_map.mpr ⟨_, m2, by show (ev (kvs.lookup ·) g).getD "" = z2; rw [hv]; rfl⟩
          have lk2 := KI2.len
          have el2 : (kvs ++ [(p.1, z)]).length = kvs.length + 1 := by rw [List.length_append]; rfl
          rw [el2] at lk2
          have eput : putK (kvs.map fun p => ((.inr p.1 : L2.Key), V.str p.2)) (.inr p.1) (oV (some z)) = (kvs ++ [(p.1, z)]).map fun p => ((.inr p.1 : L2.Key), V.str p.2) := by
            rw [putK_new, List.map_append]
            · rfl
            · intro y hy e
              obtain ⟨y0, hy0, rfl⟩ := List.mem_map.mp hy
              have e : y0.1 = p.1 := Sum.inr.inj e
              exact look_none_iff.mp ln (by rw [← e]; exact List.mem_map.mpr ⟨_, hy0, rfl⟩)
          rw [eput]
          refine ⟨kvs ++ [(p.1, z)], _, _, _, rfl, by omega, upd_same, KI2, fun x u h => ?_, Tabs.putO T7 S7 (by intro _ z; cases z) (by intro _ z; cases z), fun b o h n e => ?_⟩
          · rw [el2]
            rcases List.mem_append.mp h with h | h
            · exact Nat.le_trans (hb x u h) (Bd_mono1 TB.r1 _)
            · have h : (x, u) = (p.1, z) := by simpa using h
              cases h
              exact (TB.ok p.1 p.2 mt).2.2.1 (kvs.lookup ·) (Bd r kvs.length) z (fun x u h => hb x u (mem_look h)) ez
          · rw [upd_ne h]
            exact x7 b o (R6 b o h n e) n
def spLx (T : List (Addr × Str)) (N : List Str) : Sp := fun vs H Q _ => ∃ (v : V) (s0 x : Str) (tb : List (Str × Fo)) (r : Nat), vs = [v, .str x] ∧ BkA H v s0 tb ∧ TbOk N r tb ∧ LamX.Tabs T H ∧
  ∀ (H' : Hp), LamX.ExtN H H' → LamX.Tabs T H' → Q (oV (KK tb 40 x)) H'
theorem ok_lx {T : List (Addr × Str)} {N : List Str} {f fl ft : Addr} {fd fdl fdt : FuncData} {k : Nat} (F : Fun K "least_text" "least_text" sLx f fd) (GLt : FnOk P w K mg base CX0 k fl fdl ["table"] (spLt T N)) (klt : PySem.W.keepIn K (.ref fl) = true) (blt : Binds K fdl ["table"] []) (glt : mg "least_texts" = some (.ref fl))
    (GTab : FnOk P w K mg base CX0 k ft fdt ["book"] spTab) (ktab : PySem.W.keepIn K (.ref ft) = true) (btab : Binds K fdt ["book"] []) (gtab : mg "form_table" = some (.ref ft)) :
    FnOk P w K mg base CX0 (k + 1) f fd ["book", "name"] (spLx T N) := by
  refine F.ok scLx (fun vs H Q E h => ?_) (fun cdv A outer sh H vs Q E hr h => ?_)
  · obtain ⟨v, s0, x, tb, r, rfl, _⟩ := h
    rfl
  · obtain ⟨v, s0, x, tb, r, rfl, hv, TB, hT, q⟩ := h
    refine ⟨_, (pss_one (ps_ret (pe_dget1 (hu_of hr) (pe_call GLt hr (by rfl) glt klt blt .nil pass0 (pa_cons (pe_call GTab hr (by rfl) gtab ktab btab .nil pass0 (pa_cons (pv 0) pa_nil)) pa_nil)) (pv 1) ⟨rfl, rfl, rfl, rfl⟩))), ?_⟩
    refine ⟨_, rfl, v, s0, tb, rfl, hv, TB.nd, by have := TB.few; omega, fun t H1 nt et k1 => ?_⟩
    refine ⟨t, tb, r, rfl, et, TB, tabs_kp hT k1, fun d kvs H2 x2 T2 e2 KI fin => ?_⟩
    refine ⟨d, rfl, .inl ⟨_, .inl e2⟩, _, rfl, _, DGet.k (k := .inr x) e2, ?_⟩
    have fn := q H2 ((ext_kp k1).trans x2) T2
    have e := KI.end_ TB.nd fin (j := 40) (by have := KI.len; have := TB.few; omega) x
    rw [look_val]
    have e2 : ((kvs.lookup x).map V.str).getD .non = oV (kvs.lookup x) := by cases kvs.lookup x <;> rfl
    rw [e2, ← e]
    exact fn
end
end RT

set_option maxHeartbeats 1000000
/-! books on the heap -/
namespace RT
open PySem PySem.Spec PyProof.Rows L2 LK
theorem tabs_pm {T : List (Addr × Str)} {H H' : Hp} {pd pc : Addr} (P : Pot H pd pc) (t : LamX.Tabs T H) (k : Kp (PM pd) H H') : LamX.Tabs T H' := fun x hx => by
  obtain ⟨ps, h1, h2, h3⟩ := t x hx
  refine ⟨ps, k _ _ (P.ne h1 fun _ z => by cases z) h1, h2, fun pos cv hc => ?_⟩
  obtain ⟨c, e1, e2⟩ := h3 pos cv hc
  exact ⟨c, e1, k _ _ (P.ne e2 fun _ z => by cases z) e2⟩
/-- what stands while a turn of the law runs -/
structure LwC (T : List (Addr × Str)) (H : Hp) (pd pc ba rows : Addr) (ps : List V) (s0 : Str) (tb : List (Str × Fo)) : Prop where
  pot : Pot H pd pc
  tab : LamX.Tabs T H
  bk : BkAt H ba rows ps s0 tb
section
variable {T : List (Addr × Str)} {H H' : Hp} {pd pc ba rows : Addr} {ps : List V} {s0 : Str} {tb : List (Str × Fo)}
theorem LwC.kp0 (c : LwC T H pd pc ba rows ps s0 tb) (k : Kp M0 H H') : LwC T H' pd pc ba rows ps s0 tb := ⟨c.pot.kp0 k, tabs_kp c.tab k, c.bk.fz (fz0 k)⟩
theorem LwC.new (c : LwC T H pd pc ba rows ps s0 tb) {p : Addr} {o : HO} (n : H p = none) : LwC T (upd H p o) pd pc ba rows ps s0 tb := c.kp0 (Kp.new n)
theorem LwC.ext (c : LwC T H pd pc ba rows ps s0 tb) (k : LamX.ExtN H H') (t : LamX.Tabs T H') : LwC T H' pd pc ba rows ps s0 tb :=
  ⟨by
    obtain ⟨ns, a, l, s, E⟩ := c.pot
    exact ⟨ns, a, l, s, k _ _ E.d (by intro _ z; cases z), k _ _ E.c (by intro _ z; cases z), E.a0, E.l0, E.s0, E.s1, E.len⟩, t, c.bk.fz ⟨fun b xs e => k b _ e (by intro _ z; cases z), fun b o xs e => k b _ e (by intro _ z; cases z)⟩⟩
theorem LwC.off (c : LwC T H pd pc ba rows ps s0 tb) {p : Addr} (n : H p = none) : p ≠ pd ∧ p ≠ pc := by
  obtain ⟨_, _, _, _, E⟩ := c.pot
  exact ⟨(ne_of_none E.d n).symm, (ne_of_none E.c n).symm⟩
/-- a dict of its own, or the lock of such -/
theorem LwC.put (c : LwC T H pd pc ba rows ps s0 tb) {d : Addr} {u o : HO} (e : H d = some u) (nd : d ≠ pd) (nc : d ≠ pc) (n1 : ∀ ps, u ≠ .tbl ps) (n2 : ∀ φ, u ≠ .ext φ) (n3 : ∀ xs, u ≠ .tup xs) (n4 : ∀ ob xs, u ≠ .frz ob (.tup xs)) : LwC T (upd H d o) pd pc ba rows ps s0 tb :=
  ⟨c.pot.keep (M := fun b => b = d) (Kp.put rfl) (fun z => nd z.symm) (fun z => nc z.symm), Tabs.putO c.tab e n1 n2, c.bk.fz ⟨TS.put e n3, fun b ob xs h => by
    by_cases z : b = d
    · rw [z, e] at h
      exact absurd (Option.some.inj h) (n4 ob xs)
    · rw [upd_ne z]
      exact h⟩⟩
end
end RT

namespace RT
open PySem PySem.Spec PyProof.Rows L2
abbrev sAll : Stmt := topS 4
theorem scAll : FnScope ["form", "found", "todo", "part"] ["form"] (defScope sAll) := ⟨rfl, rfl, rfl, by decide +kernel, rfl, by decide +kernel, by decide +kernel⟩
mutual
/-- x is named in it -/
def Fo.has (x : Str) : Fo → Prop
  | .leaf _ _ => False
  | .one _ f _ => f.has x
  | .row fs => Fo.hass x fs
  | .either _ fs => Fo.hass x fs
  | .again f => f.has x
  | .between f g => f.has x ∨ g.has x
  | .counted _ f => f.has x
  | .named y => y = x
def Fo.hass (x : Str) : List Fo → Prop
  | [] => False
  | f :: r => f.has x ∨ Fo.hass x r
end
theorem hass_app (x : Str) : ∀ fs gs : List Fo, Fo.hass x (fs ++ gs) ↔ Fo.hass x fs ∨ Fo.hass x gs
  | [], gs => ⟨.inr, fun h => h.elim (fun z => z.elim) id⟩
  | f :: r, gs => by
    show f.has x ∨ Fo.hass x (r ++ gs) ↔ (f.has x ∨ Fo.hass x r) ∨ Fo.hass x gs
    rw [hass_app x r gs, or_assoc]
theorem has_iff (x : Str) (f : Fo) : f.has x ↔ f = .named x ∨ Fo.hass x f.inner := by
  cases f <;> simp [Fo.has, Fo.hass, Fo.inner]
theorem hass_one (x : Str) (f : Fo) : Fo.hass x [f] ↔ f.has x := by simp [Fo.hass]
theorem Rps.last {H : Hp} {vs : List V} {fs : List Fo} (r : Rps H vs (Fo.encs fs)) (h : vs ≠ []) : ∃ (v : V) (f : Fo) (gs : List Fo), vs[vs.length - 1]? = some v ∧ fs = gs ++ [f] ∧ Rp H v f.enc ∧ Rps H vs.dropLast (Fo.encs gs) := by
  have l := r.len
  rw [encs_map, List.length_map] at l
  have hf : fs ≠ [] := fun z => by
    rw [z] at l
    exact h (List.eq_nil_of_length_eq_zero l)
  have e1 := List.dropLast_concat_getLast hf
  have e2 := List.dropLast_concat_getLast h
  have split : ∀ {as bs : List V} {cs ds : List D}, as.length = cs.length → Rps H (as ++ bs) (cs ++ ds) → Rps H as cs ∧ Rps H bs ds := fun {as} => by
    induction as with
    | nil =>
      intro bs cs ds e r
      cases cs with
      | nil => exact ⟨.nil, r⟩
      | cons c cs => cases e
    | cons a as ih =>
      intro bs cs ds e r
      cases cs with
      | nil => cases e
      | cons c cs =>
        cases r with
        | cons r1 r2 =>
          obtain ⟨h1, h2⟩ := ih (by simpa using e) r2
          exact ⟨.cons r1 h1, h2⟩
  rw [← e1, ← e2, encs_app] at r
  obtain ⟨r1, r2⟩ := split (by rw [encs_map, List.length_map, List.length_dropLast, List.length_dropLast, l]) r
  cases r2 with
  | cons r3 r4 => exact ⟨vs.getLast h, fs.getLast hf, fs.dropLast, by rw [← List.getLast?_eq_getElem?, List.getLast?_eq_some_getLast h], e1.symm, r3, r1⟩
section
variable {P : Program} {w : World} {K : PySem.W.Frag} {mg : Str → Option Value} {base : Heap}
def spAll (N : List Str) : Sp := fun vs H Q _ => ∃ (v : V) (f : Fo), vs = [v] ∧ Rp H v f.enc ∧ f.ok N ∧ f.size ≤ 100000 ∧
  ∀ (us : List V) (gs : List Fo) (l : Addr) (H' : Hp), H l = none → H' l = some (.lst us) → Rps H' us (Fo.encs gs) → gs.length ≤ 100000 → Fo.oks N gs → (∀ x, f.has x ↔ Fo.named x ∈ gs) → Kp M0 H H' → Q (.ref l) H'
theorem ok_all {N : List Str} {f fi : Addr} {fd fdi : FuncData} {k : Nat} (F : Fun K "all_forms" "all_forms" sAll f fd) (GI : FnOk P w K mg base CX0 k fi fdi ["form"] (spInner N)) (ki : PySem.W.keepIn K (.ref fi) = true) (bi : Binds K fdi ["form"] []) (gi : mg "inner_forms" = some (.ref fi)) :
    FnOk P w K mg base CX0 (k + 1) f fd ["form"] (spAll N) := by
  refine F.ok scAll (fun vs H Q E h => ?_) (fun cdv A outer s H vs Q E hr h => ?_)
  · obtain ⟨v, f, rfl, _⟩ := h
    rfl
  · obtain ⟨v, fo, rfl, hR, hok, hsz, q⟩ := h
    refine ⟨_, (pss_cons (ps_set (i := 1) scAll.nd rfl (.inl rfl) (pe_lst pa_nil))
      (pss_cons (ps_set (i := 2) scAll.nd rfl (.inl rfl) (pe_lst (pa_cons (pv 0) pa_nil)))
      (pss_cons (ps_while PassesOwn.never (pt_truth (pv 2) (by intro _; rfl)) (pss_cons (ps_set (i := 3) scAll.nd rfl (.inl rfl) (pe_bm0 PySem.F.plainAttrs_list PySem.F.slot_list_pop PySem.F.type_list_pop mt_pop (pv 2)))
      (pss_cons (ps_expr (pe_bm PySem.F.plainAttrs_list PySem.F.slot_list_append PySem.F.type_list_append mt_append (pv 1) (pa_cons (pv 3) pa_nil)))
      (pss_one (ps_expr (pe_bm PySem.F.plainAttrs_list PySem.F.slot_list_extend PySem.F.type_list_extend mt_extend (pv 2) (pa_cons (pe_call GI hr (by rfl) gi ki bi .nil pass0 (pa_cons (pv 3) pa_nil)) pa_nil)))))))
      (pss_one (ps_ret (pv 1)))))), ?_⟩
    have noT : ∀ (H : Hp) (a : Addr) xs, M0 a → H a ≠ some (.tup xs) := fun _ _ _ z => z.elim
    refine ⟨Nat.zero_le _, fun fo1 nf => ?_⟩
    refine ⟨_, rfl, by show 1 ≤ sizeLine; decide, fun td nt => ?_⟩
    have nft : fo1 ≠ td := fun z => by
      rw [← z, upd_same] at nt
      cases nt
    refine ⟨fun n σ H2 => ∃ (us vs : List V) (gs ts : List Fo) (y3 : Option V), σ = [some v, some (.ref fo1), some (.ref td), y3] ∧ n = Fo.sizes ts ∧ H2 fo1 = some (.lst us) ∧ H2 td = some (.lst vs) ∧ Rps H2 us (Fo.encs gs) ∧ Rps H2 vs (Fo.encs ts) ∧ gs.length + Fo.sizes ts ≤ 100000 ∧ Fo.oks N gs ∧ Fo.oks N ts ∧
      (∀ x, fo.has x ↔ Fo.named x ∈ gs ∨ Fo.hass x ts) ∧ Kp M0 H H2, ⟨_, [], [v], [], [fo], none, rfl, rfl, ?_, upd_same, .nil, .cons ((hR.keep (Kp.new (M := M0) nf) (noT _)).keep (Kp.new (M := M0) nt) (noT _)) .nil, ?_, True.intro, ⟨hok, True.intro⟩, fun x => ?_, (Kp.new nf).trans (Kp.new nt)⟩, ?_⟩
    · rw [upd_ne nft, upd_same]
    · simp only [Fo.sizes, List.length_nil]
      omega
    · rw [hass_one]
      simp
    rintro n σ H2 ⟨us, vs, gs, ts, y3, rfl, rfl, ef, et, rg, rt, hs2, og, ot, hh, k2⟩
    by_cases hv : vs = []
    · subst hv
      refine ⟨_, rfl, false, .inl ⟨[], SqL.of et, rfl⟩, iteF ?_⟩
      have z : ts = [] := by
        have l := rt.len
        rw [encs_map, List.length_map] at l
        exact List.eq_nil_of_length_eq_zero l.symm
      subst z
      have nf0 : H fo1 = none := nf
      exact ⟨_, rfl, q us gs fo1 H2 nf0 ef rg (by omega) og (fun x => (hh x).trans ⟨fun h => h.elim id fun z => z.elim, .inl⟩) k2⟩
    · refine ⟨_, rfl, true, .inl ⟨vs, SqL.of et, by cases vs with
        | nil => exact absurd rfl hv
        | cons => rfl⟩, iteT ?_⟩
      obtain ⟨u, g, ts', ev, rfl, ru, rts⟩ := rt.last hv
      have ots : Fo.oks N ts' ∧ g.ok N := by
        have split : ∀ as : List Fo, Fo.oks N (as ++ [g]) → Fo.oks N as ∧ g.ok N := fun as => by
          induction as with
          | nil => exact fun h => ⟨True.intro, h.1⟩
          | cons a r ih => exact fun h => ⟨⟨h.1, (ih h.2).1⟩, (ih h.2).2⟩
        exact split _ ot
      have esz : Fo.sizes (ts' ++ [g]) = Fo.sizes ts' + g.size := by rw [Fo.sizes_app]; simp only [Fo.sizes, Nat.add_zero]
      have gi1 := g.inner_size
      rw [esz] at hs2 ⊢
      refine ⟨fun σ' H' => ∃ (us vs : List V) (gs ts : List Fo) (y3 : Option V), σ' = [some v, some (.ref fo1), some (.ref td), y3] ∧ Fo.sizes ts < Fo.sizes ts' + g.size ∧ H' fo1 = some (.lst us) ∧ H' td = some (.lst vs) ∧ Rps H' us (Fo.encs gs) ∧ Rps H' vs (Fo.encs ts) ∧ gs.length + Fo.sizes ts ≤ 100000 ∧ Fo.oks N gs ∧ Fo.oks N ts ∧
        (∀ x, fo.has x ↔ Fo.named x ∈ gs ∨ Fo.hass x ts) ∧ Kp M0 H H', fun σ' H' ⟨us, vs, gs, ts, y, e1, e2, r⟩ => ⟨_, e2, us, vs, gs, ts, y, e1, rfl, r⟩, ?_⟩
      have sline : (100000 : Nat) < sizeLine := by decide
      have ug := rg.len
      rw [encs_map, List.length_map] at ug
      have vt := rts.len
      rw [encs_map, List.length_map] at vt
      have st' := sizes_len ts'
      refine ⟨_, rfl, .inl ⟨rfl, _, SqL.of et⟩, td, vs, u, rfl, rfl, et, ev, ?_⟩
      have tput : ∀ {H3 : Hp} {o : HO} {ys : List V}, H3 td = some (.lst ys) → ∀ {as : List V} {ds : List D}, Rps H3 as ds → Rps (upd H3 td o) as ds := fun e _ _ r => r.keep (M := fun b => b = td) (Kp.put rfl) fun a xs m e2 => by
        rw [m, e] at e2
        cases e2
      have fput : ∀ {H3 : Hp} {o : HO} {ys : List V}, H3 fo1 = some (.lst ys) → ∀ {as : List V} {ds : List D}, Rps H3 as ds → Rps (upd H3 fo1 o) as ds := fun e _ _ r => r.keep (M := fun b => b = fo1) (Kp.put rfl) fun a xs m e2 => by
        rw [m, e] at e2
        cases e2
      have tH : H td = none := none_upd nt
      have kput : ∀ {H3 : Hp} {p : Addr} {o : HO}, H p = none → Kp M0 H H3 → Kp M0 H (upd H3 p o) := fun n k b o nb e => by
        rw [upd_ne (ne_of_none e n)]
        exact k b o nb e
      have ef3 : upd H2 td (.lst vs.dropLast) fo1 = some (.lst us) := by rw [upd_ne nft]; exact ef
      have et3 : upd H2 td (.lst vs.dropLast) td = some (.lst vs.dropLast) := upd_same
      have rg3 := tput (o := .lst vs.dropLast) et rg
      have rts3 := tput (o := .lst vs.dropLast) et rts
      have ru3 := tput (o := .lst vs.dropLast) et (.cons ru .nil)
      have k3 := kput (o := .lst vs.dropLast) tH k2
      generalize upd H2 td (.lst vs.dropLast) = H3 at ef3 et3 rg3 rts3 ru3 k3 ⊢
      refine ⟨_, rfl, .inl ⟨rfl, _, SqL.of ef3⟩, _, rfl, fo1, us, u, rfl, rfl, ef3, by omega, ?_⟩
      have ef4 : upd H3 fo1 (.lst (us ++ [u])) fo1 = some (.lst (us ++ [u])) := upd_same
      have et4 : upd H3 fo1 (.lst (us ++ [u])) td = some (.lst vs.dropLast) := by rw [upd_ne nft.symm]; exact et3
      have rg4 := fput (o := .lst (us ++ [u])) ef3 (rg3.app ru3)
      have rts4 := fput (o := .lst (us ++ [u])) ef3 rts3
      have ru4 := fput (o := .lst (us ++ [u])) ef3 ru3
      have k4 := kput (o := .lst (us ++ [u])) nf k3
      generalize upd H3 fo1 (.lst (us ++ [u])) = H4 at ef4 et4 rg4 rts4 ru4 k4 ⊢
      cases ru4 with
      | cons ru4 _ =>
        refine ⟨_, rfl, .inl ⟨rfl, _, SqL.of et4⟩, _, rfl, u, g, rfl, ru4, ots.2, by omega, fun ws l H5 nl el rl k5 => ?_⟩
        have et5 := k5 _ _ (fun z => z) et4
        have wl := rl.len
        rw [encs_map, List.length_map] at wl
        have sl := sizes_len g.inner
        refine ⟨td, l, _, _, rfl, rfl, et5, el, by omega, ?_⟩
        have nfl : fo1 ≠ td := nft
        refine ⟨us ++ [u], vs.dropLast ++ ws, gs ++ [g], ts' ++ g.inner, _, rfl, ?_, ?_, upd_same, ?_, ?_, ?_, ?_, ?_, fun x => ?_, ?_⟩
        · rw [Fo.sizes_app]
          omega
        · rw [upd_ne nft]
          exact k5 _ _ (fun z => z) ef4
        · rw [encs_app]
          exact tput et5 (rg4.keep k5 (noT _))
        · rw [encs_app]
          exact tput et5 ((rts4.keep k5 (noT _)).app rl)
        · rw [List.length_append, Fo.sizes_app, List.length_singleton]
          omega
        · exact Fo.oks_app _ _ og ⟨ots.2, True.intro⟩
        · exact Fo.oks_app _ _ ots.1 (Fo.inner_ok g ots.2)
        · rw [hh x, hass_app, hass_app, hass_one, has_iff x g, List.mem_append, List.mem_singleton]
          constructor
          · rintro (a | a | a | a)
            · exact .inl (.inl a)
            · exact .inr (.inl a)
            · exact .inl (.inr a.symm)
            · exact .inr (.inr a)
          · rintro ((a | a) | a | a)
            · exact .inl a
            · exact .inr (.inr (.inl a.symm))
            · exact .inr (.inl a)
            · exact .inr (.inr (.inr a))
        · exact kput tH (k4.trans k5)
end
end RT

namespace RT
open PySem PySem.Spec PyProof.Rows L2
abbrev sNin : Stmt := topS 5
theorem scNin : FnScope ["form", "part"] ["form"] (defScope sNin) := ⟨rfl, rfl, rfl, by decide +kernel, rfl, by decide +kernel, by decide +kernel⟩
theorem enc_word (f : Fo) : ∃ ds, f.enc = .tup (.str f.word :: ds) := by
  cases f <;> exact ⟨_, rfl⟩
theorem word_named {N : List Str} {f : Fo} (h : f.ok N) (e : f.word = "named") : ∃ x, f = .named x := by
  cases f with
  | named x => exact ⟨x, rfl⟩
  | leaf w r =>
    have e : w = "named" := e
    have five : w ∈ ([("text" : Str), "sign", "word", "number", "pick"] : List Str) := h
    rw [e] at five
    exact absurd five (by decide)
  | one w f r =>
    have e : w = "named" := e
    have three : w ∈ ([("skip" : Str), "spelt", "turned"] : List Str) := h.1
    rw [e] at three
    exact absurd three (by decide)
  | row fs => exact absurd (show ("row" : Str) = "named" from e) (by decide)
  | either ns fs => exact absurd (show ("either" : Str) = "named" from e) (by decide)
  | again f => exact absurd (show ("again" : Str) = "named" from e) (by decide)
  | between f g => exact absurd (show ("again" : Str) = "named" from e) (by decide)
  | counted z f => exact absurd (show ("counted" : Str) = "named" from e) (by decide)
/-- the names among the first forms -/
def nms : List Fo → List Str
  | [] => []
  | .named x :: r => x :: nms r
  | _ :: r => nms r
theorem mem_nms (x : Str) : ∀ gs : List Fo, x ∈ nms gs ↔ Fo.named x ∈ gs
  | [] => by simp [nms]
  | g :: r => by
    have ih := mem_nms x r
    cases g <;> simp [nms, ih]
theorem nms_app : ∀ fs gs : List Fo, nms (fs ++ gs) = nms fs ++ nms gs
  | [], gs => rfl
  | f :: r, gs => by
    have ih := nms_app r gs
    cases f <;> simp [nms, ih]
theorem nms_len : ∀ gs : List Fo, (nms gs).length ≤ gs.length
  | [] => Nat.le_refl _
  | g :: r => by
    have ih := nms_len r
    cases g <;> simp only [nms, List.length_cons] <;> omega
section
variable {P : Program} {w : World} {K : PySem.W.Frag} {mg : Str → Option Value} {base : Heap}
def spNin (N : List Str) : Sp := fun vs H Q _ => ∃ (v : V) (f : Fo), vs = [v] ∧ Rp H v f.enc ∧ f.ok N ∧ f.size ≤ 100000 ∧
  ∀ (xs : List Str) (l : Addr) (H' : Hp), H l = none → H' l = some (.lst (xs.map V.str)) → xs.length ≤ 100000 → (∀ x, x ∈ xs ↔ f.has x) → (∀ x ∈ xs, x ∈ N) → Kp M0 H H' → Q (.ref l) H'
theorem ok_nin {N : List Str} {f fa : Addr} {fd fda : FuncData} {k : Nat} (F : Fun K "names_in" "names_in" sNin f fd) (GA : FnOk P w K mg base CX0 k fa fda ["form"] (spAll N)) (ka : PySem.W.keepIn K (.ref fa) = true) (ba : Binds K fda ["form"] []) (ga : mg "all_forms" = some (.ref fa)) :
    FnOk P w K mg base CX0 (k + 1) f fd ["form"] (spNin N) := by
  refine F.ok scNin (fun vs H Q E h => ?_) (fun cdv A outer s H vs Q E hr h => ?_)
  · obtain ⟨v, f, rfl, _⟩ := h
    rfl
  · obtain ⟨v, fo, rfl, hR, hok, hsz, q⟩ := h
    refine ⟨_, (pss_one (ps_ret (pe_lc (own := [("part", 1)]) (g := gName 1) rfl scNin.nd (pi_list (pe_call GA hr (by rfl) ga ka ba .nil pass0 (pa_cons (pv 0) pa_nil))) (blkOk_by (N := ["form", "part"]) (sc := defScope sNin) (by decide +kernel)) (fun _ _ _ _ _ => (pg_name (i := 1) scNin.nd rfl (.inl rfl))) (fun _ _ _ _ _ => (pts_one (pt_cmpR op_eq (pe_ix (show IxR _ (rIxT K) from ix_tup) (pv 1) pe_int (fun _ _ => rfl)) pe_str (nomark _)))) (fun _ _ _ _ _ => (pe_ix (show IxR _ (rIxT K) from ix_tup) (pv 1) pe_int (fun _ _ => rfl)))))), ?_⟩
    have noT : ∀ (H : Hp) (a : Addr) xs, M0 a → H a ≠ some (.tup xs) := fun _ _ _ z => z.elim
    refine ⟨_, rfl, v, fo, rfl, hR, hok, hsz, fun us gs l H1 nl el rl lg og hh k1 => ?_⟩
    have ug := rl.len
    rw [encs_map, List.length_map] at ug
    refine ⟨l, rfl, ⟨_, SqL.of el⟩, fun D nD => ?_⟩
    refine lc_list (xs := us) (fun i H4 => Kp M0 H1 H4 ∧ H4 D = some (.lst ((nms (gs.take i)).map V.str))) ?_ ?_ ?_ ?_
    · exact ⟨Kp.new nD, by rw [upd_same, List.take_zero]; rfl⟩
    · exact fun i H4 _ h => SqL.of (h.1 _ _ (fun z => z) el)
    · rintro i x H4 hx ⟨k4, e4⟩
      obtain ⟨d, hd, rd⟩ := rl.get i x hx
      have hi : i < gs.length := by
        rw [← ug]
        exact (List.getElem?_eq_some_iff.mp hx).1
      have hf : gs[i]? = some gs[i] := List.getElem?_eq_getElem hi
      rw [encs_map, List.getElem?_map, hf] at hd
      cases hd
      have gok := oks_mem og _ (List.getElem_mem hi)
      have tk : gs.take (i + 1) = gs.take i ++ [gs[i]] := by rw [List.take_add_one, hf]; rfl
      generalize gs[i] = g at rd gok tk
      have rd4 := rd.keep k4 (noT _)
      obtain ⟨ds, ew⟩ := enc_word g
      have rd5 := rd4
      rw [ew] at rd5
      cases rd5 with
      | @tup c vs2 _ ec rc =>
        cases rc with
        | cons c1 c2 =>
          cases c1
          have small : ((nms (gs.take i)).map V.str).length < sizeLine := by
            have := nms_len (gs.take i)
            rw [List.length_take] at this
            rw [List.length_map, sizeLine_eq]
            omega
          by_cases hw : g.word = "named"
          · obtain ⟨y, rfl⟩ := word_named gok hw
            cases ew
            cases c2 with
            | cons c3 c4 =>
              cases c3
              refine ⟨rfl, ?_⟩
              refine ⟨_, rfl, c, _, 0, .str _, rfl, rfl, SqT.of ec, atI_nat (j := 0) rfl, rfl, _, rfl, ?_⟩
              refine iteT' (decide_eq_true rfl) ?_
              refine ⟨_, rfl, c, _, 1, .str y, rfl, rfl, SqT.of ec, atI_nat (j := 1) rfl, _, e4, small, fun b u n e => ?_, ?_⟩
              · rw [upd_ne (ne_of_none e nD)]
                exact k4 b u n e
              · rw [upd_same, tk, nms_app, List.map_append]
                rfl
          · refine ⟨rfl, ?_⟩
            refine ⟨_, rfl, c, _, 0, .str _, rfl, rfl, SqT.of ec, atI_nat (j := 0) rfl, rfl, _, rfl, ?_⟩
            refine iteF' (decide_eq_false fun z => hw (V.str.inj z)) ⟨k4, ?_⟩
            have z : nms [g] = [] := by
              cases g <;> first | rfl | exact absurd rfl hw
            rw [tk, nms_app, z, List.append_nil]
            exact e4
    · rintro H4 ⟨k4, e4⟩
      rw [ug, List.take_length] at e4
      have nn := nms_len gs
      refine q (nms gs) D H4 ?_ e4 (by omega) (fun x => (mem_nms x gs).trans (hh x).symm) (fun x hx => oks_mem og _ ((mem_nms x gs).mp hx)) (k1.trans k4)
      cases z : H D with
      | none => rfl
      | some u =>
        have z2 := k1 D u (fun z => z) z
        rw [nD] at z2
        cases z2
end
end RT

/-! what is reached; what a table gives -/
namespace RT
open PySem PySem.Spec PyProof.Rows L2
inductive Reach (bs : List (Str × Fo)) (s : Str) : Str → Prop
  | start : Reach bs s s
  | step {y x : Str} {f : Fo} : Reach bs s y → (y, f) ∈ bs → f.has x → Reach bs s x
theorem reach_in {bs : List (Str × Fo)} {s : Str} {ms : List Str} (h0 : s ∈ ms) (hc : ∀ m ∈ ms, ∀ f, (m, f) ∈ bs → ∀ x, f.has x → x ∈ ms) : ∀ {x : Str}, Reach bs s x → x ∈ ms := by
  intro x r
  induction r with
  | start => exact h0
  | step _ hb hx ih => exact hc _ ih _ hb _ hx
theorem zip_get : ∀ {bs : List (Str × Fo)} {us : List V} {y : Str}, us.length = bs.length → y ∈ bs.map (·.1) → ∃ (i : Nat) (u : V) (f : Fo), valV (List.zipWith (fun (x : Str × Fo) u => ((.inr x.1 : Key), u)) bs us) (.inr y) = some u ∧ us[i]? = some u ∧ bs[i]? = some (y, f)
  | [], _, _, _, h => by simp at h
  | (x, f) :: r, [], _, l, _ => by cases l
  | (x, f) :: r, u :: us, y, l, h => by
    by_cases e : x = y
    · subst e
      exact ⟨0, u, f, valV_pos rfl, rfl, rfl⟩
    · have h2 : y ∈ r.map (·.1) := by
        rcases List.mem_cons.mp h with z | z
        · exact absurd z.symm e
        · exact z
      obtain ⟨i, v, g, a1, a2, a3⟩ := zip_get (bs := r) (us := us) (by simpa using l) h2
      exact ⟨i + 1, v, g, by
        show valV (((.inr x : Key), u) :: List.zipWith (fun (x : Str × Fo) u => ((.inr x.1 : Key), u)) r us) (.inr y) = some v
        rw [valV_neg (fun z => e (Sum.inr.inj z))]
        exact a1, by simpa using a2, by simpa using a3⟩
theorem tab_get {H : Hp} {d : Addr} {bs : List (Str × Fo)} {y : Str} (t : TabAt H d bs) (h : y ∈ bs.map (·.1)) : ∃ (u : V) (f : Fo), DGet H d (.str y) (some u) ∧ (y, f) ∈ bs ∧ Rp H u f.enc := by
  obtain ⟨us, e, l, hr⟩ := t
  obtain ⟨i, u, f, a1, a2, a3⟩ := zip_get l h
  refine ⟨u, f, ?_, List.mem_of_getElem? a3, hr i u _ a2 a3⟩
  rw [← a1]
  exact DGet.k (k := .inr y) e
/-- a dict of names, each with True -/
def metK (ms : List Str) : List (Key × V) := ms.map fun x => ((.inr x : Key), .bl true)
theorem metK_get (ms : List Str) (x : Str) : (valV (metK ms) (.inr x)).isSome = decide (x ∈ ms) := by
  induction ms with
  | nil => simp [metK, valV_nil]
  | cons m r ih =>
    by_cases e : m = x
    · subst e
      show (valV (((.inr m : Key), V.bl true) :: metK r) (.inr m)).isSome = _
      rw [valV_pos rfl]
      simp
    · show (valV (((.inr m : Key), V.bl true) :: metK r) (.inr x)).isSome = _
      rw [valV_neg (fun z => e (Sum.inr.inj z)), ih]
      have e2 : x ≠ m := fun z => e z.symm
      simp [e2]
theorem metK_put {ms : List Str} {x : Str} (h : x ∉ ms) : putK (metK ms) (.inr x) (.bl true) = metK (ms ++ [x]) := by
  rw [putK_new]
  · unfold metK
    rw [List.map_append]
    rfl
  · intro p hp e
    obtain ⟨m, hm, rfl⟩ := List.mem_map.mp hp
    exact h (Sum.inr.inj e ▸ hm)
/-- unlike names, all of the book's: no more than the book has -/
theorem met_few {ms ns : List Str} (nd : ms.Nodup) (h : ∀ x ∈ ms, x ∈ ns) : ms.length ≤ ns.length := by
  induction ms generalizing ns with
  | nil => exact Nat.zero_le _
  | cons m r ih =>
    have nd2 := List.nodup_cons.mp nd
    have hm := h m (List.mem_cons_self ..)
    have z := ih (ns := ns.erase m) nd2.2 fun x hx => (List.mem_erase_of_ne fun e => nd2.1 (by rw [← e]; exact hx)).mpr (h x (List.mem_cons_of_mem _ hx))
    rw [List.length_erase_of_mem hm] at z
    have := List.length_pos_of_mem hm
    rw [List.length_cons]
    omega
end RT

namespace RT
open PySem PySem.Spec PyProof.Rows L2
abbrev sMet : Stmt := topS 7
theorem scMet : FnScope ["book", "table", "met", "todo", "name"] ["book"] (defScope sMet) := ⟨rfl, rfl, rfl, by decide +kernel, rfl, by decide +kernel, by decide +kernel⟩
structure BookOk (bs : List (Str × Fo)) (s : Str) : Prop where
  nd : (bs.map (·.1)).Nodup
  few : bs.length ≤ 60
  st : s ∈ bs.map (·.1)
  len : ∀ x ∈ bs.map (·.1), x.length ≤ 1000
  ok : ∀ x f, (x, f) ∈ bs → f.ok (bs.map (·.1)) ∧ f.size ≤ 100000
theorem row_one {bs : List (Str × Fo)} {y : Str} {f g : Fo} (nd : (bs.map (·.1)).Nodup) (h1 : (y, f) ∈ bs) (h2 : (y, g) ∈ bs) : f = g := by
  induction bs with
  | nil => cases h1
  | cons b r ih =>
    rw [List.map_cons] at nd
    have nd2 := List.nodup_cons.mp nd
    rcases List.mem_cons.mp h1 with e1 | e1 <;> rcases List.mem_cons.mp h2 with e2 | e2
    · rw [← e1] at e2
      cases e2
      rfl
    · exact absurd (List.mem_map.mpr ⟨_, e2, by rw [← e1]⟩) nd2.1
    · exact absurd (List.mem_map.mpr ⟨_, e1, by rw [← e2]⟩) nd2.1
    · exact ih nd2.2 e1 e2
section
variable {P : Program} {w : World} {K : PySem.W.Frag} {mg : Str → Option Value} {base : Heap}
def spMet (K : PySem.W.Frag) (N : List Str) : Sp := fun vs H Q _ => ∃ (v : V) (s : Str) (bs : List (Str × Fo)), vs = [v] ∧ BkA H v s bs ∧ BookOk bs s ∧ N = bs.map (·.1) ∧
  ∀ (ys : List Str) (l : Addr) (H' : Hp), sortedS ys = true → ys.Nodup → (∀ x, x ∈ ys ↔ Reach bs s x) → H' l = some (.tup (ys.map V.str)) → Kp M0 H H' → Q (.ref l) H'
theorem ok_met {N : List Str} {f ft fi : Addr} {fd fdt fdi : FuncData} {k : Nat} (F : Fun K "names_met" "names_met" sMet f fd)
    (GT : FnOk P w K mg base CX0 k ft fdt ["book"] spTab) (kt : PySem.W.keepIn K (.ref ft) = true) (bt : Binds K fdt ["book"] []) (gt : mg "form_table" = some (.ref ft))
    (GI : FnOk P w K mg base CX0 k fi fdi ["form"] (spNin N)) (ki : PySem.W.keepIn K (.ref fi) = true) (bi : Binds K fdi ["form"] []) (gi : mg "names_in" = some (.ref fi)) (mso : mg "sorted" = none) (mtu : mg "tuple" = none) :
    FnOk P w K mg base CX0 (k + 1) f fd ["book"] (spMet K N) := by
  refine F.ok scMet (fun vs H Q E h => ?_) (fun cdv A outer s H vs Q E hr h => ?_)
  · obtain ⟨v, s, bs, rfl, _⟩ := h
    rfl
  · obtain ⟨v, s0, bs, rfl, rv, hB, rfl, q⟩ := h
    have rv0 := rv
    obtain ⟨b, rows, ps, rfl, bk⟩ := rv
    have eb := bk.eb
    have noT : ∀ (H : Hp) (a : Addr) xs, M0 a → H a ≠ some (.tup xs) := fun _ _ _ z => z.elim
    have hr0 := hr
    refine ⟨_, (pss_cons (ps_set (i := 1) scMet.nd rfl (.inl rfl) (pe_call GT hr0 (by rfl) gt kt bt .nil pass0 (pa_cons (pv 0) pa_nil)))
      (pss_cons (ps_set (i := 2) scMet.nd rfl (.inl rfl) (pe_disp (pps_cons (pe_ix ix_tup (pv 0) pe_int (fun _ _ => rfl)) pe_bl pps_nil) (by rfl) (by rfl) (fun z => by cases z) (by decide)))
      (pss_cons (ps_set (i := 3) scMet.nd rfl (.inl rfl) (pe_lst (pa_cons (pe_ix ix_tup (pv 0) pe_int (fun _ _ => rfl)) pa_nil)))
      (pss_cons (ps_while PassesOwn.never (pt_truth (pv 3) (by intro _; rfl)) (pss_one (ps_for PassesOwn.never rfl (pi_list (pe_call GI hr (by rfl) gi ki bi .nil pass0 (pa_cons (pe_dget (hu_of hr) (pv 1) (pe_bm0 PySem.F.plainAttrs_list PySem.F.slot_list_pop PySem.F.type_list_pop mt_pop (pv 3)) (fun _ _ => rfl)) pa_nil))) (pg_name (i := 4) scMet.nd rfl (.inl rfl)) (pss_one (ps_if (pt_cmp (pc_dnotin (hu_of hr) (pv 4) (pv 2))) (pss_cons (ps_dput (hu_of hr) (pv 2) (pv 4) pe_bl rfl)
      (pss_one (ps_expr (pe_bm PySem.F.plainAttrs_list PySem.F.slot_list_append PySem.F.type_list_append mt_append (pv 3) (pa_cons (pv 4) pa_nil))))) pss_nil)))))
      (pss_one (ps_ret (pe_callTy call_tuple_of (by rfl) mtu (by decide +kernel) (pa_cons (pe_callB (call_sortedD (by rfl)) (by rfl) mso (by decide +kernel) (pa_cons (pv 2) pa_nil)) pa_nil)))))))), ?_⟩
    refine ⟨_, rfl, .ref b, s0, bs, rfl, rv0, hB.nd, Nat.le_trans hB.few (by decide), fun d H1 nd tab k1 => ?_⟩
    have eb1 := k1 _ _ (fun z => z) eb
    refine fun p np => ⟨_, rfl, b, _, 0, .str s0, rfl, rfl, SqT.of (by rw [upd_ne (ne_of_none eb1 np)]; exact eb1), atI_nat (j := 0) rfl, upd_same, [(.inr s0, .bl true)], rfl, by show 1 ≤ 15; decide, ?_⟩
    have em : (upd (upd H1 p (.dK [])) p (.dK (mergeK [] [((.inr s0 : Key), V.bl true)]))) p = some (.dK (metK [s0])) := by
      rw [upd_same]
      rfl
    have k2 : Kp M0 H1 (upd (upd H1 p (.dK [])) p (.dK (mergeK [] [((.inr s0 : Key), V.bl true)]))) := fun c u n e => by
      rw [upd_ne (ne_of_none e np), upd_ne (ne_of_none e np)]
      exact e
    generalize upd (upd H1 p (.dK [])) p (.dK (mergeK [] [((.inr s0 : Key), V.bl true)])) = H2 at em k2 ⊢
    refine ⟨_, rfl, b, _, 0, .str s0, rfl, rfl, SqT.of (k2 _ _ (fun z => z) eb1), atI_nat (j := 0) rfl, by show 1 ≤ sizeLine; decide, fun t nt => ?_⟩
    have npt : p ≠ t := ne_of_none em nt
    have tH1 : H1 t = none := by
      cases z : H1 t with
      | none => rfl
      | some u =>
        have z2 := k2 t u (fun z => z) z
        rw [nt] at z2
        cases z2
    let Inv := fun (ms tds : List Str) (H4 : Hp) => H4 p = some (.dK (metK ms)) ∧ H4 t = some (.lst (tds.map V.str)) ∧ ms.Nodup ∧ (∀ x ∈ ms, x ∈ bs.map (·.1)) ∧ s0 ∈ ms ∧ (∀ x ∈ ms, Reach bs s0 x) ∧ (∀ x ∈ tds, x ∈ ms) ∧ Kp M0 H1 H4 ∧ 2 * (bs.length - ms.length) + tds.length ≤ 121
    refine ⟨fun n σ H4 => ∃ (ms tds : List Str) (y4 : Option V), σ = [some (.ref b), some (.ref d), some (.ref p), some (.ref t), y4] ∧ n = 2 * (bs.length - ms.length) + tds.length ∧ Inv ms tds H4 ∧ (∀ m ∈ ms, m ∈ tds ∨ ∀ f, (m, f) ∈ bs → ∀ x, f.has x → x ∈ ms),
      ⟨_, [s0], [s0], none, rfl, rfl, ⟨by rw [upd_ne npt]; exact em, upd_same, by simp, fun x h => (List.mem_singleton.mp h) ▸ hB.st, List.mem_singleton.mpr rfl, fun x h => (List.mem_singleton.mp h) ▸ .start, fun x h => h, k2.trans (Kp.new nt), by have := hB.few; simp only [List.length_cons, List.length_nil]; omega⟩, fun m h => .inl h⟩, ?_⟩
    rintro n σ H4 ⟨ms, tds, y4, rfl, rfl, ⟨e1, e2, i1, i2, i3, i4, i5, k4, i6⟩, cl⟩
    have mf := met_few i1 i2
    rw [List.length_map] at mf
    have bf := hB.few
    by_cases ht : tds = []
    · subst ht
      refine ⟨_, rfl, false, .inl ⟨[], SqL.of e2, rfl⟩, iteF ?_⟩
      refine ⟨_, rfl, p, metK ms, ms, rfl, .inl e1, by unfold metK; rw [List.map_map]; rfl, by omega, fun ys l pl st nl => ⟨l, ys.map V.str, rfl, .inl ⟨SqL.of upd_same, fun l2 nl2 => ?_⟩⟩⟩
      refine q ys l2 _ st (pl.nodup_iff.mpr i1) (fun x => ?_) upd_same (k1.trans (k4.trans ((Kp.new nl).trans (Kp.new nl2))))
      rw [pl.mem_iff]
      exact ⟨i4 x, fun r => reach_in i3 (fun m hm => (cl m hm).elim (fun z => nomatch z) id) r⟩
    · have hl := List.dropLast_concat_getLast ht
      generalize tds.dropLast = td2 at hl
      generalize tds.getLast ht = y at hl
      subst hl
      have hy : y ∈ ms := i5 y (List.mem_append_right _ (List.mem_singleton.mpr rfl))
      refine ⟨_, rfl, true, .inl ⟨_, SqL.of e2, by rw [List.map_append]; cases td2 <;> rfl⟩, iteT ?_⟩
      refine ⟨fun σ' H' => ∃ (ms2 tds2 : List Str) (y4 : Option V), σ' = [some (.ref b), some (.ref d), some (.ref p), some (.ref t), y4] ∧ 2 * (bs.length - ms2.length) + tds2.length < 2 * (bs.length - ms.length) + (td2 ++ [y]).length ∧ Inv ms2 tds2 H' ∧ (∀ m ∈ ms2, m ∈ tds2 ∨ ∀ f, (m, f) ∈ bs → ∀ x, f.has x → x ∈ ms2),
        fun σ' H' ⟨ms2, tds2, y5, a1, a2, a3⟩ => ⟨_, a2, ms2, tds2, y5, a1, rfl, a3⟩, ?_⟩
      have lst : ((td2 ++ [y]).map V.str)[((td2 ++ [y]).map V.str).length - 1]? = some (.str y) := by
        rw [List.map_append, List.length_append, List.getElem?_append_right (by simp)]
        simp
      have dl : ((td2 ++ [y]).map V.str).dropLast = td2.map V.str := by
        rw [List.map_append]
        exact List.dropLast_concat
      -- the table, behind the pop
      have tabK : ∀ {H5 : Hp}, Kp M0 H1 H5 → TabAt H5 d bs := fun k => by
        obtain ⟨us, a1, a2, a3⟩ := tab
        exact ⟨us, k _ _ (fun z => z) a1, a2, fun i u x c1 c2 => (a3 i u x c1 c2).keep k (noT _)⟩
      have k5 : Kp M0 H1 (upd H4 t (.lst ((td2 ++ [y]).map V.str).dropLast)) := fun c u n e => by
        rw [upd_ne (ne_of_none e tH1)]
        exact k4 c u n e
      obtain ⟨u, f, hg, hbf, ru⟩ := tab_get (tabK k5) (i2 y hy)
      refine ⟨_, rfl, _, rfl, .inl ⟨rfl, _, SqL.of e2⟩, t, _, .str y, rfl, rfl, e2, lst, d, u, rfl, hg, u, f, rfl, ru, (hB.ok y f hbf).1, (hB.ok y f hbf).2, fun xs l H6 nl el lx hx hN k6 => ?_⟩
      have ntp : t ≠ p := npt.symm
      have et5 : upd H4 t (.lst ((td2 ++ [y]).map V.str).dropLast) t = some (.lst (td2.map V.str)) := by rw [upd_same, dl]
      have ep5 : upd H4 t (.lst ((td2 ++ [y]).map V.str).dropLast) p = some (.dK (metK ms)) := by rw [upd_ne npt]; exact e1
      have lt5 : t ≠ l := fun z => by
        rw [← z, et5] at nl
        cases nl
      have lp5 : p ≠ l := fun z => by
        rw [← z, ep5] at nl
        cases nl
      have pH1 : H1 p = none := np
      have k16 : Kp M0 H1 H6 := k5.trans k6
      have lt2 : (td2 ++ [y]).length = td2.length + 1 := by rw [List.length_append]; rfl
      refine ⟨l, rfl, ⟨_, SqL.of el⟩, for_list (xs := xs.map V.str) (fun i σ H7 => ∃ (ms2 tds2 : List Str) (y4 : Option V), σ = [some (.ref b), some (.ref d), some (.ref p), some (.ref t), y4] ∧ Inv ms2 tds2 H7 ∧ H7 l = some (.lst (xs.map V.str)) ∧
        2 * (bs.length - ms2.length) + tds2.length ≤ 2 * (bs.length - ms.length) + td2.length ∧ (∀ m ∈ ms2, m = y ∨ m ∈ tds2 ∨ ∀ f, (m, f) ∈ bs → ∀ x, f.has x → x ∈ ms2) ∧ (∀ j x, j < i → xs[j]? = some x → x ∈ ms2) ∧ y ∈ ms2) ?_ ?_ ?_ ?_⟩
      · refine ⟨ms, td2, y4, rfl, ⟨k6 _ _ (fun z => z) ep5, k6 _ _ (fun z => z) et5, i1, i2, i3, i4, fun x h => i5 x (List.mem_append_left _ h), k16, by rw [lt2] at i6; omega⟩, el, Nat.le_refl _, fun m hm => ?_, fun j x h => absurd h (Nat.not_lt_zero _), hy⟩
        rcases cl m hm with h | h
        · rcases List.mem_append.mp h with h | h
          · exact .inr (.inl h)
          · exact .inl (List.mem_singleton.mp h)
        · exact .inr (.inr h)
      · rintro i σ H7 _ ⟨ms2, tds2, y5, rfl, _, a, _⟩
        exact SqL.of a
      · rintro i v σ H7 hv ⟨ms2, tds2, y5, rfl, ⟨a1, a2, b1, b2, b3, b4, b5, a3, b6⟩, a4, a5, a6, a7, a8⟩
        rw [List.getElem?_map] at hv
        obtain ⟨x, hxi, rfl⟩ := Option.map_eq_some_iff.mp hv
        have xin : x ∈ xs := List.mem_of_getElem? hxi
        have mf2 := met_few b1 b2
        rw [List.length_map] at mf2
        refine ⟨_, rfl, _, rfl, p, _, rfl, DGet.k (k := .inr x) a1, ?_⟩
        by_cases hm : x ∈ ms2
        · refine ⟨_, rfl, iteF' (b := !(valV (metK ms2) (.inr x)).isSome) (by rw [metK_get, decide_eq_true hm]; rfl) ?_⟩
          refine ⟨ms2, tds2, _, rfl, ⟨a1, a2, b1, b2, b3, b4, b5, a3, b6⟩, a4, a5, a6, fun j z h e => ?_, a8⟩
          rcases Nat.lt_succ_iff_lt_or_eq.mp h with h | h
          · exact a7 j z h e
          · rw [h, hxi] at e
            cases e
            exact hm
        · refine ⟨_, rfl, iteT' (b := !(valV (metK ms2) (.inr x)).isSome) (by rw [metK_get, decide_eq_false hm]; rfl) ?_⟩
          refine ⟨_, rfl, _, rfl, p, _, rfl, DPut.k (k := .inr x) a1 (by unfold metK; rw [List.length_map, sizeLine_eq]; omega), ?_⟩
          rw [metK_put hm]
          have e2' : upd H7 p (.dK (metK (ms2 ++ [x]))) t = some (.lst (tds2.map V.str)) := by rw [upd_ne ntp]; exact a2
          have nd3 : (ms2 ++ [x]).Nodup := by
            rw [List.nodup_append]
            exact ⟨b1, by simp, fun a ha c hc e => hm ((List.mem_singleton.mp hc) ▸ e ▸ ha)⟩
          have in3 : ∀ z ∈ ms2 ++ [x], z ∈ bs.map (·.1) := fun z hz => by
            rcases List.mem_append.mp hz with h | h
            · exact b2 z h
            · rw [List.mem_singleton.mp h]
              exact hN x xin
          have mf3 := met_few nd3 in3
          rw [List.length_map, List.length_append, List.length_singleton] at mf3
          have ty : Reach bs s0 x := .step (b4 y a8) hbf ((hx x).mp xin)
          refine ⟨_, rfl, .inl ⟨rfl, _, SqL.of e2'⟩, _, rfl, t, _, _, rfl, rfl, e2', ?_, ?_⟩
          · rw [List.length_map, sizeLine_eq]
            omega
          · refine ⟨ms2 ++ [x], tds2 ++ [x], _, rfl, ⟨?_, ?_, nd3, in3, List.mem_append_left _ b3, fun z hz => ?_, fun z hz => ?_, fun c u n e => ?_, ?_⟩, ?_, ?_, fun m hm2 => ?_, fun j z h e => ?_, List.mem_append_left _ a8⟩
            · rw [upd_ne npt, upd_same]
            · rw [upd_same, List.map_append]
              rfl
            · rcases List.mem_append.mp hz with h | h
              · exact b4 z h
              · rw [List.mem_singleton.mp h]
                exact ty
            · rcases List.mem_append.mp hz with h | h
              · exact List.mem_append_left _ (b5 z h)
              · exact List.mem_append_right _ h
            · rw [upd_ne (ne_of_none e tH1), upd_ne (ne_of_none e pH1)]
              exact a3 c u n e
            · rw [List.length_append, List.length_append, List.length_singleton]
              omega
            · rw [upd_ne lt5.symm, upd_ne lp5.symm]
              exact a4
            · rw [List.length_append, List.length_append, List.length_singleton]
              omega
            · rcases List.mem_append.mp hm2 with h | h
              · rcases a6 m h with h | h | h
                · exact .inl h
                · exact .inr (.inl (List.mem_append_left _ h))
                · exact .inr (.inr fun g hg z hz => List.mem_append_left _ (h g hg z hz))
              · exact .inr (.inl (List.mem_append_right _ h))
            · rcases Nat.lt_succ_iff_lt_or_eq.mp h with h | h
              · exact List.mem_append_left _ (a7 j z h e)
              · rw [h, hxi] at e
                cases e
                exact List.mem_append_right _ (List.mem_singleton.mpr rfl)
      · rintro σ H7 ⟨ms2, tds2, y5, rfl, iv, a4, a5, a6, a7, a8⟩
        refine ⟨ms2, tds2, y5, rfl, by omega, iv, fun m hm2 => ?_⟩
        rcases a6 m hm2 with h | h | h
        · refine .inr fun g hg z hz => ?_
          rw [h] at hg
          rw [row_one hB.nd hg hbf] at hz
          obtain ⟨j, hj⟩ := List.mem_iff_getElem?.mp ((hx z).mpr hz)
          refine a7 j z ?_ hj
          rw [List.length_map]
          exact (List.getElem?_eq_some_iff.mp hj).1
        · exact .inl h
        · exact .inr h
end
end RT

set_option maxHeartbeats 1000000
namespace RT
open PySem PySem.Spec PyProof.Rows L2 LK
/-! ### whole numbers or None -/
def oI : Option Int → V
  | none => .non
  | some i => .int i
def KnI (H : Hp) (d : Addr) (ns : List Str) (L : Str → Option Int) : Prop := H d = some (.dK (ns.map fun x => ((.inr x : L2.Key), oI (L x))))
theorem knI_val {ns : List Str} {L : Str → Option Int} {x : Str} (h : x ∈ ns) : valV (ns.map fun x => ((.inr x : L2.Key), oI (L x))) (.inr x) = some (oI (L x)) := by
  induction ns with
  | nil => cases h
  | cons y r ih =>
    show valV (((.inr y : L2.Key), oI (L y)) :: _) (.inr x) = _
    by_cases e : x = y
    · subst e
      exact valV_pos rfl
    · rw [valV_neg (fun z => e (Sum.inr.inj z).symm)]
      exact ih (by simpa [e] using h)
theorem inV_noneI : ∀ os : List (Option Int), inV .non (os.map oI) = os.any (·.isNone)
  | [] => rfl
  | o :: r => by
    have ih := inV_noneI r
    unfold inV at ih ⊢
    rw [List.map_cons, List.any_cons, List.any_cons, ih]
    cases o <;> rfl
theorem flat_oI (os : List (Option Int)) : (os.map oI).all flatV = true := by
  rw [List.all_eq_true]
  intro v hv
  obtain ⟨o, _, rfl⟩ := List.mem_map.mp hv
  cases o <;> rfl
/-- alike told and untold -/
def Ag (E : Str → Option Str) (os : List (Option Int)) (fs : List Fo) : Prop := os.map (·.isSome) = (evs E fs).map (·.isSome)
theorem evs_snoc (E : Str → Option Str) (fs : List Fo) (f : Fo) : evs E (fs ++ [f]) = evs E fs ++ [ev E f] := by rw [evs_map, evs_map, List.map_append]; rfl
theorem Ag.snoc {E : Str → Option Str} {os : List (Option Int)} {fs : List Fo} {o : Option Int} {f : Fo} (h : Ag E os fs) (e : o.isSome = (ev E f).isSome) : Ag E (os ++ [o]) (fs ++ [f]) := by
  unfold Ag at h ⊢
  rw [evs_snoc, List.map_append, List.map_append, h]
  simp [e]
theorem Ag.len {E : Str → Option Str} {os : List (Option Int)} {fs : List Fo} (h : Ag E os fs) : os.length = fs.length := by
  have := congrArg List.length h
  rw [List.length_map, List.length_map, evs_map, List.length_map] at this
  exact this
theorem any_isNone {α : Type} (l : List (Option α)) : l.any (·.isNone) = !(l.map (·.isSome)).all id := by
  induction l with
  | nil => rfl
  | cons o r ih =>
    rw [List.any_cons, List.map_cons, List.all_cons, ih]
    cases o <;> simp
theorem Ag.none {E : Str → Option Str} {os : List (Option Int)} {fs : List Fo} (h : Ag E os fs) : os.any (·.isNone) = (evs E fs).any (·.isNone) := by
  rw [any_isNone, any_isNone, h]
theorem all_int {os : List (Option Int)} (c : ¬ os.any (·.isNone) = true) : ∃ ns : List Int, os = ns.map some := by
  induction os with
  | nil => exact ⟨[], rfl⟩
  | cons o r ih =>
    cases o with
    | none => exact absurd rfl c
    | some i =>
      obtain ⟨ns, e⟩ := ih fun z => c (by rw [List.any_cons, z, Bool.or_true])
      exact ⟨i :: ns, by rw [e]; rfl⟩
theorem all_someS {os : List (Option Str)} (c : ¬ os.any (·.isNone) = true) : ∃ zs : List Str, os = zs.map some := by
  induction os with
  | nil => exact ⟨[], rfl⟩
  | cons o r ih =>
    cases o with
    | none => exact absurd rfl c
    | some i =>
      obtain ⟨ns, e⟩ := ih fun z => c (by rw [List.any_cons, z, Bool.or_true])
      exact ⟨i :: ns, by rw [e]; rfl⟩
theorem catO_isSome (l : List (Option Str)) : (catO l).isSome = !l.any (·.isNone) := by
  by_cases c : l.any (·.isNone) = true
  · rw [c]
    obtain ⟨o, ho, e⟩ := List.any_eq_true.mp c
    cases o with
    | none => rw [catO_none ho]; rfl
    | some _ => cases e
  · obtain ⟨zs, rfl⟩ := all_someS c
    rw [catO_some, Bool.eq_false_iff.mpr c]
    rfl
theorem leastO_isSome (l : List (Option Str)) : (leastO l).isSome = (l.map (·.isSome)).any id := by
  cases h : leastO l with
  | none =>
    symm
    refine Bool.eq_false_iff.mpr fun c => ?_
    obtain ⟨b, hb, e⟩ := List.any_eq_true.mp c
    obtain ⟨o, ho, rfl⟩ := List.mem_map.mp hb
    cases o with
    | none => cases e
    | some z =>
      have := (leastO_min l).1 _ ho
      rw [h] at this
      exact this.elim
  | some z =>
    symm
    exact List.any_eq_true.mpr ⟨true, List.mem_map.mpr ⟨_, least_mem h, rfl⟩, rfl⟩
end RT

set_option maxHeartbeats 1000000
/-! the law's lows -/
namespace RT
open PySem PySem.Spec PyProof.Rows L2 LK
abbrev sLow : Stmt := topS 32
theorem scLow : FnScope ["_law_form", "_law_known", "_law_word", "_law_some", "_law_part", "_law_name", "_law_low"] ["_law_form", "_law_known"] (defScope sLow) := ⟨rfl, rfl, rfl, by decide +kernel, rfl, by decide +kernel, by decide +kernel⟩
theorem eqV_str {x w : Str} (h : w ≠ x) : eqV (.str x) (.str w) = false := by
  show (x == w) = false
  exact beq_eq_false_iff_ne.mpr fun z => h z.symm
section
variable {P : Program} {w : World} {K : PySem.W.Frag} {mg : Str → Option Value} {base : Heap}
def spLow (n : Nat) : Sp := fun vs H Q _ => ∃ (v : V) (f : Fo) (d : Addr) (N : List Str) (E : Str → Option Str) (L : Str → Option Int), vs = [v, .ref d] ∧ f.size ≤ n ∧ Rp H v f.enc ∧ f.ok N ∧ Gd f ∧ KnI H d N L ∧ (∀ x ∈ N, (L x).isSome = (E x).isSome) ∧
  ∀ (o : Option Int) (H' : Hp), Kp M0 H H' → o.isSome = (ev E f).isSome → Q (oI o) H'
theorem none_low {f : Addr} {fd : FuncData} {k : Nat} : FnOk P w K mg base CX0 k f fd ["_law_form", "_law_known"] (spLow 0) :=
  ⟨fun vs H Q E h => by obtain ⟨_, f, _, _, _, _, _, h, _⟩ := h; have := f.size_pos; omega, fun A outer s H args us vs Q E _ _ _ _ h => by obtain ⟨_, f, _, _, _, _, _, h, _⟩ := h; have := f.size_pos; omega⟩
theorem ok_low {n : Nat} {f fr : Addr} {fd fdr : FuncData} {k : Nat} (F : Fun K "_law_lowest" "_law_lowest" sLow f fd) (GR : FnOk P w K mg base CX0 k fr fdr ["_law_form", "_law_known"] (spLow n)) (kr : PySem.W.keepIn K (.ref fr) = true) (br : Binds K fdr ["_law_form", "_law_known"] []) (gr : mg "_law_lowest" = some (.ref fr))
    (mmi : mg "min" = none) (mma : mg "max" = none) :
    FnOk P w K mg base CX0 (k + 1) f fd ["_law_form", "_law_known"] (spLow (n + 1)) := by
  refine F.ok scLow (fun vs H Q E h => ?_) (fun cdv A outer sh H vs Q E hr h => ?_)
  · obtain ⟨v, f, d, N, E, L, rfl, _⟩ := h
    rfl
  · obtain ⟨v, f, d, N, E, L, rfl, hn, rv, ok, gd, ed, hE, q⟩ := h
    refine ⟨_, (pss_cons (ps_set (i := 2) scLow.nd rfl (.inl rfl) (pe_ix ix_tup (pv 0) pe_int (fun _ _ => rfl)))
      (pss_cons (ps_if (pt_cmpR op_eq (pv 2) pe_str (nomark _)) (pss_one (ps_ret (pe_dget (hu_of hr) (pv 1) (pe_ix ix_tup (pv 0) pe_int (fun _ _ => rfl)) (fun _ _ => rfl)))) pss_nil)
      (pss_cons (ps_if (pt_cmpR op_in_seq (pv 2) (pe_tup (pa_cons pe_str (pa_cons pe_str pa_nil))) (by rfl)) (pss_one (ps_ret (pe_call GR hr (by rfl) gr kr br .nil pass0 (pa_cons (pe_ix ix_tup (pv 0) pe_int (fun _ _ => rfl)) (pa_cons (pv 1) pa_nil))))) pss_nil)
      (pss_cons (ps_if (pt_cmpR op_eq (pv 2) pe_str (nomark _)) (pss_cons (ps_setLc (i := 3) (own := [("_law_part", 4)]) (g := gName 4) (tt := tYes) rfl scLow.nd rfl rfl rfl (pi_tup (pe_ix ix_tup (pv 0) pe_int (fun _ _ => rfl))) (blkOk_by (N := ["_law_form", "_law_known", "_law_word", "_law_some", "_law_part", "_law_name", "_law_low"]) (sc := defScope sLow) (by decide +kernel)) (fun _ _ _ _ _ => (pg_name (i := 4) scLow.nd rfl (.inl rfl))) (fun _ _ _ _ _ => pts_nil) (fun _ _ _ _ _ => (pe_call GR hr (by rfl) gr kr br .nil pass0 (pa_cons (pv 4) (pa_cons (pv 1) pa_nil)))))
      (pss_one (ps_ret (pe_ifExp (pt_cmpR op_in_seq pe_non (pv 3) (by rfl)) pe_non (pe_callB (cr_max (by rfl)) (by rfl) mma (by decide +kernel) (pa_cons (pe_op op_cat (pe_lst (pa_cons pe_int pa_nil)) (pv 3)) pa_nil)))))) pss_nil)
      (pss_cons (ps_if (pt_cmpR op_eq (pv 2) pe_str (nomark _)) (pss_cons (ps_setLc (i := 3) (own := [("_law_name", 5), ("_law_part", 4)]) (g := gTup K 2 (gCons (gName 5) (gCons (gName 4) gNil))) (tt := tYes) rfl scLow.nd rfl rfl rfl (pi_tup (pe_ix ix_tup (pv 0) pe_int (fun _ _ => rfl))) (blkOk_by (N := ["_law_form", "_law_known", "_law_word", "_law_some", "_law_part", "_law_name", "_law_low"]) (sc := defScope sLow) (by decide +kernel)) (fun _ _ _ _ _ => (pg_tup rfl (pgs_cons (pg_name (i := 5) scLow.nd rfl (.inl rfl)) (pgs_cons (pg_name (i := 4) scLow.nd rfl (.inl rfl)) pgs_nil)))) (fun _ _ _ _ _ => pts_nil) (fun _ _ _ _ _ => (pe_call GR hr (by rfl) gr kr br .nil pass0 (pa_cons (pv 4) (pa_cons (pv 1) pa_nil)))))
      (pss_one (ps_ret (pe_callBK (cr_minD hr) (by rfl) mmi (by decide +kernel) (pa_cons (pe_lc (own := [("_law_low", 6)]) (g := gName 6) rfl scLow.nd (pi_list (pv 3)) (blkOk_by (N := ["_law_form", "_law_known", "_law_word", "_law_some", "_law_part", "_law_name", "_law_low"]) (sc := defScope sLow) (by decide +kernel)) (fun _ _ _ _ _ => (pg_name (i := 6) scLow.nd rfl (.inl rfl))) (fun _ _ _ _ _ => (pts_one (pt_cmpR op_notN (pv 6) pe_non (nomark _)))) (fun _ _ _ _ _ => (pv 6))) pa_nil) (pk_cons pe_non pk_nil))))) pss_nil)
      (pss_one (ps_ret pe_int))))))), ?_⟩
    have line : (3000000 : Nat) < sizeLine := by rw [sizeLine_eq]; decide
    have szin : ∀ g ∈ f.inner, g.size ≤ n := fun g m => by have := inner_le m; omega
    have okin := oks_mem (Fo.inner_ok f ok)
    have gdin := gd.inner
    by_cases lf : ∃ (a : Addr) (w : Str) (us : List V), v = .ref a ∧ H a = some (.tup (.str w :: us)) ∧ w ≠ "named" ∧ w ≠ "skip" ∧ w ≠ "turned" ∧ w ≠ "row" ∧ w ≠ "either" ∧ (ev E f).isSome = true
    · obtain ⟨a, w, us, rfl, ea, h1, h2, h3, h4, h5, hs⟩ := lf
      refine ⟨_, rfl, a, _, 0, .str _, rfl, rfl, SqT.of ea, atI_nat (j := 0) rfl, ?_⟩
      refine ⟨_, rfl, rfl, _, rfl, iteF' (decide_eq_false fun z => h1 (V.str.inj z)) ?_⟩
      refine ⟨_, rfl, two_line, fun p np => ⟨p, _, rfl, .inr (SqT.of upd_same), rfl, rfl, _, rfl, iteF' (by show (eqV (.str "skip") (.str w) || (eqV (.str "turned") (.str w) || false)) = false; rw [eqV_str h2, eqV_str h3]; rfl) ?_⟩⟩
      refine ⟨_, rfl, rfl, _, rfl, iteF' (decide_eq_false fun z => h4 (V.str.inj z)) ?_⟩
      refine ⟨_, rfl, rfl, _, rfl, iteF' (decide_eq_false fun z => h5 (V.str.inj z)) ?_⟩
      exact q (some 0) _ (Kp.new np) hs.symm
    have two : ∀ {w : Str} {d2 : D}, Rp H v (.tup [.str w, d2]) → ∃ (a : Addr) (us : List V), v = .ref a ∧ H a = some (.tup (.str w :: us)) := fun r => by
      obtain ⟨a, us, rfl, ea, ru⟩ := Rp.tupE r
      obtain ⟨v1, v2, rfl, r1, r2⟩ := ru.two
      obtain ⟨rfl, _⟩ := r1.strE
      exact ⟨a, _, rfl, ea⟩
    have more : ∀ {w : Str} {ds : List D}, Rp H v (.tup (.str w :: ds)) → ∃ (a : Addr) (us : List V), v = .ref a ∧ H a = some (.tup (.str w :: us)) ∧ Rps H us ds := fun r => by
      obtain ⟨a, us, rfl, ea, ru⟩ := Rp.tupE r
      cases ru with
      | cons r1 r2 =>
        obtain ⟨rfl, _⟩ := r1.strE
        exact ⟨a, _, rfl, ea, r2⟩
    cases gd with
    | @text z hz =>
      obtain ⟨a, us, rfl, ea, _⟩ := more rv
      exact absurd ⟨a, _, us, rfl, ea, by decide, by decide, by decide, by decide, by decide, by rw [text_ev]; rfl⟩ lf
    | @set w z hw h1 h12 =>
      obtain ⟨a, us, rfl, ea, _⟩ := more rv
      refine absurd ⟨a, _, us, rfl, ea, ?_⟩ lf
      have e : (ev E (.leaf w [.str z])).isSome = true := by rw [set_ev hw]; rfl
      rcases hw with rfl | rfl <;> exact ⟨by decide, by decide, by decide, by decide, by decide, e⟩
    | number =>
      obtain ⟨a, us, rfl, ea, _⟩ := more rv
      exact absurd ⟨a, _, us, rfl, ea, by decide, by decide, by decide, by decide, by decide, rfl⟩ lf
    | @pick ps ne l10 hp =>
      obtain ⟨a, us, rfl, ea, _⟩ := more rv
      refine absurd ⟨a, _, us, rfl, ea, by decide, by decide, by decide, by decide, by decide, ?_⟩ lf
      show (leastO ((ps.map prD).map pairT)).isSome = true
      rw [leastO_isSome]
      cases ps with
      | nil => exact absurd rfl ne
      | cons p r => rfl
    | @one w f r hw gf =>
      obtain ⟨a, us, rfl, ea, ru⟩ := more rv
      cases ru with
      | cons r2 r3 =>
      rcases hw with rfl | rfl | rfl
      · refine ⟨_, rfl, a, _, 0, .str _, rfl, rfl, SqT.of ea, atI_nat (j := 0) rfl, ?_⟩
        refine ⟨_, rfl, rfl, _, rfl, iteF' (by decide) ?_⟩
        refine ⟨_, rfl, two_line, fun p np => ⟨p, _, rfl, .inr (SqT.of upd_same), rfl, rfl, _, rfl, iteT' (by decide) ?_⟩⟩
        have ea1 := (Kp.new (M := M0) np : Kp M0 H (upd H p (.tup [.str "skip", .str "turned"]))) _ _ (fun z => z) ea
        refine ⟨_, rfl, a, _, 1, _, rfl, rfl, SqT.of ea1, atI_nat (j := 1) rfl, _, rfl, _, f, d, N, E, L, rfl, szin f (.head _), r2.ts (TS.new np), okin f (.head _), gf, by unfold KnI; rw [upd_ne (ne_of_none ed np)]; exact ed, hE, fun o H5 k5 eo => q o H5 ((Kp.new np).trans k5) (by rw [skip_ev]; exact eo)⟩
      · exact absurd ⟨a, _, _, rfl, ea, by decide, by decide, by decide, by decide, by decide, by rw [spelt_ev]; rfl⟩ lf
      · refine ⟨_, rfl, a, _, 0, .str _, rfl, rfl, SqT.of ea, atI_nat (j := 0) rfl, ?_⟩
        refine ⟨_, rfl, rfl, _, rfl, iteF' (by decide) ?_⟩
        refine ⟨_, rfl, two_line, fun p np => ⟨p, _, rfl, .inr (SqT.of upd_same), rfl, rfl, _, rfl, iteT' (by decide) ?_⟩⟩
        have ea1 := (Kp.new (M := M0) np : Kp M0 H (upd H p (.tup [.str "skip", .str "turned"]))) _ _ (fun z => z) ea
        refine ⟨_, rfl, a, _, 1, _, rfl, rfl, SqT.of ea1, atI_nat (j := 1) rfl, _, rfl, _, f, d, N, E, L, rfl, szin f (.head _), r2.ts (TS.new np), okin f (.head _), gf, by unfold KnI; rw [upd_ne (ne_of_none ed np)]; exact ed, hE, fun o H5 k5 eo => q o H5 ((Kp.new np).trans k5) (by rw [turned_ev]; exact eo)⟩
    | @row fs l10 gfs hl =>
      obtain ⟨a, us, rfl, ea, ru⟩ := Rp.tupE rv
      obtain ⟨v1, v2, rfl, r1, r2⟩ := ru.two
      obtain ⟨rfl, _⟩ := r1.strE
      obtain ⟨b, ws, rfl, eb, rb⟩ := Rp.tupE r2
      refine ⟨_, rfl, a, _, 0, .str _, rfl, rfl, SqT.of ea, atI_nat (j := 0) rfl, ?_⟩
      refine ⟨_, rfl, rfl, _, rfl, iteF' (by decide) ?_⟩
      refine ⟨_, rfl, two_line, fun p np => ⟨p, _, rfl, .inr (SqT.of upd_same), rfl, rfl, _, rfl, iteF' (by decide) ?_⟩⟩
      have k1 : Kp M0 H (upd H p (.tup [.str "skip", .str "turned"])) := Kp.new np
      generalize upd _ p (.tup [.str "skip", .str "turned"]) = H1 at k1 ⊢
      refine ⟨_, rfl, rfl, _, rfl, iteT' (by decide) ?_⟩
      have ea1 := k1 _ _ (fun z => z) ea
      have ed1 := k1 _ _ (fun z => z) ed
      have eb1 := k1 _ _ (fun z => z) eb
      have rb1 := rb.ts (ts0 k1)
      have lw : ws.length = fs.length := by rw [rb.len, encs_map, List.length_map]
      refine ⟨_, rfl, a, _, 1, .ref b, rfl, rfl, SqT.of ea1, atI_nat (j := 1) rfl, b, rfl, ⟨_, SqT.of eb1⟩, fun D nD => ?_⟩
      refine lc_tup (xs := ws) (fun i H4 => i ≤ fs.length ∧ Kp M0 H1 H4 ∧ ∃ os : List (Option Int), Ag E os (fs.take i) ∧ H4 D = some (.lst (os.map oI))) ?_ ?_ ?_ ?_
      · exact ⟨Nat.zero_le _, Kp.new nD, [], rfl, upd_same⟩
      · exact fun i H4 _ h => SqT.of (h.2.1 _ _ (fun z => z) eb1)
      · rintro i x H4 hx ⟨hi, k4, os, ag, e4⟩
        obtain ⟨dd, hd, rd⟩ := rb1.get i x hx
        rw [encs_map, List.getElem?_map] at hd
        obtain ⟨g, eg, rfl⟩ := Option.map_eq_some_iff.mp hd
        have mg' := List.mem_of_getElem? eg
        have lt := (List.getElem?_eq_some_iff.mp eg).1
        have lo := ag.len
        rw [List.length_take] at lo
        refine ⟨rfl, tYes_ok (iteT ⟨_, rfl, _, rfl, x, g, d, N, E, L, rfl, szin g mg', rd.ts (ts0 k4), okin g mg', gfs g mg', k4 _ _ (fun z => z) ed1, hE, fun o H5 k5 eo => ⟨_, k5 _ _ (fun z => z) e4, ?_, lt, ?_, os ++ [o], ?_, ?_⟩⟩)⟩
        · rw [List.length_map]
          omega
        · exact (k4.trans k5).own nD
        · rw [List.take_add_one, eg]
          exact ag.snoc eo
        · rw [upd_same, List.map_append]
          rfl
      · rintro H4 ⟨_, k4, os, ag, e4⟩
        rw [lw, List.take_length] at ag
        have lo := ag.len
        refine ⟨_, rfl, D, _, rfl, .inl (SqL.of e4), rfl, flat_oI _, _, rfl, ?_⟩
        rw [inV_noneI]
        have ea4 : (ev E (.row fs)).isSome = !os.any (·.isNone) := by
          show (catO (evs E fs)).isSome = _
          rw [catO_isSome, ag.none]
        refine ite2 (fun c => ?_) (fun c => ?_)
        · have c : os.any (·.isNone) = true := c
          exact q none H4 (k1.trans k4) (by rw [ea4, c]; rfl)
        · have c : ¬ os.any (·.isNone) = true := c
          obtain ⟨ns, rfl⟩ := all_int c
          have em : (ns.map some).map oI = ns.map V.int := by rw [List.map_map]; rfl
          rw [em] at e4
          rw [List.length_map] at lo
          refine ⟨by show 1 ≤ sizeLine; omega, fun p2 np2 => ?_⟩
          have nDp : D ≠ p2 := ne_of_none e4 np2
          have e5 : upd H4 p2 (.lst [.int 0]) D = some (.lst (ns.map V.int)) := by rw [upd_ne nDp]; exact e4
          refine ⟨_, rfl, p2, D, _, _, rfl, rfl, upd_same, e5, by rw [List.length_map]; show 1 + ns.length ≤ sizeLine; omega, fun p3 np3 => ?_⟩
          refine ⟨p3, 0 :: ns, rfl, SqL.of upd_same, by simp, fun m _ _ => ?_⟩
          exact q (some m) _ (((k1.trans k4).trans (Kp.new np2)).trans (Kp.new np3)) (by rw [ea4, Bool.eq_false_iff.mpr c]; rfl)
    | @either ns fs hnn l10 gfs =>
      obtain ⟨a, us, rfl, ea, ru⟩ := Rp.tupE rv
      obtain ⟨v1, v2, rfl, r1, r2⟩ := ru.two
      obtain ⟨rfl, _⟩ := r1.strE
      obtain ⟨b, ws, rfl, eb, rb⟩ := Rp.tupE r2
      refine ⟨_, rfl, a, _, 0, .str _, rfl, rfl, SqT.of ea, atI_nat (j := 0) rfl, ?_⟩
      refine ⟨_, rfl, rfl, _, rfl, iteF' (by decide) ?_⟩
      refine ⟨_, rfl, two_line, fun p np => ⟨p, _, rfl, .inr (SqT.of upd_same), rfl, rfl, _, rfl, iteF' (by decide) ?_⟩⟩
      have k1 : Kp M0 H (upd H p (.tup [.str "skip", .str "turned"])) := Kp.new np
      generalize upd _ p (.tup [.str "skip", .str "turned"]) = H1 at k1 ⊢
      refine ⟨_, rfl, rfl, _, rfl, iteF' (by decide) ?_⟩
      refine ⟨_, rfl, rfl, _, rfl, iteT' (by decide) ?_⟩
      have ea1 := k1 _ _ (fun z => z) ea
      have ed1 := k1 _ _ (fun z => z) ed
      have eb1 := k1 _ _ (fun z => z) eb
      have rb1 := rb.ts (ts0 k1)
      have lw : ws.length = fs.length := by rw [rb.len, List.length_zipWith, encs_map, List.length_map]; omega
      refine ⟨_, rfl, a, _, 1, .ref b, rfl, rfl, SqT.of ea1, atI_nat (j := 1) rfl, b, rfl, ⟨_, SqT.of eb1⟩, fun D nD => ?_⟩
      refine lc_tup (xs := ws) (fun i H4 => i ≤ fs.length ∧ Kp M0 H1 H4 ∧ ∃ os : List (Option Int), Ag E os (fs.take i) ∧ H4 D = some (.lst (os.map oI))) ?_ ?_ ?_ ?_
      · exact ⟨Nat.zero_le _, Kp.new nD, [], rfl, upd_same⟩
      · exact fun i H4 _ h => SqT.of (h.2.1 _ _ (fun z => z) eb1)
      · rintro i x H4 hx ⟨hi, k4, os, ag, e4⟩
        obtain ⟨dd, hd, rd⟩ := rb1.get i x hx
        have hil : i < fs.length := by rw [← lw]; exact (List.getElem?_eq_some_iff.mp hx).1
        have hnm : ns[i]? = some (ns[i]'(by omega)) := List.getElem?_eq_getElem (by omega)
        obtain ⟨g, eg⟩ : ∃ g, fs[i]? = some g := ⟨_, List.getElem?_eq_getElem hil⟩
        rw [List.getElem?_zipWith, hnm, encs_map, List.getElem?_map, eg] at hd
        cases hd
        obtain ⟨c, us2, rfl, ec, rc⟩ := Rp.tupE rd
        obtain ⟨u1, u2, rfl, c1, c2⟩ := rc.two
        obtain ⟨rfl, _⟩ := c1.strE
        have mg' := List.mem_of_getElem? eg
        have lo := ag.len
        rw [List.length_take] at lo
        refine ⟨c, _, rfl, SqT.of (k4 _ _ (fun z => z) ec), rfl, _, _, rfl, _, _, rfl, rfl, rfl, tYes_ok (iteT ⟨_, rfl, _, rfl, u2, g, d, N, E, L, rfl, szin g mg', c2.ts (ts0 k4), okin g mg', gfs g mg', k4 _ _ (fun z => z) ed1, hE, fun o H5 k5 eo => ⟨_, k5 _ _ (fun z => z) e4, ?_, hil, ?_, os ++ [o], ?_, ?_⟩⟩)⟩
        · rw [List.length_map]
          omega
        · exact (k4.trans k5).own nD
        · rw [List.take_add_one, eg]
          exact ag.snoc eo
        · rw [upd_same, List.map_append]
          rfl
      · rintro H4 ⟨_, k4, os, ag, e4⟩
        rw [lw, List.take_length] at ag
        have lo := ag.len
        refine ⟨_, rfl, D, rfl, ⟨_, SqL.of e4⟩, fun D2 nD2 => ?_⟩
        refine lc_list (K := K) (a := D) (xs := os.map oI) (fun i H6 => i ≤ os.length ∧ Kp M0 H4 H6 ∧ H6 D2 = some (.lst (((os.take i).filterMap id).map V.int))) ?_ ?_ ?_ ?_
        · exact ⟨Nat.zero_le _, Kp.new nD2, upd_same⟩
        · exact fun i H6 _ h => SqL.of (h.2.1 _ _ (fun z => z) e4)
        · rintro i x H6 hx ⟨hi, k6, e6⟩
          rw [List.getElem?_map] at hx
          obtain ⟨o, eo, rfl⟩ := Option.map_eq_some_iff.mp hx
          have lt := (List.getElem?_eq_some_iff.mp eo).1
          have tk : os.take (i + 1) = os.take i ++ [o] := by rw [List.take_add_one, eo]; rfl
          refine ⟨rfl, _, rfl, rfl, _, rfl, ?_⟩
          cases o with
          | none => exact iteF ⟨lt, k6, by rw [tk, List.filterMap_append, e6]; simp⟩
          | some z =>
            refine iteT ⟨_, rfl, _, e6, ?_, lt, k6.own nD2, ?_⟩
            · rw [List.length_map]
              refine Nat.lt_of_le_of_lt (List.length_filterMap_le _ _) ?_
              rw [List.length_take]
              omega
            · rw [upd_same, tk, List.filterMap_append, List.map_append]
              rfl
        · rintro H6 ⟨_, k6, e6⟩
          rw [List.length_map, List.take_length] at e6
          have kk : Kp M0 H H6 := (k1.trans k4).trans k6
          have es : (ev E (.either ns fs)).isSome = (os.map (·.isSome)).any id := by
            show (leastO (evs E fs)).isSome = _
            rw [leastO_isSome, ← ag]
          refine ⟨D2, os.filterMap id, .non, rfl, rfl, SqL.of e6, fun h0 => ?_, fun h0 m => ?_⟩
          · refine q none H6 kk ?_
            rw [es]
            symm
            refine Bool.eq_false_iff.mpr fun c => ?_
            obtain ⟨b2, hb, e⟩ := List.any_eq_true.mp c
            obtain ⟨o, ho, rfl⟩ := List.mem_map.mp hb
            cases o with
            | none => cases e
            | some z =>
              have : z ∈ os.filterMap id := List.mem_filterMap.mpr ⟨_, ho, rfl⟩
              rw [h0] at this
              exact absurd this List.not_mem_nil
          · refine q (some m) H6 kk ?_
            rw [es]
            symm
            obtain ⟨z, hz⟩ := List.exists_mem_of_ne_nil _ h0
            obtain ⟨o, ho, e⟩ := List.mem_filterMap.mp hz
            have e : o = some z := e
            subst e
            exact List.any_eq_true.mpr ⟨true, List.mem_map.mpr ⟨_, ho, rfl⟩, rfl⟩
    | @again f gf =>
      obtain ⟨a, us, rfl, ea, _⟩ := more rv
      exact absurd ⟨a, _, us, rfl, ea, by decide, by decide, by decide, by decide, by decide, rfl⟩ lf
    | @between f g gf gg =>
      obtain ⟨a, us, rfl, ea, _⟩ := more rv
      exact absurd ⟨a, _, us, rfl, ea, by decide, by decide, by decide, by decide, by decide, rfl⟩ lf
    | @counted z f hz gf =>
      obtain ⟨a, us, rfl, ea, _⟩ := more rv
      exact absurd ⟨a, _, us, rfl, ea, by decide, by decide, by decide, by decide, by decide, rfl⟩ lf
    | @named x =>
      obtain ⟨a, us, rfl, ea, ru⟩ := Rp.tupE rv
      obtain ⟨v1, v2, rfl, r1, r2⟩ := ru.two
      obtain ⟨rfl, _⟩ := r1.strE
      obtain ⟨rfl, _⟩ := r2.strE
      refine ⟨_, rfl, a, _, 0, .str _, rfl, rfl, SqT.of ea, atI_nat (j := 0) rfl, ?_⟩
      refine ⟨_, rfl, rfl, _, rfl, iteT' (by decide) ?_⟩
      exact ⟨_, rfl, _, rfl, a, _, 1, .str x, rfl, rfl, SqT.of ea, atI_nat (j := 1) rfl, d, _, rfl, .inl ⟨_, .inr x, .inl ed, rfl, (knI_val ok).symm⟩, q (L x) H Kp.refl (hE x ok)⟩
end
end RT

set_option maxHeartbeats 1000000
namespace RT
open PySem PySem.Spec PyProof.Rows L2 LK
abbrev sLows : Stmt := topS 33
theorem scLows : FnScope ["_law_book", "_law_name", "_law_form", "_law_known", "_law_turn", "_law_more", "_law_low"] ["_law_book"] (defScope sLows) := ⟨rfl, rfl, rfl, by decide +kernel, rfl, by decide +kernel, by decide +kernel⟩
abbrev nsOf (tb : List (Str × Fo)) : List Str := tb.map (·.1)
theorem mergeK_nd : ∀ {kvs acc : List (Key × V)}, ((acc ++ kvs).map (·.1)).Nodup → mergeK acc kvs = acc ++ kvs
  | [], acc, _ => by rw [List.append_nil]; rfl
  | (k, v) :: r, acc, h => by
    show mergeK (putK acc k v) r = _
    rw [putK_new (fun p hp e => ?_), mergeK_nd (by rw [List.append_assoc]; exact h), List.append_assoc]
    · rfl
    · rw [List.map_append, List.nodup_append] at h
      exact h.2.2 _ (List.mem_map.mpr ⟨p, hp, rfl⟩) _ (List.mem_map.mpr ⟨(k, v), List.mem_cons_self, rfl⟩) e
theorem nm_apart {tb : List (Str × Fo)} (nd : (tb.map (·.1)).Nodup) {i : Nat} {x : Str} {f : Fo} (h : tb[i]? = some (x, f)) : ∀ p ∈ tb.take i, p.1 ≠ x := fun q hq e => by
  have hi := (List.getElem?_eq_some_iff.mp h).1
  obtain ⟨l, hl⟩ := List.mem_iff_getElem?.mp hq
  have ll : l < i := by
    have z := (List.getElem?_eq_some_iff.mp hl).1
    rw [List.length_take] at z
    omega
  rw [List.getElem?_take_of_lt ll] at hl
  have ne := List.pairwise_iff_getElem.mp (List.nodup_iff_pairwise_ne.mp nd) l i (by rw [List.length_map]; omega) (by rw [List.length_map]; exact hi) ll
  rw [List.getElem_map, List.getElem_map, (List.getElem?_eq_some_iff.mp h).2, (List.getElem?_eq_some_iff.mp hl).2] at ne
  exact ne e
/-- the first rows' names with what is known of them -/
def dn (tb : List (Str × Fo)) (L : Str → Option Int) (l : Nat) : List (Key × V) := (tb.take l).map fun p => ((.inr p.1 : L2.Key), oI (L p.1))
theorem dn_snoc {tb : List (Str × Fo)} (nd : (tb.map (·.1)).Nodup) {L : Str → Option Int} {i : Nat} {x : Str} {f : Fo} (h : tb[i]? = some (x, f)) (o : Option Int) : putK (dn tb L i) (.inr x) (oI o) = dn tb (fun y => if y = x then o else L y) (i + 1) := by
  have ap := nm_apart nd h
  unfold dn
  rw [putK_new, List.take_add_one, h, List.map_append]
  · congr 1
    · refine List.map_congr_left fun p hp => ?_
      show _ = ((.inr p.1 : L2.Key), oI (if p.1 = x then o else L p.1))
      rw [if_neg (ap p hp)]
    · show _ = [((.inr x : L2.Key), oI (if x = x then o else L x))]
      rw [if_pos rfl]
  · intro p hp e
    obtain ⟨q, hq, rfl⟩ := List.mem_map.mp hp
    exact ap q hq (Sum.inr.inj e)
theorem dn_all (tb : List (Str × Fo)) (L : Str → Option Int) {H : Hp} {d : Addr} (e : H d = some (.dK (dn tb L tb.length))) : KnI H d (nsOf tb) L := by
  unfold KnI
  rw [List.map_map]
  unfold dn at e
  rw [List.take_length] at e
  exact e
/-- a book's rows, as the law asks of them -/
structure Bq (tb : List (Str × Fo)) : Prop where
  nd : (tb.map (·.1)).Nodup
  few : tb.length ≤ 12
  ok : ∀ x f, (x, f) ∈ tb → f.ok (nsOf tb) ∧ Gd f ∧ f.size ≤ 200
section
variable {P : Program} {w : World} {K : PySem.W.Frag} {mg : Str → Option Value} {base : Heap}
def spLows : Sp := fun vs H Q _ => ∃ (v : V) (s0 : Str) (tb : List (Str × Fo)), vs = [v] ∧ BkA H v s0 tb ∧ Bq tb ∧
  ∀ (d : Addr) (L : Str → Option Int) (H' : Hp), KnI H' d (nsOf tb) L → (∀ x ∈ nsOf tb, (L x).isSome = (KK tb tb.length x).isSome) → Kp M0 H H' → Q (.ref d) H'
theorem ok_lows {f fl : Addr} {fd fdl : FuncData} {k : Nat} (F : Fun K "_law_lows" "_law_lows" sLows f fd) (GL : FnOk P w K mg base CX0 k fl fdl ["_law_form", "_law_known"] (spLow 200)) (kl : PySem.W.keepIn K (.ref fl) = true) (bl : Binds K fdl ["_law_form", "_law_known"] []) (gl : mg "_law_lowest" = some (.ref fl))
    (mr : mg "range" = none) (mdi : mg "dict" = none) (ml : mg "len" = none) :
    FnOk P w K mg base CX0 (k + 1) f fd ["_law_book"] spLows := by
  refine F.ok scLows (fun vs H Q E h => ?_) (fun cdv A outer sh H vs Q E hr h => ?_)
  · obtain ⟨v, s0, tb, rfl, _⟩ := h
    rfl
  · obtain ⟨v, s0, tb, rfl, rv, W, q⟩ := h
    refine ⟨_, (pss_cons (ps_set (i := 3) scLows.nd rfl (.inl rfl) (pe_callTy (call_dictP rfl) (by rfl) mdi (by decide +kernel) (pa_cons (pe_lc (own := [("_law_name", 1), ("_law_form", 2)]) (g := gTup K 2 (gCons (gName 1) (gCons (gName 2) gNil))) (tt := tYes) rfl scLows.nd (pi_tup (pe_ix ix_tup (pv 0) pe_int (fun _ _ => rfl))) (blkOk_by (N := ["_law_book", "_law_name", "_law_form", "_law_known", "_law_turn", "_law_more", "_law_low"]) (sc := defScope sLows) (by decide +kernel)) (fun _ _ _ _ _ => (pg_tup rfl (pgs_cons (pg_name (i := 1) scLows.nd rfl (.inl rfl)) (pgs_cons (pg_name (i := 2) scLows.nd rfl (.inl rfl)) pgs_nil)))) (fun _ _ _ _ _ => pts_nil) (fun _ _ _ _ _ => (pe_tup (pa_cons (pv 1) (pa_cons pe_non pa_nil))))) pa_nil)))
      (pss_cons (ps_for PassesOwn.never rfl (pi_range1 (by rfl) mr (pa_cons (pe_callB call_lenD (by rfl) ml PySem.boot_len (pa_cons (pv 3) pa_nil)) pa_nil)) (pg_name (i := 4) scLows.nd rfl (.inl rfl)) (pss_cons (ps_set (i := 5) scLows.nd rfl (.inl rfl) pe_dnewK)
      (pss_cons (ps_for PassesOwn.never rfl (pi_tup (pe_ix ix_tup (pv 0) pe_int (fun _ _ => rfl))) (pg_tup rfl (pgs_cons (pg_name (i := 1) scLows.nd rfl (.inl rfl)) (pgs_cons (pg_name (i := 2) scLows.nd rfl (.inl rfl)) pgs_nil))) (pss_cons (ps_set (i := 6) scLows.nd rfl (.inl rfl) (pe_call GL hr (by rfl) gl kl bl .nil pass0 (pa_cons (pv 2) (pa_cons (pv 3) pa_nil))))
      (pss_one (ps_dput (hu_of hr) (pv 5) (pv 1) (pe_ifExp (pt_cmpR op_isN (pv 6) pe_non (nomark _)) pe_non (pe_op op_add (pv 6) pe_int)) rfl))))
      (pss_one (ps_set (i := 3) scLows.nd rfl (.inl rfl) (pv 5))))))
      (pss_one (ps_ret (pv 3))))), ?_⟩
    have line : (3000 : Nat) < sizeLine := by rw [sizeLine_eq]; decide
    obtain ⟨ba, rows, ps, rfl, bk⟩ := rv
    have few := W.few
    refine ⟨_, rfl, ba, _, 1, .ref rows, rfl, rfl, SqT.of bk.eb, atI_nat (j := 1) rfl, rows, rfl, ⟨_, bk.sq⟩, fun D nD => ?_⟩
    refine lc_tup (xs := ps) (fun i H4 => i ≤ tb.length ∧ Kp M0 H H4 ∧ ∃ qs : List Addr, H4 D = some (.lst (qs.map V.ref)) ∧ qs.length = i ∧ Paired (fun (p : Addr) (kv : Key × V) => H4 p = some (.tup [kV kv.1, kv.2])) qs (dn tb (fun _ => none) i)) ?_ ?_ ?_ ?_
    · exact ⟨Nat.zero_le _, Kp.new nD, [], upd_same, rfl, .nil⟩
    · rintro i H4 _ ⟨_, k4, _⟩
      exact (bk.fz (fz0 k4)).sq
    · rintro i x H4 hx ⟨_, k4, qs, e4, lq, pr⟩
      obtain ⟨z, f, p, u, hb, rfl, ep, ru⟩ := bk.row i x hx
      have hi := (List.getElem?_eq_some_iff.mp hb).1
      refine ⟨p, _, rfl, SqT.of (k4 _ _ (fun z => z) ep), rfl, _, _, rfl, _, _, rfl, rfl, rfl, tYes_ok (iteT ⟨_, rfl, by show 2 ≤ sizeLine; omega, fun t nt => ?_⟩)⟩
      have nDt : D ≠ t := ne_of_none e4 nt
      refine ⟨_, by rw [upd_ne nDt]; exact e4, by rw [List.length_map]; omega, hi, (k4.trans (Kp.new nt)).own nD, qs ++ [t], ?_, ?_, ?_⟩
      · rw [upd_same, List.map_append]
        rfl
      · rw [List.length_append, lq]
        rfl
      · have e : dn tb (fun _ => none) (i + 1) = dn tb (fun _ => none) i ++ [(.inr z, .non)] := by
          unfold dn
          rw [List.take_add_one, hb, List.map_append]
          rfl
        rw [e]
        have up : ∀ b o, H4 b = some o → upd (upd H4 t (.tup [.str z, .non])) D (.lst (qs.map V.ref ++ [.ref t])) b = some o ∨ b = D := fun b o e => by
          by_cases hb : b = D
          · exact .inr hb
          · rw [upd_ne hb, upd_ne (ne_of_none e nt)]
            exact .inl e
        refine (L2.Paired.mapP pr fun p kv h => ?_).snoc (by rw [upd_ne nDt.symm]; exact upd_same)
        rcases up p _ h with r | r
        · exact r
        · rw [r, e4] at h
          cases h
    · rintro H4 ⟨_, k4, qs, e4, lq, pr⟩
      rw [bk.len] at pr
      refine ⟨D, qs, _, rfl, SqL.of e4, L2.Paired.mapP pr fun p kv h => SqT.of h, fun d nd => ?_⟩
      have bk4 := bk.fz (fz0 k4)
      have nk : ((dn tb (fun _ => none) tb.length).map (·.1)).Nodup := by
        have e : (dn tb (fun _ => none) tb.length).map (·.1) = (tb.map (·.1)).map (fun x => (.inr x : L2.Key)) := by
          unfold dn
          rw [List.take_length, List.map_map, List.map_map]
          rfl
        rw [e, List.nodup_iff_pairwise_ne, List.pairwise_map]
        exact (List.nodup_iff_pairwise_ne.mp W.nd).imp fun h z => h (Sum.inr.inj z)
      rw [mergeK_nd (acc := []) (by rw [List.nil_append]; exact nk), List.nil_append]
      have k5 : Kp M0 H (upd H4 d (.dK (dn tb (fun _ => none) tb.length))) := k4.trans (Kp.new nd)
      have ed : upd H4 d (.dK (dn tb (fun _ => none) tb.length)) d = some (.dK (dn tb (fun _ => none) tb.length)) := upd_same
      have nd0 : H d = none := none_back k4 (fun z => z) nd
      generalize upd H4 d (.dK (dn tb (fun _ => none) tb.length)) = H5 at k5 ed ⊢
      clear pr e4 k4 nd nk bk4
      have lnd : (dn tb (fun _ => none) tb.length).length = tb.length := by unfold dn; rw [List.length_map, List.take_length]
      refine ⟨_, rfl, d, _, rfl, ed, _, rfl, by omega, by omega, for_range (n := (((dn tb (fun _ => none) tb.length).length : Nat) : Int).toNat) (fun j σ H6 => ∃ (d : Addr) (L : Str → Option Int) (y1 y2 y4 y5 y6 : Option V), σ = [some (.ref ba), y1, y2, some (.ref d), y4, y5, y6] ∧ Kp M0 H H6 ∧ H6 d = some (.dK (dn tb L tb.length)) ∧ (∀ x ∈ nsOf tb, (L x).isSome = (KK tb j x).isSome) ∧ H d = none) ?_ ?_ ?_⟩
      · exact ⟨d, _, _, _, _, _, _, rfl, k5, ed, fun _ _ => rfl, nd0⟩
      · clear k5 ed nd0
        rintro j σ H6 hj ⟨d, L, y1, y2, y4, y5, y6, rfl, k6, ed, hL, nd0⟩
        have kn6 := dn_all tb L ed
        refine fun m nm => ?_
        have k7 : Kp M0 H (upd H6 m (.dK [])) := k6.trans (Kp.new nm)
        have ndm : d ≠ m := ne_of_none ed nm
        have nm0 : H m = none := none_back k6 (fun z => z) nm
        have kn7 : KnI (upd H6 m (.dK [])) d (nsOf tb) L := by unfold KnI; rw [upd_ne ndm]; exact kn6
        have em7 : upd H6 m (.dK []) m = some (.dK []) := upd_same
        generalize upd H6 m (.dK []) = H7 at k7 kn7 em7 ⊢
        have bk7 := bk.fz (fz0 k7)
        refine ⟨_, rfl, ba, _, 1, .ref rows, rfl, rfl, SqT.of bk7.eb, atI_nat (j := 1) rfl, rows, rfl, ⟨_, bk7.sq⟩, ?_⟩
        refine for_tup (xs := ps) (fun l σ H8 => ∃ (L2 : Str → Option Int) (y1 y2 y6 : Option V), σ = [some (.ref ba), y1, y2, some (.ref d), some (.int ((0 : Int) + (j : Nat))), some (.ref m), y6] ∧ Kp M0 H H8 ∧ KnI H8 d (nsOf tb) L ∧ H8 m = some (.dK (dn tb L2 l)) ∧ ∀ p ∈ tb.take l, (L2 p.1).isSome = (KK tb (j + 1) p.1).isSome) ?_ ?_ ?_ ?_
        · exact ⟨fun _ => none, y1, y2, y6, rfl, k7, kn7, em7, fun p hp => by simp at hp⟩
        · rintro l σ H8 _ ⟨_, _, _, _, _, k8, _⟩
          exact (bk.fz (fz0 k8)).sq
        · rintro l x σ H8 hx ⟨L2, y1, y2, y6, rfl, k8, kn8, em8, h8⟩
          obtain ⟨z, f, p, u, hb, rfl, ep, ru⟩ := (bk.fz (fz0 k8)).row l x hx
          have hl := (List.getElem?_eq_some_iff.mp hb).1
          have mz : (z, f) ∈ tb := List.mem_of_getElem? hb
          obtain ⟨fok, fgd, fsz⟩ := W.ok z f mz
          refine ⟨p, _, rfl, SqT.of ep, rfl, _, _, rfl, _, _, rfl, rfl, ?_⟩
          refine ⟨_, rfl, _, rfl, u, f, d, nsOf tb, KK tb j, L, rfl, fsz, ru, fok, fgd, kn8, hL, fun o H9 k9 eo => ?_⟩
          have kn9 : KnI H9 d (nsOf tb) L := k9 _ _ (fun z => z) kn8
          have em9 := k9 _ _ (fun z => z) em8
          have k89 := k8.trans k9
          have room : (dn tb L2 l).length < sizeLine := by
            unfold dn
            rw [List.length_map, List.length_take]
            omega
          -- the new value: None, or one more
          obtain ⟨o2, eo2, h2⟩ : ∃ o2 : Option Int, oI o2 = (match o with | none => V.non | some i => .int (i + 1)) ∧ o2.isSome = o.isSome := by
            cases o with
            | none => exact ⟨none, rfl, rfl⟩
            | some i => exact ⟨some (i + 1), rfl, rfl⟩
          have fin : ∀ (L3 : Str → Option Int), dn tb L3 (l + 1) = putK (dn tb L2 l) (.inr z) (oI o2) → L3 = (fun y => if y = z then o2 else L2 y) → ∃ (L2 : Str → Option Int) (a1 a2 a6 : Option V), [some (V.ref ba), some (.str z), some u, some (.ref d), some (.int ((0 : Int) + (j : Nat))), some (.ref m), some (oI o)] = [some (.ref ba), a1, a2, some (.ref d), some (.int ((0 : Int) + (j : Nat))), some (.ref m), a6] ∧ Kp M0 H (upd H9 m (.dK (putK (dn tb L2 l) (.inr z) (oI o2)))) ∧ True := fun _ _ _ => ⟨L2, _, _, _, rfl, k89.own nm0, trivial⟩
          have h9 : ∀ p ∈ tb.take (l + 1), ((fun y => if y = z then o2 else L2 y) p.1).isSome = (KK tb (j + 1) p.1).isSome := fun p hp => by
            rw [List.take_add_one, hb] at hp
            show (if p.1 = z then o2 else L2 p.1).isSome = _
            rcases List.mem_append.mp hp with hp | hp
            · rw [if_neg (nm_apart W.nd hb p hp)]
              exact h8 p hp
            · have : p = (z, f) := by simpa using hp
              rw [this, if_pos rfl, h2, eo, ← KK_at W.nd mz]
          cases o with
          | none =>
            refine ⟨_, rfl, rfl, _, rfl, iteT' (by rfl) ?_⟩
            refine ⟨_, rfl, _, rfl, m, _, rfl, DPut.k (k := .inr z) em9 room, ?_⟩
            rw [show V.non = oI o2 from eo2.symm, dn_snoc W.nd hb o2]
            exact ⟨_, _, _, _, rfl, k89.own nm0, by unfold KnI; rw [upd_ne ndm]; exact kn9, upd_same, h9⟩
          | some i =>
            refine ⟨_, rfl, rfl, _, rfl, iteF' (by rfl) ?_⟩
            refine ⟨_, rfl, _, _, rfl, rfl, _, rfl, _, rfl, m, _, rfl, DPut.k (k := .inr z) em9 room, ?_⟩
            have e3 : (fun (i j : Int) => V.int (i + j)) i 1 = oI o2 := eo2.symm
            rw [e3, dn_snoc W.nd hb o2]
            exact ⟨_, _, _, _, rfl, k89.own nm0, by unfold KnI; rw [upd_ne ndm]; exact kn9, upd_same, h9⟩
        · rintro σ H8 ⟨L2, y1, y2, y6, rfl, k8, kn8, em8, h8⟩
          rw [bk.len] at em8 h8
          refine ⟨_, rfl, m, L2, _, _, _, _, _, rfl, k8, em8, fun x hx => ?_, nm0⟩
          obtain ⟨p, hp, rfl⟩ := List.mem_map.mp hx
          exact h8 p (by rw [List.take_length]; exact hp)
      · rintro σ H6 ⟨d, L, y1, y2, y4, y5, y6, rfl, k6, ed, hL, nd0⟩
        have e : (((dn tb (fun _ => none) tb.length).length : Nat) : Int).toNat = tb.length := by rw [lnd]; omega
        rw [e] at hL
        exact ⟨_, rfl, q d L H6 (dn_all tb L ed) hL k6⟩
end
end RT

set_option maxHeartbeats 1000000
/-! the law's names in a form -/
namespace RT
open PySem PySem.Spec PyProof.Rows L2 LK
abbrev sLin : Stmt := topS 35
abbrev sLni : Stmt := topS 36
theorem scLin : FnScope ["_law_form", "_law_word", "_law_name", "_law_part"] ["_law_form"] (defScope sLin) := ⟨rfl, rfl, rfl, by decide +kernel, rfl, by decide +kernel, by decide +kernel⟩
theorem scLni : FnScope ["_law_form", "_law_found", "_law_part"] ["_law_form"] (defScope sLni) := ⟨rfl, rfl, rfl, by decide +kernel, rfl, by decide +kernel, by decide +kernel⟩
theorem slA {K : PySem.W.Frag} {H : Hp} {a : Addr} {xs : List V} {lo hi : Option Int} {Q : VK} (e : H a = some (.tup xs)) (h : ∀ b H', H' b = some (.tup (cutV xs lo hi)) → Kp M0 H H' → Q (.ref b) H') : rSlA K (.ref a) lo hi H Q := by
  refine ⟨a, xs, rfl, SqT.of e, fun z => h a H ?_ Kp.refl, fun _ p np => h p _ upd_same (Kp.new np)⟩
  unfold cutV
  rw [z.1, z.2, Nat.sub_zero, List.drop_zero, List.take_length]
  exact e
section
variable {P : Program} {w : World} {K : PySem.W.Frag} {mg : Str → Option Value} {base : Heap}
theorem ok_lin {N : List Str} {f : Addr} {fd : FuncData} {k : Nat} (F : Fun K "_law_inner" "_law_inner" sLin f fd) (mli : mg "list" = none) : FnOk P w K mg base CX0 (k + 1) f fd ["_law_form"] (spInner N) := by
  refine F.ok scLin (fun vs H Q E h => ?_) (fun cdv A outer s H vs Q E hr h => ?_)
  · obtain ⟨v, f, rfl, _⟩ := h
    rfl
  · obtain ⟨v, fo, rfl, hR, hok, hsz, q⟩ := h
    refine ⟨_, (pss_cons (ps_set (i := 1) scLin.nd rfl (.inl rfl) (pe_ix ix_tup (pv 0) pe_int (fun _ _ => rfl)))
      (pss_cons (ps_if (pt_cmpR op_in_seq (pv 1) (pe_tup (pa_cons pe_str (pa_cons pe_str (pa_cons pe_str pa_nil)))) (by rfl)) (pss_one (ps_ret (pe_lst (pa_cons (pe_ix ix_tup (pv 0) pe_int (fun _ _ => rfl)) pa_nil)))) pss_nil)
      (pss_cons (ps_if (pt_cmpR op_eq (pv 1) pe_str (nomark _)) (pss_one (ps_ret (pe_callTy call_list_of (by rfl) mli (by decide +kernel) (pa_cons (pe_ix ix_tup (pv 0) pe_int (fun _ _ => rfl)) pa_nil)))) pss_nil)
      (pss_cons (ps_if (pt_cmpR op_eq (pv 1) pe_str (nomark _)) (pss_one (ps_ret (pe_lc (own := [("_law_name", 2), ("_law_part", 3)]) (g := gTup K 2 (gCons (gName 2) (gCons (gName 3) gNil))) (tt := tYes) rfl scLin.nd (pi_tup (pe_ix ix_tup (pv 0) pe_int (fun _ _ => rfl))) (blkOk_by (N := ["_law_form", "_law_word", "_law_name", "_law_part"]) (sc := defScope sLin) (by decide +kernel)) (fun _ _ _ _ _ => (pg_tup rfl (pgs_cons (pg_name (i := 2) scLin.nd rfl (.inl rfl)) (pgs_cons (pg_name (i := 3) scLin.nd rfl (.inl rfl)) pgs_nil)))) (fun _ _ _ _ _ => pts_nil) (fun _ _ _ _ _ => (pv 3))))) pss_nil)
      (pss_cons (ps_if (pt_cmpR op_eq (pv 1) pe_str (nomark _)) (pss_one (ps_ret (pe_lc (own := [("_law_part", 3)]) (g := gName 3) rfl scLin.nd (pi_tup (pe_slice sl_tupA (pv 0) (po_some pe_int) po_none)) (blkOk_by (N := ["_law_form", "_law_word", "_law_name", "_law_part"]) (sc := defScope sLin) (by decide +kernel)) (fun _ _ _ _ _ => (pg_name (i := 3) scLin.nd rfl (.inl rfl))) (fun _ _ _ _ _ => (pts_one (pt_cmpR op_notN (pv 3) pe_non (nomark _)))) (fun _ _ _ _ _ => (pv 3))))) pss_nil)
      (pss_one (ps_ret (pe_ifExp (pt_cmpR op_eq (pv 1) pe_str (nomark _)) (pe_lst (pa_cons (pe_ix ix_tup (pv 0) pe_int (fun _ _ => rfl)) pa_nil)) (pe_lst pa_nil))))))))), ?_⟩
    have noT : ∀ (H : Hp) (a : Addr) xs, M0 a → H a ≠ some (.tup xs) := fun _ _ _ z => z.elim
    have new : ∀ {H : Hp} {p : Addr} {o : HO} {v : V} {d : D}, H p = none → Rp H v d → Rp (upd H p o) v d := fun n r => r.keep (Kp.new (M := M0) n) (noT _)
    -- the word and the first test
    have go : ∀ (w : Str) (ds : List D), fo.enc = .tup (.str w :: ds) → ∃ (a : Addr) (us : List V), v = .ref a ∧ H a = some (.tup (.str w :: us)) ∧ Rps H us ds := fun w ds e => by
      rw [e] at hR
      cases hR with
      | tup e1 r =>
        cases r with
        | cons r1 r2 =>
          cases r1
          exact ⟨_, _, rfl, e1, r2⟩
    have nT : ∀ {p a : Addr} {o : HO} {us : List V}, H p = none → H a = some (.tup us) → upd H p o a = some (.tup us) := fun n e => by rw [upd_ne (ne_of_none e n)]; exact e
    have fin : ∀ {p l : Addr} {o : HO} (us : List V), H p = none → upd H p o l = none → Rps H us (Fo.encs fo.inner) → Q (.ref l) (upd (upd H p o) l (.lst us)) := fun us n1 n2 r =>
      q us _ _ (none_upd n2) upd_same ((r.keep (Kp.new (M := M0) n1) (noT _)).keep (Kp.new (M := M0) n2) (noT _)) ((Kp.new n1).trans (Kp.new n2))
    cases fo with
    | leaf w r =>
      obtain ⟨a, us, rfl, ea, ru⟩ := go w r rfl
      have five : w ∈ ([("text" : Str), "sign", "word", "number", "pick"] : List Str) := hok
      simp only [List.mem_cons, List.not_mem_nil, or_false] at five
      rcases five with rfl | rfl | rfl | rfl | rfl <;>
      · refine ⟨_, rfl, a, _, 0, .str _, rfl, rfl, SqT.of ea, atI_nat (j := 0) rfl, ?_⟩
        refine ⟨_, rfl, by show 3 ≤ sizeLine; decide, fun p np => ⟨p, _, rfl, .inr (SqT.of upd_same), rfl, rfl, _, rfl, iteF' (by decide) ?_⟩⟩
        refine ⟨_, rfl, rfl, _, rfl, iteF' (by decide) ?_⟩
        refine ⟨_, rfl, rfl, _, rfl, iteF' (by decide) ?_⟩
        refine ⟨_, rfl, rfl, _, rfl, iteF' (by decide) ?_⟩
        refine ⟨_, rfl, rfl, _, rfl, iteF' (by decide) ?_⟩
        exact ⟨Nat.zero_le _, fun l nl => fin [] np nl .nil⟩
    | named x =>
      obtain ⟨a, us, rfl, ea, ru⟩ := go "named" _ rfl
      refine ⟨_, rfl, a, _, 0, .str _, rfl, rfl, SqT.of ea, atI_nat (j := 0) rfl, ?_⟩
      refine ⟨_, rfl, by show 3 ≤ sizeLine; decide, fun p np => ⟨p, _, rfl, .inr (SqT.of upd_same), rfl, rfl, _, rfl, iteF' (by decide) ?_⟩⟩
      refine ⟨_, rfl, rfl, _, rfl, iteF' (by decide) ?_⟩
      refine ⟨_, rfl, rfl, _, rfl, iteF' (by decide) ?_⟩
      refine ⟨_, rfl, rfl, _, rfl, iteF' (by decide) ?_⟩
      refine ⟨_, rfl, rfl, _, rfl, iteF' (by decide) ?_⟩
      exact ⟨Nat.zero_le _, fun l nl => fin [] np nl .nil⟩
    | one w f r =>
      obtain ⟨a, us, rfl, ea, ru⟩ := go w _ rfl
      cases ru with
      | cons r1 r2 =>
        have three : w ∈ ([("skip" : Str), "spelt", "turned"] : List Str) := hok.1
        simp only [List.mem_cons, List.not_mem_nil, or_false] at three
        rcases three with rfl | rfl | rfl <;>
        · refine ⟨_, rfl, a, _, 0, .str _, rfl, rfl, SqT.of ea, atI_nat (j := 0) rfl, ?_⟩
          refine ⟨_, rfl, by show 3 ≤ sizeLine; decide, fun p np => ⟨p, _, rfl, .inr (SqT.of upd_same), rfl, rfl, _, rfl, iteT' (by decide) ?_⟩⟩
          exact ⟨_, rfl, a, _, 1, _, rfl, rfl, SqT.of (nT np ea), atI_nat (j := 1) rfl, by show 1 ≤ sizeLine; decide, fun l nl => fin [_] np nl (.cons r1 .nil)⟩
    | row fs =>
      obtain ⟨a, us, rfl, ea, ru⟩ := go "row" _ rfl
      cases ru with
      | cons r1 r2 =>
        cases r1 with
        | tup eb rs =>
          refine ⟨_, rfl, a, _, 0, .str _, rfl, rfl, SqT.of ea, atI_nat (j := 0) rfl, ?_⟩
          refine ⟨_, rfl, by show 3 ≤ sizeLine; decide, fun p np => ⟨p, _, rfl, .inr (SqT.of upd_same), rfl, rfl, _, rfl, iteF' (by decide) ?_⟩⟩
          refine ⟨_, rfl, rfl, _, rfl, iteT' (by decide) ?_⟩
          exact ⟨_, rfl, a, _, 1, _, rfl, rfl, SqT.of (nT np ea), atI_nat (j := 1) rfl, _, _, rfl, .inr (SqT.of (nT np eb)), fun l nl => fin _ np nl rs⟩
    | again f =>
      obtain ⟨a, us, rfl, ea, ru⟩ := go "again" _ rfl
      cases ru with
      | cons r1 r2 =>
        cases r2 with
        | cons r3 r4 =>
          cases r3
          cases r4
          obtain ⟨c, rfl⟩ := enc_ref r1
          refine ⟨_, rfl, a, _, 0, .str _, rfl, rfl, SqT.of ea, atI_nat (j := 0) rfl, ?_⟩
          refine ⟨_, rfl, by show 3 ≤ sizeLine; decide, fun p np => ⟨p, _, rfl, .inr (SqT.of upd_same), rfl, rfl, _, rfl, iteF' (by decide) ?_⟩⟩
          refine ⟨_, rfl, rfl, _, rfl, iteF' (by decide) ?_⟩
          refine ⟨_, rfl, rfl, _, rfl, iteF' (by decide) ?_⟩
          refine ⟨_, rfl, rfl, _, rfl, iteT' (by decide) ?_⟩
          have ea1 := nT (o := .tup [.str "skip", .str "spelt", .str "turned"]) np ea
          have k1 : Kp M0 H (upd H p (.tup [.str "skip", .str "spelt", .str "turned"])) := Kp.new np
          have rc := new (o := .tup [.str "skip", .str "spelt", .str "turned"]) np r1
          generalize upd H p (.tup [.str "skip", .str "spelt", .str "turned"]) = H1 at ea1 k1 rc ⊢
          refine ⟨_, rfl, 1, rfl, ?_⟩
          unfold tNoPart
          dsimp only
          refine slA ea1 fun t H2 et k2 => ?_
          have et : H2 t = some (.tup [.ref c, .non]) := et
          have rc2 := rc.keep k2 (noT _)
          refine ⟨t, rfl, ⟨_, SqT.of et⟩, fun D nD => ?_⟩
          refine lc_tup (xs := [.ref c, .non]) (fun i H4 => Kp M0 H2 H4 ∧ ∃ acc, H4 D = some (.lst acc) ∧ acc.length ≤ i ∧ Rps H4 acc (Fo.encs ([f].take i))) ?_ ?_ ?_ ?_
          · exact ⟨Kp.new nD, [], upd_same, Nat.le_refl _, .nil⟩
          · exact fun i H4 _ h => SqT.of (h.1 _ _ (fun z => z) et)
          · rintro i x H4 hx ⟨k4, acc, e4, la, ra⟩
            have kD : Kp (fun b => b = D) H4 (upd H4 D (.lst (acc ++ [.ref c]))) := Kp.put rfl
            have dT : ∀ a xs, a = D → H4 a ≠ some (.tup xs) := fun a xs m e => by rw [m, e4] at e; cases e
            match i, hx with
            | 0, hx =>
              cases hx
              refine ⟨rfl, _, rfl, rfl, _, rfl, iteT' (by rfl) ⟨_, rfl, acc, e4, by rw [sizeLine_eq]; omega, k4.own nD, _, upd_same, by rw [List.length_append]; show _ + 1 ≤ _; omega, ?_⟩⟩
              exact (ra.keep kD dT).app (.cons ((rc2.keep k4 (noT _)).keep kD dT) .nil)
            | 1, hx =>
              cases hx
              exact ⟨rfl, _, rfl, rfl, _, rfl, iteF' (by rfl) ⟨k4, acc, e4, by omega, ra⟩⟩
          · rintro H4 ⟨k4, acc, e4, la, ra⟩
            exact q acc D H4 (none_back (k1.trans k2) (fun z => z) nD) e4 ra ((k1.trans k2).trans k4)
    | between f g =>
      obtain ⟨a, us, rfl, ea, ru⟩ := go "again" _ rfl
      cases ru with
      | cons r1 r2 =>
        cases r2 with
        | cons r3 r4 =>
          cases r4
          obtain ⟨c, rfl⟩ := enc_ref r1
          obtain ⟨c2, rfl⟩ := enc_ref r3
          refine ⟨_, rfl, a, _, 0, .str _, rfl, rfl, SqT.of ea, atI_nat (j := 0) rfl, ?_⟩
          refine ⟨_, rfl, by show 3 ≤ sizeLine; decide, fun p np => ⟨p, _, rfl, .inr (SqT.of upd_same), rfl, rfl, _, rfl, iteF' (by decide) ?_⟩⟩
          refine ⟨_, rfl, rfl, _, rfl, iteF' (by decide) ?_⟩
          refine ⟨_, rfl, rfl, _, rfl, iteF' (by decide) ?_⟩
          refine ⟨_, rfl, rfl, _, rfl, iteT' (by decide) ?_⟩
          have ea1 := nT (o := .tup [.str "skip", .str "spelt", .str "turned"]) np ea
          have k1 : Kp M0 H (upd H p (.tup [.str "skip", .str "spelt", .str "turned"])) := Kp.new np
          have rc := new (o := .tup [.str "skip", .str "spelt", .str "turned"]) np r1
          have rd := new (o := .tup [.str "skip", .str "spelt", .str "turned"]) np r3
          generalize upd H p (.tup [.str "skip", .str "spelt", .str "turned"]) = H1 at ea1 k1 rc rd ⊢
          refine ⟨_, rfl, 1, rfl, ?_⟩
          unfold tNoPart
          dsimp only
          refine slA ea1 fun t H2 et k2 => ?_
          have et : H2 t = some (.tup [.ref c, .ref c2]) := et
          have rc2 := rc.keep k2 (noT _)
          have rd2 := rd.keep k2 (noT _)
          refine ⟨t, rfl, ⟨_, SqT.of et⟩, fun D nD => ?_⟩
          refine lc_tup (xs := [.ref c, .ref c2]) (fun i H4 => Kp M0 H2 H4 ∧ ∃ acc, H4 D = some (.lst acc) ∧ acc.length ≤ i ∧ Rps H4 acc (Fo.encs ([f, g].take i))) ?_ ?_ ?_ ?_
          · exact ⟨Kp.new nD, [], upd_same, Nat.le_refl _, .nil⟩
          · exact fun i H4 _ h => SqT.of (h.1 _ _ (fun z => z) et)
          · rintro i x H4 hx ⟨k4, acc, e4, la, ra⟩
            have kD : ∀ x, Kp (fun b => b = D) H4 (upd H4 D (.lst (acc ++ [x]))) := fun _ => Kp.put rfl
            have dT : ∀ a xs, a = D → H4 a ≠ some (.tup xs) := fun a xs m e => by rw [m, e4] at e; cases e
            match i, hx with
            | 0, hx =>
              cases hx
              refine ⟨rfl, _, rfl, rfl, _, rfl, iteT' (by rfl) ⟨_, rfl, acc, e4, by rw [sizeLine_eq]; omega, k4.own nD, _, upd_same, by rw [List.length_append]; show _ + 1 ≤ _; omega, ?_⟩⟩
              exact (ra.keep (kD _) dT).app (.cons ((rc2.keep k4 (noT _)).keep (kD _) dT) .nil)
            | 1, hx =>
              cases hx
              refine ⟨rfl, _, rfl, rfl, _, rfl, iteT' (by rfl) ⟨_, rfl, acc, e4, by rw [sizeLine_eq]; omega, k4.own nD, _, upd_same, by rw [List.length_append]; show _ + 1 ≤ _; omega, ?_⟩⟩
              exact (ra.keep (kD _) dT).app (.cons ((rd2.keep k4 (noT _)).keep (kD _) dT) .nil)
          · rintro H4 ⟨k4, acc, e4, la, ra⟩
            exact q acc D H4 (none_back (k1.trans k2) (fun z => z) nD) e4 ra ((k1.trans k2).trans k4)
    | counted z f =>
      obtain ⟨a, us, rfl, ea, ru⟩ := go "counted" _ rfl
      cases ru with
      | cons r1 r2 =>
        cases r2 with
        | cons r3 r4 =>
          refine ⟨_, rfl, a, _, 0, .str _, rfl, rfl, SqT.of ea, atI_nat (j := 0) rfl, ?_⟩
          refine ⟨_, rfl, by show 3 ≤ sizeLine; decide, fun p np => ⟨p, _, rfl, .inr (SqT.of upd_same), rfl, rfl, _, rfl, iteF' (by decide) ?_⟩⟩
          refine ⟨_, rfl, rfl, _, rfl, iteF' (by decide) ?_⟩
          refine ⟨_, rfl, rfl, _, rfl, iteF' (by decide) ?_⟩
          refine ⟨_, rfl, rfl, _, rfl, iteF' (by decide) ?_⟩
          refine ⟨_, rfl, rfl, _, rfl, iteT' (by decide) ?_⟩
          exact ⟨_, rfl, a, _, 2, _, rfl, rfl, SqT.of (nT np ea), atI_nat (j := 2) rfl, by show 1 ≤ sizeLine; decide, fun l nl => fin [_] np nl (.cons r3 .nil)⟩
    | either ns fs =>
      obtain ⟨a, us, rfl, ea, ru⟩ := go "either" _ rfl
      cases ru with
      | cons r1 r2 =>
        cases r1 with
        | @tup b ws _ eb rs =>
          refine ⟨_, rfl, a, _, 0, .str _, rfl, rfl, SqT.of ea, atI_nat (j := 0) rfl, ?_⟩
          refine ⟨_, rfl, by show 3 ≤ sizeLine; decide, fun p np => ⟨p, _, rfl, .inr (SqT.of upd_same), rfl, rfl, _, rfl, iteF' (by decide) ?_⟩⟩
          refine ⟨_, rfl, rfl, _, rfl, iteF' (by decide) ?_⟩
          refine ⟨_, rfl, rfl, _, rfl, iteT' (by decide) ?_⟩
          refine ⟨_, rfl, a, _, 1, .ref b, rfl, rfl, SqT.of (nT np ea), atI_nat (j := 1) rfl, b, rfl, ⟨_, SqT.of (nT np eb)⟩, fun D nD => ?_⟩
          have hl : ns.length = fs.length := hok.1
          have lw : ws.length = fs.length := by
            rw [rs.len, List.length_zipWith, encs_map, List.length_map]
            omega
          refine lc_tup (xs := ws) (fun i H4 => Kp M0 (upd H p (.tup [.str "skip", .str "spelt", .str "turned"])) H4 ∧ ∃ acc, H4 D = some (.lst acc) ∧ acc.length = i ∧ Rps H4 acc (Fo.encs (fs.take i))) ?_ ?_ ?_ ?_
          · exact ⟨Kp.new nD, [], upd_same, rfl, by rw [List.take_zero]; exact .nil⟩
          · exact fun i H4 _ h => SqT.of (h.1 _ _ (fun z => z) (nT np eb))
          · rintro i x H4 hx ⟨k4, acc, e4, la, ra⟩
            obtain ⟨d, hd, rd⟩ := rs.get i x hx
            have hi : i < fs.length := by
              rw [← lw]
              exact (List.getElem?_eq_some_iff.mp hx).1
            have hn : ns[i]? = some ns[i] := List.getElem?_eq_getElem (by omega)
            have hf : fs[i]? = some fs[i] := List.getElem?_eq_getElem hi
            rw [List.getElem?_zipWith, hn, encs_map, List.getElem?_map, hf] at hd
            cases hd
            cases rd with
            | @tup c vs2 _ ec rc =>
              cases rc with
              | cons c1 c2 =>
                cases c2 with
                | cons c3 c4 =>
                  cases c4
                  refine ⟨c, _, rfl, SqT.of (k4 _ _ (fun z => z) (nT np ec)), rfl, _, _, rfl, _, _, rfl, rfl, rfl, tYes_ok (iteT ⟨_, rfl, acc, e4, ?_, ?_⟩)⟩
                  · have := Fo.inner_size (.either ns fs)
                    have hsz2 : (Fo.either ns fs).size ≤ 100000 := hsz
                    have lf := sizes_len fs
                    simp only [Fo.inner] at this
                    rw [la, sizeLine_eq]
                    omega
                  · refine ⟨fun b u n e => ?_, _, upd_same, by rw [List.length_append, la]; rfl, ?_⟩
                    · rw [upd_ne (ne_of_none e nD)]
                      exact k4 b u n e
                    · rw [List.take_add_one, hf, encs_app]
                      refine Rps.app (ra.keep (M := fun b => b = D) (Kp.put rfl) (fun a xs m e => ?_)) (.cons ?_ .nil)
                      · rw [m, e4] at e
                        cases e
                      · refine ((new np c3).keep k4 (noT _)).keep (M := fun b => b = D) (Kp.put rfl) (fun a xs m e => ?_)
                        rw [m, e4] at e
                        cases e
          · rintro H4 ⟨k4, acc, e4, la, ra⟩
            rw [lw, List.take_length] at ra
            exact q acc D H4 (none_upd nD) e4 ra ((Kp.new np).trans k4)
def spLni (n : Nat) : Sp := fun vs H Q _ => ∃ (v : V) (f : Fo) (N : List Str), vs = [v] ∧ f.size ≤ n ∧ f.size ≤ 1000 ∧ Rp H v f.enc ∧ f.ok N ∧
  ∀ (xs : List Str) (l : Addr) (H' : Hp), H' l = some (.lst (xs.map V.str)) → xs.length ≤ f.size → (∀ x, x ∈ xs ↔ f.has x) → Kp M0 H H' → Q (.ref l) H'
theorem none_lni {f : Addr} {fd : FuncData} {k : Nat} : FnOk P w K mg base CX0 k f fd ["_law_form"] (spLni 0) :=
  ⟨fun vs H Q E h => by obtain ⟨_, f, _, _, h, _⟩ := h; have := f.size_pos; omega, fun A outer s H args us vs Q E _ _ _ _ h => by obtain ⟨_, f, _, _, h, _⟩ := h; have := f.size_pos; omega⟩
theorem ok_lni {n : Nat} {f fr fi : Addr} {fd fdr fdi : FuncData} {k ki0 : Nat} (F : Fun K "_law_names_in" "_law_names_in" sLni f fd) (hIn : ki0 ≤ k) (GI : FnOk P w K mg base CX0 ki0 fi fdi ["_law_form"] (fun vs H Q E => ∃ N, spInner N vs H Q E)) (ki : PySem.W.keepIn K (.ref fi) = true) (bi : Binds K fdi ["_law_form"] []) (gi : mg "_law_inner" = some (.ref fi))
    (GR : FnOk P w K mg base CX0 k fr fdr ["_law_form"] (spLni n)) (kr : PySem.W.keepIn K (.ref fr) = true) (br : Binds K fdr ["_law_form"] []) (gr : mg "_law_names_in" = some (.ref fr)) :
    FnOk P w K mg base CX0 (k + 1) f fd ["_law_form"] (spLni (n + 1)) := by
  refine F.ok scLni (fun vs H Q E h => ?_) (fun cdv A outer sh H vs Q E hr h => ?_)
  · obtain ⟨v, f, N, rfl, _⟩ := h
    rfl
  · obtain ⟨v, f, N, rfl, hn, h1000, rv, ok, q⟩ := h
    refine ⟨_, (pss_cons (ps_if (pt_cmpR op_eq (pe_ix ix_tup (pv 0) pe_int (fun _ _ => rfl)) pe_str (nomark _)) (pss_one (ps_ret (pe_lst (pa_cons (pe_ix ix_tup (pv 0) pe_int (fun _ _ => rfl)) pa_nil)))) pss_nil)
      (pss_cons (ps_set (i := 1) scLni.nd rfl (.inl rfl) (pe_lst pa_nil))
      (pss_cons (ps_for PassesOwn.never rfl (pi_list (pe_call GI (hr.mono hIn) (by rfl) gi ki bi .nil pass0 (pa_cons (pv 0) pa_nil))) (pg_name (i := 2) scLni.nd rfl (.inl rfl)) (pss_one (ps_expr (pe_bm PySem.F.plainAttrs_list PySem.F.slot_list_extend PySem.F.type_list_extend mt_extend (pv 1) (pa_cons (pe_call GR hr (by rfl) gr kr br .nil pass0 (pa_cons (pv 2) pa_nil)) pa_nil)))))
      (pss_one (ps_ret (pv 1)))))), ?_⟩
    have line : (3000 : Nat) < sizeLine := by rw [sizeLine_eq]; decide
    obtain ⟨ds, ew⟩ := enc_word f
    have rv0 := rv
    rw [ew] at rv
    obtain ⟨a, us, rfl, ea, ru⟩ := Rp.tupE rv
    cases ru with
    | cons r1 r2 =>
    obtain ⟨rfl, _⟩ := r1.strE
    refine ⟨_, rfl, a, _, 0, .str _, rfl, rfl, SqT.of ea, atI_nat (j := 0) rfl, rfl, _, rfl, ?_⟩
    by_cases hw : f.word = "named"
    · obtain ⟨x, rfl⟩ := word_named ok hw
      have e : ds = [.str x] := by
        have : D.tup [.str "named", .str x] = .tup (.str (Fo.named x).word :: ds) := ew
        cases this
        rfl
      subst e
      obtain ⟨v1, rfl, c1⟩ := r2.one
      obtain ⟨rfl, _⟩ := c1.strE
      refine iteT' (decide_eq_true (congrArg V.str hw)) ?_
      exact ⟨_, rfl, a, _, 1, .str x, rfl, rfl, SqT.of ea, atI_nat (j := 1) rfl, by show 1 ≤ sizeLine; omega, fun l nl => q [x] l _ upd_same (Nat.le_refl _) (fun y => ⟨fun h => (List.mem_singleton.mp h).symm, fun h => List.mem_singleton.mpr (show x = y from h).symm⟩) (Kp.new nl)⟩
    · refine iteF' (decide_eq_false fun z => hw (V.str.inj z)) ?_
      refine ⟨Nat.zero_le _, fun D nD => ?_⟩
      have rv1 := rv0.ts (TS.new (o := .lst []) nD)
      have k1 : Kp M0 H (upd H D (.lst [])) := Kp.new nD
      have eD : upd H D (.lst []) D = some (.lst []) := upd_same
      generalize upd H D (.lst []) = H1 at rv1 k1 eD ⊢
      refine ⟨_, rfl, N, .ref a, f, rfl, rv1, ok, by omega, fun us l H5 nl el rl k5 => ?_⟩
      have isz := Fo.inner_size f
      have szin : ∀ g ∈ f.inner, g.size ≤ n := fun g m => by have := inner_le m; omega
      have okin := oks_mem (Fo.inner_ok f ok)
      have lu : us.length = f.inner.length := by rw [rl.len, encs_map, List.length_map]
      refine ⟨l, rfl, ⟨_, SqL.of el⟩, for_list (xs := us) (fun i σ H6 => ∃ (xs : List Str) (y2 : Option V), σ = [some (.ref a), some (.ref D), y2] ∧ Kp M0 H H6 ∧ H6 l = some (.lst us) ∧ Rps H6 us (Fo.encs f.inner) ∧ H6 D = some (.lst (xs.map V.str)) ∧ xs.length ≤ Fo.sizes (f.inner.take i) ∧ ∀ x, x ∈ xs ↔ Fo.hass x (f.inner.take i)) ?_ ?_ ?_ ?_⟩
      · exact ⟨[], none, rfl, k1.trans k5, el, rl, k5 _ _ (fun z => z) eD, Nat.le_refl _, fun x => ⟨fun h => (nomatch h), fun h => h.elim⟩⟩
      · rintro i σ H6 _ ⟨_, _, _, _, e, _⟩
        exact SqL.of e
      · rintro i x σ H6 hx ⟨xs, y2, rfl, k6, el6, rl6, eD6, lx, hh⟩
        obtain ⟨dd, hd, rd⟩ := rl6.get i x hx
        rw [encs_map, List.getElem?_map] at hd
        obtain ⟨g, eg, rfl⟩ := Option.map_eq_some_iff.mp hd
        have mg' := List.mem_of_getElem? eg
        have gi := inner_le mg'
        have tk : f.inner.take (i + 1) = f.inner.take i ++ [g] := by rw [List.take_add_one, eg]; rfl
        have hs : Fo.sizes (f.inner.take i ++ [g]) = Fo.sizes (f.inner.take i) + g.size := by rw [Fo.sizes_app]; simp only [Fo.sizes, Nat.add_zero]
        have le : Fo.sizes (f.inner.take i ++ [g]) ≤ Fo.sizes f.inner := by
          have e := List.take_append_drop (i + 1) f.inner
          rw [tk] at e
          have e2 := congrArg Fo.sizes e
          rw [Fo.sizes_app] at e2
          omega
        refine ⟨_, rfl, .inl ⟨rfl, _, SqL.of eD6⟩, _, rfl, x, g, N, rfl, szin g mg', by omega, rd, okin g mg', fun xs2 l2 H7 el2 l2x h2 k7 => ?_⟩
        have eD7 := k7 _ _ (fun z => z) eD6
        have nDl : D ≠ l := ne_of_none (k5.trans (Kp.refl) |> fun k => eD) nl
        refine ⟨D, l2, _, _, rfl, rfl, eD7, el2, by rw [List.length_map, List.length_map]; omega, ?_⟩
        have T8 : TS H7 (upd H7 D (.lst (xs.map V.str ++ xs2.map V.str))) := TS.put eD7 fun _ z => by cases z
        refine ⟨xs ++ xs2, _, rfl, (k6.trans k7).own nD, ?_, (rl6.ts (ts0 k7)).ts T8, ?_, ?_, fun y => ?_⟩
        · rw [upd_ne nDl.symm]
          exact k7 _ _ (fun z => z) el6
        · rw [upd_same, List.map_append]
        · rw [List.length_append, tk, hs]
          omega
        · rw [List.mem_append, hh y, h2 y, tk, hass_app, hass_one]
      · rintro σ H6 ⟨xs, y2, rfl, k6, el6, rl6, eD6, lx, hh⟩
        rw [lu, List.take_length] at lx hh
        refine ⟨_, rfl, q xs D H6 eD6 (by omega) (fun x => (hh x).trans ?_) k6⟩
        rw [has_iff]
        exact ⟨.inr, fun h => h.elim (fun z => absurd (by rw [z]; rfl) hw) id⟩
end
end RT

set_option maxHeartbeats 1000000
/-! the law's names met -/
namespace RT
open PySem PySem.Spec PyProof.Rows L2 LK
abbrev sMt : Stmt := topS 37
theorem scMt : FnScope ["_law_book", "_law_forms", "_law_found", "_law_turn", "_law_name", "_law_other"] ["_law_book"] (defScope sMt) := ⟨rfl, rfl, rfl, by decide +kernel, rfl, by decide +kernel, by decide +kernel⟩
theorem zip_keys : ∀ {bs : List (Str × Fo)} {us : List V}, us.length = bs.length → (List.zipWith (fun (x : Str × Fo) u => ((.inr x.1 : Key), u)) bs us).map (·.1) = bs.map fun x => (.inr x.1 : Key)
  | [], [], _ => rfl
  | b :: bs, u :: us, h => by
    have z := zip_keys (bs := bs) (us := us) (by simpa using h)
    show (Sum.inr b.1 : Key) :: _ = _
    rw [z]
    rfl
  | [], _ :: _, h => by cases h
  | _ :: _, [], h => by cases h
theorem inV_strs (x : Str) : ∀ ks : List Str, inV (.str x) (ks.map V.str) = decide (x ∈ ks)
  | [] => by simp [inV]
  | k :: r => by
    have ih := inV_strs x r
    unfold inV at ih ⊢
    rw [List.map_cons, List.any_cons, ih]
    have e : eqV (.str k) (.str x) = decide (x = k) := by
      show (k == x) = _
      by_cases z : x = k
      · subst z
        simp
      · rw [decide_eq_false z]
        exact beq_eq_false_iff_ne.mpr fun y => z y.symm
    rw [e]
    simp
theorem flat_strs (ks : List Str) : (ks.map V.str).all flatV = true := by
  rw [List.all_eq_true]
  intro v hv
  obtain ⟨k, _, rfl⟩ := List.mem_map.mp hv
  rfl
theorem rows_pairs {K : PySem.W.Frag} {H : Hp} : ∀ {ps : List V} {tb : List (Str × Fo)}, ps.length = tb.length → (∀ (i : Nat) (x : V), ps[i]? = some x → ∃ (n : Str) (f : Fo) (p : Addr) (u : V), tb[i]? = some (n, f) ∧ x = .ref p ∧ H p = some (.tup [.str n, u]) ∧ Rp H u f.enc) →
    ∃ (qs : List Addr) (us : List V), ps = qs.map V.ref ∧ Paired (fun p kv => SqT K H p [kV kv.1, kv.2]) qs (List.zipWith (fun (x : Str × Fo) u => ((.inr x.1 : L2.Key), u)) tb us) ∧ us.length = tb.length ∧ ∀ (i : Nat) (u : V) (x : Str × Fo), us[i]? = some u → tb[i]? = some x → Rp H u x.2.enc
  | [], [], _, _ => ⟨[], [], rfl, .nil, rfl, fun i u x e => by simp at e⟩
  | v :: ps, x :: tb, hl, h => by
    obtain ⟨qs, us, e, a, b, c⟩ := rows_pairs (K := K) (ps := ps) (tb := tb) (by simpa using hl) fun i y hy => by
      obtain ⟨n, f, p, u, h1, h2, h3, h4⟩ := h (i + 1) y (by simpa using hy)
      exact ⟨n, f, p, u, by simpa using h1, h2, h3, h4⟩
    obtain ⟨n, f, p, u, h1, h2, h3, h4⟩ := h 0 v rfl
    have h1 : x = (n, f) := Option.some.inj h1
    subst h1
    subst h2
    refine ⟨p :: qs, u :: us, by rw [e]; rfl, .cons (SqT.of h3) a, by rw [List.length_cons, List.length_cons, b], fun i v y e1 e2 => ?_⟩
    cases i with
    | zero =>
      cases e1
      cases e2
      exact h4
    | succ i => exact c i v y (by simpa using e1) (by simpa using e2)
  | [], _ :: _, h, _ => by cases h
  | _ :: _, [], h, _ => by cases h
/-- what is asked of a book whose names are looked for -/
structure Bm (tb : List (Str × Fo)) (s0 : Str) : Prop where
  q : Bq tb
  st : s0 ∈ nsOf tb
/-- all that is named within is there -/
def Clo (tb : List (Str × Fo)) (ys : List Str) : Prop := ∀ m ∈ ys, ∀ f, (m, f) ∈ tb → ∀ x, f.has x → x ∈ ys
theorem sorted_one (x : Str) : sortedS [x] = true := rfl
theorem row_of {tb : List (Str × Fo)} {x : Str} (h : x ∈ nsOf tb) : ∃ f, (x, f) ∈ tb := by
  obtain ⟨⟨a, f⟩, m, rfl⟩ := List.mem_map.mp h
  exact ⟨f, m⟩
mutual
theorem has_ok {N : List Str} {x : Str} : ∀ f : Fo, f.ok N → f.has x → x ∈ N
  | .leaf _ _, _, h => h.elim
  | .one _ f _, o, h => has_ok f o.2 h
  | .row fs, o, h => hass_ok fs o h
  | .either _ fs, o, h => hass_ok fs o.2 h
  | .again f, o, h => has_ok f o h
  | .between f g, o, h => h.elim (has_ok f o.1) (has_ok g o.2)
  | .counted _ f, o, h => has_ok f o h
  | .named y, o, h => (show y = x from h) ▸ o
theorem hass_ok {N : List Str} {x : Str} : ∀ fs : List Fo, Fo.oks N fs → Fo.hass x fs → x ∈ N
  | [], _, h => h.elim
  | f :: r, o, h => h.elim (has_ok f o.1) (hass_ok r o.2)
end
section
variable {P : Program} {w : World} {K : PySem.W.Frag} {mg : Str → Option Value} {base : Heap}
def spLmet : Sp := fun vs H Q _ => ∃ (v : V) (s0 : Str) (tb : List (Str × Fo)), vs = [v] ∧ BkA H v s0 tb ∧ Bm tb s0 ∧
  ∀ (ys : List Str) (l : Addr) (H' : Hp), H' l = some (.lst (ys.map V.str)) → sortedS ys = true → ys.Nodup → (∀ x, x ∈ ys ↔ Reach tb s0 x) → Kp M0 H H' → Q (.ref l) H'
theorem ok_lmet {f fn : Addr} {fd fdn : FuncData} {k : Nat} (F : Fun K "_law_met" "_law_met" sMt f fd) (GNi : FnOk P w K mg base CX0 k fn fdn ["_law_form"] (spLni 200)) (kni : PySem.W.keepIn K (.ref fn) = true) (bni : Binds K fdn ["_law_form"] []) (gni : mg "_law_names_in" = some (.ref fn))
    (mr : mg "range" = none) (mdi : mg "dict" = none) (ml : mg "len" = none) (mli : mg "list" = none) (mso : mg "sorted" = none) (mse : mg "set" = none) :
    FnOk P w K mg base CX0 (k + 1) f fd ["_law_book"] spLmet := by
  refine F.ok scMt (fun vs H Q E h => ?_) (fun cdv A outer sh H vs Q E hr h => ?_)
  · obtain ⟨v, s0, tb, rfl, _⟩ := h
    rfl
  · obtain ⟨v, s0, tb, rfl, rv, B, q⟩ := h
    refine ⟨_, (pss_cons (ps_set (i := 1) scMt.nd rfl (.inl rfl) (pe_callTy (cr_dictT (by rfl)) (by rfl) mdi (by decide +kernel) (pa_cons (pe_ix ix_tup (pv 0) pe_int (fun _ _ => rfl)) pa_nil)))
      (pss_cons (ps_set (i := 2) scMt.nd rfl (.inr rfl) (pe_lst (pa_cons (pe_ix ix_tup (pv 0) pe_int (fun _ _ => rfl)) pa_nil)))
      (pss_cons (ps_for PassesOwn.never rfl (pi_range1 (by rfl) mr (pa_cons (pe_callB call_lenD (by rfl) ml PySem.boot_len (pa_cons (pv 1) pa_nil)) pa_nil)) (pg_name (i := 3) scMt.nd rfl (.inl rfl)) (pss_cons (ps_for PassesOwn.never rfl (pi_list (pe_callTy call_list_of (by rfl) mli (by decide +kernel) (pa_cons (pv 2) pa_nil))) (pg_name (i := 4) scMt.nd rfl (.inl rfl)) (pss_one (ps_expr (pe_bm PySem.F.plainAttrs_list PySem.F.slot_list_extend PySem.F.type_list_extend mt_extend (pv 2) (pa_cons (pe_lc (own := [("_law_other", 5)]) (g := gName 5) rfl scMt.nd (pi_list (pe_call GNi hr (by rfl) gni kni bni .nil pass0 (pa_cons (pe_dget (hu_of hr) (pv 1) (pv 4) (fun _ _ => rfl)) pa_nil))) (blkOk_by (N := ["_law_book", "_law_forms", "_law_found", "_law_turn", "_law_name", "_law_other"]) (sc := defScope sMt) (by decide +kernel)) (fun _ _ _ _ _ => (pg_name (i := 5) scMt.nd rfl (.inl rfl))) (fun _ _ _ _ _ => (pts_one (pt_cmpR (show OpR _ _ (rIn K true) from op_notIn_seq) (pv 5) (pv 2) (by rfl)))) (fun _ _ _ _ _ => (pv 5))) pa_nil)))))
      (pss_one (ps_set (i := 2) scMt.nd rfl (.inr rfl) (pe_callB (cr_sortTx (by rfl)) (by rfl) mso (by decide +kernel) (pa_cons (pe_callTy (cr_setLs (by rfl)) (by rfl) mse (by decide +kernel) (pa_cons (pv 2) pa_nil)) pa_nil))))))
      (pss_one (ps_ret (pv 2)))))), ?_⟩
    have line : (300000 : Nat) < sizeLine := by rw [sizeLine_eq]; decide
    obtain ⟨ba, rows, ps, rfl, bk⟩ := rv
    have few := B.q.few
    have nd := B.q.nd
    obtain ⟨o, er, hcl, hdn⟩ := bk.er
    obtain ⟨qs, us, eps, pr, lu, ru⟩ := rows_pairs (K := K) bk.len bk.row
    subst eps
    refine ⟨_, rfl, ba, _, 1, .ref rows, rfl, rfl, SqT.of bk.eb, atI_nat (j := 1) rfl, rows, o, qs, _, rfl, er, hcl, hdn, pr, fun d nd0 => ?_⟩
    have nk : ((List.zipWith (fun (x : Str × Fo) u => ((.inr x.1 : L2.Key), u)) tb us).map (·.1)).Nodup := by
      rw [zip_keys lu, List.nodup_iff_pairwise_ne, List.pairwise_map]
      have nd2 := List.nodup_iff_pairwise_ne.mp nd
      rw [List.pairwise_map] at nd2
      exact nd2.imp fun h z => h (Sum.inr.inj z)
    rw [mergeK_nd (acc := []) (by rw [List.nil_append]; exact nk), List.nil_append]
    have k1 : Kp M0 H (upd H d (.dK (List.zipWith (fun (x : Str × Fo) u => ((.inr x.1 : L2.Key), u)) tb us))) := Kp.new nd0
    have ed : upd H d (.dK (List.zipWith (fun (x : Str × Fo) u => ((.inr x.1 : L2.Key), u)) tb us)) d = some (.dK (List.zipWith (fun (x : Str × Fo) u => ((.inr x.1 : L2.Key), u)) tb us)) := upd_same
    have lk : (List.zipWith (fun (x : Str × Fo) u => ((.inr x.1 : L2.Key), u)) tb us).length = tb.length := by rw [List.length_zipWith, lu, Nat.min_self]
    have tab : TabAt (upd H d (.dK (List.zipWith (fun (x : Str × Fo) u => ((.inr x.1 : L2.Key), u)) tb us))) d tb := ⟨us, ed, lu, fun j u x e1 e2 => (ru j u x e1 e2).ts (ts0 k1)⟩
    generalize hz : List.zipWith (fun (x : Str × Fo) u => ((.inr x.1 : L2.Key), u)) tb us = kz at ed lk tab k1 ⊢
    generalize upd H d (.dK kz) = H1 at ed tab k1 ⊢
    have tabK : ∀ {H5 : Hp}, Kp M0 H1 H5 → TabAt H5 d tb := fun k => by
      obtain ⟨us, a1, a2, a3⟩ := tab
      exact ⟨us, k _ _ (fun z => z) a1, a2, fun i u x c1 c2 => (a3 i u x c1 c2).ts (ts0 k)⟩
    have eb1 := k1 _ _ (fun z => z) bk.eb
    refine ⟨_, rfl, ba, _, 0, .str s0, rfl, rfl, SqT.of eb1, atI_nat (j := 0) rfl, by show 1 ≤ sizeLine; omega, fun F0 nF0 => ?_⟩
    have k2 : Kp M0 H1 (upd H1 F0 (.lst [.str s0])) := Kp.new nF0
    have eF0 : upd H1 F0 (.lst [.str s0]) F0 = some (.lst [.str s0]) := upd_same
    generalize upd H1 F0 (.lst [.str s0]) = H2 at k2 eF0 ⊢
    refine ⟨_, rfl, d, _, rfl, k2 _ _ (fun z => z) ed, _, rfl, by omega, by omega, for_range (n := ((kz.length : Nat) : Int).toNat) (fun j σ H6 => ∃ (F1 : Addr) (ys : List Str) (y3 y4 : Option V), σ = [some (.ref ba), some (.ref d), some (.ref F1), y3, y4, none] ∧ Kp M0 H1 H6 ∧ H6 F1 = some (.lst (ys.map V.str)) ∧ H1 F1 = none ∧ sortedS ys = true ∧ ys.Nodup ∧ s0 ∈ ys ∧ (∀ x ∈ ys, Reach tb s0 x) ∧ (∀ x ∈ ys, x ∈ nsOf tb) ∧ (Clo tb ys ∨ j + 1 ≤ ys.length)) ?_ ?_ ?_⟩
    · exact ⟨F0, [s0], none, none, rfl, k2, eF0, nF0, rfl, by simp, List.mem_singleton.mpr rfl, fun x h => (List.mem_singleton.mp h) ▸ .start, fun x h => (List.mem_singleton.mp h) ▸ B.st, .inr (Nat.le_refl _)⟩
    · rintro j σ H6 hj ⟨F1, ys, y3, y4, rfl, k6, eF, nF1, st, yn, hs0, hre, hin, cl⟩
      have ly := nodup_len yn (m := nsOf tb) hin
      rw [List.length_map] at ly
      refine ⟨_, rfl, F1, _, rfl, .inl (SqL.of eF), fun L nL => ?_⟩
      have nFL : F1 ≠ L := ne_of_none eF nL
      have k7 : Kp M0 H1 (upd H6 L (.lst (ys.map V.str))) := k6.trans (Kp.new nL)
      have eL : upd H6 L (.lst (ys.map V.str)) L = some (.lst (ys.map V.str)) := upd_same
      have eF7 : upd H6 L (.lst (ys.map V.str)) F1 = some (.lst (ys.map V.str)) := by rw [upd_ne nFL]; exact eF
      generalize upd H6 L (.lst (ys.map V.str)) = H7 at k7 eL eF7 ⊢
      refine ⟨L, rfl, ⟨_, SqL.of eL⟩, for_list (xs := ys.map V.str) (fun i σ H8 => ∃ (zs : List Str) (y4 : Option V), σ = [some (.ref ba), some (.ref d), some (.ref F1), some (.int ((0 : Int) + (j : Nat))), y4, none] ∧ Kp M0 H1 H8 ∧ H8 F1 = some (.lst (zs.map V.str)) ∧ H8 L = some (.lst (ys.map V.str)) ∧ zs.length ≤ ys.length + i * 200 ∧ (∀ x, x ∈ zs ↔ x ∈ ys ∨ ∃ m ∈ ys.take i, ∃ f, (m, f) ∈ tb ∧ f.has x)) ?_ ?_ ?_ ?_⟩
      · exact ⟨ys, y4, rfl, k7, eF7, eL, by omega, fun x => ⟨.inl, fun h => h.elim id fun ⟨m, hm, _⟩ => by simp at hm⟩⟩
      · rintro i σ H8 _ ⟨_, _, _, _, _, e, _⟩
        exact SqL.of e
      · rintro i x σ H8 hx ⟨zs, y4, rfl, k8, eF8, eL8, lz, hh⟩
        rw [List.getElem?_map] at hx
        obtain ⟨m, hm, rfl⟩ := Option.map_eq_some_iff.mp hx
        have mm := List.mem_of_getElem? hm
        have hil := (List.getElem?_eq_some_iff.mp hm).1
        obtain ⟨u, f, hg, hbf, ruf⟩ := tab_get (tabK k8) (hin m mm)
        obtain ⟨fok, fgd, fsz⟩ := B.q.ok m f hbf
        refine ⟨_, rfl, .inl ⟨rfl, _, SqL.of eF8⟩, _, rfl, _, rfl, d, u, rfl, hg, u, f, nsOf tb, rfl, fsz, by omega, ruf, fok, fun xs l H9 el lx hx9 k9 => ?_⟩
        have eF9 := k9 _ _ (fun z => z) eF8
        have eL9 := k9 _ _ (fun z => z) eL8
        refine ⟨l, rfl, ⟨_, SqL.of el⟩, fun D nD => ?_⟩
        refine lc_list (K := K) (a := l) (xs := xs.map V.str) (fun t H10 => Kp M0 H9 H10 ∧ H10 D = some (.lst (((xs.take t).filter fun x => !decide (x ∈ zs)).map V.str))) ?_ ?_ ?_ ?_
        · exact ⟨Kp.new nD, upd_same⟩
        · exact fun t H10 _ h => SqL.of (h.1 _ _ (fun z => z) el)
        · rintro t x H10 hx ⟨k10, e10⟩
          rw [List.getElem?_map] at hx
          obtain ⟨y, hy, rfl⟩ := Option.map_eq_some_iff.mp hx
          have tk : xs.take (t + 1) = xs.take t ++ [y] := by rw [List.take_add_one, hy]; rfl
          refine ⟨rfl, _, rfl, _, rfl, F1, _, rfl, .inl (SqL.of (k10 _ _ (fun z => z) eF9)), rfl, flat_strs _, _, rfl, ?_⟩
          have e : (if true = true then !inV (V.str y) (zs.map V.str) else inV (V.str y) (zs.map V.str)) = !decide (y ∈ zs) := by rw [if_pos rfl, inV_strs]
          by_cases hyz : y ∈ zs
          · refine iteF' (by rw [e, decide_eq_true hyz]; rfl) ⟨k10, ?_⟩
            rw [tk, List.filter_append, e10]
            simp [hyz]
          · refine iteT' (by rw [e, decide_eq_false hyz]; rfl) ⟨_, rfl, _, e10, ?_, k10.own nD, ?_⟩
            · rw [List.length_map]
              refine Nat.lt_of_le_of_lt (List.length_filter_le _ _) ?_
              rw [List.length_take]
              omega
            · rw [upd_same, tk, List.filter_append, List.map_append]
              simp [hyz]
        · rintro H10 ⟨k10, e10⟩
          rw [List.length_map, List.take_length] at e10
          have eF10 := k10 _ _ (fun z => z) eF9
          have eL10 := k10 _ _ (fun z => z) eL9
          have lf := List.length_filter_le (fun x => !decide (x ∈ zs)) xs
          have st200 : i * 200 ≤ 12 * 200 := Nat.mul_le_mul_right _ (by omega)
          refine ⟨F1, D, _, _, rfl, rfl, eF10, e10, by rw [List.length_map, List.length_map]; omega, ?_⟩
          refine ⟨zs ++ xs.filter fun x => !decide (x ∈ zs), _, rfl, ((k8.trans k9).trans k10).own nF1, by rw [upd_same, List.map_append], by rw [upd_ne nFL.symm]; exact eL10, ?_, fun x => ?_⟩
          · rw [List.length_append, Nat.succ_mul]
            omega
          · rw [List.mem_append, List.mem_filter, List.take_add_one, hm]
            constructor
            · rintro (h | ⟨h, _⟩)
              · exact ((hh x).mp h).imp id fun ⟨m2, h, r⟩ => ⟨m2, List.mem_append_left _ h, r⟩
              · exact .inr ⟨m, List.mem_append_right _ (List.mem_singleton.mpr rfl), f, hbf, (hx9 x).mp h⟩
            · rintro (h | ⟨m2, h, f2, h2, r⟩)
              · exact .inl ((hh x).mpr (.inl h))
              · rcases List.mem_append.mp h with h | h
                · exact .inl ((hh x).mpr (.inr ⟨m2, h, f2, h2, r⟩))
                · have e2 : m2 = m := by simpa using h
                  subst e2
                  rw [row_one nd h2 hbf] at r
                  have mx := (hx9 x).mpr r
                  by_cases hz : x ∈ zs
                  · exact .inl hz
                  · exact .inr ⟨mx, by simp [hz]⟩
      · rintro σ H8 ⟨zs, y4, rfl, k8, eF8, eL8, lz, hh⟩
        rw [List.length_map] at lz hh
        rw [List.take_length] at hh
        have st200 : ys.length * 200 ≤ 12 * 200 := Nat.mul_le_mul_right _ (by omega)
        refine ⟨_, rfl, F1, zs, rfl, SqL.of eF8, by omega, fun S nS => ?_⟩
        have zin : ∀ x ∈ zs, x ∈ nsOf tb := fun x hx => by
          rcases (hh x).mp hx with h | ⟨m, hm, f, hf, r⟩
          · exact hin x h
          · exact has_ok f (B.q.ok m f hf).1 r
        have mem : ∀ x, x ∈ metL zs [] ↔ x ∈ zs := fun x => (metL_mem zs [] x).trans ⟨fun h => h.elim (fun z => nomatch z) id, .inr⟩
        have ndM := metL_nodup zs [] List.nodup_nil
        have lM := nodup_len ndM (m := nsOf tb) fun x hx => zin x ((mem x).mp hx)
        rw [List.length_map] at lM
        refine ⟨S, metL zs [], rfl, upd_same, by omega, fun ws p pl sw np => ?_⟩
        have memW : ∀ x, x ∈ ws ↔ x ∈ ys ∨ ∃ m ∈ ys, ∃ f, (m, f) ∈ tb ∧ f.has x := fun x => by rw [pl.mem_iff, mem x, hh x]
        have nwd : ws.Nodup := pl.nodup_iff.mpr ndM
        have nS1 : H1 S = none := none_back k8 (fun z => z) nS
        have np1 : H1 p = none := by
          refine none_back k8 (fun z => z) ?_
          by_cases e : p = S
          · rw [e]; exact nS
          · rw [upd_ne e] at np; exact np
        refine ⟨p, ws, _, _, rfl, (k8.trans (Kp.new nS)).trans (Kp.new np), upd_same, np1, sw, nwd, (memW _).mpr (.inl hs0), fun x hx => ?_, fun x hx => ?_, ?_⟩
        · rcases (memW x).mp hx with h | ⟨m, hm, f, hf, r⟩
          · exact hre x h
          · exact .step (hre m hm) hf r
        · exact zin x ((mem x).mp (pl.mem_iff.mp hx))
        · by_cases cy : Clo tb ys
          · refine .inl fun m hm f hf x r => ?_
            have my : m ∈ ys := ((memW m).mp hm).elim id fun ⟨m2, h2, f2, hf2, r2⟩ => cy m2 h2 f2 hf2 m r2
            exact (memW x).mpr (.inl (cy m my f hf x r))
          · refine .inr ?_
            have cl := cl.resolve_left cy
            obtain ⟨x, hx, nx⟩ : ∃ x, x ∈ ws ∧ x ∉ ys := by
              refine Classical.byContradiction fun no => cy fun m hm f hf x r => ?_
              refine Classical.byContradiction fun nx => no ⟨x, (memW x).mpr (.inr ⟨m, hm, f, hf, r⟩), nx⟩
            have := nodup_len (l := x :: ys) (m := ws) (List.nodup_cons.mpr ⟨nx, yn⟩) fun y hy => by
              rcases List.mem_cons.mp hy with e | e
              · rw [e]; exact hx
              · exact (memW y).mpr (.inl e)
            rw [List.length_cons] at this
            omega
    · rintro σ H6 ⟨F1, ys, y3, y4, rfl, k6, eF, nF1, st, yn, hs0, hre, hin, cl⟩
      have ly := nodup_len yn (m := nsOf tb) hin
      rw [List.length_map] at ly
      have cl : Clo tb ys := cl.elim id fun h => by
        have : ((kz.length : Nat) : Int).toNat = tb.length := by rw [lk]; omega
        omega
      exact ⟨_, rfl, q ys F1 H6 eF st yn (fun x => ⟨hre x, fun r => reach_in hs0 cl r⟩) (k1.trans k6)⟩
end
end RT

set_option maxHeartbeats 1000000
namespace RT
open PySem PySem.Spec PyProof.Rows L2 LK
theorem fold_app (xs : List (Array Nat)) : ∀ acc : Array Nat, (xs.foldl (· ++ ·) acc).toList = acc.toList ++ (xs.map (·.toList)).flatten := by
  induction xs with
  | nil => intro acc; simp
  | cons x r ih =>
    intro acc
    rw [List.foldl_cons, ih, List.map_cons, List.flatten_cons, Array.toList_append, List.append_assoc]
theorem mul_sing {c : Nat} {n : Int} (h0 : 0 ≤ n) : Txt.mul ⟨#[c]⟩ n = ⟨(List.replicate n.toNat c).toArray⟩ := by
  obtain ⟨k, rfl⟩ := Int.eq_ofNat_of_zero_le h0
  refine TL.ext_tl ?_
  show (Txt.mul ⟨#[c]⟩ (k : Int)).cps.toList = List.replicate k c
  unfold Txt.mul
  by_cases z : (k : Int) < 1
  · rw [if_pos z]
    have e : k = 0 := by omega
    rw [e]
    rfl
  · rw [if_neg z]
    by_cases q : ((k : Int) == 1 || (⟨#[c]⟩ : Str).length == 0) = true
    · rw [if_pos q]
      have e : k = 1 := by
        rcases Bool.or_eq_true_iff.mp q with q | q
        · have := eq_of_beq q
          omega
        · cases q
      rw [e]
      rfl
    · rw [if_neg q]
      show Array.toList _ = _
      rw [fold_app, List.map_replicate]
      show [] ++ (List.replicate k [c]).flatten = _
      rw [List.nil_append]
      clear z q h0
      induction k with
      | zero => rfl
      | succ k ih =>
        rw [List.replicate_succ, List.flatten_cons, ih, List.replicate_succ]
        rfl
theorem mulOk_small {x : Str} {n : Int} (h0 : 0 ≤ n) (h1 : n ≤ 1000) (hx : x.length ≤ 1000) : MulOk x n := by
  refine ⟨?_, fun a b => ?_, fun a b => ?_⟩
  · rw [decide_eq_false (by omega), decide_eq_false (by omega)]
    rfl
  · have h : (1000 : Int) ≤ (2 ^ 63 - 1) / n := (Int.le_ediv_iff_mul_le (by omega)).mpr (by omega)
    omega
  · have h : x.length * n.toNat ≤ 1000 * 1000 := Nat.mul_le_mul hx (by omega)
    have e : (1000000 : Nat) ≤ sizeLine := by decide
    unfold Builtin.Str.tooLong
    exact decide_eq_false (by omega)
section
variable {X : Cx}
theorem op_mul_str : OpR X (binaryOp .Mult) (fun x y H Q => ∃ (z : Str) (n : Int), x = .str z ∧ y = .int n ∧ MulOk z n ∧ Q (.str (Txt.mul z n)) H) := by
  intro pins s σ H x y v u Q I rx ry h
  obtain ⟨z, n, rfl, rfl, hm, q⟩ := h
  obtain ⟨t, rfl⟩ := rx
  obtain ⟨t', rfl⟩ := ry
  exact PySem.SB.mul hm fun t' k => ⟨.str _, H, I.tok _, ⟨_, rfl⟩, q⟩
end
/-- the names: letters of their own, one to three times -/
def nmz (k : Nat) : Str := ⟨(List.replicate (1 + k % 3) (("cabdfeghlijk" : Str).cps.toList.getD k 0)).toArray⟩
def NS (n : Nat) : List Str := (List.range n).map nmz
theorem NS_nodup : ∀ n, n < 13 → (NS n).Nodup := by decide +kernel
theorem NS_len : ∀ n, n < 13 → ∀ x ∈ NS n, x.length ≤ 3 := by decide +kernel
theorem nm_at : ∀ k, k < 12 → ("cabdfeghlijk" : Str).cps.toList[k]? = some (("cabdfeghlijk" : Str).cps.toList.getD k 0) := by decide +kernel
end RT

/-! displays of tuples and lists in which names stand -/
namespace RT
open PySem PySem.Spec PyProof.Rows L2
inductive LD
  | str (z : Str)
  | int (i : Int)
  | non
  | var (i : Nat)
  | tup (ds : List LD)
mutual
def LD.te : LD → TE
  | .str z => tC (.str z)
  | .int i => tC (.int i)
  | .non => tC .non
  | .var i => tVar i
  | .tup ds => tTup (LD.ta ds)
def LD.ta : List LD → TA
  | [] => tNil
  | d :: r => tCons d.te (LD.ta r)
end
mutual
def LD.few : LD → Bool
  | .str z => decide (z.length ≤ 1000)
  | .int _ => true
  | .non => true
  | .var _ => true
  | .tup ds => decide (ds.length ≤ 1000) && LD.fews ds
def LD.fews : List LD → Bool
  | [] => true
  | d :: r => d.few && LD.fews r
end
mutual
def LD.den (ρ : Nat → D) : LD → D
  | .str z => .str z
  | .int i => .int i
  | .non => .non
  | .var i => ρ i
  | .tup ds => .tup (LD.dens ρ ds)
def LD.dens (ρ : Nat → D) : List LD → List D
  | [] => []
  | d :: r => d.den ρ :: LD.dens ρ r
end
mutual
/-- the names that stand in it -/
def LD.vars : LD → List Nat
  | .var i => [i]
  | .tup ds => LD.varss ds
  | _ => []
def LD.varss : List LD → List Nat
  | [] => []
  | d :: r => d.vars ++ LD.varss r
end
theorem LD.dens_len (ρ : Nat → D) : ∀ ds : List LD, (LD.dens ρ ds).length = ds.length
  | [] => rfl
  | _ :: r => congrArg (· + 1) (LD.dens_len ρ r)
mutual
theorem litV_read : ∀ (d : LD) {ρ : Nat → D} {σ : L2.St} {H : Hp} {Q : VK}, d.few = true → (∀ i ∈ d.vars, ∃ v, σ[i]? = some (some v) ∧ Rp H v (ρ i)) → (∀ (v : V) (H' : Hp), Rp H' v (d.den ρ) → Kp M0 H H' → Q v H') → d.te σ H Q
  | .str z, ρ, σ, H, Q, h, _, q => q _ H (.str (line1000 (of_decide_eq_true h))) Kp.refl
  | .int i, ρ, σ, H, Q, _, _, q => q _ H .int Kp.refl
  | .non, ρ, σ, H, Q, _, _, q => q _ H .non Kp.refl
  | .var i, ρ, σ, H, Q, _, hv, q => by
    obtain ⟨v, e, r⟩ := hv i (List.mem_singleton.mpr rfl)
    exact ⟨v, e, q v H r Kp.refl⟩
  | .tup ds, ρ, σ, H, Q, h, hv, q => litVs_read ds (Bool.and_eq_true _ _ ▸ h : _ ∧ _).2 hv fun vs H1 r k => ⟨by rw [r.len, LD.dens_len]; exact line1000 (of_decide_eq_true (Bool.and_eq_true _ _ ▸ h : _ ∧ _).1), fun p np => q _ _ (.tup upd_same (r.ts (TS.new np))) (k.trans (Kp.new np))⟩
theorem litVs_read : ∀ (ds : List LD) {ρ : Nat → D} {σ : L2.St} {H : Hp} {Q : List V → Hp → Prop}, LD.fews ds = true → (∀ i ∈ LD.varss ds, ∃ v, σ[i]? = some (some v) ∧ Rp H v (ρ i)) → (∀ (vs : List V) (H' : Hp), Rps H' vs (LD.dens ρ ds) → Kp M0 H H' → Q vs H') → LD.ta ds σ H Q
  | [], ρ, σ, H, Q, _, _, q => q _ H .nil Kp.refl
  | d :: r, ρ, σ, H, Q, h, hv, q => litV_read d (Bool.and_eq_true _ _ ▸ h : _ ∧ _).1 (fun i m => hv i (List.mem_append_left _ m)) fun v H1 rv k1 => litVs_read r (Bool.and_eq_true _ _ ▸ h : _ ∧ _).2 (fun i m => let ⟨v, e, rr⟩ := hv i (List.mem_append_right _ m); ⟨v, e, rr.ts (ts0 k1)⟩) fun vs H2 rvs k2 => q _ _ (.cons (rv.ts (ts0 k2)) rvs) (k1.trans k2)
end
/-- a list of such -/
theorem litVL_read (ds : List LD) {ρ : Nat → D} {σ : L2.St} {H : Hp} {Q : VK} (h : LD.fews ds = true) (hl : ds.length ≤ 1000) (hv : ∀ i ∈ LD.varss ds, ∃ v, σ[i]? = some (some v) ∧ Rp H v (ρ i))
    (q : ∀ (l : Addr) (vs : List V) (H' : Hp), H' l = some (.lst vs) → H l = none → Rps H' vs (LD.dens ρ ds) → Kp M0 H H' → Q (.ref l) H') : tLst (LD.ta ds) σ H Q :=
  litVs_read ds h hv fun vs H1 r k => ⟨by rw [r.len, LD.dens_len]; exact line1000 hl, fun p np => q p vs _ upd_same (none_back k (fun z => z) np) (r.ts (TS.new np)) (k.trans (Kp.new np))⟩
end RT

set_option maxHeartbeats 1000000
namespace RT
open PySem PySem.Spec PyProof.Rows L2 LK
mutual
theorem Fo.ok_mono {N N' : List Str} (h : ∀ x ∈ N, x ∈ N') : ∀ f : Fo, f.ok N → f.ok N'
  | .leaf _ _, o => o
  | .one _ f _, o => ⟨o.1, Fo.ok_mono h f o.2⟩
  | .row fs, o => Fo.oks_mono h fs o
  | .either _ fs, o => ⟨o.1, Fo.oks_mono h fs o.2⟩
  | .again f, o => Fo.ok_mono h f o
  | .between f g, o => ⟨Fo.ok_mono h f o.1, Fo.ok_mono h g o.2⟩
  | .counted _ f, o => Fo.ok_mono h f o
  | .named x, o => h x o
theorem Fo.oks_mono {N N' : List Str} (h : ∀ x ∈ N, x ∈ N') : ∀ fs : List Fo, Fo.oks N fs → Fo.oks N' fs
  | [], _ => True.intro
  | f :: r, o => ⟨Fo.ok_mono h f o.1, Fo.oks_mono h r o.2⟩
end
theorem NS_snoc (n : Nat) : NS (n + 1) = NS n ++ [nmz n] := by
  unfold NS
  rw [List.range_succ, List.map_append]
  rfl
theorem NS_length (n : Nat) : (NS n).length = n := by simp [NS]
/-- a book as it is written -/
structure Wr (n : Nat) (tb : List (Str × Fo)) : Prop where
  n1 : 1 ≤ n
  n12 : n ≤ 12
  perm : (tb.map (·.1)).Perm (NS n)
  forms : ∀ p ∈ tb, Dr (NS n) p.2 ∧ p.2.mu ≤ 14 / n
/-- a book as the law asks of it -/
structure Bx (s0 : Str) (tb : List (Str × Fo)) : Prop where
  r : ∃ r, TbOk (nsOf tb) r tb
  st : s0 ∈ nsOf tb
  len : ∀ x ∈ nsOf tb, x.length ≤ 3
  sz : ∀ x f, (x, f) ∈ tb → f.size ≤ 200
theorem Bx.q {s0 : Str} {tb : List (Str × Fo)} (b : Bx s0 tb) : Bq tb := by
  obtain ⟨r, h⟩ := b.r
  exact ⟨h.nd, h.few, fun x f m => ⟨(h.ok x f m).1, (h.ok x f m).2.1, b.sz x f m⟩⟩
theorem Bx.m {s0 : Str} {tb : List (Str × Fo)} (b : Bx s0 tb) : Bm tb s0 := ⟨b.q, b.st⟩
theorem Bx.book {s0 : Str} {tb : List (Str × Fo)} (b : Bx s0 tb) : BookOk tb s0 :=
  ⟨b.q.nd, by have := b.q.few; omega, b.st, fun x hx => by have := b.len x hx; omega, fun x f m => ⟨(b.q.ok x f m).1, by have := b.sz x f m; omega⟩⟩
section
variable {n : Nat} {tb : List (Str × Fo)}
theorem Wr.nd (h : Wr n tb) : (tb.map (·.1)).Nodup := h.perm.nodup_iff.mpr (NS_nodup n (by have := h.n12; omega))
theorem Wr.len (h : Wr n tb) : tb.length = n := by
  have := h.perm.length_eq
  rw [List.length_map, NS_length] at this
  exact this
theorem Wr.r1 (h : Wr n tb) : 1 ≤ 14 / n := by
  have := h.n1
  have := h.n12
  exact (Nat.le_div_iff_mul_le (by omega)).mpr (by omega)
theorem Wr.r14 (h : Wr n tb) : 14 / n ≤ 14 := Nat.div_le_self _ _
theorem Wr.form (h : Wr n tb) {x : Str} {f : Fo} (m : (x, f) ∈ tb) : f.ok (nsOf tb) ∧ Gd f ∧ LenOk (14 / n) f ∧ f.size ≤ 112 := by
  obtain ⟨d, hm⟩ := h.forms _ m
  have d : Dr (NS n) f := d
  have hm : f.mu ≤ 14 / n := hm
  have r14 := h.r14
  refine ⟨Fo.ok_mono (fun x hx => h.perm.mem_iff.mpr hx) f d.ok, d.gd (by omega), d.len.mono hm, ?_⟩
  have := d.size
  omega
theorem Bd_few0 {n : Nat} (h1 : 1 ≤ n) (h2 : n ≤ 12) : Bd (14 / n) n ≤ 130000 := by
  have : ∀ n, n < 13 → 1 ≤ n → Bd (14 / n) n ≤ 130000 := by decide +kernel
  exact this n (by omega) h1
theorem Bd_few1 {n : Nat} (h1 : 1 ≤ n) (h2 : n ≤ 11) : Bd (14 / n + 1) (n + 1) ≤ 130000 := by
  have : ∀ n, n < 12 → 1 ≤ n → Bd (14 / n + 1) (n + 1) ≤ 130000 := by decide +kernel
  exact this n (by omega) h1
theorem ns0_mem (h : Wr n tb) : nmz 0 ∈ nsOf tb := by
  refine h.perm.mem_iff.mpr ?_
  unfold NS
  exact List.mem_map.mpr ⟨0, List.mem_range.mpr (by have := h.n1; omega), rfl⟩
theorem Wr.bx (h : Wr n tb) : Bx (nmz 0) tb :=
  ⟨⟨14 / n, h.nd, by rw [h.len]; exact h.n12, h.r1, by rw [h.len]; exact Bd_few0 h.n1 h.n12, fun x f m => by
    obtain ⟨a, b, c, d⟩ := h.form m
    exact ⟨a, b, c, by omega⟩⟩, ns0_mem h, fun x hx => NS_len n (by have := h.n12; omega) x (h.perm.mem_iff.mp hx), fun x f m => by have := (h.form m).2.2.2; omega⟩
/-! ### the ring -/
def hereF : Fo := .named "zz"
def rings : List Fo := [hereF, .row [hereF, .leaf "number" []], .row [.leaf "text" [.str "a"], hereF], .either ["a", "b"] [hereF, hereF]]
def mores (f : Fo) : List Fo := [.row [f, hereF], .either ["a", "b"] [f, hereF], f, .again hereF]
theorem cat_two {E : Str → Option Str} {f g : Fo} {t : Str} (e : ev E (.row [f, g]) = some t) : ∃ a b, ev E f = some a ∧ ev E g = some b ∧ t.length = a.length + b.length := by
  have e : catO [ev E f, ev E g] = some t := e
  cases e1 : ev E f with
  | none => rw [e1] at e; cases e
  | some a =>
    cases e2 : ev E g with
    | none => rw [e1, e2] at e; cases e
    | some b =>
      rw [e1, e2] at e
      have e : some (a ++ (b ++ ("" : Str))) = some t := e
      refine ⟨a, b, rfl, rfl, ?_⟩
      rw [← Option.some.inj e, app_len, app_len]
      rfl
theorem here_len {E : Str → Option Str} {M : Nat} {t : Str} (hE : ∀ x u, E x = some u → u.length ≤ M) (e : ev E hereF = some t) : t.length ≤ M := hE _ _ e
theorem more_ok {N : List Str} {r : Nat} {f g : Fo} (hr : r ≤ 14) (h1 : 1 ≤ r) (hz : ("zz" : Str) ∈ N) (ok : f.ok N) (gd : Gd f) (ln : LenOk r f) (sz : f.size ≤ 112) (m : g ∈ mores f) : g.ok N ∧ Gd g ∧ LenOk (r + 1) g ∧ g.size ≤ 200 := by
  have row : LenOk (r + 1) (.row [f, hereF]) := fun E M t hE e => by
    obtain ⟨a, b, ea, eb, l⟩ := cat_two e
    have h1 := ln E M a hE ea
    have h2 := here_len hE eb
    rw [Nat.add_mul]
    omega
  have two : ∀ P : Fo → Prop, P f → P hereF → ∀ x ∈ [f, hereF], P x := fun P a b x hx => by
    rcases List.mem_cons.mp hx with rfl | hx
    · exact a
    · rw [List.mem_singleton.mp hx]; exact b
  simp only [mores, List.mem_cons, List.not_mem_nil, or_false] at m
  rcases m with rfl | rfl | rfl | rfl
  · refine ⟨⟨ok, hz, True.intro⟩, .row (by show 2 ≤ 10; decide) (two Gd gd .named) (row.mono (by omega)), row, ?_⟩
    show 1 + (f.size + (1 + 0)) ≤ 200
    omega
  · refine ⟨⟨rfl, ok, hz, True.intro⟩, .either rfl (by show 2 ≤ 10; decide) (two Gd gd .named), ?_, ?_⟩
    · intro E M t hE e
      obtain ⟨x, hx, ex⟩ := mem_evs (least_mem (show leastO (evs E [f, hereF]) = some t from e))
      refine two (fun x => ev E x = some t → _) (fun e => ?_) (fun e => ?_) x hx ex
      · exact (ln.mono (Nat.le_succ r)) E M t hE e
      · have := here_len hE e
        have : 1 * (13 + M) ≤ (r + 1) * (13 + M) := Nat.mul_le_mul_right _ (by omega)
        omega
    · show 1 + (f.size + (1 + 0)) ≤ 200
      omega
  · exact ⟨ok, gd, ln.mono (Nat.le_succ r), by omega⟩
  · exact ⟨hz, .again .named, .const (by omega) fun E t e => by cases e; decide, by show 1 + 1 ≤ 200; decide⟩
theorem ring_ok {N : List Str} {r : Nat} {g : Fo} (h1 : 1 ≤ r) (hz : ("zz" : Str) ∈ N) (m : g ∈ rings) : g.ok N ∧ Gd g ∧ LenOk (r + 1) g ∧ g.size ≤ 200 := by
  have one : ∀ M, 2 * (13 + M) ≤ (r + 1) * (13 + M) := fun M => Nat.mul_le_mul_right _ (by omega)
  have num : ∀ E t, ev E (.leaf "number" []) = some t → t.length = 1 := fun E t e => by
    have e : some ("0" : Str) = some t := e
    cases e
    rfl
  have txt : ∀ E t, ev E (.leaf "text" [.str "a"]) = some t → t.length = 1 := fun E t e => by
    rw [text_ev] at e
    cases e
    rfl
  have lr1 : LenOk 2 (.row [hereF, .leaf "number" []]) := fun E M t hE e => by
    obtain ⟨a, b, ea, eb, l⟩ := cat_two e
    have h1 := here_len hE ea
    have h2 := num E b eb
    omega
  have lr2 : LenOk 2 (.row [.leaf "text" [.str "a"], hereF]) := fun E M t hE e => by
    obtain ⟨a, b, ea, eb, l⟩ := cat_two e
    have h1 := here_len hE eb
    have h2 := txt E a ea
    omega
  have lh : LenOk 1 hereF := fun E M t hE e => by have := here_len hE e; omega
  simp only [rings, List.mem_cons, List.not_mem_nil, or_false] at m
  rcases m with rfl | rfl | rfl | rfl
  · exact ⟨hz, .named, lh.mono (by omega), by show 1 ≤ 200; decide⟩
  · refine ⟨⟨hz, by show ("number" : Str) ∈ _; decide, True.intro⟩, .row (by show 2 ≤ 10; decide) (fun x hx => ?_) (lr1.mono (by decide)), lr1.mono (by omega), by show 1 + (1 + (1 + 0)) ≤ 200; decide⟩
    rcases List.mem_cons.mp hx with rfl | hx
    · exact .named
    · rw [List.mem_singleton.mp hx]; exact .number
  · refine ⟨⟨by show ("text" : Str) ∈ _; decide, hz, True.intro⟩, .row (by show 2 ≤ 10; decide) (fun x hx => ?_) (lr2.mono (by decide)), lr2.mono (by omega), by show 1 + (1 + (1 + 0)) ≤ 200; decide⟩
    rcases List.mem_cons.mp hx with rfl | hx
    · exact .text (by decide)
    · rw [List.mem_singleton.mp hx]; exact .named
  · refine ⟨⟨rfl, hz, hz, True.intro⟩, .either rfl (by show 2 ≤ 10; decide) (fun x hx => ?_), fun E M t hE e => ?_, by show 1 + (1 + (1 + 0)) ≤ 200; decide⟩
    · have : x = hereF := by simpa using hx
      rw [this]; exact .named
    · obtain ⟨x, hx, ex⟩ := mem_evs (least_mem (show leastO (evs E [hereF, hereF]) = some t from e))
      have hx : x = hereF := by simpa using hx
      subst hx
      exact (lh.mono (by omega)) E M t hE ex
theorem zz_not (n : Nat) (h : n < 13) : ("zz" : Str) ∉ NS n := by
  have : ∀ n, n < 13 → ("zz" : Str) ∉ NS n := by decide +kernel
  exact this n h
/-- the book with the ring -/
theorem Wr.ring (h : Wr n tb) (hn : n < 12) {a : Nat} {x : Str} {f f' g : Fo} (ha : tb[a]? = some (x, f)) (hf : f' ∈ mores f) (hg : g ∈ rings) {tb' : List (Str × Fo)} (p : tb'.Perm (tb.set a (x, f') ++ [(("zz" : Str), g)])) : Bx (nmz 0) tb' := by
  have mx : (x, f) ∈ tb := List.mem_of_getElem? ha
  have al := (List.getElem?_eq_some_iff.mp ha).1
  have nset : (tb.set a (x, f')).map (·.1) = tb.map (·.1) := by
    rw [List.map_set]
    refine List.ext_getElem? fun i => ?_
    rw [List.getElem?_set]
    by_cases c : a = i
    · subst c
      rw [if_pos rfl, List.length_map, if_pos al, List.getElem?_map, ha]
      rfl
    · rw [if_neg c]
  have pn : (nsOf tb').Perm (tb.map (·.1) ++ [("zz" : Str)]) := by
    have := p.map (·.1)
    rw [List.map_append, nset] at this
    exact this
  have zin : ("zz" : Str) ∈ nsOf tb' := pn.mem_iff.mpr (List.mem_append_right _ (List.mem_singleton.mpr rfl))
  have sub : ∀ y ∈ nsOf tb, y ∈ nsOf tb' := fun y hy => pn.mem_iff.mpr (List.mem_append_left _ hy)
  have ok : ∀ y k, (y, k) ∈ tb' → k.ok (nsOf tb') ∧ Gd k ∧ LenOk (14 / n + 1) k ∧ k.size ≤ 200 := fun y k m => by
    rcases List.mem_append.mp (p.mem_iff.mp m) with m | m
    · rcases List.mem_or_eq_of_mem_set m with m | m
      · obtain ⟨c1, c2, c3, c4⟩ := h.form m
        exact ⟨Fo.ok_mono sub k c1, c2, c3.mono (Nat.le_succ _), by omega⟩
      · cases m
        obtain ⟨c1, c2, c3, c4⟩ := h.form mx
        exact more_ok h.r14 h.r1 zin (Fo.ok_mono sub f c1) c2 c3 c4 hf
    · have m : (y, k) = (("zz" : Str), g) := by simpa using m
      cases m
      exact ring_ok h.r1 zin hg
  have len : tb'.length = n + 1 := by
    rw [p.length_eq, List.length_append, List.length_set, h.len]
    rfl
  have n1 := h.n1
  refine ⟨⟨14 / n + 1, ?_, by omega, Nat.le_add_left 1 _, by rw [len]; exact Bd_few1 h.n1 (by omega), fun y k m => ?_⟩, sub _ (ns0_mem h), fun y hy => ?_, fun y k m => (ok y k m).2.2.2⟩
  · refine pn.nodup_iff.mpr ?_
    rw [List.nodup_append]
    refine ⟨h.nd, by simp, fun y hy z hz e => ?_⟩
    have hz : z = "zz" := by simpa using hz
    subst hz
    subst e
    exact zz_not n (by omega) (h.perm.mem_iff.mp hy)
  · obtain ⟨c1, c2, c3, c4⟩ := ok y k m
    exact ⟨c1, c2, c3, by omega⟩
  · rcases List.mem_append.mp (pn.mem_iff.mp hy) with hy | hy
    · exact NS_len n (by omega) y (h.perm.mem_iff.mp hy)
    · have hy : y = "zz" := by simpa using hy
      subst hy
      decide
end
end RT

set_option maxHeartbeats 1000000
/-! the book that the law writes -/
namespace RT
open PySem PySem.Spec PyProof.Rows L2 LK
abbrev sWr : Stmt := topS 31
theorem scWr : FnScope ["_law_draws", "_law_many_here", "_law_names", "_law_rows", "_law_name", "_law_k"] ["_law_draws"] (defScope sWr) := ⟨rfl, rfl, rfl, by decide +kernel, rfl, by decide +kernel, by decide +kernel⟩
section
variable {P : Program} {w : World} {K : PySem.W.Frag} {mg : Str → Option Value} {base : Heap}
def spWr : Sp := fun vs H Q _ => ∃ (pd pc : Addr), vs = [.ref pd] ∧ Pot H pd pc ∧
  ∀ (v : V) (n : Nat) (tb : List (Str × Fo)) (H' : Hp), Wr n tb → BkA H' v (nmz 0) tb → Pot H' pd pc → Kp (PM pd) H H' → Q v H'
theorem ok_wr {f fm fr : Addr} {fd fdm fdr : FuncData} {k km0 kd0 : Nat} (F : Fun K "_law_written" "_law_written" sWr f fd) (hMn : km0 ≤ k) (hDn : kd0 ≤ k)
    (GM : FnOk P w K mg base CX0 km0 fm fdm ["_law_draws", "_law_few", "_law_most"] spMany) (km : PySem.W.keepIn K (.ref fm) = true) (bm : Binds K fdm ["_law_draws", "_law_few", "_law_most"] []) (gm : mg "_law_many" = some (.ref fm))
    (GR : FnOk P w K mg base CX0 kd0 fr fdr ["_law_draws", "_law_names", "_law_deep", "_law_room"] (fun vs H Q E => ∃ N, spDn N 4 vs H Q E)) (kr : PySem.W.keepIn K (.ref fr) = true) (br : Binds K fdr ["_law_draws", "_law_names", "_law_deep", "_law_room"] []) (gr : mg "_law_drawn" = some (.ref fr))
    (mr : mg "range" = none) (mso : mg "sorted" = none) (mtu : mg "tuple" = none) :
    FnOk P w K mg base CX0 (k + 1) f fd ["_law_draws"] spWr := by
  refine F.ok scWr (fun vs H Q E h => ?_) (fun cdv A outer sh H vs Q E hr h => ?_)
  · obtain ⟨pd, pc, rfl, _⟩ := h
    rfl
  · obtain ⟨pd, pc, rfl, P0, q⟩ := h
    refine ⟨_, (pss_cons (ps_set (i := 1) scWr.nd rfl (.inl rfl) (pe_op op_add pe_int (pe_call GM (hr.mono hMn) (by rfl) gm km bm .nil pass0 (pa_cons (pv 0) (pa_cons pe_int (pa_cons pe_int pa_nil))))))
      (pss_cons (ps_setLc (i := 2) (own := [("_law_k", 5)]) (g := gName 5) (tt := tYes) rfl scWr.nd rfl rfl rfl (pi_range1 (by rfl) mr (pa_cons (pv 1) pa_nil)) (blkOk_by (N := ["_law_draws", "_law_many_here", "_law_names", "_law_rows", "_law_name", "_law_k"]) (sc := defScope sWr) (by decide +kernel)) (fun _ _ _ _ _ => (pg_name (i := 5) scWr.nd rfl (.inl rfl))) (fun _ _ _ _ _ => pts_nil) (fun _ _ _ _ _ => (pe_op op_mul_str (pe_ix ix_str pe_str (pv 5) (fun _ _ => rfl)) (pe_op op_add pe_int (pe_op op_mod (pv 5) pe_int)))))
      (pss_cons (ps_set (i := 3) scWr.nd rfl (.inl rfl) (pe_lst pa_nil))
      (pss_cons (ps_for PassesOwn.never rfl (pi_list (pe_callB cr_sortedS (by rfl) mso (by decide +kernel) (pa_cons (pv 2) pa_nil))) (pg_name (i := 4) scWr.nd rfl (.inl rfl)) (pss_one (ps_expr (pe_bm PySem.F.plainAttrs_list PySem.F.slot_list_append PySem.F.type_list_append mt_append (pv 3) (pa_cons (pe_tup (pa_cons (pv 4) (pa_cons (pe_call GR (hr.mono hDn) (by rfl) gr kr br .nil pass0 (pa_cons (pv 0) (pa_cons (pv 2) (pa_cons pe_int (pa_cons (pe_lst (pa_cons (pe_op op_fdiv pe_int (pv 1)) pa_nil)) pa_nil))))) pa_nil))) pa_nil)))))
      (pss_one (ps_ret (pe_tup (pa_cons (pe_ix ix_list (pv 2) pe_int (fun _ _ => rfl)) (pa_cons (pe_callTy cr_tupFz (by rfl) mtu (by decide +kernel) (pa_cons (pv 3) pa_nil)) pa_nil))))))))), ?_⟩
    have line : (3000 : Nat) < sizeLine := by rw [sizeLine_eq]; decide
    refine ⟨_, rfl, pd, pc, 2, 11, rfl, P0, by decide, by decide, fun d H1 ld P1 k1 => ?_⟩
    have ld : d ≤ 11 := ld
    refine ⟨_, _, rfl, rfl, ?_⟩
    have e1 : (1 : Int) + (d : Nat) = ((1 + d : Nat) : Int) := by omega
    generalize hn : 1 + d = n at e1
    rw [show (fun (i j : Int) => V.int (i + j)) 1 ((d : Nat) : Int) = V.int (n : Nat) from congrArg V.int e1]
    have n1 : 1 ≤ n := by omega
    have n12 : n ≤ 12 := by omega
    refine ⟨_, rfl, (n : Int), rfl, by omega, by omega, fun D nD => ?_⟩
    have hD := P1.off nD
    refine lc_range (lo := 0) (n := (n : Int).toNat) (fun i H4 => Kp M0 H1 H4 ∧ H4 D = some (.lst ((NS i).map V.str))) ?_ ?_ ?_
    · exact ⟨Kp.new nD, upd_same⟩
    · rintro i H4 hi ⟨k4, e4⟩
      refine ⟨rfl, tYes_ok (iteT ?_)⟩
      have hi : i < n := by omega
      rw [show (0 : Int) + (i : Nat) = ((i : Nat) : Int) from Int.zero_add _]
      refine ⟨_, rfl, "cabdfeghlijk", _, _, rfl, rfl, by decide, atI_nat (nm_at i (by omega)), ?_⟩
      refine ⟨_, rfl, _, _, rfl, rfl, by show (0 : Int) < 3; decide, _, _, rfl, rfl, _, _, rfl, rfl, mulOk_small (by omega) (by omega) (by show 1 ≤ 1000; decide), ?_⟩
      rw [mul_sing (by omega), show (1 + (i : Nat) % 3 : Int).toNat = 1 + i % 3 by omega]
      refine ⟨_, e4, by rw [List.length_map, NS_length]; omega, ?_, ?_⟩
      · intro b u hb e'
        exact (k4.own nD) b u hb e'
      · rw [upd_same, NS_snoc, List.map_append]
        rfl
    · rintro H4 ⟨k4, e4⟩
      have nn : ((n : Int)).toNat = n := by omega
      rw [nn] at e4
      have k4' := k4
      have k4 : Kp (PM pd) H H4 := k1.trans (kpm k4)
      have P4 := P1.kp0 k4'
      refine ⟨by show 0 ≤ sizeLine; omega, fun L nL => ?_⟩
      have hL := P4.off nL
      have nDL : D ≠ L := ne_of_none e4 nL
      refine ⟨_, rfl, D, NS n, rfl, SqL.of (by rw [upd_ne nDL]; exact e4), by rw [NS_length]; omega, fun ys S perm _ nS => ?_⟩
      have nSL : S ≠ L := fun z => by rw [z, upd_same] at nS; cases nS
      have nS4 : H4 S = none := by rw [upd_ne nSL] at nS; exact nS
      have hS := P4.off nS4
      have nSD : S ≠ D := (ne_of_none e4 nS4).symm
      have ly : ys.length = n := by rw [perm.length_eq, NS_length]
      have sub : ∀ x ∈ ys, x.length ≤ 3 := fun x hx => NS_len n (by omega) x (perm.mem_iff.mp hx)
      refine ⟨S, rfl, ⟨_, SqL.of upd_same⟩, for_list (xs := ys.map V.str) (fun i σ H6 => ∃ (y4 : Option V) (tb : List (Str × Fo)) (ws : List V), σ = [some (.ref pd), some (.int (n : Nat)), some (.ref D), some (.ref L), y4, none] ∧ tb.map (·.1) = ys.take i ∧ (∀ p ∈ tb, Dr (NS n) p.2 ∧ p.2.mu ≤ 14 / n) ∧ Pot H6 pd pc ∧ Kp (PM pd) H H6 ∧ H6 D = some (.lst ((NS n).map V.str)) ∧ H6 S = some (.lst (ys.map V.str)) ∧ H6 L = some (.lst ws) ∧ Rps H6 ws (tb.map rowD)) ?_ ?_ ?_ ?_⟩
      · exact ⟨none, [], [], rfl, by simp, fun _ z => (nomatch z), (P4.new nL).new nS, (k4.trans (Kp.new nL)).trans (Kp.new nS), by rw [upd_ne nSD.symm, upd_ne nDL]; exact e4, upd_same, by rw [upd_ne nSL.symm]; exact upd_same, .nil⟩
      · rintro i σ H6 _ ⟨_, _, _, _, _, _, _, _, _, eS, _⟩
        exact SqL.of eS
      · rintro i x σ H6 hx ⟨y4, tb, ws, rfl, et, fo, P6, k6, eD, eS, eL, rs⟩
        rw [List.getElem?_map] at hx
        obtain ⟨z, hz, rfl⟩ := Option.map_eq_some_iff.mp hx
        have mz : z ∈ ys := List.mem_of_getElem? hz
        have hi : i < ys.length := (List.getElem?_eq_some_iff.mp hz).1
        refine ⟨_, rfl, .inl ⟨rfl, _, SqL.of eL⟩, _, rfl, _, rfl, _, rfl, _, rfl, _, _, rfl, rfl, ?_⟩
        refine ⟨⟨by omega, by omega⟩, by show 1 ≤ sizeLine; omega, fun R nR => ?_⟩
        have hn0 : NS n ≠ [] := fun z => by have := NS_length n; rw [z] at this; simp at this; omega
        have hr0 : 1 ≤ 14 / n := (Nat.le_div_iff_mul_le (by omega)).mpr (by omega)
        have hr1 : 14 / n ≤ 14 := Nat.div_le_self _ _
        have nDR : D ≠ R := ne_of_none eD nR
        have nSR : S ≠ R := ne_of_none eS nR
        have nLR : L ≠ R := ne_of_none eL nR
        have npR : R ≠ pc := fun z => by obtain ⟨_, _, _, _, E⟩ := P6; exact ne_of_none E.c nR z.symm
        refine ⟨NS n, pd, pc, D, R, 2, 14 / n, rfl, by decide, P6.new nR, by rw [upd_ne nDR]; exact eD, hn0, by rw [NS_length]; exact n12, fun x hx => Nat.le_trans (NS_len n (by omega) x hx) (by decide), upd_same, hr0, by omega, npR, nDR, fun v f r' H7 df rf _ hmu P7 _ k7 => ?_⟩
        have kk : ∀ b o, b ≠ pd → H6 b = some o → H7 b = some o := fun b o hb e => k7 b o (fun z => z.elim hb (ne_of_none e nR)) (by rw [upd_ne (ne_of_none e nR)]; exact e)
        have eD7 := kk D _ hD eD
        have eS7 := kk S _ hS eS
        have eL7 := kk L _ hL eL
        have rs7 : Rps H7 ws (tb.map rowD) := rs.ts fun b xs e => kk b _ (P6.ne e fun _ z => by cases z) e
        have k7 : Kp (PM pd) H H7 := fun b o hb e => kk b o hb (k6 b o hb e)
        refine ⟨by show 2 ≤ sizeLine; omega, fun T nT => ?_⟩
        have nLT : L ≠ T := ne_of_none eL7 nT
        have nDT : D ≠ T := ne_of_none eD7 nT
        have nST : S ≠ T := ne_of_none eS7 nT
        refine ⟨L, ws, _, rfl, rfl, by rw [upd_ne nLT]; exact eL7, by have := rs7.len; rw [this, List.length_map, ← List.length_map (f := (·.1)), et, List.length_take]; omega, ?_⟩
        have eL8 : upd H7 T (.tup [.str z, v]) L = some (.lst ws) := by rw [upd_ne nLT]; exact eL7
        have T8 : TS H7 (upd (upd H7 T (.tup [.str z, v])) L (.lst (ws ++ [.ref T]))) := (TS.new nT).trans (TS.put eL8 fun _ z => by cases z)
        refine ⟨_, tb ++ [(z, f)], ws ++ [.ref T], rfl, ?_, fun p hp => ?_, ?_, ?_, ?_, ?_, upd_same, ?_⟩
        · rw [List.map_append, et, List.take_add_one, hz]
          rfl
        · rcases List.mem_append.mp hp with h | h
          · exact fo p h
          · rw [List.mem_singleton.mp h]
            exact ⟨df, by show f.mu ≤ 14 / n; omega⟩
        · exact (P7.new nT).keep (M := fun b => b = L) (Kp.put rfl) (fun z => hL z.symm) (fun z => by obtain ⟨_, _, _, _, E⟩ := P4; exact ne_of_none E.c nL z)
        · exact (k7.trans (Kp.new nT)).own (none_back k4 hL nL)
        · rw [upd_ne nDL, upd_ne nDT]; exact eD7
        · rw [upd_ne nSL, upd_ne nST]; exact eS7
        · rw [List.map_append]
          exact (rs7.ts T8).app (.cons (.tup (by rw [upd_ne nLT.symm]; exact upd_same) (.cons (.str (show z.length ≤ sizeLine by have := sub z mz; omega)) (.cons (rf.ts T8) .nil))) .nil)
      · rintro σ H6 ⟨y4, tb, ws, rfl, et, fo, P6, k6, eD, eS, eL, rs⟩
        rw [List.length_map] at et
        rw [List.take_length] at et
        have e0 : (NS n)[0]? = some (nmz 0) := by unfold NS; rw [List.getElem?_map, List.getElem?_range (by omega)]; rfl
        refine ⟨_, rfl, D, _, 0, .str (nmz 0), rfl, rfl, SqL.of eD, atI_nat (j := 0) (by rw [List.getElem?_map, e0]; rfl), _, rfl, L, ws, rfl, SqL.of eL, fun U o nU oc od => ?_⟩
        refine ⟨by show 2 ≤ sizeLine; omega, fun B nB => ?_⟩
        have nUB : U ≠ B := fun z => by rw [← z, upd_same] at nB; cases nB
        have T2 : TS H6 (upd (upd H6 U (.frz o (.tup ws))) B (.tup [.str (nmz 0), .ref U])) := (TS.new nU).trans (TS.new nB)
        refine q _ n tb _ ⟨n1, n12, by rw [et]; exact perm, fo⟩ ⟨B, U, ws, rfl, upd_same, ⟨o, by rw [upd_ne nUB]; exact upd_same, oc, od⟩, by rw [rs.len, List.length_map], fun i x hx => ?_⟩ ((P6.new nU).new nB) ((k6.trans (Kp.new nU)).trans (Kp.new nB))
        obtain ⟨dd, hd, rd⟩ := (rs.ts T2).get i x hx
        rw [List.getElem?_map] at hd
        obtain ⟨⟨z, f⟩, et2, rfl⟩ := Option.map_eq_some_iff.mp hd
        obtain ⟨p, us, rfl, ep, rp⟩ := Rp.tupE rd
        obtain ⟨u1, u2, rfl, q1, q2⟩ := rp.two
        obtain ⟨rfl, _⟩ := q1.strE
        exact ⟨z, f, p, u2, et2, rfl, ep, q2⟩
end
end RT

set_option maxHeartbeats 1000000
/-! the ring that the law puts in -/
namespace RT
open PySem PySem.Spec PyProof.Rows L2 LK
abbrev sRg : Stmt := topS 38
theorem scRg : FnScope ["_law_draws", "_law_book", "_law_here", "_law_ring", "_law_rows", "_law_at", "_law_name", "_law_form", "_law_more"] ["_law_draws", "_law_book"] (defScope sRg) := ⟨rfl, rfl, rfl, by decide +kernel, rfl, by decide +kernel, by decide +kernel⟩
theorem Rps.set {H : Hp} : ∀ {vs : List V} {ds : List D} {v : V} {d : D} (i : Nat), Rps H vs ds → Rp H v d → Rps H (vs.set i v) (ds.set i d)
  | _, _, _, _, _, .nil, _ => .nil
  | _, _, _, _, 0, .cons _ t, r => .cons r t
  | _, _, _, _, i + 1, .cons a t, r => .cons a (Rps.set i t r)
/-- rows, one by one -/
theorem rows_zs {H : Hp} : ∀ {vs : List V} {tb : List (Str × Fo)}, Rps H vs (tb.map rowD) → ∃ zs : List ((Addr × Str × Addr) × (Str × Fo)), vs = zs.map (fun q => V.ref q.1.1) ∧ tb = zs.map (·.2) ∧ ∀ q ∈ zs, q.1.2.1 = q.2.1 ∧ H q.1.1 = some (.tup [.str q.2.1, .ref q.1.2.2]) ∧ Rp H (.ref q.1.2.2) q.2.2.enc
  | _, [], r => by
    cases r
    exact ⟨[], rfl, rfl, fun _ h => nomatch h⟩
  | _, x :: tb, r => by
    cases r with
    | cons a t =>
      obtain ⟨zs, e1, e2, h⟩ := rows_zs t
      obtain ⟨p, us, rfl, ep, rp⟩ := Rp.tupE a
      obtain ⟨u1, u2, rfl, q1, q2⟩ := rp.two
      obtain ⟨rfl, _⟩ := q1.strE
      obtain ⟨ua, rfl⟩ := enc_ref q2
      refine ⟨((p, x.1, ua), x) :: zs, by rw [e1]; rfl, by rw [List.map_cons, ← e2], fun q hq => ?_⟩
      rcases List.mem_cons.mp hq with rfl | hq
      · exact ⟨rfl, ep, q2⟩
      · exact h q hq
theorem BkAt.rps {H : Hp} {ba rows : Addr} {ps : List V} {s0 : Str} {tb : List (Str × Fo)} (b : BkAt H ba rows ps s0 tb) (hl : ∀ x ∈ nsOf tb, x.length ≤ sizeLine) : Rps H ps (tb.map rowD) := by
  have go : ∀ (ps : List V) (tb : List (Str × Fo)), ps.length = tb.length → (∀ x ∈ nsOf tb, x.length ≤ sizeLine) → (∀ (i : Nat) (x : V), ps[i]? = some x → ∃ (n : Str) (f : Fo) (p : Addr) (u : V), tb[i]? = some (n, f) ∧ x = .ref p ∧ H p = some (.tup [.str n, u]) ∧ Rp H u f.enc) → Rps H ps (tb.map rowD) := by
    intro ps
    induction ps with
    | nil =>
      intro tb e _ _
      cases tb with
      | nil => exact .nil
      | cons _ _ => cases e
    | cons v ps ih =>
      intro tb e hn h
      cases tb with
      | nil => cases e
      | cons x tb =>
        obtain ⟨n, f, p, u, h1, h2, h3, h4⟩ := h 0 v rfl
        have h1 : x = (n, f) := Option.some.inj h1
        subst h1
        subst h2
        refine .cons (.tup h3 (.cons (.str (hn n (by simp))) (.cons h4 .nil))) (ih tb (by simpa using e) (fun y hy => hn y (by simp only [List.map_cons, List.mem_cons]; exact .inr hy)) fun i y hy => ?_)
        obtain ⟨n2, f2, p2, u2, g1, g2, g3, g4⟩ := h (i + 1) y (by simpa using hy)
        exact ⟨n2, f2, p2, u2, by simpa using g1, g2, g3, g4⟩
  exact go ps tb b.len hl b.row
section
variable {P : Program} {w : World} {K : PySem.W.Frag} {mg : Str → Option Value} {base : Heap}
def spRg : Sp := fun vs H Q _ => ∃ (pd pc : Addr) (v : V) (n : Nat) (tb : List (Str × Fo)), vs = [.ref pd, v] ∧ Pot H pd pc ∧ BkA H v (nmz 0) tb ∧ Wr n tb ∧ n < 12 ∧
  ∀ (v' : V) (tb' : List (Str × Fo)) (H' : Hp), Bx (nmz 0) tb' → BkA H' v' (nmz 0) tb' → Pot H' pd pc → Kp (PM pd) H H' → Q v' H'
theorem ok_rg {f fn : Addr} {fd fdn : FuncData} {k : Nat} (F : Fun K "_law_with_ring" "_law_with_ring" sRg f fd)
    (GN : FnOk P w K mg base CX0 k fn fdn ["_law_draws", "_law_many_here"] spNext) (kn : PySem.W.keepIn K (.ref fn) = true) (bn : Binds K fdn ["_law_draws", "_law_many_here"] []) (gn : mg "_law_next" = some (.ref fn))
    (mli : mg "list" = none) (ml : mg "len" = none) (mso : mg "sorted" = none) (mtu : mg "tuple" = none) :
    FnOk P w K mg base CX0 (k + 1) f fd ["_law_draws", "_law_book"] spRg := by
  refine F.ok scRg (fun vs H Q E h => ?_) (fun cdv A outer sh H vs Q E hr h => ?_)
  · obtain ⟨pd, pc, v, n, tb, rfl, _⟩ := h
    rfl
  · obtain ⟨pd, pc, v, n, tb, rfl, P0, bk, W, hn12, q⟩ := h
    refine ⟨_, (pss_cons (ps_set (i := 2) scRg.nd rfl (.inl rfl) (pe_tup (pa_cons pe_str (pa_cons pe_str pa_nil))))
      (pss_cons (ps_set (i := 3) scRg.nd rfl (.inl rfl) (pe_lst (pa_cons (pv 2) (pa_cons (pe_tup (pa_cons pe_str (pa_cons (pe_tup (pa_cons (pv 2) (pa_cons (pe_tup (pa_cons pe_str pa_nil)) pa_nil))) pa_nil))) (pa_cons (pe_tup (pa_cons pe_str (pa_cons (pe_tup (pa_cons (pe_tup (pa_cons pe_str (pa_cons pe_str pa_nil))) (pa_cons (pv 2) pa_nil))) pa_nil))) (pa_cons (pe_tup (pa_cons pe_str (pa_cons (pe_tup (pa_cons (pe_tup (pa_cons pe_str (pa_cons (pv 2) pa_nil))) (pa_cons (pe_tup (pa_cons pe_str (pa_cons (pv 2) pa_nil))) pa_nil))) pa_nil))) pa_nil))))))
      (pss_cons (ps_set (i := 4) scRg.nd rfl (.inl rfl) (pe_callTy call_list_of (by rfl) mli (by decide +kernel) (pa_cons (pe_ix ix_tup (pv 1) pe_int (fun _ _ => rfl)) pa_nil)))
      (pss_cons (ps_set (i := 5) scRg.nd rfl (.inl rfl) (pe_call GN hr (by rfl) gn kn bn .nil pass0 (pa_cons (pv 0) (pa_cons (pe_callB call_len_seq (by rfl) ml PySem.boot_len (pa_cons (pv 4) pa_nil)) pa_nil))))
      (pss_cons (ps_asg (pe_ix ix_list (pv 4) (pv 5) (fun _ _ => rfl)) (pg_tup rfl (pgs_cons (pg_name (i := 6) scRg.nd rfl (.inl rfl)) (pgs_cons (pg_name (i := 7) scRg.nd rfl (.inl rfl)) pgs_nil))))
      (pss_cons (ps_set (i := 8) scRg.nd rfl (.inl rfl) (pe_lst (pa_cons (pe_tup (pa_cons pe_str (pa_cons (pe_tup (pa_cons (pv 7) (pa_cons (pv 2) pa_nil))) pa_nil))) (pa_cons (pe_tup (pa_cons pe_str (pa_cons (pe_tup (pa_cons (pe_tup (pa_cons pe_str (pa_cons (pv 7) pa_nil))) (pa_cons (pe_tup (pa_cons pe_str (pa_cons (pv 2) pa_nil))) pa_nil))) pa_nil))) (pa_cons (pv 7) (pa_cons (pe_tup (pa_cons pe_str (pa_cons (pv 2) (pa_cons pe_non pa_nil)))) pa_nil))))))
      (pss_cons (ps_asg (pe_tup (pa_cons (pv 6) (pa_cons (pe_ix ix_list (pv 8) (pe_call GN hr (by rfl) gn kn bn .nil pass0 (pa_cons (pv 0) (pa_cons pe_int pa_nil))) (fun _ _ => rfl)) pa_nil))) (pg_sub (pv 4) (pv 5) set_list))
      (pss_one (ps_ret (pe_tup (pa_cons (pe_ix ix_tup (pv 1) pe_int (fun _ _ => rfl)) (pa_cons (pe_callTy cr_tupFz (by rfl) mtu (by decide +kernel) (pa_cons (pe_callB cr_sortRows (by rfl) mso (by decide +kernel) (pa_cons (pe_op op_cat (pv 4) (pe_lst (pa_cons (pe_tup (pa_cons pe_str (pa_cons (pe_ix ix_list (pv 3) (pe_call GN hr (by rfl) gn kn bn .nil pass0 (pa_cons (pv 0) (pa_cons pe_int pa_nil))) (fun _ _ => rfl)) pa_nil))) pa_nil))) pa_nil)) pa_nil)) pa_nil)))))))))))), ?_⟩
    have line : (3000 : Nat) < sizeLine := by rw [sizeLine_eq]; decide
    obtain ⟨ba, rows, ps, rfl, bk⟩ := bk
    have n1 := W.n1
    have lt := W.len
    have fzp : ∀ {H H' : Hp} {pd pc : Addr}, Pot H pd pc → Kp (PM pd) H H' → Fz H H' := fun P k => ⟨pts P k, fun b o vs e => k b _ (P.ne e fun _ z => by cases z) e⟩
    -- here
    refine litV_read (.tup [.str "named", .str "zz"]) (ρ := fun _ => .non) (by decide +kernel) (fun i m => by simp [LD.vars, LD.varss] at m) fun vh H1 rh k1 => ?_
    unfold gName
    dsimp only
    unfold tSeq tAsg
    dsimp only
    refine litVL_read [.var 2, .tup [.str "row", .tup [.var 2, .tup [.str "number"]]], .tup [.str "row", .tup [.tup [.str "text", .str "a"], .var 2]], .tup [.str "either", .tup [.tup [.str "a", .var 2], .tup [.str "b", .var 2]]]] (ρ := fun _ => hereF.enc) (by decide +kernel) (by decide) (fun i m => ?_) fun rl rvs H2 erl nrl rr k2 => ?_
    · have e : i = 2 := by
        simp [LD.vars, LD.varss] at m
        exact m
      subst e
      exact ⟨vh, rfl, rh⟩
    have rr : Rps H2 rvs (Fo.encs rings) := rr
    have k02 : Kp M0 H H2 := k1.trans k2
    have rh2 : Rp H2 vh hereF.enc := Rp.ts (ts0 k2) rh
    clear k1 rh k2
    have bk2 := bk.fz (fz0 k02)
    refine ⟨_, rfl, ba, _, 1, .ref rows, rfl, rfl, SqT.of bk2.eb, atI_nat (j := 1) rfl, rows, _, rfl, .inr bk2.sq, fun lr nlr => ?_⟩
    have C3 : Kp M0 H (upd H2 lr (.lst ps)) := k02.trans (Kp.new nlr)
    have P3 := P0.kp0 C3
    have bk3 := bk.fz (fz0 C3)
    have erl3 : upd H2 lr (.lst ps) rl = some (.lst rvs) := by rw [upd_ne (ne_of_none erl nlr)]; exact erl
    have rr3 := rr.ts (TS.new (o := .lst ps) nlr)
    have rh3 := rh2.ts (TS.new (o := .lst ps) nlr)
    have elr3 : upd H2 lr (.lst ps) lr = some (.lst ps) := upd_same
    have nlr0 : H lr = none := none_back k02 (fun z => z) nlr
    have nlrl : rl ≠ lr := ne_of_none erl nlr
    generalize upd H2 lr (.lst ps) = H3 at C3 P3 bk3 erl3 rr3 rh3 elr3 ⊢
    have lp := bk3.len
    refine ⟨_, rfl, _, rfl, lr, ps, rfl, .inl (SqL.of elr3), pd, pc, _, rfl, P3, by omega, by omega, fun d H4 ld P4 k4 => ?_⟩
    have ld : d < ps.length := by omega
    have k04 : Kp (PM pd) H H4 := (kpm C3).trans k4
    have bk4 := bk3.fz (fzp P3 k4)
    have elr4 := k4 _ _ (P3.ne elr3 fun _ z => by cases z) elr3
    have erl4 := k4 _ _ (P3.ne erl3 fun _ z => by cases z) erl3
    have rr4 := rr3.ts (pts P3 k4)
    have rh4 := rh3.ts (pts P3 k4)
    clear k4 bk3 elr3 erl3 rr3 rh3 C3
    have hx : ps[d]? = some (ps[d]'ld) := List.getElem?_eq_getElem ld
    obtain ⟨z, f, p, u, hb, ex, ep, ru⟩ := bk4.row d _ hx
    obtain ⟨ua, rfl⟩ := enc_ref ru
    rw [ex] at hx
    refine ⟨_, rfl, _, rfl, lr, ps, (d : Int), .ref p, rfl, rfl, SqL.of elr4, atI_nat hx, ?_⟩
    refine ⟨p, _, rfl, SqT.of ep, rfl, _, _, rfl, _, _, rfl, rfl, ?_⟩
    dsimp only
    refine litVL_read [.tup [.str "row", .tup [.var 7, .var 2]], .tup [.str "either", .tup [.tup [.str "a", .var 7], .tup [.str "b", .var 2]]], .var 7, .tup [.str "again", .var 2, .non]] (ρ := fun i => if i = 7 then f.enc else hereF.enc) (by decide +kernel) (by decide) (fun i m => ?_) fun ml mvs H5 eml nml rm k5 => ?_
    · have e : i = 7 ∨ i = 2 := by
        simp [LD.vars, LD.varss] at m
        omega
      rcases e with rfl | rfl
      · exact ⟨.ref ua, rfl, ru⟩
      · exact ⟨vh, rfl, rh4⟩
    have rm : Rps H5 mvs (Fo.encs (mores f)) := rm
    have P5 := P4.kp0 k5
    have k05 : Kp (PM pd) H H5 := k04.trans (kpm k5)
    have bk5 := bk4.fz (fz0 k5)
    have elr5 := k5 _ _ (fun z => z) elr4
    have erl5 := k5 _ _ (fun z => z) erl4
    have rr5 := rr4.ts (ts0 k5)
    clear k5 k04 P4 bk4 elr4 erl4 rr4 rh4 ru ep rr rh2
    refine ⟨_, rfl, _, rfl, _, rfl, pd, pc, 4, rfl, P5, by decide, by decide, fun e H6 le P6 k6 => ?_⟩
    have le : e < 4 := by omega
    have lm : mvs.length = 4 := by rw [rm.len]; rfl
    have k06 : Kp (PM pd) H H6 := k05.trans k6
    have bk6 := bk5.fz (fzp P5 k6)
    have elr6 := k6 _ _ (P5.ne elr5 fun _ z => by cases z) elr5
    have erl6 := k6 _ _ (P5.ne erl5 fun _ z => by cases z) erl5
    have eml6 := k6 _ _ (P5.ne eml fun _ z => by cases z) eml
    have rr6 := rr5.ts (pts P5 k6)
    have rm6 := rm.ts (pts P5 k6)
    clear k6 k05 P5 bk5 elr5 erl5 rr5 eml rm
    have hmv : mvs[e]? = some (mvs[e]'(by omega)) := List.getElem?_eq_getElem (by omega)
    obtain ⟨dd, hd, rmv⟩ := rm6.get e _ hmv
    rw [encs_map, List.getElem?_map] at hd
    obtain ⟨f', ef', rfl⟩ := Option.map_eq_some_iff.mp hd
    have mf' := List.mem_of_getElem? ef'
    refine ⟨ml, mvs, (e : Int), _, rfl, rfl, SqL.of eml6, atI_nat hmv, by show 2 ≤ sizeLine; omega, fun t nt => ?_⟩
    have hlr6 := P6.ne elr6 fun _ z => by cases z
    have zin : z ∈ nsOf tb := List.mem_map.mpr ⟨_, List.mem_of_getElem? hb, rfl⟩
    have lens : ∀ x ∈ nsOf tb, x.length ≤ sizeLine := fun x hx => by have := W.bx.len x hx; omega
    have nlt : lr ≠ t := ne_of_none elr6 nt
    have nrt : rl ≠ t := ne_of_none erl6 nt
    refine ⟨_, rfl, _, rfl, lr, ps, (d : Int), d, rfl, rfl, by rw [upd_ne nlt]; exact elr6, by unfold ixN; rw [if_pos (by omega), if_pos (by omega)]; rfl, ?_⟩
    have e7 : upd H6 t (.tup [.str z, mvs[e]'(by omega)]) lr = some (.lst ps) := by rw [upd_ne nlt]; exact elr6
    have T8 : TS H6 (upd (upd H6 t (.tup [.str z, mvs[e]'(by omega)])) lr (.lst (ps.set d (.ref t)))) := (TS.new nt).trans (TS.put e7 fun _ z => by cases z)
    have rp8 : Rps (upd (upd H6 t (.tup [.str z, mvs[e]'(by omega)])) lr (.lst (ps.set d (.ref t)))) (ps.set d (.ref t)) ((tb.set d (z, f')).map rowD) := by
      rw [List.map_set]
      exact ((bk6.rps lens).ts T8).set d (.tup (by rw [upd_ne nlt.symm]; exact upd_same) (.cons (.str (lens z zin)) (.cons (rmv.ts T8) .nil)))
    have P8 : Pot (upd (upd H6 t (.tup [.str z, mvs[e]'(by omega)])) lr (.lst (ps.set d (.ref t)))) pd pc := by
      have P7 := P6.new (o := .tup [.str z, mvs[e]'(by omega)]) nt
      refine P7.keep (M := fun b => b = lr) (Kp.put rfl) (fun h => hlr6 h.symm) fun h => ?_
      obtain ⟨_, _, _, _, E⟩ := P0
      exact ne_of_none E.c nlr0 h
    have k08 : Kp (PM pd) H (upd (upd H6 t (.tup [.str z, mvs[e]'(by omega)])) lr (.lst (ps.set d (.ref t)))) := (k06.trans (Kp.new nt)).own nlr0
    have elr8 : upd (upd H6 t (.tup [.str z, mvs[e]'(by omega)])) lr (.lst (ps.set d (.ref t))) lr = some (.lst (ps.set d (.ref t))) := upd_same
    have erl8 : upd (upd H6 t (.tup [.str z, mvs[e]'(by omega)])) lr (.lst (ps.set d (.ref t))) rl = some (.lst rvs) := by rw [upd_ne nlrl, upd_ne nrt]; exact erl6
    have eb8 := T8 _ _ bk6.eb
    have rr8 := rr6.ts T8
    generalize upd (upd H6 t (.tup [.str z, mvs[e]'(by omega)])) lr (.lst (ps.set d (.ref t))) = H8 at rp8 P8 k08 elr8 erl8 eb8 rr8 ⊢
    clear T8 e7 nlt nrt nt k06 P6 bk6 elr6 erl6 eml6 rr6 rm6 hlr6
    refine ⟨_, rfl, ba, _, 0, .str (nmz 0), rfl, rfl, SqT.of eb8, atI_nat (j := 0) rfl, _, rfl, _, rfl, _, rfl, pd, pc, 4, rfl, P8, by decide, by decide, fun e2 H9 le2 P9 k9 => ?_⟩
    have le2 : e2 < 4 := by omega
    have lr4 : rvs.length = 4 := by rw [rr8.len]; rfl
    have k09 : Kp (PM pd) H H9 := k08.trans k9
    have elr9 := k9 _ _ (P8.ne elr8 fun _ z => by cases z) elr8
    have erl9 := k9 _ _ (P8.ne erl8 fun _ z => by cases z) erl8
    have rr9 := rr8.ts (pts P8 k9)
    have rp9 := rp8.ts (pts P8 k9)
    clear k9 k08 P8 elr8 erl8 rr8 rp8
    have hrv : rvs[e2]? = some (rvs[e2]'(by omega)) := List.getElem?_eq_getElem (by omega)
    obtain ⟨dd, hd, rrv⟩ := rr9.get e2 _ hrv
    rw [encs_map, List.getElem?_map] at hd
    obtain ⟨g, eg, rfl⟩ := Option.map_eq_some_iff.mp hd
    have mg' := List.mem_of_getElem? eg
    refine ⟨rl, rvs, (e2 : Int), _, rfl, rfl, SqL.of erl9, atI_nat hrv, by show 2 ≤ sizeLine; omega, fun t2 nt2 => ?_⟩
    refine ⟨by show 1 ≤ sizeLine; omega, fun l2 nl2 => ?_⟩
    have n1t : lr ≠ t2 := ne_of_none elr9 nt2
    have e10 : upd H9 t2 (.tup [.str "zz", rvs[e2]'(by omega)]) lr = some (.lst (ps.set d (.ref t))) := by rw [upd_ne n1t]; exact elr9
    have n1l : lr ≠ l2 := ne_of_none e10 nl2
    have T11 : TS H9 (upd (upd H9 t2 (.tup [.str "zz", rvs[e2]'(by omega)])) l2 (.lst [.ref t2])) := (TS.new nt2).trans (TS.new nl2)
    have nt2l : t2 ≠ l2 := fun z => by rw [← z, upd_same] at nl2; cases nl2
    refine ⟨lr, l2, _, _, rfl, rfl, by rw [upd_ne n1l]; exact e10, upd_same, by rw [List.length_set]; show ps.length + 1 ≤ sizeLine; omega, fun l3 nl3 => ?_⟩
    have rp11 : Rps (upd (upd H9 t2 (.tup [.str "zz", rvs[e2]'(by omega)])) l2 (.lst [.ref t2])) (ps.set d (.ref t) ++ [.ref t2]) ((tb.set d (z, f') ++ [(("zz" : Str), g)]).map rowD) := by
      rw [List.map_append]
      exact (rp9.ts T11).app (.cons (.tup (by rw [upd_ne nt2l]; exact upd_same) (.cons (.str (by show ("zz" : Str).length ≤ sizeLine; rw [show ("zz" : Str).length = 2 from by decide +kernel]; omega)) (.cons (rrv.ts T11) .nil))) .nil)
    have k11 : Kp (PM pd) H (upd (upd H9 t2 (.tup [.str "zz", rvs[e2]'(by omega)])) l2 (.lst [.ref t2])) := (k09.trans (Kp.new nt2)).trans (Kp.new nl2)
    have P11 := (P9.new (o := .tup [.str "zz", rvs[e2]'(by omega)]) nt2).new (o := .lst [.ref t2]) nl2
    generalize upd (upd H9 t2 (.tup [.str "zz", rvs[e2]'(by omega)])) l2 (.lst [.ref t2]) = H11 at rp11 k11 P11 nl3 ⊢
    clear T11 e10 n1t n1l nt2l nl2 nt2 P9 k09 elr9 erl9 rr9 rp9
    obtain ⟨zs, ev, etb, hz⟩ := rows_zs rp11
    rw [ev]
    have ntb : ((tb.set d (z, f') ++ [(("zz" : Str), g)]).map (·.1)).Nodup := (W.ring hn12 hb mf' mg' (List.Perm.refl _)).q.nd
    refine ⟨l3, zs.map (·.1), rfl, SqL.of (by rw [upd_same, List.map_map]; rfl), ?_, fun r hr => ?_, fun ys l4 py nl4 => ?_⟩
    · have : (zs.map (·.1)).map (·.2.1) = (tb.set d (z, f') ++ [(("zz" : Str), g)]).map (·.1) := by
        rw [etb, List.map_map, List.map_map]
        exact List.map_congr_left fun q hq => (hz q hq).1
      rw [this]
      exact ntb
    · obtain ⟨q0, hq, rfl⟩ := List.mem_map.mp hr
      obtain ⟨h1, h2, h3⟩ := hz q0 hq
      rw [upd_ne (ne_of_none h2 nl3), h2, h1]
    obtain ⟨zs2, pz, rfl⟩ := perm_pre (fun q : (Addr × Str × Addr) × (Str × Fo) => q.1) py zs rfl
    refine ⟨l4, _, rfl, SqL.of upd_same, fun U o nU oc od => ?_⟩
    refine ⟨by show 2 ≤ sizeLine; omega, fun B nB => ?_⟩
    have nUB : U ≠ B := fun z => by rw [← z, upd_same] at nB; cases nB
    have pt : (zs2.map (·.2)).Perm (tb.set d (z, f') ++ [(("zz" : Str), g)]) := by
      rw [etb]
      exact pz.map _
    refine q _ (zs2.map (·.2)) _ (W.ring hn12 hb mf' mg' pt) ⟨B, U, _, rfl, upd_same, ⟨o, by rw [upd_ne nUB]; exact upd_same, oc, od⟩, by simp, fun i x hx => ?_⟩ ((((P11.new nl3).new nl4).new nU).new nB) ((((k11.trans (Kp.new nl3)).trans (Kp.new nl4)).trans (Kp.new nU)).trans (Kp.new nB))
    rw [List.map_map, List.getElem?_map] at hx
    obtain ⟨q0, hq, rfl⟩ := Option.map_eq_some_iff.mp hx
    obtain ⟨h1, h2, h3⟩ := hz q0 (pz.mem_iff.mp (List.mem_of_getElem? hq))
    have T : TS H11 (upd (upd (upd (upd H11 l3 (.lst (zs.map fun q => V.ref q.1.1))) l4 (.lst ((zs2.map (·.1)).map fun t => V.ref t.1))) U (.frz o (.tup ((zs2.map (·.1)).map fun t => V.ref t.1)))) B (.tup [.str (nmz 0), .ref U])) := (((TS.new nl3).trans (TS.new nl4)).trans (TS.new nU)).trans (TS.new nB)
    exact ⟨q0.2.1, q0.2.2, q0.1.1, .ref q0.1.2.2, by rw [List.getElem?_map, hq]; rfl, rfl, T _ _ h2, h3.ts T⟩
end
end RT

set_option maxHeartbeats 1000000
/-! alike, and the names without a text -/
namespace RT
open PySem PySem.Spec PyProof.Rows L2 LK
abbrev sSm : Stmt := topS 34
abbrev sEn : Stmt := topS 14
theorem scSm : FnScope ["_law_one", "_law_due", "_law_mine", "_law_other"] ["_law_one", "_law_due"] (defScope sSm) := ⟨rfl, rfl, rfl, by decide +kernel, rfl, by decide +kernel, by decide +kernel⟩
theorem scEn : FnScope ["book", "leasts", "name"] ["book"] (defScope sEn) := ⟨rfl, rfl, rfl, by decide +kernel, rfl, by decide +kernel, by decide +kernel⟩
/-- texts and tuples of such, so deep at most -/
def SD : Nat → D → Prop
  | 0, _ => False
  | n + 1, d => (∃ z, d = .str z) ∨ ∃ ds, d = .tup ds ∧ ds.length ≤ 1000 ∧ ∀ x ∈ ds, SD n x
/-- a comprehension over a zip of two tuples -/
theorem lc_zipT {K : PySem.W.Frag} {a b : Addr} {xs ys : List V} {g : TG} {tt : TT} {te : TE} {vs : List Nat} {σ : L2.St} {H1 : Hp} {D : Addr} {Qd : Hp → Prop} (hl2 : xs.length = ys.length) (Pv : Nat → Hp → Prop) (h0 : Pv 0 (upd H1 D (.lst []))) (hl : ∀ i H, Pv i H → SqT K H a xs ∧ SqT K H b ys)
    (hs : ∀ i x y H T, xs[i]? = some x → ys[i]? = some y → Pv i H → H T = none → g (.ref T) (wipe σ vs) (upd H T (.tup [x, y])) fun σ2 H2 => wipe σ2 vs = wipe σ vs ∧ tt σ2 H2 fun b H3 =>
      if b = true then te σ2 H3 fun y H4 => ∃ acc, H4 D = some (.lst acc) ∧ acc.length < sizeLine ∧ Pv (i + 1) (upd H4 D (.lst (acc ++ [y]))) else Pv (i + 1) H3) (hd : ∀ H, Pv xs.length H → Qd H) :
    ∃ W : Nat → Nat → Hp → Prop, (∃ m, W 0 m (upd H1 D (.lst []))) ∧ ∀ i m H, W i m H →
      ((RZ.ItzT K a b).stop i H ∧ Qd H) ∨ ((RZ.ItzT K a b).go i H ∧ ∃ Nx : Hp → Prop, (∀ H', Nx H' → ∃ m', m' < m ∧ W (i + 1) m' H') ∧ ∀ x H', (RZ.ItzT K a b).yld i H x H' → g x (wipe σ vs) H' fun σ2 H2 => wipe σ2 vs = wipe σ vs ∧ tt σ2 H2 fun b H3 =>
        if b = true then te σ2 H3 fun y H4 => ∃ acc, H4 D = some (.lst acc) ∧ acc.length < sizeLine ∧ Nx (upd H4 D (.lst (acc ++ [y]))) else Nx H3) := by
  refine ⟨fun i m H => m = xs.length - i ∧ i ≤ xs.length ∧ Pv i H, ⟨xs.length, by simp, Nat.zero_le _, h0⟩, ?_⟩
  rintro i m H ⟨rfl, hi, p⟩
  obtain ⟨qx, qy⟩ := hl i H p
  by_cases lt : i < xs.length
  · refine .inr ⟨⟨xs, ys, xs[i], ys[i]'(by omega), qx, qy, by simp [lt], by simp⟩, Pv (i + 1), fun H' p' => ⟨xs.length - (i + 1), by omega, rfl, lt, p'⟩, fun v H' yy => ?_⟩
    obtain ⟨T, x', y', rfl, nT, rfl, f1, f2⟩ := yy
    exact hs i x' y' H T (f1 xs qx) (f2 ys qy) p nT
  · have e : i = xs.length := by omega
    subst e
    exact .inl ⟨⟨xs, ys, qx, qy, .inl (Nat.le_refl _)⟩, hd H p⟩
section
variable {P : Program} {w : World} {K : PySem.W.Frag} {mg : Str → Option Value} {base : Heap}
def spSame (n : Nat) : Sp := fun vs H Q _ => ∃ (v u : V) (d : D), vs = [v, u] ∧ Rp H v d ∧ Rp H u d ∧ SD n d ∧ ∀ H', Kp M0 H H' → Q (.bl true) H'
theorem none_sm {f : Addr} {fd : FuncData} {k : Nat} : FnOk P w K mg base CX0 k f fd ["_law_one", "_law_due"] (spSame 0) :=
  ⟨fun vs H Q E h => by obtain ⟨_, _, _, _, _, _, h, _⟩ := h; exact h.elim, fun A outer s H args us vs Q E _ _ _ _ h => by obtain ⟨_, _, _, _, _, _, h, _⟩ := h; exact h.elim⟩
theorem ok_sm {n : Nat} {f fr : Addr} {fd fdr : FuncData} {k : Nat} (F : Fun K "_law_same" "_law_same" sSm f fd) (GR : FnOk P w K mg base CX0 k fr fdr ["_law_one", "_law_due"] (spSame n)) (kr : PySem.W.keepIn K (.ref fr) = true) (br : Binds K fdr ["_law_one", "_law_due"] []) (gr : mg "_law_same" = some (.ref fr))
    (mi : mg "isinstance" = none) (mtu : mg "tuple" = none) (ms : mg "str" = none) (mint : mg "int" = none) (mbool : mg "bool" = none) (ml : mg "len" = none) (mz : mg "zip" = none) (mall : mg "all" = none) : FnOk P w K mg base CX0 (k + 1) f fd ["_law_one", "_law_due"] (spSame (n + 1)) := by
  refine F.ok scSm (fun vs H Q E h => ?_) (fun cdv A outer sh H vs Q E hr h => ?_)
  · obtain ⟨v, u, d, rfl, _⟩ := h
    rfl
  · obtain ⟨v, u, d, rfl, rv, ru, sd, q⟩ := h
    refine ⟨_, (pss_cons (ps_if (pt_cmpR op_isN (pv 1) pe_non (nomark _)) (pss_one (ps_ret (pe_cmpR op_isN (pv 0) pe_non (nomark _)))) pss_nil)
      (pss_cons (ps_if (pt_val (pe_callB call_isi (by rfl) mi (by decide +kernel) (pa_cons (pv 1) (pa_cons (pe_bltn (v := .ty "tuple") (by rfl) mtu (by decide +kernel) rfl) pa_nil)))) (pss_one (ps_ret (pe_and (pe_callB call_isi (by rfl) mi (by decide +kernel) (pa_cons (pv 0) (pa_cons (pe_bltn (v := .ty "tuple") (by rfl) mtu (by decide +kernel) rfl) pa_nil))) (pe_and (pe_cmpR op_eq (pe_callB call_len_seq (by rfl) ml PySem.boot_len (pa_cons (pv 0) pa_nil)) (pe_callB call_len_seq (by rfl) ml PySem.boot_len (pa_cons (pv 1) pa_nil)) (nomark _)) (pe_one (pe_callB (cr_all rfl) (by rfl) mall (by decide +kernel) (pa_cons (pe_lc (own := [("_law_mine", 2), ("_law_other", 3)]) (g := gTup K 2 (gCons (gName 2) (gCons (gName 3) gNil))) (tt := tYes) rfl scSm.nd (RZ.pi_zipA (by rfl) mz (pa_cons (pv 0) (pa_cons (pv 1) pa_nil))) (blkOk_by (N := ["_law_one", "_law_due", "_law_mine", "_law_other"]) (sc := defScope sSm) (by decide +kernel)) (fun _ _ _ _ _ => (pg_tup rfl (pgs_cons (pg_name (i := 2) scSm.nd rfl (.inl rfl)) (pgs_cons (pg_name (i := 3) scSm.nd rfl (.inl rfl)) pgs_nil)))) (fun _ _ _ _ _ => pts_nil) (fun _ _ _ _ _ => (pe_call GR hr (by rfl) gr kr br .nil pass0 (pa_cons (pv 2) (pa_cons (pv 3) pa_nil))))) pa_nil))))))) pss_nil)
      (pss_cons (ps_if (pt_val (pe_callB call_isi (by rfl) mi (by decide +kernel) (pa_cons (pv 1) (pa_cons (pe_bltn (v := .ty "str") (by rfl) ms (by decide +kernel) rfl) pa_nil)))) (pss_one (ps_ret (pe_and (pe_callB call_isi (by rfl) mi (by decide +kernel) (pa_cons (pv 0) (pa_cons (pe_bltn (v := .ty "str") (by rfl) ms (by decide +kernel) rfl) pa_nil))) (pe_one (pe_cmpR op_eq (pv 0) (pv 1) (nomark _)))))) pss_nil)
      (pss_one (ps_ret (pe_and (pe_callB call_isi (by rfl) mi (by decide +kernel) (pa_cons (pv 0) (pa_cons (pe_bltn (v := .ty "int") (by rfl) mint (by decide +kernel) rfl) pa_nil))) (pe_and (pe_not (pe_callB call_isi (by rfl) mi (by decide +kernel) (pa_cons (pv 0) (pa_cons (pe_bltn (v := .ty "bool") (by rfl) mbool (by decide +kernel) rfl) pa_nil)))) (pe_one (pe_cmpR op_eq (pv 0) (pv 1) (nomark _)))))))))), ?_⟩
    rcases sd with ⟨z, rfl⟩ | ⟨ds, rfl, lds, sds⟩
    · obtain ⟨rfl, _⟩ := rv.strE
      obtain ⟨rfl, lz⟩ := ru.strE
      refine ⟨_, rfl, rfl, _, rfl, iteF' (decide_eq_false fun z => by cases z) ?_⟩
      refine ⟨_, rfl, _, .ty "tuple", .type "str", .type "tuple", false, rfl, .ty _, .base (.str z), kit_ty (by decide +kernel), false, rfl, iteF ?_⟩
      refine ⟨_, rfl, _, .ty "str", .type "str", .type "str", true, rfl, .ty _, .base (.str z), kit_ty (by decide +kernel), true, rfl, iteT ?_⟩
      refine ⟨_, rfl, _, .ty "str", .type "str", .type "str", true, rfl, .ty _, .base (.str z), kit_ty (by decide +kernel), true, rfl, iteT ?_⟩
      refine ⟨_, rfl, _, rfl, rfl, ?_⟩
      rw [decide_eq_true rfl]
      exact q H Kp.refl
    · obtain ⟨a, vs, rfl, ea, ra⟩ := Rp.tupE rv
      obtain ⟨b, us, rfl, eb, rb⟩ := Rp.tupE ru
      have l1 := ra.len
      have l2 := rb.len
      have line : vs.length < sizeLine := by rw [sizeLine_eq, l1]; exact Nat.lt_of_le_of_lt lds (by decide)
      refine ⟨_, rfl, rfl, _, rfl, iteF' (decide_eq_false fun z => by cases z) ?_⟩
      refine ⟨_, rfl, _, .ty "tuple", .type "tuple", .type "tuple", true, rfl, .ty _, .base (.tup eb), kit_ty (by decide +kernel), true, rfl, iteT ?_⟩
      refine ⟨_, rfl, _, .ty "tuple", .type "tuple", .type "tuple", true, rfl, .ty _, .base (.tup ea), kit_ty (by decide +kernel), true, rfl, iteT ?_⟩
      refine ⟨_, rfl, a, vs, rfl, .inr (SqT.of ea), _, rfl, b, us, rfl, .inr (SqT.of eb), rfl, _, rfl, iteT' (decide_eq_true (by rw [l1, l2])) ?_⟩
      refine ⟨_, rfl, _, rfl, a, b, vs, us, rfl, .inr ⟨SqT.of ea, SqT.of eb, fun D nD => ?_⟩⟩
      refine lc_zipT (xs := vs) (ys := us) (by omega) (fun i H4 => Kp M0 H H4 ∧ H4 D = some (.lst ((List.replicate i true).map V.bl)) ∧ i ≤ vs.length) ?_ ?_ ?_ ?_
      · exact ⟨Kp.new nD, upd_same, Nat.zero_le _⟩
      · exact fun i H4 h => ⟨SqT.of (h.1 _ _ (fun z => z) ea), SqT.of (h.1 _ _ (fun z => z) eb)⟩
      · rintro i x y H4 T hx hy ⟨k4, eD, li⟩ nT
        have hi := (List.getElem?_eq_some_iff.mp hx).1
        obtain ⟨d1, e1, r1⟩ := ra.get i x hx
        obtain ⟨d2, e2, r2⟩ := rb.get i y hy
        rw [e1] at e2
        cases e2
        have k5 : Kp M0 H (upd H4 T (.tup [x, y])) := k4.trans (Kp.new nT)
        have eD5 : upd H4 T (.tup [x, y]) D = some (.lst ((List.replicate i true).map V.bl)) := by rw [upd_ne (ne_of_none eD nT)]; exact eD
        have eT : upd H4 T (.tup [x, y]) T = some (.tup [x, y]) := upd_same
        generalize upd H4 T (.tup [x, y]) = H5 at k5 eD5 eT ⊢
        refine ⟨T, _, rfl, SqT.of eT, rfl, _, _, rfl, _, _, rfl, rfl, rfl, tYes_ok (iteT ⟨_, rfl, _, rfl, x, y, d1, rfl, r1.ts (ts0 k5), r2.ts (ts0 k5), sds d1 (List.mem_of_getElem? e1), fun H6 k6 => ?_⟩)⟩
        refine ⟨_, k6 _ _ (fun z => z) eD5, by rw [List.length_map, List.length_replicate]; omega, (k5.trans k6).own nD, ?_, by omega⟩
        rw [upd_same, List.replicate_succ', List.map_append]
        rfl
      · rintro H4 ⟨k4, eD, _⟩
        refine ⟨D, List.replicate vs.length true, rfl, SqL.of eD, ?_⟩
        rw [show (List.replicate vs.length true).all id = true by simp]
        exact q H4 k4
def spEn (T : List (Addr × Str)) : Sp := fun vs H Q _ => ∃ (v : V) (s0 : Str) (tb : List (Str × Fo)), vs = [v] ∧ BkA H v s0 tb ∧ Bx s0 tb ∧ LamX.Tabs T H ∧
  ∀ (ys : List Str) (l : Addr) (H' : Hp), sortedS ys = true → ys.Nodup → (∀ x, x ∈ ys ↔ Reach tb s0 x) → H' l = some (.tup ((ys.filter fun x => (KK tb tb.length x).isNone).map V.str)) → (∀ x, KK tb 40 x = KK tb tb.length x) → LamX.ExtN H H' → LamX.Tabs T H' → Q (.ref l) H'
theorem ok_en {T : List (Addr × Str)} {f fl ft fm : Addr} {fd fdl fdt fdm : FuncData} {k : Nat} (F : Fun K "endless" "endless" sEn f fd) (GLt : FnOk P w K mg base CX0 k fl fdl ["table"] (fun vs H Q E => ∃ N, spLt T N vs H Q E)) (klt : PySem.W.keepIn K (.ref fl) = true) (blt : Binds K fdl ["table"] []) (glt : mg "least_texts" = some (.ref fl))
    (GTab : FnOk P w K mg base CX0 k ft fdt ["book"] spTab) (ktab : PySem.W.keepIn K (.ref ft) = true) (btab : Binds K fdt ["book"] []) (gtab : mg "form_table" = some (.ref ft))
    (GMe : FnOk P w K mg base CX0 k fm fdm ["book"] (fun vs H Q E => ∃ N, spMet K N vs H Q E)) (kme : PySem.W.keepIn K (.ref fm) = true) (bme : Binds K fdm ["book"] []) (gme : mg "names_met" = some (.ref fm)) (mtu : mg "tuple" = none) :
    FnOk P w K mg base CX0 (k + 1) f fd ["book"] (spEn T) := by
  refine F.ok scEn (fun vs H Q E h => ?_) (fun cdv A outer sh H vs Q E hr h => ?_)
  · obtain ⟨v, s0, tb, rfl, _⟩ := h
    rfl
  · obtain ⟨v, s0, tb, rfl, hv, B, hT, q⟩ := h
    refine ⟨_, (pss_cons (ps_set (i := 1) scEn.nd rfl (.inr rfl) (pe_call GLt hr (by rfl) glt klt blt .nil pass0 (pa_cons (pe_call GTab hr (by rfl) gtab ktab btab .nil pass0 (pa_cons (pv 0) pa_nil)) pa_nil)))
      (pss_one (ps_ret (pe_callTy call_tuple_of (by rfl) mtu (by decide +kernel) (pa_cons (pe_lc (own := [("name", 2)]) (g := gName 2) rfl scEn.nd (pi_tup (pe_call GMe hr (by rfl) gme kme bme .nil pass0 (pa_cons (pv 0) pa_nil))) (blkOk_by (N := ["book", "leasts", "name"]) (sc := defScope sEn) (by decide +kernel)) (fun _ _ _ _ _ => (pg_name (i := 2) scEn.nd rfl (.inl rfl))) (fun _ _ _ _ _ => (pts_one (pt_cmp (pc_dnotin (hu_of hr) (pv 2) (pv 1))))) (fun _ _ _ _ _ => (pv 2))) pa_nil))))), ?_⟩
    obtain ⟨r, TB⟩ := B.r
    have few := TB.few
    refine ⟨_, rfl, v, s0, tb, rfl, hv, TB.nd, by omega, fun t H1 nt et k1 => ?_⟩
    refine ⟨nsOf tb, t, tb, r, rfl, et, TB, tabs_kp hT k1, fun d kvs H2 x2 T2 e2 KI fin => ?_⟩
    have x02 : LamX.ExtN H H2 := (ext_kp k1).trans x2
    have hv2 : BkA H2 v s0 tb := (hv.fz (fz0 k1)).fz ⟨fun b xs e => x2 b _ e (by intro _ z; cases z), fun b o xs e => x2 b _ e (by intro _ z; cases z)⟩
    refine ⟨_, rfl, nsOf tb, v, s0, tb, rfl, hv2, B.book, rfl, fun ys l H3 sy ny hy el k3 => ?_⟩
    have e3 : LsAt H3 d kvs := k3 _ _ (fun z => z) e2
    have ly := nodup_len ny (m := nsOf tb) fun x hx => by
      have go : ∀ {x}, Reach tb s0 x → x ∈ nsOf tb := fun {x} r => by
        induction r with
        | start => exact B.st
        | step _ hb hx _ => exact has_ok _ (B.q.ok _ _ hb).1 hx
      exact go ((hy x).mp hx)
    rw [List.length_map] at ly
    refine ⟨l, rfl, ⟨_, SqT.of el⟩, fun D nD => ?_⟩
    have kk : ∀ x, KK tb tb.length x = kvs.lookup x := KI.end_ TB.nd fin KI.len
    refine lc_tup (xs := ys.map V.str) (fun i H4 => Kp M0 H3 H4 ∧ H4 D = some (.lst (((ys.take i).filter fun x => (KK tb tb.length x).isNone).map V.str))) ?_ ?_ ?_ ?_
    · exact ⟨Kp.new nD, upd_same⟩
    · exact fun i H4 _ h => SqT.of (h.1 _ _ (fun z => z) el)
    · rintro i x H4 hx ⟨k4, e4⟩
      rw [List.getElem?_map] at hx
      obtain ⟨y, hy2, rfl⟩ := Option.map_eq_some_iff.mp hx
      have tk : ys.take (i + 1) = ys.take i ++ [y] := by rw [List.take_add_one, hy2]; rfl
      have e5 : LsAt H4 d kvs := k4 _ _ (fun z => z) e3
      refine ⟨rfl, _, rfl, _, rfl, d, _, rfl, DGet.k (k := .inr y) e5, ?_⟩
      rw [look_val]
      cases hl : kvs.lookup y with
      | none =>
        refine ⟨_, rfl, iteT' (by rfl) ⟨_, rfl, _, e4, ?_, k4.own nD, ?_⟩⟩
        · rw [List.length_map, sizeLine_eq]
          refine Nat.lt_of_le_of_lt (List.length_filter_le _ _) ?_
          rw [List.length_take]
          omega
        · rw [upd_same, tk, List.filter_append, List.map_append]
          simp [kk y, hl]
      | some z =>
        refine ⟨_, rfl, iteF' (by rfl) ⟨k4, ?_⟩⟩
        rw [tk, List.filter_append, e4]
        simp [kk y, hl]
    · rintro H4 ⟨k4, e4⟩
      rw [List.length_map, List.take_length] at e4
      refine ⟨D, _, rfl, .inl ⟨SqL.of e4, fun l2 nl2 => ?_⟩⟩
      exact q ys l2 _ sy ny hy upd_same (fun x => (KI.end_ TB.nd fin (j := 40) (by have := KI.len; omega) x).trans (kk x).symm) ((x02.trans (ext_kp (k3.trans k4))).trans (ext_new nl2)) (Tabs.new (tabs_kp T2 (k3.trans k4)) nl2)
end
end RT

set_option maxHeartbeats 1000000
/-! the law -/
namespace RT
open PySem PySem.Spec PyProof.Rows L2 LK
abbrev sLaw : Stmt := topS 39
theorem scLaw : FnScope ["_law_script", "_law_draws", "_law_turn", "_law_drawn_here", "_law_known", "_law_name", "_law_due"] ["_law_script"] (defScope sLaw) := ⟨rfl, rfl, rfl, by decide +kernel, rfl, by decide +kernel, by decide +kernel⟩
theorem le_of_ltCps {a b : Str} (h : (!ltCps b.cps.toList a.cps.toList) = true) : a.cps.toList ≤ b.cps.toList := by
  rw [ltCps_eq] at h
  refine List.not_lt.mp fun z => ?_
  rw [decide_eq_true z] at h
  cases h
theorem rising_pw : ∀ (p : Str) (l : List Str), risingS p l = true → (p :: l).Pairwise (fun a b => a.cps.toList ≤ b.cps.toList)
  | p, [], _ => List.pairwise_singleton ..
  | p, x :: r, h => by
    obtain ⟨h1, h2⟩ := Bool.and_eq_true_iff.mp (show (!ltCps x.cps.toList p.cps.toList && risingS x r) = true from h)
    have ih := rising_pw x r h2
    have px := le_of_ltCps h1
    refine List.pairwise_cons.mpr ⟨fun b hb => ?_, ih⟩
    rcases List.mem_cons.mp hb with e | e
    · rw [e]
      exact px
    · exact List.le_trans px (List.rel_of_pairwise_cons ih e)
theorem sorted_pw {l : List Str} (h : sortedS l = true) : l.Pairwise (fun a b => a.cps.toList ≤ b.cps.toList) := by
  cases l with
  | nil => exact .nil
  | cons p r => exact rising_pw p r h
theorem same_sorted {xs ys : List Str} {R : Str → Prop} (sx : sortedS xs = true) (nx : xs.Nodup) (hx : ∀ x, x ∈ xs ↔ R x) (sy : sortedS ys = true) (ny : ys.Nodup) (hy : ∀ x, x ∈ ys ↔ R x) : xs = ys := by
  have p : xs.Perm ys := (List.perm_ext_iff_of_nodup nx ny).mpr fun a => (hx a).trans (hy a).symm
  refine List.Perm.eq_of_pairwise (fun a b _ _ h1 h2 => ?_) (sorted_pw sx) (sorted_pw sy) p
  exact TL.ext_tl (List.le_antisymm h1 h2)
theorem reach_name {tb : List (Str × Fo)} {s0 : Str} (B : Bx s0 tb) {x : Str} (r : Reach tb s0 x) : x ∈ nsOf tb := by
  induction r with
  | start => exact B.st
  | step _ hb hx _ => exact has_ok _ (B.q.ok _ _ hb).1 hx
theorem rps_strs {H : Hp} : ∀ {ys : List Str}, (∀ y ∈ ys, y.length ≤ sizeLine) → Rps H (ys.map V.str) (ys.map D.str)
  | [], _ => .nil
  | y :: r, h => .cons (.str (h y List.mem_cons_self)) (rps_strs fun x hx => h x (List.mem_cons_of_mem _ hx))
section
variable {P : Program} {w : World} {K : PySem.W.Frag} {mg : Str → Option Value} {base : Heap}
def spLaw (T : List (Addr × Str)) (K : PySem.W.Frag) : Sp := fun vs H Q _ => ∃ (a : Addr) (ns : List Int), vs = [.ref a] ∧ SqL K H a (ns.map V.int) ∧ LamX.Tabs T H ∧ ∀ H', Q (.bl true) H'
theorem ok_law {T : List (Addr × Str)} {f fbe fwr frg flw flm fsm fen flx : Addr} {fd fdbe fdwr fdrg fdlw fdlm fdsm fden fdlx : FuncData} {k kbe0 kwr0 krg0 klw0 klm0 ksm0 ken0 klx0 : Nat} (F : Fun K "law" "law" sLaw f fd)
    (GBe : FnOk P w K mg base CX0 kbe0 fbe fdbe ["_law_script"] (spBegin K)) (kbe : PySem.W.keepIn K (.ref fbe) = true) (bbe : Binds K fdbe ["_law_script"] []) (gbe : mg "_law_begin" = some (.ref fbe)) (hBe : kbe0 ≤ k)
    (GWr : FnOk P w K mg base CX0 kwr0 fwr fdwr ["_law_draws"] (spWr)) (kwr : PySem.W.keepIn K (.ref fwr) = true) (bwr : Binds K fdwr ["_law_draws"] []) (gwr : mg "_law_written" = some (.ref fwr)) (hWr : kwr0 ≤ k)
    (GRg : FnOk P w K mg base CX0 krg0 frg fdrg ["_law_draws", "_law_book"] (spRg)) (krg : PySem.W.keepIn K (.ref frg) = true) (brg : Binds K fdrg ["_law_draws", "_law_book"] []) (grg : mg "_law_with_ring" = some (.ref frg)) (hRg : krg0 ≤ k)
    (GLw : FnOk P w K mg base CX0 klw0 flw fdlw ["_law_book"] (spLows)) (klw : PySem.W.keepIn K (.ref flw) = true) (blw : Binds K fdlw ["_law_book"] []) (glw : mg "_law_lows" = some (.ref flw)) (hLw : klw0 ≤ k)
    (GLm : FnOk P w K mg base CX0 klm0 flm fdlm ["_law_book"] (spLmet)) (klm : PySem.W.keepIn K (.ref flm) = true) (blm : Binds K fdlm ["_law_book"] []) (glm : mg "_law_met" = some (.ref flm)) (hLm : klm0 ≤ k)
    (GSm : FnOk P w K mg base CX0 ksm0 fsm fdsm ["_law_one", "_law_due"] (spSame 2)) (ksm : PySem.W.keepIn K (.ref fsm) = true) (bsm : Binds K fdsm ["_law_one", "_law_due"] []) (gsm : mg "_law_same" = some (.ref fsm)) (hSm : ksm0 ≤ k)
    (GEn : FnOk P w K mg base CX0 ken0 fen fden ["book"] (spEn T)) (ken : PySem.W.keepIn K (.ref fen) = true) (ben : Binds K fden ["book"] []) (gen : mg "endless" = some (.ref fen)) (hEn : ken0 ≤ k)
    (GLx : FnOk P w K mg base CX0 klx0 flx fdlx ["book", "name"] (fun vs H Q E => ∃ N, spLx T N vs H Q E)) (klx : PySem.W.keepIn K (.ref flx) = true) (blx : Binds K fdlx ["book", "name"] []) (glx : mg "least_text" = some (.ref flx)) (hLx : klx0 ≤ k)
    (mr : mg "range" = none) (mtu : mg "tuple" = none) (ml : mg "len" = none) :
    FnOk P w K mg base CX0 (k + 1) f fd ["_law_script"] (spLaw T K) := by
  refine F.ok scLaw (fun vs H Q E h => ?_) (fun cdv A outer sh H vs Q E hr h => ?_)
  · obtain ⟨a, ns, rfl, _⟩ := h
    rfl
  · obtain ⟨a, ns, rfl, hS, hT, q⟩ := h
    refine ⟨_, (pss_cons (ps_set (i := 1) scLaw.nd rfl (.inl rfl) (pe_call GBe (hr.mono hBe) (by rfl) gbe kbe bbe .nil pass0 (pa_cons (pv 0) pa_nil)))
      (pss_cons (ps_for PassesOwn.never rfl (pi_range1 (by rfl) mr (pa_cons pe_int pa_nil)) (pg_name (i := 2) scLaw.nd rfl (.inl rfl)) (pss_cons (ps_set (i := 3) scLaw.nd rfl (.inl rfl) (pe_call GWr (hr.mono hWr) (by rfl) gwr kwr bwr .nil pass0 (pa_cons (pv 1) pa_nil)))
      (pss_cons (ps_if (pt_cmpR op_lt (pe_callB call_len_seq (by rfl) ml PySem.boot_len (pa_cons (pe_ix ix_tup (pv 3) pe_int (fun _ _ => rfl)) pa_nil)) pe_int (nomark _)) (pss_one (ps_set (i := 3) scLaw.nd rfl (.inl rfl) (pe_call GRg (hr.mono hRg) (by rfl) grg krg brg .nil pass0 (pa_cons (pv 1) (pa_cons (pv 3) pa_nil))))) pss_nil)
      (pss_cons (ps_set (i := 4) scLaw.nd rfl (.inr rfl) (pe_call GLw (hr.mono hLw) (by rfl) glw klw blw .nil pass0 (pa_cons (pv 3) pa_nil)))
      (pss_cons (ps_set (i := 6) scLaw.nd rfl (.inl rfl) (pe_callTy call_tuple_of (by rfl) mtu (by decide +kernel) (pa_cons (pe_lc (own := [("_law_name", 5)]) (g := gName 5) rfl scLaw.nd (pi_list (pe_call GLm (hr.mono hLm) (by rfl) glm klm blm .nil pass0 (pa_cons (pv 3) pa_nil))) (blkOk_by (N := ["_law_script", "_law_draws", "_law_turn", "_law_drawn_here", "_law_known", "_law_name", "_law_due"]) (sc := defScope sLaw) (by decide +kernel)) (fun _ _ _ _ _ => (pg_name (i := 5) scLaw.nd rfl (.inl rfl))) (fun _ _ _ _ _ => (pts_one (pt_cmpR op_isN (pe_dget (hu_of hr) (pv 4) (pv 5) (fun _ _ => rfl)) pe_non (nomark _)))) (fun _ _ _ _ _ => (pv 5))) pa_nil)))
      (pss_cons (ps_if (PW.pt (pw_or (pt_not (pt_val (pe_call GSm (hr.mono hSm) (by rfl) gsm ksm bsm .nil pass0 (pa_cons (pe_call GEn (hr.mono hEn) (by rfl) gen ken ben .nil pass0 (pa_cons (pv 3) pa_nil)) (pa_cons (pv 6) pa_nil))))) (pw_or1 (pt_not (pt_val (pe_call GSm (hr.mono hSm) (by rfl) gsm ksm bsm .nil pass0 (pa_cons (pe_call GEn (hr.mono hEn) (by rfl) gen ken ben .nil pass0 (pa_cons (pv 3) pa_nil)) (pa_cons (pv 6) pa_nil)))))))) (pss_one (ps_ret pe_bl)) pss_nil)
      (pss_one (ps_for PassesOwn.never rfl (pi_list (pe_call GLm (hr.mono hLm) (by rfl) glm klm blm .nil pass0 (pa_cons (pv 3) pa_nil))) (pg_name (i := 5) scLaw.nd rfl (.inl rfl)) (pss_one (ps_if (pt_cmpR op_ne (pe_cmpR op_isN (pe_call GLx (hr.mono hLx) (by rfl) glx klx blx .nil pass0 (pa_cons (pv 3) (pa_cons (pv 5) pa_nil))) pe_non (nomark _)) (pe_cmpR op_in_seq (pv 5) (pv 6) (by rfl)) (nomark _)) (pss_one (ps_ret pe_bl)) pss_nil))))))))))
      (pss_one (ps_ret pe_bl)))), ?_⟩
    have line : (3000 : Nat) < sizeLine := by rw [sizeLine_eq]; decide
    refine ⟨_, rfl, a, ns, rfl, hS, fun pd pc H1 k1 P1 => ?_⟩
    refine ⟨6, rfl, by decide, by decide, for_range (n := 6) (fun i σ H2 => (∃ y2 y3 y4 y5 y6, σ = [some (.ref a), some (.ref pd), y2, y3, y4, y5, y6]) ∧ Pot H2 pd pc ∧ LamX.Tabs T H2) ?_ ?_ ?_⟩
    · exact ⟨⟨_, _, _, _, _, rfl⟩, P1, tabs_kp hT k1⟩
    · rintro i σ H2 hi ⟨⟨y2, y3, y4, y5, y6, rfl⟩, P2, T2⟩
      refine ⟨_, rfl, pd, pc, rfl, P2, fun v n tb H3 W bk P3 k3 => ?_⟩
      have T3 := tabs_pm P2 T2 k3
      dsimp only
      refine seq_split (fun σ' H' => ∃ (v : V) (tb : List (Str × Fo)) (y4 y5 y6 : Option V), σ' = [some (.ref a), some (.ref pd), some (.int ((0 : Int) + (i : Nat))), some v, y4, y5, y6] ∧ BkA H' v (nmz 0) tb ∧ Bx (nmz 0) tb ∧ Pot H' pd pc ∧ LamX.Tabs T H') ?_ (fun S => ?_)
      · rintro σ' H5 ⟨v, tb, y4, y5, y6, rfl, bk, B, P5, T5⟩
        refine ⟨_, rfl, v, nmz 0, tb, rfl, bk, B.q, fun d L H6 kn6 hL k6 => ?_⟩
        have bk6 := bk.fz (fz0 k6)
        have P6 := P5.kp0 k6
        have T6 := tabs_kp T5 k6
        refine ⟨_, rfl, v, nmz 0, tb, rfl, bk6, B.m, fun ys l H7 el sy ny hy k7 => ?_⟩
        have kn7 : KnI H7 d (nsOf tb) L := k7 _ _ (fun z => z) kn6
        have yin : ∀ y ∈ ys, y ∈ nsOf tb := fun y h => reach_name B ((hy y).mp h)
        have ly := nodup_len ny (m := nsOf tb) yin
        rw [List.length_map] at ly
        have few := B.q.few
        refine ⟨l, rfl, ⟨_, SqL.of el⟩, fun D nD => ?_⟩
        refine lc_list (K := K) (a := l) (xs := ys.map V.str) (fun t H8 => Kp M0 H7 H8 ∧ H8 D = some (.lst (((ys.take t).filter fun x => (KK tb tb.length x).isNone).map V.str))) ?_ ?_ ?_ ?_
        · exact ⟨Kp.new nD, upd_same⟩
        · exact fun t H8 _ h => SqL.of (h.1 _ _ (fun z => z) el)
        · rintro t x H8 hx ⟨k8, e8⟩
          rw [List.getElem?_map] at hx
          obtain ⟨y, hy2, rfl⟩ := Option.map_eq_some_iff.mp hx
          have yN := yin y (List.mem_of_getElem? hy2)
          have tk : ys.take (t + 1) = ys.take t ++ [y] := by rw [List.take_add_one, hy2]; rfl
          have kn8 : KnI H8 d (nsOf tb) L := k8 _ _ (fun z => z) kn7
          have dg : DGet H8 d (.str y) (some (oI (L y))) := by
            rw [← knI_val (L := L) yN]
            exact DGet.k (k := .inr y) kn8
          refine ⟨rfl, _, rfl, _, rfl, d, _, rfl, dg, rfl, _, rfl, ?_⟩
          have hk := hL y yN
          cases hl : L y with
          | none =>
            rw [hl] at hk
            have hn : (KK tb tb.length y).isNone = true := by cases h : KK tb tb.length y with | none => rfl | some z => rw [h] at hk; cases hk
            refine iteT' (by rfl) ⟨_, rfl, _, e8, ?_, k8.own nD, ?_⟩
            · rw [List.length_map]
              refine Nat.lt_of_le_of_lt (List.length_filter_le _ _) ?_
              rw [List.length_take]
              omega
            · rw [upd_same, tk, List.filter_append, List.map_append]
              simp only [List.filter_cons, hn, if_true, List.filter_nil, List.map_cons, List.map_nil]
          | some z =>
            rw [hl] at hk
            have hn : (KK tb tb.length y).isNone = false := by cases h : KK tb tb.length y with | none => rw [h] at hk; cases hk | some z => rfl
            refine iteF' (by rfl) ⟨k8, ?_⟩
            rw [tk, List.filter_append, e8]
            simp only [List.filter_cons, hn, List.filter_nil, List.append_nil, Bool.false_eq_true, if_false]
        · rintro H8 ⟨k8, e8⟩
          rw [List.length_map, List.take_length] at e8
          generalize hdl : (ys.filter fun x => (KK tb tb.length x).isNone) = dl at e8
          refine ⟨D, _, rfl, .inl ⟨SqL.of e8, fun du ndu => ?_⟩⟩
          have k69 : Kp M0 H6 (upd H8 du (.tup (dl.map V.str))) := (k7.trans k8).trans (Kp.new ndu)
          have edu : upd H8 du (.tup (dl.map V.str)) du = some (.tup (dl.map V.str)) := upd_same
          generalize upd H8 du (.tup (dl.map V.str)) = H9 at k69 edu ⊢
          have bk9 := bk6.fz (fz0 k69)
          have P9 := P6.kp0 k69
          have T9 := tabs_kp T6 k69
          have dlen : ∀ y ∈ dl, y.length ≤ sizeLine := fun y hm => by
            rw [← hdl, List.mem_filter] at hm
            have := B.len y (yin y hm.1)
            omega
          have sd : SD 2 (.tup (dl.map RT.D.str)) := by
            refine .inr ⟨_, rfl, ?_, fun x hx => ?_⟩
            · rw [List.length_map, ← hdl]
              have := List.length_filter_le (fun x => (KK tb tb.length x).isNone) ys
              omega
            · obtain ⟨z, _, rfl⟩ := List.mem_map.mp hx
              exact .inl ⟨z, rfl⟩
          clear kn6 kn7 k6 k7 k8 e8 el nD bk bk6 P5 P6 T5 T6
          refine ⟨_, rfl, v, nmz 0, tb, rfl, bk9, B, T9, fun ys2 l2 H10 sy2 ny2 hy2 el2 k40 x10 T10 => ?_⟩
          have ey2 : ys2 = ys := same_sorted sy2 ny2 hy2 sy ny hy
          subst ey2
          rw [hdl] at el2
          have fzx : ∀ {H H' : Hp}, LamX.ExtN H H' → Fz H H' := fun x => ⟨fun b xs e => x b _ e (by intro _ z; cases z), fun b o xs e => x b _ e (by intro _ z; cases z)⟩
          have edu10 := x10 _ _ edu (by intro _ z; cases z)
          refine ⟨_, rfl, .ref l2, .ref du, .tup (dl.map RT.D.str), rfl, .tup el2 (rps_strs dlen), .tup edu10 (rps_strs dlen), sd, fun H11 k11 => ?_⟩
          have x11 : LamX.ExtN H9 H11 := x10.trans (ext_kp k11)
          have T11 := tabs_kp T10 k11
          have bk11 := bk9.fz (fzx x11)
          have edu11 := k11 _ _ (fun z => z) edu10
          refine ⟨true, rfl, iteF' (by rfl) ?_⟩
          refine ⟨_, rfl, v, nmz 0, tb, rfl, bk11, B, T11, fun ys3 l3 H12 sy3 ny3 hy3 el3 k40' x12 T12 => ?_⟩
          have ey3 : ys3 = ys2 := same_sorted sy3 ny3 hy3 sy ny hy
          subst ey3
          rw [hdl] at el3
          have edu12 := x12 _ _ edu11 (by intro _ z; cases z)
          refine ⟨_, rfl, .ref l3, .ref du, .tup (dl.map RT.D.str), rfl, .tup el3 (rps_strs dlen), .tup edu12 (rps_strs dlen), sd, fun H13 k13 => ?_⟩
          have x13 : LamX.ExtN H9 H13 := (x11.trans x12).trans (ext_kp k13)
          have T13 := tabs_kp T12 k13
          have bk13 := bk9.fz (fzx x13)
          have edu13 := k13 _ _ (fun z => z) edu12
          have potx : ∀ {H H' : Hp}, Pot H pd pc → LamX.ExtN H H' → Pot H' pd pc := fun P k => by
            obtain ⟨ns, a, l, s, E⟩ := P
            exact ⟨ns, a, l, s, k _ _ E.d (by intro _ z; cases z), k _ _ E.c (by intro _ z; cases z), E.a0, E.l0, E.s0, E.s1, E.len⟩
          have P13 := potx P9 x13
          refine ⟨true, rfl, iteF' (by rfl) ?_⟩
          refine ⟨_, rfl, v, nmz 0, tb, rfl, bk13, B.m, fun ys4 l4 H14 el4 sy4 ny4 hy4 k14 => ?_⟩
          have ey4 : ys4 = ys3 := same_sorted sy4 ny4 hy4 sy ny hy
          subst ey4
          refine ⟨l4, rfl, ⟨_, SqL.of el4⟩, for_list (xs := ys4.map V.str) (fun t σ H15 => ∃ (a5 : Option V), σ = [some (.ref a), some (.ref pd), some (.int ((0 : Int) + (i : Nat))), some v, some (.ref d), a5, some (.ref du)] ∧ BkA H15 v (nmz 0) tb ∧ Pot H15 pd pc ∧ LamX.Tabs T H15 ∧ H15 du = some (.tup (dl.map V.str)) ∧ H15 l4 = some (.lst (ys4.map V.str))) ?_ ?_ ?_ ?_⟩
          · exact ⟨_, rfl, bk13.fz (fz0 k14), P13.kp0 k14, tabs_kp T13 k14, k14 _ _ (fun z => z) edu13, el4⟩
          · rintro t σ H15 _ ⟨_, _, _, _, _, _, e⟩
            exact SqL.of e
          · rintro t x σ H15 hx ⟨a5, rfl, bk15, P15, T15, edu15, el15⟩
            rw [List.getElem?_map] at hx
            obtain ⟨y, hy2, rfl⟩ := Option.map_eq_some_iff.mp hx
            have my := List.mem_of_getElem? hy2
            obtain ⟨r, TB⟩ := B.r
            refine ⟨_, rfl, _, rfl, nsOf tb, v, nmz 0, y, tb, r, rfl, bk15, TB, T15, fun H16 x16 T16 => ?_⟩
            have edu16 := x16 _ _ edu15 (by intro _ z; cases z)
            refine ⟨rfl, _, rfl, _, rfl, du, _, rfl, .inr (SqT.of edu16), rfl, flat_strs _, rfl, _, rfl, ?_⟩
            have e1 : decide (oV (KK tb 40 y) = V.non) = decide (y ∈ dl) := by
              rw [k40 y, ← hdl]
              cases h : KK tb tb.length y with
              | none =>
                rw [decide_eq_true (show oV none = V.non from rfl), decide_eq_true (List.mem_filter.mpr ⟨my, by rw [h]; rfl⟩)]
              | some z =>
                rw [decide_eq_false (show ¬ oV (some z) = V.non from fun z => by cases z), decide_eq_false fun hm => by
                  have := (List.mem_filter.mp hm).2
                  rw [h] at this
                  cases this]
            have e2 : (if false = true then !inV (V.str y) (dl.map V.str) else inV (V.str y) (dl.map V.str)) = decide (y ∈ dl) := by
              rw [if_neg Bool.false_ne_true, inV_strs]
            refine iteF' (by rw [e1, e2, decide_eq_true rfl]; rfl) ?_
            exact ⟨_, rfl, bk15.fz (fzx x16), potx P15 x16, T16, edu16, x16 _ _ el15 (by intro _ z; cases z)⟩
          · rintro σ H15 ⟨a5, rfl, bk15, P15, T15, _, _⟩
            exact ⟨⟨_, _, _, _, _, rfl⟩, P15, T15⟩
      · obtain ⟨ba, rows, ps, rfl, b0⟩ := id bk
        have lp := b0.len
        have lt := W.len
        refine ⟨_, rfl, ba, _, 1, .ref rows, rfl, rfl, SqT.of b0.eb, atI_nat (j := 1) rfl, rows, ps, rfl, .inr b0.sq, _, _, rfl, rfl, _, rfl, ite2 (fun c => ?_) (fun c => ?_)⟩
        · have hn : n < 12 := by
            have := of_decide_eq_true c
            omega
          refine ⟨_, rfl, _, rfl, pd, pc, .ref ba, n, tb, rfl, P3, bk, W, hn, fun v' tb' H4 B' bk' P4 k4 => ?_⟩
          exact S _ _ ⟨v', tb', _, _, _, rfl, bk', B', P4, tabs_pm P3 T3 k4⟩
        · exact S _ _ ⟨_, tb, _, _, _, rfl, bk, W.bx, P3, T3⟩
    · rintro σ H2 _
      exact q H2
end
end RT

/-! ### the end -/
namespace RT
open PySem PySem.Spec PyProof.Rows L2 LK
theorem tabIn_of {K : PySem.W.Frag} {x : Str} {f c P : Addr} {oc e : Value} {od dd : Option Addr} {fd : FuncData} {sl sl2 : Array (Option Value)} {vs : Array Value} (a : PySem.W.nsIn K mainGlobals x = some (some (.ref f))) (l : K.lookup f = some ⟨oc, od, .func fd, sl⟩) (h : fd.code = .ref c)
    (t : K.lookup c = some ⟨e, dd, .fields vs, sl2⟩) (p : vs[11]? = some (.ref P)) : PySem.W.tabIn K x = some (c, P) := by
  unfold PySem.W.tabIn
  rw [a]
  simp only [l, h, t, p]
/-- the end of a law row, where tables of code objects are known by their defs' names -/
theorem walk_tab {l : PySem.W.OpenLaw} {n k : Nat} {q : Program} {loose : List Str} {XP : (Str → Option Value) → Heap → Prop} {YP : World → Heap → Prop} {d : DefRec} {K : Params → PySem.W.Frag} {x : Str}
    (hn : l.most = some n) (hn2 : n ≤ sizeLine) (hdf : d.params.defaults = []) (hr : Room k callerA) (hY : ∀ (w : World) (h : Heap), YP w h → (K w.params).In h)
    (F : ∀ (w : World) (mg : Str → Option Value) (fa : Addr) (h : Heap), (K w.params).In h → h.Ns mainGlobals mg → mg d.name = some (.ref fa) →
      (∀ (y : Str) (e : DefRec) (c P : Addr), (recsOf q).find? (fun e => e.name == y) = some e → PySem.W.tabIn (K w.params) y = some (c, P) → PySem.W.CodeHd h c P ∧ h.get? P = some { cls := .none, data := .fields #[] }) →
      LamX.LawAtS l w (K w.params) CX0 k n x mg fa h) :
    PySem.W.WalkO q loose XP YP l.row.toRowW d [] (fun f vs => PySem.call f vs) := by
  refine Att.attach_callB hn hdf fun w s₀ s₁ mg mb fa o pm cd doc a vs ns G Y ho hd hcd hmg hobj hints hlen hbits hg => ?_
  have KX := hY w _ Y
  obtain ⟨fd, cs, sp, hT, nT, C, hb, hsp, hF⟩ := F w mg fa _ KX G.T.g hmg (fun y e c P h1 h2 => PySem.W.tab_of G.T KX h1 h2)
  refine LamX.law_callTs (CX := CX0) KX G.T.g G.T.b G.T.builtins G.T.nolimit hg hT nT C G.T.bmain hobj hints ?_ hr hF hb ?_ ?_
  · exact Nat.le_trans hlen hn2
  · exact fun H hH hS => hsp H a ns hlen hbits hH hS
  · exact fun H e s' z => z
set_option maxHeartbeats 0 in
theorem all_mk {l : PySem.W.OpenLaw} {q : Program} {w : World} {K : PySem.W.Frag} {h : Heap} {mg : Str → Option Value} {fa : Addr} (X : K.In h) (G : h.Ns mainGlobals mg) (hfa : mg "law" = some (.ref fa))
    (hq : ∀ (y : Str) (e : DefRec) (c P : Addr), (recsOf q).find? (fun e => e.name == y) = some e → PySem.W.tabIn K y = some (c, P) → PySem.W.CodeHd h c P ∧ h.get? P = some { cls := .none, data := .fields #[] })
    (w10 : ((recsOf q).find? (fun e => e.name == ("least_texts" : Str))).isSome = true) (w11 : ((recsOf q).find? (fun e => e.name == ("least_of" : Str))).isSome = true) (w13 : ((recsOf q).find? (fun e => e.name == ("lesser_first" : Str))).isSome = true)
    {f1 : Addr} {od1 an1 : Option Addr} {sl1 : Array (Option Value)} {oc1 kV1 dc1 pm1 ct1 : Value} {cd1 : Value} {f2 : Addr} {od2 an2 : Option Addr} {sl2 : Array (Option Value)} {oc2 kV2 dc2 pm2 ct2 : Value} {cd2 : Value} {f3 : Addr} {od3 an3 : Option Addr} {sl3 : Array (Option Value)} {oc3 kV3 dc3 pm3 ct3 : Value} {cd3 : Value} {f4 : Addr} {od4 an4 : Option Addr} {sl4 : Array (Option Value)} {oc4 kV4 dc4 pm4 ct4 : Value} {cd4 : Value} {f5 : Addr} {od5 an5 : Option Addr} {sl5 : Array (Option Value)} {oc5 kV5 dc5 pm5 ct5 : Value} {cd5 : Value} {f6 : Addr} {od6 an6 : Option Addr} {sl6 : Array (Option Value)} {oc6 kV6 dc6 pm6 ct6 : Value} {cd6 : Value} {f7 : Addr} {od7 an7 : Option Addr} {sl7 : Array (Option Value)} {oc7 kV7 dc7 pm7 ct7 : Value} {cd7 : Value} {f8 : Addr} {od8 an8 : Option Addr} {sl8 : Array (Option Value)} {oc8 kV8 dc8 pm8 ct8 : Value} {cd8 : Value} {f9 : Addr} {od9 an9 : Option Addr} {sl9 : Array (Option Value)} {oc9 kV9 dc9 pm9 ct9 : Value} {cd9 : Value} {f10 : Addr} {od10 an10 : Option Addr} {sl10 : Array (Option Value)} {oc10 kV10 dc10 pm10 ct10 : Value} {cd10 : Addr} {P10 : Addr} {te10 : Value} {td10 : Option Addr} {tv10 : Array Value} {ts10 : Array (Option Value)} {f11 : Addr} {od11 an11 : Option Addr} {sl11 : Array (Option Value)} {oc11 kV11 dc11 pm11 ct11 : Value} {cd11 : Addr} {P11 : Addr} {te11 : Value} {td11 : Option Addr} {tv11 : Array Value} {ts11 : Array (Option Value)} {f12 : Addr} {od12 an12 : Option Addr} {sl12 : Array (Option Value)} {oc12 kV12 dc12 pm12 ct12 : Value} {cd12 : Value} {f13 : Addr} {od13 an13 : Option Addr} {sl13 : Array (Option Value)} {oc13 kV13 dc13 pm13 ct13 : Value} {cd13 : Addr} {P13 : Addr} {te13 : Value} {td13 : Option Addr} {tv13 : Array Value} {ts13 : Array (Option Value)} {f14 : Addr} {od14 an14 : Option Addr} {sl14 : Array (Option Value)} {oc14 kV14 dc14 pm14 ct14 : Value} {cd14 : Value} {f15 : Addr} {od15 an15 : Option Addr} {sl15 : Array (Option Value)} {oc15 kV15 dc15 pm15 ct15 : Value} {cd15 : Value} {f16 : Addr} {od16 an16 : Option Addr} {sl16 : Array (Option Value)} {oc16 kV16 dc16 pm16 ct16 : Value} {cd16 : Value} {f17 : Addr} {od17 an17 : Option Addr} {sl17 : Array (Option Value)} {oc17 kV17 dc17 pm17 ct17 : Value} {cd17 : Value} {f18 : Addr} {od18 an18 : Option Addr} {sl18 : Array (Option Value)} {oc18 kV18 dc18 pm18 ct18 : Value} {cd18 : Value} {f19 : Addr} {od19 an19 : Option Addr} {sl19 : Array (Option Value)} {oc19 kV19 dc19 pm19 ct19 : Value} {cd19 : Value} {f20 : Addr} {od20 an20 : Option Addr} {sl20 : Array (Option Value)} {oc20 kV20 dc20 pm20 ct20 : Value} {cd20 : Value} {f21 : Addr} {od21 an21 : Option Addr} {sl21 : Array (Option Value)} {oc21 kV21 dc21 pm21 ct21 : Value} {cd21 : Value} {f22 : Addr} {od22 an22 : Option Addr} {sl22 : Array (Option Value)} {oc22 kV22 dc22 pm22 ct22 : Value} {cd22 : Value} {f23 : Addr} {od23 an23 : Option Addr} {sl23 : Array (Option Value)} {oc23 kV23 dc23 pm23 ct23 : Value} {cd23 : Value} {f24 : Addr} {od24 an24 : Option Addr} {sl24 : Array (Option Value)} {oc24 kV24 dc24 pm24 ct24 : Value} {cd24 : Value} {f25 : Addr} {od25 an25 : Option Addr} {sl25 : Array (Option Value)} {oc25 kV25 dc25 pm25 ct25 : Value} {cd25 : Value} {f26 : Addr} {od26 an26 : Option Addr} {sl26 : Array (Option Value)} {oc26 kV26 dc26 pm26 ct26 : Value} {cd26 : Value} {f27 : Addr} {od27 an27 : Option Addr} {sl27 : Array (Option Value)} {oc27 kV27 dc27 pm27 ct27 : Value} {cd27 : Value} {f28 : Addr} {od28 an28 : Option Addr} {sl28 : Array (Option Value)} {oc28 kV28 dc28 pm28 ct28 : Value} {cd28 : Value} {f29 : Addr} {od29 an29 : Option Addr} {sl29 : Array (Option Value)} {oc29 kV29 dc29 pm29 ct29 : Value} {cd29 : Value} {f30 : Addr} {od30 an30 : Option Addr} {sl30 : Array (Option Value)} {oc30 kV30 dc30 pm30 ct30 : Value} {cd30 : Value} {f31 : Addr} {od31 an31 : Option Addr} {sl31 : Array (Option Value)} {oc31 kV31 dc31 pm31 ct31 : Value} {cd31 : Value} {f32 : Addr} {od32 an32 : Option Addr} {sl32 : Array (Option Value)} {oc32 kV32 dc32 pm32 ct32 : Value} {cd32 : Value} {f33 : Addr} {od33 an33 : Option Addr} {sl33 : Array (Option Value)} {oc33 kV33 dc33 pm33 ct33 : Value} {cd33 : Value}
    (a1 : PySem.W.nsIn K mainGlobals "inner_forms" = some (some (.ref f1)))
    (l1 : K.lookup f1 = some ⟨oc1, od1, .func (PySem.W.fnOf "inner_forms" "inner_forms" (defArgs sInner) (defBody sInner) (defScope sInner) .none kV1 dc1 pm1 an1 cd1 ct1), sl1⟩)
    (c1 : PySem.W.codeIn K cd1 "inner_forms" = true)
    (k1 : PySem.W.keepIn K (.ref f1) = true)
    (a2 : PySem.W.nsIn K mainGlobals "form_table" = some (some (.ref f2)))
    (l2 : K.lookup f2 = some ⟨oc2, od2, .func (PySem.W.fnOf "form_table" "form_table" (defArgs sTab) (defBody sTab) (defScope sTab) .none kV2 dc2 pm2 an2 cd2 ct2), sl2⟩)
    (c2 : PySem.W.codeIn K cd2 "form_table" = true)
    (k2 : PySem.W.keepIn K (.ref f2) = true)
    (a3 : PySem.W.nsIn K mainGlobals "all_forms" = some (some (.ref f3)))
    (l3 : K.lookup f3 = some ⟨oc3, od3, .func (PySem.W.fnOf "all_forms" "all_forms" (defArgs sAll) (defBody sAll) (defScope sAll) .none kV3 dc3 pm3 an3 cd3 ct3), sl3⟩)
    (c3 : PySem.W.codeIn K cd3 "all_forms" = true)
    (k3 : PySem.W.keepIn K (.ref f3) = true)
    (a4 : PySem.W.nsIn K mainGlobals "names_in" = some (some (.ref f4)))
    (l4 : K.lookup f4 = some ⟨oc4, od4, .func (PySem.W.fnOf "names_in" "names_in" (defArgs sNin) (defBody sNin) (defScope sNin) .none kV4 dc4 pm4 an4 cd4 ct4), sl4⟩)
    (c4 : PySem.W.codeIn K cd4 "names_in" = true)
    (k4 : PySem.W.keepIn K (.ref f4) = true)
    (a5 : PySem.W.nsIn K mainGlobals "names_met" = some (some (.ref f5)))
    (l5 : K.lookup f5 = some ⟨oc5, od5, .func (PySem.W.fnOf "names_met" "names_met" (defArgs sMet) (defBody sMet) (defScope sMet) .none kV5 dc5 pm5 an5 cd5 ct5), sl5⟩)
    (c5 : PySem.W.codeIn K cd5 "names_met" = true)
    (k5 : PySem.W.keepIn K (.ref f5) = true)
    (a6 : PySem.W.nsIn K mainGlobals "folded" = some (some (.ref f6)))
    (l6 : K.lookup f6 = some ⟨oc6, od6, .func (PySem.W.fnOf "folded" "folded" (defArgs sFo) (defBody sFo) (defScope sFo) .none kV6 dc6 pm6 an6 cd6 ct6), sl6⟩)
    (c6 : PySem.W.codeIn K cd6 "folded" = true)
    (k6 : PySem.W.keepIn K (.ref f6) = true)
    (a7 : PySem.W.nsIn K mainGlobals "inner_items" = some (some (.ref f7)))
    (l7 : K.lookup f7 = some ⟨oc7, od7, .func (PySem.W.fnOf "inner_items" "inner_items" (defArgs sIi) (defBody sIi) (defScope sIi) .none kV7 dc7 pm7 an7 cd7 ct7), sl7⟩)
    (c7 : PySem.W.codeIn K cd7 "inner_items" = true)
    (k7 : PySem.W.keepIn K (.ref f7) = true)
    (a8 : PySem.W.nsIn K mainGlobals "least_text" = some (some (.ref f8)))
    (l8 : K.lookup f8 = some ⟨oc8, od8, .func (PySem.W.fnOf "least_text" "least_text" (defArgs sLx) (defBody sLx) (defScope sLx) .none kV8 dc8 pm8 an8 cd8 ct8), sl8⟩)
    (c8 : PySem.W.codeIn K cd8 "least_text" = true)
    (k8 : PySem.W.keepIn K (.ref f8) = true)
    (a9 : PySem.W.nsIn K mainGlobals "endless" = some (some (.ref f9)))
    (l9 : K.lookup f9 = some ⟨oc9, od9, .func (PySem.W.fnOf "endless" "endless" (defArgs sEn) (defBody sEn) (defScope sEn) .none kV9 dc9 pm9 an9 cd9 ct9), sl9⟩)
    (c9 : PySem.W.codeIn K cd9 "endless" = true)
    (k9 : PySem.W.keepIn K (.ref f9) = true)
    (a10 : PySem.W.nsIn K mainGlobals "least_texts" = some (some (.ref f10)))
    (l10 : K.lookup f10 = some ⟨oc10, od10, .func (PySem.W.fnOf "least_texts" "least_texts" (defArgs sLt) (defBody sLt) (defScope sLt) .none kV10 dc10 pm10 an10 (.ref cd10) ct10), sl10⟩)
    (c10 : PySem.W.codeIn K (.ref cd10) "least_texts" = true)
    (k10 : PySem.W.keepIn K (.ref f10) = true)
    (t10 : K.lookup cd10 = some ⟨te10, td10, .fields tv10, ts10⟩)
    (p10 : tv10[11]? = some (.ref P10))
    (n10 : K.lookup P10 = none)
    (a11 : PySem.W.nsIn K mainGlobals "least_of" = some (some (.ref f11)))
    (l11 : K.lookup f11 = some ⟨oc11, od11, .func (PySem.W.fnOf "least_of" "least_of" (defArgs sLo) (defBody sLo) (defScope sLo) .none kV11 dc11 pm11 an11 (.ref cd11) ct11), sl11⟩)
    (c11 : PySem.W.codeIn K (.ref cd11) "least_of" = true)
    (k11 : PySem.W.keepIn K (.ref f11) = true)
    (t11 : K.lookup cd11 = some ⟨te11, td11, .fields tv11, ts11⟩)
    (p11 : tv11[11]? = some (.ref P11))
    (n11 : K.lookup P11 = none)
    (a12 : PySem.W.nsIn K mainGlobals "_told_least" = some (some (.ref f12)))
    (l12 : K.lookup f12 = some ⟨oc12, od12, .func (PySem.W.fnOf "_told_least" "_told_least" (defArgs sTl) (defBody sTl) (defScope sTl) .none kV12 dc12 pm12 an12 cd12 ct12), sl12⟩)
    (c12 : PySem.W.codeIn K cd12 "_told_least" = true)
    (k12 : PySem.W.keepIn K (.ref f12) = true)
    (a13 : PySem.W.nsIn K mainGlobals "lesser_first" = some (some (.ref f13)))
    (l13 : K.lookup f13 = some ⟨oc13, od13, .func (PySem.W.fnOf "lesser_first" "lesser_first" (defArgs sLf) (defBody sLf) (defScope sLf) .none kV13 dc13 pm13 an13 (.ref cd13) ct13), sl13⟩)
    (c13 : PySem.W.codeIn K (.ref cd13) "lesser_first" = true)
    (k13 : PySem.W.keepIn K (.ref f13) = true)
    (t13 : K.lookup cd13 = some ⟨te13, td13, .fields tv13, ts13⟩)
    (p13 : tv13[11]? = some (.ref P13))
    (n13 : K.lookup P13 = none)
    (a14 : PySem.W.nsIn K mainGlobals "_joined" = some (some (.ref f14)))
    (l14 : K.lookup f14 = some ⟨oc14, od14, .func (PySem.W.fnOf "_joined" "_joined" (defArgs sJo) (defBody sJo) (defScope sJo) .none kV14 dc14 pm14 an14 cd14 ct14), sl14⟩)
    (c14 : PySem.W.codeIn K cd14 "_joined" = true)
    (k14 : PySem.W.keepIn K (.ref f14) = true)
    (a15 : PySem.W.nsIn K mainGlobals "_least" = some (some (.ref f15)))
    (l15 : K.lookup f15 = some ⟨oc15, od15, .func (PySem.W.fnOf "_least" "_least" (defArgs sLe) (defBody sLe) (defScope sLe) .none kV15 dc15 pm15 an15 cd15 ct15), sl15⟩)
    (c15 : PySem.W.codeIn K cd15 "_least" = true)
    (k15 : PySem.W.keepIn K (.ref f15) = true)
    (a16 : PySem.W.nsIn K mainGlobals "_law_begin" = some (some (.ref f16)))
    (l16 : K.lookup f16 = some ⟨oc16, od16, .func (PySem.W.fnOf "_law_begin" "_law_begin" (defArgs sBegin) (defBody sBegin) (defScope sBegin) .none kV16 dc16 pm16 an16 cd16 ct16), sl16⟩)
    (c16 : PySem.W.codeIn K cd16 "_law_begin" = true)
    (k16 : PySem.W.keepIn K (.ref f16) = true)
    (a17 : PySem.W.nsIn K mainGlobals "_law_next" = some (some (.ref f17)))
    (l17 : K.lookup f17 = some ⟨oc17, od17, .func (PySem.W.fnOf "_law_next" "_law_next" (defArgs sNext) (defBody sNext) (defScope sNext) .none kV17 dc17 pm17 an17 cd17 ct17), sl17⟩)
    (c17 : PySem.W.codeIn K cd17 "_law_next" = true)
    (k17 : PySem.W.keepIn K (.ref f17) = true)
    (a18 : PySem.W.nsIn K mainGlobals "_law_many" = some (some (.ref f18)))
    (l18 : K.lookup f18 = some ⟨oc18, od18, .func (PySem.W.fnOf "_law_many" "_law_many" (defArgs sMany) (defBody sMany) (defScope sMany) .none kV18 dc18 pm18 an18 cd18 ct18), sl18⟩)
    (c18 : PySem.W.codeIn K cd18 "_law_many" = true)
    (k18 : PySem.W.keepIn K (.ref f18) = true)
    (a19 : PySem.W.nsIn K mainGlobals "_law_told" = some (some (.ref f19)))
    (l19 : K.lookup f19 = some ⟨oc19, od19, .func (PySem.W.fnOf "_law_told" "_law_told" (defArgs sTd) (defBody sTd) (defScope sTd) .none kV19 dc19 pm19 an19 cd19 ct19), sl19⟩)
    (c19 : PySem.W.codeIn K cd19 "_law_told" = true)
    (k19 : PySem.W.keepIn K (.ref f19) = true)
    (a20 : PySem.W.nsIn K mainGlobals "_law_set" = some (some (.ref f20)))
    (l20 : K.lookup f20 = some ⟨oc20, od20, .func (PySem.W.fnOf "_law_set" "_law_set" (defArgs sSt) (defBody sSt) (defScope sSt) .none kV20 dc20 pm20 an20 cd20 ct20), sl20⟩)
    (c20 : PySem.W.codeIn K cd20 "_law_set" = true)
    (k20 : PySem.W.keepIn K (.ref f20) = true)
    (a21 : PySem.W.nsIn K mainGlobals "_law_pick" = some (some (.ref f21)))
    (l21 : K.lookup f21 = some ⟨oc21, od21, .func (PySem.W.fnOf "_law_pick" "_law_pick" (defArgs sPk) (defBody sPk) (defScope sPk) .none kV21 dc21 pm21 an21 cd21 ct21), sl21⟩)
    (c21 : PySem.W.codeIn K cd21 "_law_pick" = true)
    (k21 : PySem.W.keepIn K (.ref f21) = true)
    (a22 : PySem.W.nsIn K mainGlobals "_law_spelt" = some (some (.ref f22)))
    (l22 : K.lookup f22 = some ⟨oc22, od22, .func (PySem.W.fnOf "_law_spelt" "_law_spelt" (defArgs sSp) (defBody sSp) (defScope sSp) .none kV22 dc22 pm22 an22 cd22 ct22), sl22⟩)
    (c22 : PySem.W.codeIn K cd22 "_law_spelt" = true)
    (k22 : PySem.W.keepIn K (.ref f22) = true)
    (a23 : PySem.W.nsIn K mainGlobals "_law_turned" = some (some (.ref f23)))
    (l23 : K.lookup f23 = some ⟨oc23, od23, .func (PySem.W.fnOf "_law_turned" "_law_turned" (defArgs sTu) (defBody sTu) (defScope sTu) .none kV23 dc23 pm23 an23 cd23 ct23), sl23⟩)
    (c23 : PySem.W.codeIn K cd23 "_law_turned" = true)
    (k23 : PySem.W.keepIn K (.ref f23) = true)
    (a24 : PySem.W.nsIn K mainGlobals "_law_drawn" = some (some (.ref f24)))
    (l24 : K.lookup f24 = some ⟨oc24, od24, .func (PySem.W.fnOf "_law_drawn" "_law_drawn" (defArgs sDn) (defBody sDn) (defScope sDn) .none kV24 dc24 pm24 an24 cd24 ct24), sl24⟩)
    (c24 : PySem.W.codeIn K cd24 "_law_drawn" = true)
    (k24 : PySem.W.keepIn K (.ref f24) = true)
    (a25 : PySem.W.nsIn K mainGlobals "_law_written" = some (some (.ref f25)))
    (l25 : K.lookup f25 = some ⟨oc25, od25, .func (PySem.W.fnOf "_law_written" "_law_written" (defArgs sWr) (defBody sWr) (defScope sWr) .none kV25 dc25 pm25 an25 cd25 ct25), sl25⟩)
    (c25 : PySem.W.codeIn K cd25 "_law_written" = true)
    (k25 : PySem.W.keepIn K (.ref f25) = true)
    (a26 : PySem.W.nsIn K mainGlobals "_law_lowest" = some (some (.ref f26)))
    (l26 : K.lookup f26 = some ⟨oc26, od26, .func (PySem.W.fnOf "_law_lowest" "_law_lowest" (defArgs sLow) (defBody sLow) (defScope sLow) .none kV26 dc26 pm26 an26 cd26 ct26), sl26⟩)
    (c26 : PySem.W.codeIn K cd26 "_law_lowest" = true)
    (k26 : PySem.W.keepIn K (.ref f26) = true)
    (a27 : PySem.W.nsIn K mainGlobals "_law_lows" = some (some (.ref f27)))
    (l27 : K.lookup f27 = some ⟨oc27, od27, .func (PySem.W.fnOf "_law_lows" "_law_lows" (defArgs sLows) (defBody sLows) (defScope sLows) .none kV27 dc27 pm27 an27 cd27 ct27), sl27⟩)
    (c27 : PySem.W.codeIn K cd27 "_law_lows" = true)
    (k27 : PySem.W.keepIn K (.ref f27) = true)
    (a28 : PySem.W.nsIn K mainGlobals "_law_same" = some (some (.ref f28)))
    (l28 : K.lookup f28 = some ⟨oc28, od28, .func (PySem.W.fnOf "_law_same" "_law_same" (defArgs sSm) (defBody sSm) (defScope sSm) .none kV28 dc28 pm28 an28 cd28 ct28), sl28⟩)
    (c28 : PySem.W.codeIn K cd28 "_law_same" = true)
    (k28 : PySem.W.keepIn K (.ref f28) = true)
    (a29 : PySem.W.nsIn K mainGlobals "_law_inner" = some (some (.ref f29)))
    (l29 : K.lookup f29 = some ⟨oc29, od29, .func (PySem.W.fnOf "_law_inner" "_law_inner" (defArgs sLin) (defBody sLin) (defScope sLin) .none kV29 dc29 pm29 an29 cd29 ct29), sl29⟩)
    (c29 : PySem.W.codeIn K cd29 "_law_inner" = true)
    (k29 : PySem.W.keepIn K (.ref f29) = true)
    (a30 : PySem.W.nsIn K mainGlobals "_law_names_in" = some (some (.ref f30)))
    (l30 : K.lookup f30 = some ⟨oc30, od30, .func (PySem.W.fnOf "_law_names_in" "_law_names_in" (defArgs sLni) (defBody sLni) (defScope sLni) .none kV30 dc30 pm30 an30 cd30 ct30), sl30⟩)
    (c30 : PySem.W.codeIn K cd30 "_law_names_in" = true)
    (k30 : PySem.W.keepIn K (.ref f30) = true)
    (a31 : PySem.W.nsIn K mainGlobals "_law_met" = some (some (.ref f31)))
    (l31 : K.lookup f31 = some ⟨oc31, od31, .func (PySem.W.fnOf "_law_met" "_law_met" (defArgs sMt) (defBody sMt) (defScope sMt) .none kV31 dc31 pm31 an31 cd31 ct31), sl31⟩)
    (c31 : PySem.W.codeIn K cd31 "_law_met" = true)
    (k31 : PySem.W.keepIn K (.ref f31) = true)
    (a32 : PySem.W.nsIn K mainGlobals "_law_with_ring" = some (some (.ref f32)))
    (l32 : K.lookup f32 = some ⟨oc32, od32, .func (PySem.W.fnOf "_law_with_ring" "_law_with_ring" (defArgs sRg) (defBody sRg) (defScope sRg) .none kV32 dc32 pm32 an32 cd32 ct32), sl32⟩)
    (c32 : PySem.W.codeIn K cd32 "_law_with_ring" = true)
    (k32 : PySem.W.keepIn K (.ref f32) = true)
    (a33 : PySem.W.nsIn K mainGlobals "law" = some (some (.ref f33)))
    (l33 : K.lookup f33 = some ⟨oc33, od33, .func (PySem.W.fnOf "law" "law" (defArgs sLaw) (defBody sLaw) (defScope sLaw) .none kV33 dc33 pm33 an33 cd33 ct33), sl33⟩)
    (c33 : PySem.W.codeIn K cd33 "law" = true)
    (k33 : PySem.W.keepIn K (.ref f33) = true)
    (z1 : PySem.W.nsIn K mainGlobals "range" = some none)
    (z2 : PySem.W.nsIn K mainGlobals "len" = some none)
    (z3 : PySem.W.nsIn K mainGlobals "list" = some none)
    (z4 : PySem.W.nsIn K mainGlobals "tuple" = some none)
    (z5 : PySem.W.nsIn K mainGlobals "enumerate" = some none)
    (z6 : PySem.W.nsIn K mainGlobals "int" = some none)
    (z7 : PySem.W.nsIn K mainGlobals "sorted" = some none)
    (z8 : PySem.W.nsIn K mainGlobals "min" = some none)
    (z9 : PySem.W.nsIn K mainGlobals "max" = some none)
    (z10 : PySem.W.nsIn K mainGlobals "dict" = some none)
    (z11 : PySem.W.nsIn K mainGlobals "isinstance" = some none)
    (z12 : PySem.W.nsIn K mainGlobals "str" = some none)
    (z13 : PySem.W.nsIn K mainGlobals "bool" = some none)
    (z14 : PySem.W.nsIn K mainGlobals "zip" = some none)
    (z15 : PySem.W.nsIn K mainGlobals "all" = some none)
    (z16 : PySem.W.nsIn K mainGlobals "set" = some none)
    (dd10_11 : (P10 == P11) = false) (dd10_13 : (P10 == P13) = false) (dd11_13 : (P11 == P13) = false) :
    LamX.LawAtS l w K CX0 203 63 "_law_script" mg fa h := by
  have e := hfa.symm.trans (PySem.W.mg_of X G a33)
  cases e
  have F1 := fun_mk (st := sInner) l1 c1 k1
  have F2 := fun_mk (st := sTab) l2 c2 k2
  have F3 := fun_mk (st := sAll) l3 c3 k3
  have F4 := fun_mk (st := sNin) l4 c4 k4
  have F5 := fun_mk (st := sMet) l5 c5 k5
  have F6 := fun_mk (st := sFo) l6 c6 k6
  have F7 := fun_mk (st := sIi) l7 c7 k7
  have F8 := fun_mk (st := sLx) l8 c8 k8
  have F9 := fun_mk (st := sEn) l9 c9 k9
  have F10 : FunT K "least_texts" "least_texts" sLt f10 _ cd10 := ⟨⟨oc10, od10, kV10, dc10, pm10, an10, ct10, sl10, rfl, l10, c10⟩, k10⟩
  have F11 : FunT K "least_of" "least_of" sLo f11 _ cd11 := ⟨⟨oc11, od11, kV11, dc11, pm11, an11, ct11, sl11, rfl, l11, c11⟩, k11⟩
  have F12 := fun_mk (st := sTl) l12 c12 k12
  have F13 : FunT K "lesser_first" "lesser_first" sLf f13 _ cd13 := ⟨⟨oc13, od13, kV13, dc13, pm13, an13, ct13, sl13, rfl, l13, c13⟩, k13⟩
  have F14 := fun_mk (st := sJo) l14 c14 k14
  have F15 := fun_mk (st := sLe) l15 c15 k15
  have F16 := fun_mk (st := sBegin) l16 c16 k16
  have F17 := fun_mk (st := sNext) l17 c17 k17
  have F18 := fun_mk (st := sMany) l18 c18 k18
  have F19 := fun_mk (st := sTd) l19 c19 k19
  have F20 := fun_mk (st := sSt) l20 c20 k20
  have F21 := fun_mk (st := sPk) l21 c21 k21
  have F22 := fun_mk (st := sSp) l22 c22 k22
  have F23 := fun_mk (st := sTu) l23 c23 k23
  have F24 := fun_mk (st := sDn) l24 c24 k24
  have F25 := fun_mk (st := sWr) l25 c25 k25
  have F26 := fun_mk (st := sLow) l26 c26 k26
  have F27 := fun_mk (st := sLows) l27 c27 k27
  have F28 := fun_mk (st := sSm) l28 c28 k28
  have F29 := fun_mk (st := sLin) l29 c29 k29
  have F30 := fun_mk (st := sLni) l30 c30 k30
  have F31 := fun_mk (st := sMt) l31 c31 k31
  have F32 := fun_mk (st := sRg) l32 c32 k32
  have F33 := fun_mk (st := sLaw) l33 c33 k33
  have b1 := (fun_mk (st := sInner) l1 c1 k1).binds (ps := ["form"]) fun _ _ _ _ _ _ us hl => match us, hl with | [_], _ => rfl
  have g1 := PySem.W.mg_of X G a1
  have b2 := (fun_mk (st := sTab) l2 c2 k2).binds (ps := ["book"]) fun _ _ _ _ _ _ us hl => match us, hl with | [_], _ => rfl
  have g2 := PySem.W.mg_of X G a2
  have b3 := (fun_mk (st := sAll) l3 c3 k3).binds (ps := ["form"]) fun _ _ _ _ _ _ us hl => match us, hl with | [_], _ => rfl
  have g3 := PySem.W.mg_of X G a3
  have b4 := (fun_mk (st := sNin) l4 c4 k4).binds (ps := ["form"]) fun _ _ _ _ _ _ us hl => match us, hl with | [_], _ => rfl
  have g4 := PySem.W.mg_of X G a4
  have b5 := (fun_mk (st := sMet) l5 c5 k5).binds (ps := ["book"]) fun _ _ _ _ _ _ us hl => match us, hl with | [_], _ => rfl
  have g5 := PySem.W.mg_of X G a5
  have b6 := (fun_mk (st := sFo) l6 c6 k6).binds (ps := ["whole", "inner_of", "told_of"]) fun _ _ _ _ _ _ us hl => match us, hl with | [_, _, _], _ => rfl
  have g6 := PySem.W.mg_of X G a6
  have b7 := (fun_mk (st := sIi) l7 c7 k7).binds (ps := ["item"]) fun _ _ _ _ _ _ us hl => match us, hl with | [_], _ => rfl
  have g7 := PySem.W.mg_of X G a7
  have b8 := (fun_mk (st := sLx) l8 c8 k8).binds (ps := ["book", "name"]) fun _ _ _ _ _ _ us hl => match us, hl with | [_, _], _ => rfl
  have g8 := PySem.W.mg_of X G a8
  have b9 := (fun_mk (st := sEn) l9 c9 k9).binds (ps := ["book"]) fun _ _ _ _ _ _ us hl => match us, hl with | [_], _ => rfl
  have g9 := PySem.W.mg_of X G a9
  have b10 := (fun_mk (st := sLt) l10 c10 k10).binds (ps := ["table"]) fun _ _ _ _ _ _ us hl => match us, hl with | [_], _ => rfl
  have g10 := PySem.W.mg_of X G a10
  have b11 := (fun_mk (st := sLo) l11 c11 k11).binds (ps := ["item", "leasts"]) fun _ _ _ _ _ _ us hl => match us, hl with | [_, _], _ => rfl
  have g11 := PySem.W.mg_of X G a11
  have b12 := (fun_mk (st := sTl) l12 c12 k12).binds (ps := ["item", "inner", "leasts"]) fun _ _ _ _ _ _ us hl => match us, hl with | [_, _, _], _ => rfl
  have g12 := PySem.W.mg_of X G a12
  have b13 := (fun_mk (st := sLf) l13 c13 k13).binds (ps := ["texts"]) fun _ _ _ _ _ _ us hl => match us, hl with | [_], _ => rfl
  have g13 := PySem.W.mg_of X G a13
  have b14 := (fun_mk (st := sJo) l14 c14 k14).binds (ps := ["texts"]) fun _ _ _ _ _ _ us hl => match us, hl with | [_], _ => rfl
  have g14 := PySem.W.mg_of X G a14
  have b15 := (fun_mk (st := sLe) l15 c15 k15).binds (ps := ["texts"]) fun _ _ _ _ _ _ us hl => match us, hl with | [_], _ => rfl
  have g15 := PySem.W.mg_of X G a15
  have b16 := (fun_mk (st := sBegin) l16 c16 k16).binds (ps := ["_law_script"]) fun _ _ _ _ _ _ us hl => match us, hl with | [_], _ => rfl
  have g16 := PySem.W.mg_of X G a16
  have b17 := (fun_mk (st := sNext) l17 c17 k17).binds (ps := ["_law_draws", "_law_many_here"]) fun _ _ _ _ _ _ us hl => match us, hl with | [_, _], _ => rfl
  have g17 := PySem.W.mg_of X G a17
  have b18 := (fun_mk (st := sMany) l18 c18 k18).binds (ps := ["_law_draws", "_law_few", "_law_most"]) fun _ _ _ _ _ _ us hl => match us, hl with | [_, _, _], _ => rfl
  have g18 := PySem.W.mg_of X G a18
  have b19 := (fun_mk (st := sTd) l19 c19 k19).binds (ps := ["_law_draws"]) fun _ _ _ _ _ _ us hl => match us, hl with | [_], _ => rfl
  have g19 := PySem.W.mg_of X G a19
  have b20 := (fun_mk (st := sSt) l20 c20 k20).binds (ps := ["_law_draws"]) fun _ _ _ _ _ _ us hl => match us, hl with | [_], _ => rfl
  have g20 := PySem.W.mg_of X G a20
  have b21 := (fun_mk (st := sPk) l21 c21 k21).binds (ps := ["_law_draws"]) fun _ _ _ _ _ _ us hl => match us, hl with | [_], _ => rfl
  have g21 := PySem.W.mg_of X G a21
  have b22 := (fun_mk (st := sSp) l22 c22 k22).binds (ps := ["_law_draws"]) fun _ _ _ _ _ _ us hl => match us, hl with | [_], _ => rfl
  have g22 := PySem.W.mg_of X G a22
  have b23 := (fun_mk (st := sTu) l23 c23 k23).binds (ps := ["_law_draws"]) fun _ _ _ _ _ _ us hl => match us, hl with | [_], _ => rfl
  have g23 := PySem.W.mg_of X G a23
  have b24 := (fun_mk (st := sDn) l24 c24 k24).binds (ps := ["_law_draws", "_law_names", "_law_deep", "_law_room"]) fun _ _ _ _ _ _ us hl => match us, hl with | [_, _, _, _], _ => rfl
  have g24 := PySem.W.mg_of X G a24
  have b25 := (fun_mk (st := sWr) l25 c25 k25).binds (ps := ["_law_draws"]) fun _ _ _ _ _ _ us hl => match us, hl with | [_], _ => rfl
  have g25 := PySem.W.mg_of X G a25
  have b26 := (fun_mk (st := sLow) l26 c26 k26).binds (ps := ["_law_form", "_law_known"]) fun _ _ _ _ _ _ us hl => match us, hl with | [_, _], _ => rfl
  have g26 := PySem.W.mg_of X G a26
  have b27 := (fun_mk (st := sLows) l27 c27 k27).binds (ps := ["_law_book"]) fun _ _ _ _ _ _ us hl => match us, hl with | [_], _ => rfl
  have g27 := PySem.W.mg_of X G a27
  have b28 := (fun_mk (st := sSm) l28 c28 k28).binds (ps := ["_law_one", "_law_due"]) fun _ _ _ _ _ _ us hl => match us, hl with | [_, _], _ => rfl
  have g28 := PySem.W.mg_of X G a28
  have b29 := (fun_mk (st := sLin) l29 c29 k29).binds (ps := ["_law_form"]) fun _ _ _ _ _ _ us hl => match us, hl with | [_], _ => rfl
  have g29 := PySem.W.mg_of X G a29
  have b30 := (fun_mk (st := sLni) l30 c30 k30).binds (ps := ["_law_form"]) fun _ _ _ _ _ _ us hl => match us, hl with | [_], _ => rfl
  have g30 := PySem.W.mg_of X G a30
  have b31 := (fun_mk (st := sMt) l31 c31 k31).binds (ps := ["_law_book"]) fun _ _ _ _ _ _ us hl => match us, hl with | [_], _ => rfl
  have g31 := PySem.W.mg_of X G a31
  have b32 := (fun_mk (st := sRg) l32 c32 k32).binds (ps := ["_law_draws", "_law_book"]) fun _ _ _ _ _ _ us hl => match us, hl with | [_, _], _ => rfl
  have g32 := PySem.W.mg_of X G a32
  have m_range := PySem.W.mg_none_of X G z1
  have m_len := PySem.W.mg_none_of X G z2
  have m_list := PySem.W.mg_none_of X G z3
  have m_tuple := PySem.W.mg_none_of X G z4
  have m_enumerate := PySem.W.mg_none_of X G z5
  have m_int := PySem.W.mg_none_of X G z6
  have m_sorted := PySem.W.mg_none_of X G z7
  have m_min := PySem.W.mg_none_of X G z8
  have m_max := PySem.W.mg_none_of X G z9
  have m_dict := PySem.W.mg_none_of X G z10
  have m_isinstance := PySem.W.mg_none_of X G z11
  have m_str := PySem.W.mg_none_of X G z12
  have m_bool := PySem.W.mg_none_of X G z13
  have m_zip := PySem.W.mg_none_of X G z14
  have m_all := PySem.W.mg_none_of X G z15
  have m_set := PySem.W.mg_none_of X G z16
  have ne10_11 : P10 ≠ P11 := fun e => by rw [e] at dd10_11; simp at dd10_11
  have ne10_13 : P10 ≠ P13 := fun e => by rw [e] at dd10_13; simp at dd10_13
  have ne11_13 : P11 ≠ P13 := fun e => by rw [e] at dd11_13; simp at dd11_13
  obtain ⟨r10, hr10⟩ := Option.isSome_iff_exists.mp w10
  have V10 := hq "least_texts" r10 cd10 P10 hr10 (tabIn_of a10 l10 rfl t10 p10)
  obtain ⟨r11, hr11⟩ := Option.isSome_iff_exists.mp w11
  have V11 := hq "least_of" r11 cd11 P11 hr11 (tabIn_of a11 l11 rfl t11 p11)
  obtain ⟨r13, hr13⟩ := Option.isSome_iff_exists.mp w13
  have V13 := hq "lesser_first" r13 cd13 P13 hr13 (tabIn_of a13 l13 rfl t13 p13)
  refine ⟨PySem.W.fnOf "law" "law" (defArgs sLaw) (defBody sLaw) (defScope sLaw) .none kV33 dc33 pm33 an33 cd33 ct33, [(cd10, P10), (cd11, P11), (cd13, P13)], spLaw [(P10, qLt), (P11, qLo), (P13, qLf)] K, fun p hp => ?_, fun p hp => ?_, fun p hp => ?_, fun s v => .of_eq rfl, fun H a ns h1 h2 hH hS => ?_, fun base hK hN hTB => ?_⟩
  · simp only [List.mem_cons, List.not_mem_nil, or_false] at hp
    rcases hp with rfl | rfl | rfl
    · exact V10.2
    · exact V11.2
    · exact V13.2
  · simp only [List.mem_cons, List.not_mem_nil, or_false] at hp
    rcases hp with rfl | rfl | rfl
    · exact n10
    · exact n11
    · exact n13
  · simp only [List.mem_cons, List.not_mem_nil, or_false] at hp
    rcases hp with rfl | rfl | rfl
    · exact V10.1
    · exact V11.1
    · exact V13.1
  · refine ⟨a, ns, rfl, hS, fun p hp => ?_, fun _ => rfl⟩
    simp only [List.mem_cons, List.not_mem_nil, or_false] at hp
    rcases hp with rfl | rfl | rfl
    · exact LamX.TabS.nil (hH (cd10, P10) (by simp))
    · exact LamX.TabS.nil (hH (cd11, P11) (by simp))
    · exact LamX.TabS.nil (hH (cd13, P13) (by simp))
  · have tb10 := hTB (cd10, P10) (by simp)
    have MK10 : Mkr base mg [(P10, qLt), (P11, qLo), (P13, qLf)] cd10 P10 qLt := ⟨⟨tb10.code, tb10.bm, tb10.gP⟩, by simp, fun p hp e => by
      simp only [List.mem_cons, List.not_mem_nil, or_false] at hp
      rcases hp with rfl | rfl | rfl
      · rfl
      · exact absurd e.symm ne10_11
      · exact absurd e.symm ne10_13⟩
    have tb11 := hTB (cd11, P11) (by simp)
    have MK11 : Mkr base mg [(P10, qLt), (P11, qLo), (P13, qLf)] cd11 P11 qLo := ⟨⟨tb11.code, tb11.bm, tb11.gP⟩, by simp, fun p hp e => by
      simp only [List.mem_cons, List.not_mem_nil, or_false] at hp
      rcases hp with rfl | rfl | rfl
      · exact absurd e ne10_11
      · rfl
      · exact absurd e.symm ne11_13⟩
    have tb13 := hTB (cd13, P13) (by simp)
    have MK13 : Mkr base mg [(P10, qLt), (P11, qLo), (P13, qLf)] cd13 P13 qLf := ⟨⟨tb13.code, tb13.bm, tb13.gP⟩, by simp, fun p hp e => by
      simp only [List.mem_cons, List.not_mem_nil, or_false] at hp
      rcases hp with rfl | rfl | rfl
      · exact absurd e ne10_13
      · exact absurd e ne11_13
      · rfl⟩
    have GI : ∀ N, FnOk l.prog w K mg base CX0 1 _ _ _ (spInner N) := fun N => ok_inner (k := 0) F1 m_list
    have GII : ∀ N, FnOk l.prog w K mg base CX0 2 _ _ _ (spInner N) := fun N => ok_ii (k := 1) F7 (GI N) k1 b1 g1
    have GLf := ok_lf (P := l.prog) (w := w) (mg := mg) (base := base) (T := [(P10, qLt), (P11, qLo), (P13, qLf)]) (k := 0) F13 MK13 m_sorted m_len
    have GJo := ok_jo (P := l.prog) (w := w) (mg := mg) (base := base) (k := 0) F14
    have GLe := ok_le (k := 1) F15 (GLf.mono (by decide)) k13 b13 g13
    have GTl : ∀ N, FnOk l.prog w K mg base CX0 3 _ _ _ (spTl [(P10, qLt), (P11, qLo), (P13, qLf)] N) := fun N => ok_tl (k := 2) F12 GLe k15 b15 g15 (GJo.mono (by decide)) k14 b14 g14
    have GLa : ∀ N cl f c', LOk l.prog w K mg base CX0 4 f (mkLo cl c') ["leasts"] (spLa [(P10, qLt), (P11, qLo), (P13, qLf)] N) := fun N cl f c' => la_ok (k := 3) (GTl N) k12 b12 g12 cl f c'
    have GFo : ∀ N cl, FnC l.prog w K mg base CX0 5 f6 cl ["leasts"] (spFo [(P10, qLt), (P11, qLo), (P13, qLf)] N f7 cl) := fun N cl => ok_fo (k := 4) F6 b6 k7 (((GII N).mono (by decide)).raw b7 .nil) cl (GLa N cl) m_len
    have GLo : ∀ N, FnOk l.prog w K mg base CX0 6 _ _ _ (spLo [(P10, qLt), (P11, qLo), (P13, qLf)] N) := fun N => ok_lo (k := 5) F11 MK11 (GFo N) k6 g6 g7
    have GLt : ∀ N, FnOk l.prog w K mg base CX0 7 _ _ _ (spLt [(P10, qLt), (P11, qLo), (P13, qLf)] N) := fun N => ok_lt (k := 6) F10 MK10 (GLo N) k11 b11 g11 m_min m_len
    have GTab := ok_tab (P := l.prog) (w := w) (mg := mg) (base := base) (k := 0) F2
    have GLx : ∀ N, FnOk l.prog w K mg base CX0 8 _ _ _ (spLx [(P10, qLt), (P11, qLo), (P13, qLf)] N) := fun N => ok_lx (k := 7) F8 (GLt N) k10 b10 g10 (GTab.mono (by decide)) k2 b2 g2
    have GA : ∀ N, FnOk l.prog w K mg base CX0 2 _ _ _ (spAll N) := fun N => ok_all (k := 1) F3 (GI N) k1 b1 g1
    have GNn : ∀ N, FnOk l.prog w K mg base CX0 3 _ _ _ (spNin N) := fun N => ok_nin (k := 2) F4 (GA N) k3 b3 g3
    have GMe : ∀ N, FnOk l.prog w K mg base CX0 4 _ _ _ (spMet K N) := fun N => ok_met (k := 3) F5 (GTab.mono (by decide)) k2 b2 g2 (GNn N) k4 b4 g4 m_sorted m_tuple
    have GEn := ok_en (T := [(P10, qLt), (P11, qLo), (P13, qLf)]) (k := 7) F9 (FnOk.ex GLt) k10 b10 g10 (GTab.mono (by decide)) k2 b2 g2 ((FnOk.ex GMe).mono (by decide)) k5 b5 g5 m_tuple
    have GLxA := FnOk.ex GLx
    have GBe := ok_begin (P := l.prog) (w := w) (mg := mg) (base := base) (k := 0) F16 m_list
    have GN := ok_next (P := l.prog) (w := w) (mg := mg) (base := base) (k := 0) F17 m_len m_int
    have GM := ok_many (k := 1) F18 GN k17 b17 g17
    have GTd := ok_td (k := 2) F19 (GN.mono (by decide)) k17 b17 g17 GM k18 b18 g18 m_range
    have GSt := ok_st (k := 1) F20 GN k17 b17 g17
    have GPk := ok_pk (k := 1) F21 GN k17 b17 g17 m_tuple m_enumerate
    have GSp := ok_sp (k := 2) F22 (GN.mono (by decide)) k17 b17 g17 GSt k20 b20 g20 m_tuple m_enumerate
    have GTu := ok_tu (k := 1) F23 GN k17 b17 g17
    have GR0 : ∀ N, FnOk l.prog w K mg base CX0 3 _ _ _ (spDn N 0) := fun N => none_dn (f := f24) (fd := PySem.W.fnOf "_law_drawn" "_law_drawn" (defArgs sDn) (defBody sDn) (defScope sDn) .none kV24 dc24 pm24 an24 cd24 ct24)
    have GR1 : ∀ N, FnOk l.prog w K mg base CX0 4 _ _ _ (spDn N 1) := fun N => ok_dn (N := N) (n := 0) (k := 3) F24 (GN.mono (by decide)) k17 b17 g17 (GM.mono (by decide)) k18 b18 g18 (GTd.mono (by decide)) k19 b19 g19 (GSt.mono (by decide)) k20 b20 g20 (GPk.mono (by decide)) k21 b21 g21 (GSp.mono (by decide)) k22 b22 g22 (GTu.mono (by decide)) k23 b23 g23 (GR0 N) k24 b24 g24 m_len m_int m_range m_tuple m_enumerate
    have GR2 : ∀ N, FnOk l.prog w K mg base CX0 5 _ _ _ (spDn N 2) := fun N => ok_dn (N := N) (n := 1) (k := 4) F24 (GN.mono (by decide)) k17 b17 g17 (GM.mono (by decide)) k18 b18 g18 (GTd.mono (by decide)) k19 b19 g19 (GSt.mono (by decide)) k20 b20 g20 (GPk.mono (by decide)) k21 b21 g21 (GSp.mono (by decide)) k22 b22 g22 (GTu.mono (by decide)) k23 b23 g23 (GR1 N) k24 b24 g24 m_len m_int m_range m_tuple m_enumerate
    have GR3 : ∀ N, FnOk l.prog w K mg base CX0 6 _ _ _ (spDn N 3) := fun N => ok_dn (N := N) (n := 2) (k := 5) F24 (GN.mono (by decide)) k17 b17 g17 (GM.mono (by decide)) k18 b18 g18 (GTd.mono (by decide)) k19 b19 g19 (GSt.mono (by decide)) k20 b20 g20 (GPk.mono (by decide)) k21 b21 g21 (GSp.mono (by decide)) k22 b22 g22 (GTu.mono (by decide)) k23 b23 g23 (GR2 N) k24 b24 g24 m_len m_int m_range m_tuple m_enumerate
    have GR4 : ∀ N, FnOk l.prog w K mg base CX0 7 _ _ _ (spDn N 4) := fun N => ok_dn (N := N) (n := 3) (k := 6) F24 (GN.mono (by decide)) k17 b17 g17 (GM.mono (by decide)) k18 b18 g18 (GTd.mono (by decide)) k19 b19 g19 (GSt.mono (by decide)) k20 b20 g20 (GPk.mono (by decide)) k21 b21 g21 (GSp.mono (by decide)) k22 b22 g22 (GTu.mono (by decide)) k23 b23 g23 (GR3 N) k24 b24 g24 m_len m_int m_range m_tuple m_enumerate
    have GRA := FnOk.ex GR4
    have GWr := ok_wr (k := 7) F25 (by decide) (by decide) GM k18 b18 g18 GRA k24 b24 g24 m_range m_sorted m_tuple
    have GLow : ∀ n, FnOk l.prog w K mg base CX0 n f26 (PySem.W.fnOf "_law_lowest" "_law_lowest" (defArgs sLow) (defBody sLow) (defScope sLow) .none kV26 dc26 pm26 an26 cd26 ct26) _ (spLow n) := fun n => by
      induction n with
      | zero => exact none_low
      | succ n ih => exact ok_low (k := n) F26 ih k26 b26 g26 m_min m_max
    have GLw := ok_lows (k := 200) F27 (GLow 200) k26 b26 g26 m_range m_dict m_len
    have GS0 : FnOk l.prog w K mg base CX0 0 _ _ _ (spSame 0) := none_sm (f := f28) (fd := PySem.W.fnOf "_law_same" "_law_same" (defArgs sSm) (defBody sSm) (defScope sSm) .none kV28 dc28 pm28 an28 cd28 ct28)
    have GS1 := ok_sm (n := 0) (k := 0) F28 GS0 k28 b28 g28 m_isinstance m_tuple m_str m_int m_bool m_len m_zip m_all
    have GS2 := ok_sm (n := 1) (k := 1) F28 GS1 k28 b28 g28 m_isinstance m_tuple m_str m_int m_bool m_len m_zip m_all
    have GLin : ∀ N, FnOk l.prog w K mg base CX0 1 _ _ _ (spInner N) := fun N => ok_lin (k := 0) F29 m_list
    have GLinA := FnOk.ex GLin
    have GLni : ∀ n, FnOk l.prog w K mg base CX0 (n + 1) f30 (PySem.W.fnOf "_law_names_in" "_law_names_in" (defArgs sLni) (defBody sLni) (defScope sLni) .none kV30 dc30 pm30 an30 cd30 ct30) _ (spLni n) := fun n => by
      induction n with
      | zero => exact none_lni
      | succ n ih => exact ok_lni (k := n + 1) F30 (by omega) GLinA k29 b29 g29 ih k30 b30 g30
    have GLm := ok_lmet (k := 201) F31 (GLni 200) k30 b30 g30 m_range m_dict m_len m_list m_sorted m_set
    have GRg := ok_rg (k := 1) F32 GN k17 b17 g17 m_list m_len m_sorted m_tuple
    exact ok_law (k := 202) F33 GBe k16 b16 g16 (by decide) GWr k25 b25 g25 (by decide) GRg k32 b32 g32 (by decide) GLw k27 b27 g27 (by decide) GLm k31 b31 g31 (by decide) GS2 k28 b28 g28 (by decide) GEn k9 b9 g9 (by decide) GLxA k8 b8 g8 (by decide) m_range m_tuple m_len
end RT
open PySem PySem.W PyProof.Rows
set_option maxRecDepth 100000 in
set_option maxHeartbeats 0 in
theorem PySem.Challenge.cw_readtell_k16_names_without_texts_holds : PySem.Challenge.rw_readtell_k16_names_without_texts.Holds := by
  w_on; o_law; k_head; (case hw => w_witness2)
  k_fill
  refine RT.walk_tab (l := PySem.Challenge.rw_readtell_k16_names_without_texts) (n := 63) (k := 203) (x := "_law_script") rfl (by decide) rfl ⟨rfl, by decide, by decide⟩ (fun w h Y => PySem.W.km_in_of Y) ?F
  case F =>
    intro w mg fa h KX G hmg hq
    refine' RT.all_mk KX G hmg hq ?w10 ?w11 ?w13 ?a1 ?l1 ?c1 ?k1 ?a2 ?l2 ?c2 ?k2 ?a3 ?l3 ?c3 ?k3 ?a4 ?l4 ?c4 ?k4 ?a5 ?l5 ?c5 ?k5 ?a6 ?l6 ?c6 ?k6 ?a7 ?l7 ?c7 ?k7 ?a8 ?l8 ?c8 ?k8 ?a9 ?l9 ?c9 ?k9 ?a10 ?l10 ?c10 ?k10 ?t10 ?p10 ?n10 ?a11 ?l11 ?c11 ?k11 ?t11 ?p11 ?n11 ?a12 ?l12 ?c12 ?k12 ?a13 ?l13 ?c13 ?k13 ?t13 ?p13 ?n13 ?a14 ?l14 ?c14 ?k14 ?a15 ?l15 ?c15 ?k15 ?a16 ?l16 ?c16 ?k16 ?a17 ?l17 ?c17 ?k17 ?a18 ?l18 ?c18 ?k18 ?a19 ?l19 ?c19 ?k19 ?a20 ?l20 ?c20 ?k20 ?a21 ?l21 ?c21 ?k21 ?a22 ?l22 ?c22 ?k22 ?a23 ?l23 ?c23 ?k23 ?a24 ?l24 ?c24 ?k24 ?a25 ?l25 ?c25 ?k25 ?a26 ?l26 ?c26 ?k26 ?a27 ?l27 ?c27 ?k27 ?a28 ?l28 ?c28 ?k28 ?a29 ?l29 ?c29 ?k29 ?a30 ?l30 ?c30 ?k30 ?a31 ?l31 ?c31 ?k31 ?a32 ?l32 ?c32 ?k32 ?a33 ?l33 ?c33 ?k33 ?z1 ?z2 ?z3 ?z4 ?z5 ?z6 ?z7 ?z8 ?z9 ?z10 ?z11 ?z12 ?z13 ?z14 ?z15 ?z16 ?dd10_11 ?dd10_13 ?dd11_13
    (case w10 => rfl)
    (case w11 => rfl)
    (case w13 => rfl)
    (case a1 => k_is)
    (case l1 => k_is)
    (case c1 => k_is)
    (case k1 => k_is)
    (case a2 => k_is)
    (case l2 => k_is)
    (case c2 => k_is)
    (case k2 => k_is)
    (case a3 => k_is)
    (case l3 => k_is)
    (case c3 => k_is)
    (case k3 => k_is)
    (case a4 => k_is)
    (case l4 => k_is)
    (case c4 => k_is)
    (case k4 => k_is)
    (case a5 => k_is)
    (case l5 => k_is)
    (case c5 => k_is)
    (case k5 => k_is)
    (case a6 => k_is)
    (case l6 => k_is)
    (case c6 => k_is)
    (case k6 => k_is)
    (case a7 => k_is)
    (case l7 => k_is)
    (case c7 => k_is)
    (case k7 => k_is)
    (case a8 => k_is)
    (case l8 => k_is)
    (case c8 => k_is)
    (case k8 => k_is)
    (case a9 => k_is)
    (case l9 => k_is)
    (case c9 => k_is)
    (case k9 => k_is)
    (case a10 => k_is)
    (case l10 => k_is)
    (case c10 => k_is)
    (case k10 => k_is)
    (case t10 => k_is)
    (case p10 => rfl)
    (case n10 => rfl)
    (case a11 => k_is)
    (case l11 => k_is)
    (case c11 => k_is)
    (case k11 => k_is)
    (case t11 => k_is)
    (case p11 => rfl)
    (case n11 => rfl)
    (case a12 => k_is)
    (case l12 => k_is)
    (case c12 => k_is)
    (case k12 => k_is)
    (case a13 => k_is)
    (case l13 => k_is)
    (case c13 => k_is)
    (case k13 => k_is)
    (case t13 => k_is)
    (case p13 => rfl)
    (case n13 => rfl)
    (case a14 => k_is)
    (case l14 => k_is)
    (case c14 => k_is)
    (case k14 => k_is)
    (case a15 => k_is)
    (case l15 => k_is)
    (case c15 => k_is)
    (case k15 => k_is)
    (case a16 => k_is)
    (case l16 => k_is)
    (case c16 => k_is)
    (case k16 => k_is)
    (case a17 => k_is)
    (case l17 => k_is)
    (case c17 => k_is)
    (case k17 => k_is)
    (case a18 => k_is)
    (case l18 => k_is)
    (case c18 => k_is)
    (case k18 => k_is)
    (case a19 => k_is)
    (case l19 => k_is)
    (case c19 => k_is)
    (case k19 => k_is)
    (case a20 => k_is)
    (case l20 => k_is)
    (case c20 => k_is)
    (case k20 => k_is)
    (case a21 => k_is)
    (case l21 => k_is)
    (case c21 => k_is)
    (case k21 => k_is)
    (case a22 => k_is)
    (case l22 => k_is)
    (case c22 => k_is)
    (case k22 => k_is)
    (case a23 => k_is)
    (case l23 => k_is)
    (case c23 => k_is)
    (case k23 => k_is)
    (case a24 => k_is)
    (case l24 => k_is)
    (case c24 => k_is)
    (case k24 => k_is)
    (case a25 => k_is)
    (case l25 => k_is)
    (case c25 => k_is)
    (case k25 => k_is)
    (case a26 => k_is)
    (case l26 => k_is)
    (case c26 => k_is)
    (case k26 => k_is)
    (case a27 => k_is)
    (case l27 => k_is)
    (case c27 => k_is)
    (case k27 => k_is)
    (case a28 => k_is)
    (case l28 => k_is)
    (case c28 => k_is)
    (case k28 => k_is)
    (case a29 => k_is)
    (case l29 => k_is)
    (case c29 => k_is)
    (case k29 => k_is)
    (case a30 => k_is)
    (case l30 => k_is)
    (case c30 => k_is)
    (case k30 => k_is)
    (case a31 => k_is)
    (case l31 => k_is)
    (case c31 => k_is)
    (case k31 => k_is)
    (case a32 => k_is)
    (case l32 => k_is)
    (case c32 => k_is)
    (case k32 => k_is)
    (case a33 => k_is)
    (case l33 => k_is)
    (case c33 => k_is)
    (case k33 => k_is)
    (case z1 => k_is)
    (case z2 => k_is)
    (case z3 => k_is)
    (case z4 => k_is)
    (case z5 => k_is)
    (case z6 => k_is)
    (case z7 => k_is)
    (case z8 => k_is)
    (case z9 => k_is)
    (case z10 => k_is)
    (case z11 => k_is)
    (case z12 => k_is)
    (case z13 => k_is)
    (case z14 => k_is)
    (case z15 => k_is)
    (case z16 => k_is)
    (case dd10_11 => rfl)
    (case dd10_13 => rfl)
    (case dd11_13 => rfl)
