import PyProof.Rows.All
import Wide.All
import OpenK.AllK
import Wide.FinOn
import PySem.Challenge.RW_readtell_k14_rings_without_end
import HandS.ForMost
import HandS.Wide
import HandS.IsInst
import HandS.TupLe
import HandS.AnyAll
import HandS.EndTab
import HandS.DictTup
import HandS.StrMore
import HandS.Zip
import HandS.IterVal
import HandS.Flow
import HandS.Style
import HandS.TupAny
import HandS.DictComp
import HandS.Iter
import KE.KeyNested
import KE.GoesZip
import KE.GoesMore
import HandS.Rev
import HandS.TupMul
set_option Elab.async false
set_option linter.all false
set_option maxRecDepth 100000
/-! the drawing words of the law, by hand -/
namespace RT
open PySem PySem.Spec PyProof.Rows L2
def topS (i : Nat) : Stmt := PySem.Challenge.pw_readtell_k14_rings_without_end.main.body.getD i (.Pass ⟨0, 0, 0, 0⟩)
abbrev sBegin : Stmt := topS 42
abbrev sNext : Stmt := topS 43
abbrev sMany : Stmt := topS 44
/-! ### frames -/
/-- all but the places M stays -/
def Kp (M : Addr → Prop) (H H' : Hp) : Prop := ∀ b o, ¬ M b → H b = some o → H' b = some o
theorem Kp.refl {M : Addr → Prop} {H : Hp} : Kp M H H := fun _ _ _ e => e
theorem Kp.trans {M : Addr → Prop} {H H1 H2 : Hp} (a : Kp M H H1) (b : Kp M H1 H2) : Kp M H H2 := fun c o h e => b c o h (a c o h e)
theorem Kp.mono {M N : Addr → Prop} {H H1 : Hp} (a : Kp M H H1) (h : ∀ b, M b → N b) : Kp N H H1 := fun c o k e => a c o (fun z => k (h c z)) e
theorem Kp.new {M : Addr → Prop} {H : Hp} {p : Addr} {o : HO} (h : H p = none) : Kp M H (upd H p o) := fun b u _ e => by rw [upd_ne (ne_of_none e h)]; exact e
theorem Kp.put {M : Addr → Prop} {H : Hp} {p : Addr} {o : HO} (h : M p) : Kp M H (upd H p o) := fun b u k e => by rw [upd_ne (fun z => k (by rw [z]; exact h))]; exact e
abbrev M0 : Addr → Prop := fun _ => False
theorem sqL_keep {K : PySem.W.Frag} {H H' : Hp} {a : Addr} {xs : List V} (k : Kp M0 H H') (h : SqL K H a xs) : SqL K H' a xs := by
  rcases h with (h | ⟨o, h⟩) | h
  · exact .inl (.inl (k _ _ (fun z => z) h))
  · exact .inl (.inr ⟨o, k _ _ (fun z => z) h⟩)
  · exact .inr h
/-! ### what is drawn from -/
structure PotE (H : Hp) (pd pc : Addr) (ns : List Int) (a l s : Int) : Prop where
  d : H pd = some (.dK [(.inr "cells", .ref pc), (.inr "at", .int a), (.inr "left", .int l), (.inr "seed", .int s)])
  c : H pc = some (.lst (ns.map V.int))
  a0 : 0 ≤ a
  l0 : 0 ≤ l
  s0 : 0 ≤ s
  s1 : s < 2305843009213693951
  len : ns.length ≤ 63
def Pot (H : Hp) (pd pc : Addr) : Prop := ∃ ns a l s, PotE H pd pc ns a l s
theorem PotE.ne {H : Hp} {pd pc : Addr} {ns : List Int} {a l s : Int} (E : PotE H pd pc ns a l s) : pd ≠ pc := ne_of E.d E.c (fun z => by cases z)
theorem PotE.put {H : Hp} {pd pc : Addr} {ns : List Int} {a l s a' l' s' : Int} (E : PotE H pd pc ns a l s) (h1 : 0 ≤ a') (h2 : 0 ≤ l') (h3 : 0 ≤ s') (h4 : s' < 2305843009213693951) : PotE (upd H pd (.dK [(.inr "cells", .ref pc), (.inr "at", .int a'), (.inr "left", .int l'), (.inr "seed", .int s')])) pd pc ns a' l' s' :=
  ⟨upd_same, by rw [upd_ne E.ne.symm]; exact E.c, h1, h2, h3, h4, E.len⟩
theorem PotE.keep {M : Addr → Prop} {H H' : Hp} {pd pc : Addr} {ns : List Int} {a l s : Int} (E : PotE H pd pc ns a l s) (k : Kp M H H') (hd : ¬ M pd) (hc : ¬ M pc) : PotE H' pd pc ns a l s := ⟨k _ _ hd E.d, k _ _ hc E.c, E.a0, E.l0, E.s0, E.s1, E.len⟩
theorem Pot.keep {M : Addr → Prop} {H H' : Hp} {pd pc : Addr} (P : Pot H pd pc) (k : Kp M H H') (hd : ¬ M pd) (hc : ¬ M pc) : Pot H' pd pc := let ⟨_, _, _, _, E⟩ := P; ⟨_, _, _, _, E.keep k hd hc⟩
theorem Pot.new {H : Hp} {pd pc p : Addr} {o : HO} (P : Pot H pd pc) (n : H p = none) : Pot (upd H p o) pd pc := P.keep (M := M0) (Kp.new n) (fun z => z) (fun z => z)
/-- what drawing changes -/
abbrev PM (pd : Addr) : Addr → Prop := fun b => b = pd
theorem Pot.off {H : Hp} {pd pc p : Addr} (P : Pot H pd pc) (n : H p = none) : ¬ PM pd p := fun z => by
  obtain ⟨_, _, _, _, E⟩ := P
  have d := E.d
  rw [← (show p = pd from z), n] at d
  cases d
theorem Pot.ne {H : Hp} {pd pc p : Addr} {o : HO} (P : Pot H pd pc) (e : H p = some o) (h : ∀ kvs, o ≠ .dK kvs) : ¬ PM pd p := fun z => by
  obtain ⟨_, _, _, _, E⟩ := P
  have d := E.d
  rw [← (show p = pd from z), e] at d
  exact h _ (Option.some.inj d)
theorem Pot.noT {H : Hp} {pd pc : Addr} (P : Pot H pd pc) : ∀ a xs, PM pd a → H a ≠ some (.tup xs) := fun a xs m e => P.ne e (fun _ z => by cases z) m
theorem at_some {α : Type} {xs : List α} {d : Int} (h0 : 0 ≤ d) (h1 : d < xs.length) : ∃ v, atI xs d = some v ∧ v ∈ xs := by
  obtain ⟨j, rfl⟩ := Int.eq_ofNat_of_zero_le h0
  have hj : j < xs.length := by omega
  exact ⟨xs[j], atI_nat (List.getElem?_eq_getElem hj), List.getElem_mem hj⟩
theorem none_back {M : Addr → Prop} {H H1 : Hp} {p : Addr} (k : Kp M H H1) (hp : ¬ M p) (n : H1 p = none) : H p = none := by
  cases z : H p with
  | none => rfl
  | some u =>
    have q := k p u hp z
    rw [n] at q
    cases q
theorem Kp.own {M : Addr → Prop} {H H1 : Hp} {p : Addr} {o : HO} (k : Kp M H H1) (n : H p = none) : Kp M H (upd H1 p o) := fun b u hb e => by
  rw [upd_ne (ne_of_none e n)]
  exact k b u hb e
theorem noT0 {H : Hp} : ∀ (a : Addr) xs, M0 a → H a ≠ some (.tup xs) := fun _ _ z => z.elim
theorem putK_new {kvs : List (Key × V)} {k : Key} {v : V} (h : ∀ p ∈ kvs, p.1 ≠ k) : putK kvs k v = kvs ++ [(k, v)] := by
  unfold putK
  rw [if_neg]
  intro z
  obtain ⟨p, hp, e⟩ := List.any_eq_true.mp z
  exact h p hp (of_decide_eq_true e)
structure FunT (K : PySem.W.Frag) (x qual : Str) (st : Stmt) (f : Addr) (fd : FuncData) (c : Addr) : Prop where
  ex : ∃ (oc : Value) (od : Option Addr) (kV doc pm : Value) (an : Option Addr) (ct : Value) (osl : Array (Option Value)),
    fd = PySem.W.fnOf x qual (defArgs st) (defBody st) (defScope st) .none kV doc pm an (.ref c) ct ∧ K.lookup f = some ⟨oc, od, .func fd, osl⟩ ∧ PySem.W.codeIn K (.ref c) qual = true
  kp : PySem.W.keepIn K (.ref f) = true
theorem len_tl (z : Str) : z.length = z.cps.toList.length := by simp [Str.length]
theorem tYes_ok {σ : L2.St} {H : Hp} {Q : Bool → Hp → Prop} (h : Q true H) : tYes σ H Q := h
theorem lt1 (a b : Nat) : ([a] < [b]) ↔ a < b := by
  constructor
  · intro h
    cases h with
    | rel h => exact h
    | cons h => cases h
  · exact fun h => List.Lex.rel h
/-! ### texts of single signs -/
theorem joinL_nil : ∀ ps : List (List Nat), TL.joinL [] ps = ps.flatten
  | [] => rfl
  | [p] => by simp [TL.joinL]
  | p :: q :: r => by
    show p ++ ([] ++ TL.joinL [] (q :: r)) = _
    rw [joinL_nil (q :: r)]
    rfl
theorem join_signs (cs : List Nat) : Txt.join (Str.ofString "") (cs.map fun c => (⟨#[c]⟩ : Str)) = ⟨cs.toArray⟩ := by
  refine TL.ext_tl ?_
  rw [TL.join_eq, TL.tl_join]
  have e : TL.tl (Str.ofString "") = [] := rfl
  rw [e, joinL_nil, List.map_map, TL.tl_mk]
  induction cs with
  | nil => rfl
  | cons c r ih =>
    rw [List.map_cons, List.flatten_cons, ih]
    rfl
theorem sum_ones (cs : List Nat) : ((cs.map fun c => (⟨#[c]⟩ : Str)).map (·.length)).sum = cs.length := by
  induction cs with
  | nil => rfl
  | cons c r ih =>
    rw [List.map_cons, List.map_cons, List.sum_cons, ih, List.length_cons]
    show 1 + r.length = r.length + 1
    omega
end RT

/-! the words that draw -/
namespace RT
open PySem PySem.Spec PyProof.Rows L2
theorem scBegin : FnScope ["_law_script"] ["_law_script"] (defScope sBegin) := ⟨rfl, rfl, rfl, by decide +kernel, rfl, by decide +kernel, by decide +kernel⟩
theorem scNext : FnScope ["_law_draws", "_law_many_here", "_law_cell", "_law_digit"] ["_law_draws", "_law_many_here"] (defScope sNext) := ⟨rfl, rfl, rfl, by decide +kernel, rfl, by decide +kernel, by decide +kernel⟩
theorem scMany : FnScope ["_law_draws", "_law_few", "_law_most"] ["_law_draws", "_law_few", "_law_most"] (defScope sMany) := ⟨rfl, rfl, rfl, by decide +kernel, rfl, by decide +kernel, by decide +kernel⟩
theorem cut63 (xs : List V) : cutV xs none (some 63) = xs.take 63 := by
  unfold cutV
  rw [HT.sIx_none, show HT.sIx xs.length xs.length (some 63) = min 63 xs.length from HT.sIx_nat xs.length xs.length 63]
  rw [List.drop_zero, Nat.sub_zero]
  by_cases h : xs.length ≤ 63
  · rw [Nat.min_eq_right h, List.take_length, List.take_of_length_le h]
  · rw [Nat.min_eq_left (by omega)]
theorem seq_split {ta tb : TS} {D : Ends} {σ : L2.St} {H : Hp} (T : L2.St → Hp → Prop) (S : ∀ σ' H', T σ' H' → tb D σ' H') (h : (∀ σ' H', T σ' H' → tb D σ' H') → ta { D with nx := tb D } σ H) : tSeq ta tb D σ H := h S
section
variable {P : Program} {w : World} {K : PySem.W.Frag} {mg : Str → Option Value} {base : Heap}
def spBegin (K : PySem.W.Frag) : Sp := fun vs H Q _ => ∃ (a : Addr) (ns : List Int), vs = [.ref a] ∧ SqL K H a (ns.map V.int) ∧
  ∀ (pd pc : Addr) (H' : Hp), Kp M0 H H' → Pot H' pd pc → Q (.ref pd) H'
theorem ok_begin {f : Addr} {fd : FuncData} {k : Nat} (F : Fun K "_law_begin" "_law_begin" sBegin f fd) (mli : mg "list" = none) : FnOk P w K mg base CX0 (k + 1) f fd ["_law_script"] (spBegin K) := by
  refine F.ok scBegin (fun vs H Q E h => ?_) (fun cdv A outer s H vs Q E hr h => ?_)
  · obtain ⟨a, ns, rfl, _⟩ := h
    rfl
  · obtain ⟨a, ns, rfl, hS, q⟩ := h
    refine ⟨_, (pss_one (ps_ret (pe_disp (pps_cons pe_str (pe_callTy call_list_of (by rfl) mli (by decide +kernel) (pa_cons (pe_slice sl_list (pv 0) po_none (po_some pe_int)) pa_nil)) (pps_cons pe_str pe_int (pps_cons pe_str pe_int (pps_cons pe_str pe_int pps_nil)))) (by rfl) (by rfl) (fun z => by cases z) (by decide)))), ?_⟩
    intro p np
    refine ⟨.ref a, rfl, 63, rfl, a, ns.map V.int, rfl, sqL_keep (Kp.new np) hS, fun c nc => ?_⟩
    rw [cut63, ← List.map_take]
    have pc : p ≠ c := fun z => by
      rw [← z, upd_same] at nc
      cases nc
    refine ⟨c, (ns.take 63).map V.int, rfl, .inl (SqL.of upd_same), fun l nl => ?_⟩
    have lc : c ≠ l := fun z => by
      rw [← z, upd_same] at nl
      cases nl
    have pl : p ≠ l := fun z => by
      rw [← z, upd_ne pc, upd_same] at nl
      cases nl
    refine ⟨?_, [(.inr "cells", .ref l), (.inr "at", .int 0), (.inr "left", .int 0), (.inr "seed", .int 1000003)], rfl, (by show 4 ≤ 15; decide), ?_⟩
    · rw [upd_ne pl, upd_ne pc, upd_same]
    refine q p l _ (fun b u _ e => ?_) ⟨ns.take 63, 0, 0, 1000003, upd_same, ?_, by decide, by decide, by decide, by decide, by rw [List.length_take]; omega⟩
    · have nb := ne_of_none e np
      have nbc : b ≠ c := ne_of_none (by rw [upd_ne nb]; exact e) nc
      have nbl : b ≠ l := ne_of_none (by rw [upd_ne nbc, upd_ne nb]; exact e) nl
      rw [upd_ne nb, upd_ne nbl, upd_ne nbc, upd_ne nb]
      exact e
    · rw [upd_ne pl.symm, upd_same]
def spNext : Sp := fun vs H Q _ => ∃ (pd pc : Addr) (m : Int), vs = [.ref pd, .int m] ∧ Pot H pd pc ∧ 1 ≤ m ∧ m < 1073741824 ∧
  ∀ (d : Nat) (H' : Hp), (d : Int) < m → Pot H' pd pc → Kp (PM pd) H H' → Q (.int (d : Nat)) H'
theorem ok_next {f : Addr} {fd : FuncData} {k : Nat} (F : Fun K "_law_next" "_law_next" sNext f fd) (ml : mg "len" = none) (mint : mg "int" = none) : FnOk P w K mg base CX0 (k + 1) f fd ["_law_draws", "_law_many_here"] spNext := by
  refine F.ok scNext (fun vs H Q E h => ?_) (fun cdv A outer s H vs Q E hr h => ?_)
  · obtain ⟨pd, pc, m, rfl, _⟩ := h
    rfl
  · obtain ⟨pd, pc, m, rfl, hP, hm1, hm2, q⟩ := h
    obtain ⟨ns, a, l, s0, E⟩ := hP
    refine ⟨_, (pss_cons (ps_if (PW.pt (pw_and (pt_cmpR op_eq (pe_dget (hu_of hr) (pv 0) pe_str (fun _ _ => rfl)) pe_int (nomark _)) (pw_and1 (pt_cmpR op_lt (pe_dget (hu_of hr) (pv 0) pe_str (fun _ _ => rfl)) (pe_callB call_len_seq (by rfl) ml PySem.boot_len (pa_cons (pe_dget (hu_of hr) (pv 0) pe_str (fun _ _ => rfl)) pa_nil)) (nomark _))))) (pss_cons (ps_set (i := 2) scNext.nd rfl (.inl rfl) (pe_ix ix_list (pe_dget (hu_of hr) (pv 0) pe_str (fun _ _ => rfl)) (pe_dget (hu_of hr) (pv 0) pe_str (fun _ _ => rfl)) (fun _ _ => rfl)))
      (pss_cons (ps_dput (hu_of hr) (pv 0) pe_str (pe_op op_add (pe_dget (hu_of hr) (pv 0) pe_str (fun _ _ => rfl)) pe_int) rfl)
      (pss_cons (ps_dput (hu_of hr) (pv 0) pe_str (pe_op op_mod (pe_op op_add (pe_op op_add (pe_op op_mul (pe_dget (hu_of hr) (pv 0) pe_str (fun _ _ => rfl)) pe_int) (pe_op op_mod (pv 2) (pe_op op_pow pe_int pe_int))) pe_int) pe_int) rfl)
      (pss_one (ps_dput (hu_of hr) (pv 0) pe_str (pe_op op_mul (pv 2) (pe_callTy call_int1 (by rfl) mint (by decide +kernel) (pa_cons (pe_cmpR op_ge (pv 2) (pe_op op_pow pe_int pe_int) (nomark _)) pa_nil))) rfl))))) pss_nil)
      (pss_cons (ps_if (pt_cmpR op_gt (pe_dget (hu_of hr) (pv 0) pe_str (fun _ _ => rfl)) pe_int (nomark _)) (pss_cons (ps_set (i := 3) scNext.nd rfl (.inl rfl) (pe_op op_mod (pe_dget (hu_of hr) (pv 0) pe_str (fun _ _ => rfl)) (pv 1)))
      (pss_cons (ps_dput (hu_of hr) (pv 0) pe_str (pe_op op_fdiv (pe_dget (hu_of hr) (pv 0) pe_str (fun _ _ => rfl)) (pv 1)) rfl)
      (pss_one (ps_ret (pv 3))))) pss_nil)
      (pss_cons (ps_dput (hu_of hr) (pv 0) pe_str (pe_op op_mod (pe_op op_add (pe_op op_mul (pe_dget (hu_of hr) (pv 0) pe_str (fun _ _ => rfl)) pe_int) pe_int) pe_int) rfl)
      (pss_one (ps_ret (pe_op op_mod (pe_op op_fdiv (pe_op op_mod (pe_op op_mul (pe_dget (hu_of hr) (pv 0) pe_str (fun _ _ => rfl)) (pe_dget (hu_of hr) (pv 0) pe_str (fun _ _ => rfl))) pe_int) pe_int) (pv 1))))))), ?_⟩
    have e18 : (10 : Int) ^ 18 < 2 ^ 64 := by decide
    have T1 : (3 : Nat) < 1000 := by decide
    have room : (4 : Nat) < sizeLine := by decide
    have wide : ∀ {s : Int}, 0 ≤ s → s < 2305843009213693951 → -(2 ^ 64) < s ∧ s < 2 ^ 64 := fun h0 h1 => by
      have : (2 : Int) ^ 64 = 18446744073709551616 := by decide
      omega
    have q2 : ∀ (y : Int) (H' : Hp), Pot H' pd pc → Kp (PM pd) H H' → Q (.int (y % m)) H' := fun y H' p k => by
      obtain ⟨d, ed⟩ := Int.eq_ofNat_of_zero_le (Int.emod_nonneg y (show m ≠ 0 by omega))
      have lt := Int.emod_lt_of_pos y (show 0 < m by omega)
      rw [ed] at lt ⊢
      exact q d H' lt p k
    -- from the second part on
    refine seq_split (fun σ' H' => ∃ (a l s : Int) (y2 y3 : Option V), σ' = [some (.ref pd), some (.int m), y2, y3] ∧ PotE H' pd pc ns a l s ∧ Kp (PM pd) H H') ?_ (fun S => ?_)
    · rintro _ H2 ⟨a, l, s, y2, y3, rfl, E, k2⟩
      refine ⟨_, rfl, pd, _, rfl, DGet.k (k := .inr "left") E.d, _, _, rfl, rfl, _, rfl, ite2 (fun c => ?A) (fun c => ?B)⟩
      case A =>
        have l0 : 0 < l := of_decide_eq_true c
        refine ⟨_, rfl, pd, _, rfl, DGet.k (k := .inr "left") E.d, _, rfl, _, _, rfl, rfl, (by show (0 : Int) < m; omega), ?_⟩
        refine ⟨_, rfl, pd, _, rfl, DGet.k (k := .inr "left") E.d, _, rfl, _, _, rfl, rfl, ⟨by omega, by omega⟩, _, rfl, pd, _, rfl, DPut.k (k := .inr "left") E.d room, _, rfl, ?_⟩
        exact q2 l _ ⟨ns, a, l / m, s, E.put E.a0 (Int.ediv_nonneg E.l0 (by omega)) E.s0 E.s1⟩ (k2.trans (Kp.put rfl))
      case B =>
        refine ⟨_, rfl, pd, _, rfl, DGet.k (k := .inr "seed") E.d, _, _, rfl, rfl, .inl (wide E.s0 E.s1), _, _, rfl, rfl, _, _, rfl, rfl, (by show (0 : Int) < 2305843009213693951; decide), _, rfl, pd, _, rfl, DPut.k (k := .inr "seed") E.d room, ?_⟩
        have E2 := E.put (s' := (s * 1181783497276652981 + 12345678910987) % 2305843009213693951) E.a0 E.l0 (Int.emod_nonneg _ (by decide)) (Int.emod_lt_of_pos _ (by decide))
        have k3 : Kp (PM pd) H (upd H2 pd _) := k2.trans (Kp.put (M := PM pd) (H := H2) (p := pd) (o := .dK [(.inr "cells", .ref pc), (.inr "at", .int a), (.inr "left", .int l), (.inr "seed", .int ((s * 1181783497276652981 + 12345678910987) % 2305843009213693951))]) rfl)
        refine ⟨_, rfl, pd, _, rfl, DGet.k (k := .inr "seed") E2.d, _, rfl, pd, _, rfl, DGet.k (k := .inr "seed") E2.d, _, _, rfl, rfl, .inl (wide E2.s0 E2.s1), _, _, rfl, rfl, (by show (0 : Int) < 2305843009213693921; decide), _, _, rfl, rfl, ⟨by decide, by decide⟩, _, rfl, _, _, rfl, rfl, (by show (0 : Int) < m; omega), ?_⟩
        exact q2 _ _ ⟨ns, a, l, _, E2⟩ k3
    · refine ⟨_, rfl, pd, _, rfl, DGet.k (k := .inr "left") E.d, rfl, _, rfl, ite2 (fun c => ?A) (fun c => iteF ?B)⟩
      case B => exact S _ _ ⟨a, l, s0, none, none, rfl, E, Kp.refl⟩
      case A =>
        refine ⟨_, rfl, pd, _, rfl, DGet.k (k := .inr "at") E.d, _, rfl, pd, _, rfl, DGet.k (k := .inr "cells") E.d, pc, ns.map V.int, rfl, .inl (SqL.of E.c), _, _, rfl, rfl, _, rfl, ite2 (fun c2 => ?A) (fun c2 => ?B)⟩
        case B => exact S _ _ ⟨a, l, s0, none, none, rfl, E, Kp.refl⟩
        case A =>
          have lt : a < ((ns.map V.int).length : Nat) := of_decide_eq_true c2
          have a0 := E.a0
          obtain ⟨j, rfl⟩ := Int.eq_ofNat_of_zero_le a0
          have hj : j < ns.length := by
            rw [List.length_map] at lt
            omega
          have gj : (ns.map V.int)[j]? = some (.int ns[j]) := by rw [List.getElem?_map, List.getElem?_eq_getElem hj]; rfl
          generalize ns[j] = n at gj
          refine ⟨_, rfl, pd, _, rfl, DGet.k (k := .inr "cells") E.d, _, rfl, pd, _, rfl, DGet.k (k := .inr "at") E.d, pc, _, j, .int n, rfl, rfl, SqL.of E.c, atI_nat (j := j) gj, ?_⟩
          refine ⟨_, rfl, pd, _, rfl, DGet.k (k := .inr "at") E.d, _, _, rfl, rfl, _, rfl, pd, _, rfl, DPut.k (k := .inr "at") E.d room, ?_⟩
          have E2 := E.put (a' := (j : Int) + 1) (l' := l) (s' := s0) (by omega) E.l0 E.s0 E.s1
          refine ⟨_, rfl, pd, _, rfl, DGet.k (k := .inr "seed") E2.d, _, _, rfl, rfl, .inl (wide E2.s0 E2.s1), _, rfl, _, _, rfl, rfl, ⟨by decide, by decide, by decide⟩, _, _, rfl, rfl, (by show (0 : Int) < 10 ^ 30; decide), _, _, rfl, rfl, _, _, rfl, rfl, _, _, rfl, rfl, (by show (0 : Int) < 2305843009213693951; decide), _, rfl, pd, _, rfl, DPut.k (k := .inr "seed") E2.d room, ?_⟩
          have E3 := E2.put (s' := (s0 * 7368787 + n % 10 ^ 30 + 11) % 2305843009213693951) E2.a0 E2.l0 (Int.emod_nonneg _ (by decide)) (Int.emod_lt_of_pos _ (by decide))
          refine ⟨_, rfl, _, rfl, _, _, rfl, rfl, ⟨by decide, by decide, by decide⟩, _, _, rfl, rfl, .inr ⟨_, rfl, _, _, rfl, rfl, .inr ?_, _, rfl, pd, _, rfl, DPut.k (k := .inr "left") E3.d room, ?_⟩⟩
          · split <;> exact ⟨by decide, by decide⟩
          · have n0 : 0 ≤ n * (if (decide ((10 : Int) ^ 18 ≤ n)) = true then 1 else 0) := by
              by_cases z : (10 : Int) ^ 18 ≤ n
              · rw [if_pos (decide_eq_true z)]
                have : (0 : Int) ≤ 10 ^ 18 := by decide
                omega
              · rw [if_neg (by rw [decide_eq_false z]; exact Bool.false_ne_true), Int.mul_zero]
                exact Int.le_refl 0
            exact S _ _ ⟨_, _, _, _, _, rfl, E3.put E3.a0 n0 E3.s0 E3.s1, ((Kp.put (M := PM pd) rfl).trans (Kp.put (M := PM pd) rfl)).trans (Kp.put (M := PM pd) rfl)⟩
def spMany : Sp := fun vs H Q _ => ∃ (pd pc : Addr) (a b : Nat), vs = [.ref pd, .int (a : Nat), .int (b : Nat)] ∧ Pot H pd pc ∧ a ≤ 1000 ∧ b ≤ 1000 ∧
  ∀ (d : Nat) (H' : Hp), d ≤ max a b → Pot H' pd pc → Kp (PM pd) H H' → Q (.int (d : Nat)) H'
theorem ok_many {f fn : Addr} {fd fdn : FuncData} {k : Nat} (F : Fun K "_law_many" "_law_many" sMany f fd) (GN : FnOk P w K mg base CX0 k fn fdn ["_law_draws", "_law_many_here"] spNext) (kn : PySem.W.keepIn K (.ref fn) = true) (bn : Binds K fdn ["_law_draws", "_law_many_here"] []) (gn : mg "_law_next" = some (.ref fn)) :
    FnOk P w K mg base CX0 (k + 1) f fd ["_law_draws", "_law_few", "_law_most"] spMany := by
  refine F.ok scMany (fun vs H Q E h => ?_) (fun cdv A outer s H vs Q E hr h => ?_)
  · obtain ⟨pd, pc, a, b, rfl, _⟩ := h
    rfl
  · obtain ⟨pd, pc, a, b, rfl, hP, ha, hb, q⟩ := h
    refine ⟨_, (pss_cons (ps_if (pt_cmpR op_eq (pe_call GN hr (by rfl) gn kn bn .nil pass0 (pa_cons (pv 0) (pa_cons pe_int pa_nil))) pe_int (nomark _)) (pss_one (ps_ret (pe_call GN hr (by rfl) gn kn bn .nil pass0 (pa_cons (pv 0) (pa_cons (pe_op op_add (pv 2) pe_int) pa_nil))))) pss_nil)
      (pss_one (ps_ret (pe_call GN hr (by rfl) gn kn bn .nil pass0 (pa_cons (pv 0) (pa_cons (pe_op op_add (pv 1) pe_int) pa_nil)))))), ?_⟩
    refine ⟨_, rfl, pd, pc, 8, rfl, hP, by decide, by decide, fun d H1 lt P1 k1 => ⟨rfl, _, rfl, ite2 (fun c => ?_) (fun c => ?_)⟩⟩
    · exact ⟨_, rfl, _, rfl, _, _, rfl, rfl, pd, pc, _, rfl, P1, by omega, by omega, fun e H2 lt2 P2 k2 => q e H2 (by omega) P2 (k1.trans k2)⟩
    · exact ⟨_, rfl, _, rfl, _, _, rfl, rfl, pd, pc, _, rfl, P1, by omega, by omega, fun e H2 lt2 P2 k2 => q e H2 (by omega) P2 (k1.trans k2)⟩
end
end RT

/-! forms, worths, what is left to be done, as things; the walk without the program -/
namespace RT
open PySem PySem.Spec PyProof.Rows L2
inductive D where
  | str (z : Str)
  | int (i : Int)
  | non
  | tup (ds : List D)
mutual
inductive Rp (H : Hp) : V → D → Prop
  | str {z : Str} : z.length ≤ sizeLine → Rp H (.str z) (.str z)
  | int {i : Int} : Rp H (.int i) (.int i)
  | non : Rp H .non .non
  | tup {a : Addr} {vs : List V} {ds : List D} : H a = some (.tup vs) → Rps H vs ds → Rp H (.ref a) (.tup ds)
inductive Rps (H : Hp) : List V → List D → Prop
  | nil : Rps H [] []
  | cons {v : V} {d : D} {vs : List V} {ds : List D} : Rp H v d → Rps H vs ds → Rps H (v :: vs) (d :: ds)
end
mutual
theorem Rp.keep {H H' : Hp} {M : Addr → Prop} (k : Kp M H H') (h : ∀ a xs, M a → H a ≠ some (.tup xs)) : ∀ {v : V} {d : D}, Rp H v d → Rp H' v d
  | _, _, .str z => .str z
  | _, _, .int => .int
  | _, _, .non => .non
  | _, _, .tup e r => .tup (k _ _ (fun m => h _ _ m e) e) (Rps.keep k h r)
theorem Rps.keep {H H' : Hp} {M : Addr → Prop} (k : Kp M H H') (h : ∀ a xs, M a → H a ≠ some (.tup xs)) : ∀ {vs : List V} {ds : List D}, Rps H vs ds → Rps H' vs ds
  | _, _, .nil => .nil
  | _, _, .cons r t => .cons (r.keep k h) (Rps.keep k h t)
end
theorem Rps.len {H : Hp} : ∀ {vs : List V} {ds : List D}, Rps H vs ds → vs.length = ds.length
  | _, _, .nil => rfl
  | _, _, .cons _ t => by rw [List.length_cons, List.length_cons, Rps.len t]
theorem Rps.app {H : Hp} : ∀ {vs ws : List V} {ds es : List D}, Rps H vs ds → Rps H ws es → Rps H (vs ++ ws) (ds ++ es)
  | _, _, _, _, .nil, r => r
  | _, _, _, _, .cons q t, r => .cons q (Rps.app t r)
theorem Rps.get {H : Hp} : ∀ {vs : List V} {ds : List D}, Rps H vs ds → ∀ (i : Nat) (v : V), vs[i]? = some v → ∃ d, ds[i]? = some d ∧ Rp H v d
  | _, _, .nil, i, v, h => by simp at h
  | _, _, .cons q t, 0, v, h => by
    cases h
    exact ⟨_, rfl, q⟩
  | _, _, .cons q t, i + 1, v, h => Rps.get t i v (by simpa using h)
/-- forms -/
inductive Fm where
  | text (z : Str)
  | skip (f : Fm)
  | row (fs : List Fm)
  | either (ns : List Str) (fs : List Fm)
  | named (x : Str)
mutual
def Fm.enc : Fm → D
  | .text z => .tup [.str "text", .str z]
  | .skip f => .tup [.str "skip", f.enc]
  | .row fs => .tup [.str "row", .tup (Fm.encs fs)]
  | .either ns fs => .tup [.str "either", .tup (List.zipWith (fun n d => .tup [.str n, d]) ns (Fm.encs fs))]
  | .named x => .tup [.str "named", .str x]
def Fm.encs : List Fm → List D
  | [] => []
  | f :: r => f.enc :: Fm.encs r
end
theorem Fm.encs_map : ∀ fs : List Fm, Fm.encs fs = fs.map Fm.enc
  | [] => rfl
  | f :: r => by
    show f.enc :: Fm.encs r = _
    rw [Fm.encs_map r]
    rfl
def Fm.word : Fm → Str
  | .text _ => "text"
  | .skip _ => "skip"
  | .row _ => "row"
  | .either _ _ => "either"
  | .named _ => "named"
def Fm.bare : Fm → Bool
  | .text _ => true
  | .skip _ => true
  | _ => false
theorem Fm.enc_word (f : Fm) : ∃ ds, f.enc = .tup (.str f.word :: ds) := by cases f <;> exact ⟨_, rfl⟩
/-- what is left to be done -/
inductive It where
  | form (f : Fm)
  | skipped
  | rowed (fs : List Fm)
  | chosen (n : Str) (f : Fm)
  | outof (x : Str) (p t : Nat)
def It.enc : It → D
  | .form f => f.enc
  | .skipped => .tup [.str "skipped"]
  | .rowed fs => .tup [.str "rowed", (Fm.row fs).enc]
  | .chosen n f => .tup [.str "chosen", .str n, f.enc]
  | .outof x p t => .tup [.str "out of", .tup [.str x, .int (p : Nat), .int (t : Nat)]]
abbrev Ky := Str × Nat × Nat
structure St where
  T : List It
  W : List D
  p : Nat
  t : Nat
  ks : List Ky
/-- the worths of a row's forms that tell one -/
def keep : List Fm → List D → List D
  | f :: fs, d :: ds => if f.bare = true then keep fs ds else d :: keep fs ds
  | _, _ => []
def small (s : St) : Prop := s.T.length ≤ 1000 ∧ s.W.length ≤ 1000 ∧ s.ks.length ≤ 1000
/-- one step, the item taken already -/
inductive Stp (tb : List (Str × Fm)) (tx : Str) (wy : List (Nat × Nat)) : It → St → Option St → Prop
  | textT {z : Str} {s : St} : Txt.startswith3 tx z s.p = true → Stp tb tx wy (.form (.text z)) s (some { s with W := s.W ++ [.tup []], p := s.p + z.length })
  | skip {f : Fm} {s : St} : Stp tb tx wy (.form (.skip f)) s (some { s with T := .form f :: .skipped :: s.T })
  | skipped {s : St} {W0 : List D} {d : D} : s.W = W0 ++ [d] → Stp tb tx wy .skipped s (some { s with W := W0 ++ [.tup []] })
  | row {fs : List Fm} {s : St} : Stp tb tx wy (.form (.row fs)) s (some { s with T := fs.map .form ++ .rowed fs :: s.T })
  | rowed {fs : List Fm} {s : St} {W0 ws : List D} : s.W = W0 ++ ws → ws.length = fs.length → Stp tb tx wy (.rowed fs) s (some { s with W := W0 ++ [.tup (keep fs ws)] })
  | eitherF {ns : List Str} {fs : List Fm} {s : St} : wy.length ≤ s.t → Stp tb tx wy (.form (.either ns fs)) s none
  | eitherT {ns : List Str} {fs : List Fm} {s : St} {c : Nat} {n : Str} {f : Fm} : wy[s.t]? = some (s.p, c) → ns[c]? = some n → fs[c]? = some f → ns.length = fs.length → Stp tb tx wy (.form (.either ns fs)) s (some { s with T := .form f :: .chosen n f :: s.T, t := s.t + 1 })
  | chosen {n : Str} {f : Fm} {s : St} {W0 : List D} {d : D} : s.W = W0 ++ [d] → Stp tb tx wy (.chosen n f) s (some { s with W := W0 ++ [if f.bare = true then .tup [.str n] else .tup [.str n, d]] })
  | namedF {x : Str} {s : St} : (x, s.p, s.t) ∈ s.ks → Stp tb tx wy (.form (.named x)) s none
  | namedT {x : Str} {s : St} {f : Fm} : (x, s.p, s.t) ∉ s.ks → (x, f) ∈ tb → Stp tb tx wy (.form (.named x)) s (some { s with T := .form f :: .outof x s.p s.t :: s.T, ks := s.ks ++ [(x, s.p, s.t)] })
  | outof {x : Str} {p t : Nat} {s : St} : (x, p, t) ∈ s.ks → Stp tb tx wy (.outof x p t) s (some { s with ks := s.ks.filter fun k => decide (k ≠ (x, p, t)) })
def It.ok : It → Prop
  | .form (.either ns fs) => ns.length = fs.length ∧ fs.length ≤ 100
  | _ => True
/-- steps to the end -/
inductive Run (tb : List (Str × Fm)) (tx : Str) (wy : List (Nat × Nat)) : St → Option St → Nat → Prop
  | fin {s : St} : s.T = [] → Run tb tx wy s (some s) 0
  | fail {s : St} {i : It} {r : List It} : s.T = i :: r → i.ok → Stp tb tx wy i { s with T := r } none → Run tb tx wy s none 1
  | more {s s' : St} {i : It} {r : List It} {o : Option St} {n : Nat} : s.T = i :: r → i.ok → Stp tb tx wy i { s with T := r } (some s') → small s' → Run tb tx wy s' o n → Run tb tx wy s o (n + 1)
end RT

set_option maxHeartbeats 1000000
/-! del d[k] with a tuple key; calls of a local name; tuples stay -/
namespace RT
open PySem PySem.Spec PyProof.Rows L2
theorem iteF' {b : Bool} {A B : Prop} (e : b = false) (h : B) : if b = true then A else B := by
  rw [e]
  exact iteF h
theorem iteT' {b : Bool} {A B : Prop} (e : b = true) (h : A) : if b = true then A else B := by
  rw [e]
  exact iteT h
/-- del d[k], d a dict with tuple keys -/
def tDDelT (td ty : TE) : L2.TS := fun D σ H => td σ H fun x H1 => ty σ H1 fun y H2 => ∃ (a b : Addr) (kvs : List (List L2.Key × V)) (k : List L2.Key), x = .ref a ∧ H2 a = some (.dT kvs) ∧ y = .ref b ∧ H2 b = some (.tup (k.map kV)) ∧ (valV kvs k).isSome = true ∧ D.nx σ (upd H2 a (.dT (dropK kvs k)))
section
variable {X : Cx}
theorem ps_ddelT {o i : Expr} {td ty : TE} {tpos pos : Pos} (hu : X.A.units + 1 < cLine) (ho : PE X o td) (hi : PE X i ty) : PS X (.Delete [.Subscript o i tpos] pos) (tDDelT td ty) := by
  refine ⟨fun pins s σ H D I h => ?_⟩
  refine wpAny_Delete (wpAny_deleteEach_cons (wpAny_delete_Subscript (thn (ho.run pins s σ H _ I h) fun u s1 ⟨x, H1, I1, rx, q1⟩ => thn (hi.run pins s1 σ H1 _ I1 q1) fun iv s2 ⟨y, H2, I2, ry, a, b, kvs, k, ex, ha, ey, hb, hv, q2⟩ => ?_)))
  subst ex ey
  obtain rfl : u = Value.ref a := rx
  obtain rfl : iv = Value.ref b := ry
  obtain ⟨z, hd, xs, rel, dd⟩ := dt_of I2.hok ha
  have hz : xs.length ≤ sizeLine := by rw [← Paired.length rel]; exact z
  obtain ⟨v0, ev⟩ := Option.isSome_iff_exists.mp hv
  have r := rel.val k
  rw [ev] at r
  cases hp : atKey xs k with
  | none =>
    rw [hp] at r
    exact (show False from r).elim
  | some p =>
    refine wpAny_delItem_heap (hsz := hz) (knd := tupleKind (mixKind X.prog X.w)) (tupleKind_room_in1 hu) (key_of I2.hok hb) hd dd hp fun h' dd' hs => wpAny_deleteEach_nil ⟨σ, _, ?_, q2⟩
    obtain ⟨ob, es, ep, hq, h2, h3, h4, _, h5⟩ := dd'
    exact d_write I2 (by rw [ha]; exact True.intro) hs ⟨ob, hq⟩ ⟨Nat.le_trans (dropK_le kvs k) z, hd, _, (L2.DX.KT_drop k rel).keeps (fun c ys ec => (by rw [upd_ne (ne_of ec ha (fun z => nomatch z))]; exact ec)), ob, es, ep, hq, h2, h3, h4, h5⟩
end
def tKGet (K : PySem.W.Frag) (d : Addr) (td ty : TE) : TE := fun σ H Q => td σ H fun x H1 => x = .ref d ∧ ty σ H1 fun y H2 => ∃ (z : Str) (u0 : Value) (v0 : V), y = .str z ∧ PySem.W.nsIn K d z = some (some u0) ∧ RelV v0 u0 ∧ Q v0 H2
section
variable {X : Cx} {o i : Expr} {pos : Pos} {td ty : TE} {d : Addr} {es : Array DictEntry} {n : Nat}
/-- d[k] -/
theorem pe_kix (D : KDict X.K X.w d es n) (ho : PE X o td) (hi : PE X i ty) (hs : NoSl i) : PE X (.Subscript o i pos) (tKGet X.K d td ty) := by
  refine ⟨fun pins s σ H Q I h => ?_⟩
  refine subD_of PySem.F.slot_dict_getitem.lookup hs (thn (ho.run pins s σ H _ I h) fun u s1 ⟨x, H1, I1, rx, ex, q1⟩ => thn (hi.run pins s1 σ H1 _ I1 q1) fun iv s2 ⟨y, H2, I2, ry, z, u0, v0, ey, en, r, q2⟩ => ?_)
  subst ex ey
  obtain rfl : u = Value.ref d := rx
  obtain ⟨t, rfl⟩ := ry
  exact ⟨kd_type D I2, wpAny_getItem_of (PySem.strKind_is X.prog X.w z t) (PySem.W.mapOf_K (prog := X.prog) I2.kIn D.at_ D.lit) (PySem.W.find_K D.at_ en) ⟨v0, H2, I2.tok _, r, q2⟩⟩
end
/-- f(e, ..), f a local name that holds one def or another -/
def tCallVs (P : Program) (w : World) (K : PySem.W.Frag) (mg : Str → Option Value) (base : Heap) (CX : CXT) (k i : Nat) (E : XK) (t : TA) : TE := fun σ H Q =>
  ∃ (f : Addr) (sp : Sp), σ[i]? = some (some (.ref f)) ∧ PySem.W.keepIn K (.ref f) = true ∧ FnR P w K mg base CX k f sp ∧ t σ H fun vs H1 => sp vs H1 Q E
theorem pe_callVs {X : Cx} {CX : CXT} {k i : Nat} {E : XK} {x : Str} {e : Expr} {es : List Expr} {t : TA} {p pos : Pos} (hr : Room k X.A) (hx : Passes CX X E) (hN : X.N[i]? = some x) (hv : Vis X.env.scope x) (ha : PA X (e :: es) t)
    (hd : (x == ("__debug__" : Str)) = false := by decide) (hcd : (x == ("__classdict__" : Str)) = false := by decide)
    (st : starEach (e :: es) X.env = (false, eval e X.env) :: starEach es X.env := by rfl) (pl : (backTo pos (starEach es X.env)).any (·.1) = false := by rfl) : PE X (.Call (.Name x p) (e :: es) [] pos) (tCallVs X.prog X.w X.K X.mg X.base CX k i E t) :=
  ⟨fun pins s σ H Q I ⟨f, sp, hs, hk, F, h⟩ => (ItX.pe_callV (i := i) F hr hk hx hN hv ha hd hcd st pl).run pins s σ H Q I ⟨hs, h⟩⟩
/-! ### tuples stay -/
abbrev TS (H H' : Hp) : Prop := ∀ (b : Addr) (vs : List V), H b = some (.tup vs) → H' b = some (.tup vs)
theorem TS.new {H : Hp} {p : Addr} {o : HO} (n : H p = none) : TS H (upd H p o) := fun b vs e => by rw [upd_ne (ne_of_none e n)]; exact e
theorem TS.put {H : Hp} {p : Addr} {o u : HO} (e : H p = some u) (h : ∀ vs, u ≠ .tup vs) : TS H (upd H p o) := fun b vs q => by
  rw [upd_ne (ne_of q e fun z => h _ z.symm)]
  exact q
theorem TS.trans {H H1 H2 : Hp} (a : TS H H1) (b : TS H1 H2) : TS H H2 := fun c vs e => b c vs (a c vs e)
mutual
theorem Rp.ts {H H' : Hp} (k : TS H H') : ∀ {v : V} {d : D}, Rp H v d → Rp H' v d
  | _, _, .str z => .str z
  | _, _, .int => .int
  | _, _, .non => .non
  | _, _, .tup e r => .tup (k _ _ e) (Rps.ts k r)
theorem Rps.ts {H H' : Hp} (k : TS H H') : ∀ {vs : List V} {ds : List D}, Rps H vs ds → Rps H' vs ds
  | _, _, .nil => .nil
  | _, _, .cons r t => .cons (r.ts k) (Rps.ts k t)
end
theorem room_of {k : Nat} {A : Around} (hr : Room k A) : A.units + 65 < cLine := by
  have := hr.un
  omega
theorem taken {α : Type} (sel : Nat → Bool) (a : Nat) : ∀ (xs : List α) (off : Nat), (∀ k, off ≤ k → k < off + xs.length → sel k = decide (a ≤ k)) →
    ((xs.zipIdx off).filterMap fun p => if sel p.2 = true then none else some p.1) = xs.take (a - off)
  | [], off, _ => by simp
  | x :: r, off, h => by
    rw [List.zipIdx_cons, List.filterMap_cons]
    have h0 := h off (Nat.le_refl _) (by rw [List.length_cons]; omega)
    have ih := taken sel a r (off + 1) fun k k1 k2 => h k (by omega) (by rw [List.length_cons]; omega)
    by_cases c : a ≤ off
    · rw [decide_eq_true c] at h0
      simp only [h0, if_true, ih]
      rw [show a - off = 0 by omega, show a - (off + 1) = 0 by omega]
      rfl
    · rw [decide_eq_false c] at h0
      simp only [h0, Bool.false_eq_true, if_false, ih]
      rw [show a - off = (a - (off + 1)) + 1 by omega]
      rfl
theorem tail_run {a n : Nat} (ha : a ≤ n) : sliceBounds (some (a : Int)) none none n = ((a : Int), (n : Int), 1) := by
  have h1 : ¬ ((a : Int) < 0) := by omega
  simp only [sliceBounds, Option.getD_none, h1, if_false, show (1 : Int) > 0 by decide, if_true]
  congr 1
  omega
section
variable {P : Program} {w : World} {A : Around} {E : Value → Shared → Prop} {s : Shared}
theorem del_tail {l sl : Addr} {items : Array Value} {n a : Nat} {vl vu : Value} {Q : Unit → Shared → Prop} (e : s.heap.get? l = some { cls := .type "list", data := .seq items n }) (hs : s.heap.IsSliceOf sl vl vu .none)
    (pl : IsPart vl (some (a : Int))) (pu : IsPart vu none) (ha : a ≤ items.size) (hz : items.size ≤ sizeLine) (q : ∀ f : Array Value → Array Value, f items = (items.toList.take a).toArray → Q () { s with heap := s.heap.update l (Obj.mapSeq f) }) :
    wpAny (model P w) A (delItem (.ref l) (.ref sl)) Q E s := by
  have il : s.heap.IsList l items := PySem.IsL.isList e
  obtain ⟨os, hos, hcs, hds⟩ := id hs
  have ty : s.TypeIs (.ref sl) "slice" := ⟨os, hos, hcs⟩
  have nostep : ¬ ((rawPart none == rawInt 0) = true) := Bool.false_ne_true
  refine wpAny_delItem_slot il.typeIs (by decide) PySem.F.slot_list_delitem (wpAny_call_entry PySem.F.slot_list_delitem il.typeIs PySem.F.entry_list_delitem ?_ (PySem.F.args_list_delitem_2 _ _))
  show wpAny _ _ (Builtin.List.listSubscript? (.ref sl) >>= _) _ _ s
  refine wpAny_bind ?_
  unfold Builtin.List.listSubscript?
  refine wpAny_bind (wpAny_specialOf ty slice_no_index (wpAny_pure ?_))
  show wpAny _ _ (typeOf (.ref sl) >>= _) _ _ s
  refine wpAny_bind (wpAny_typeOf ty ?_)
  rw [if_neg (by decide), listSliceParts_eq]
  refine wpAny_bind (wpAny_bind (wpAny_field hos hds (x := .none) rfl (wpAny_bind (wpAny_listPart .none ?_))))
  rw [if_neg nostep]
  refine wpAny_bind (wpAny_field hos hds (x := vl) rfl (wpAny_bind (wpAny_listPart pl ?_)))
  refine wpAny_bind (wpAny_field hos hds (x := vu) rfl (wpAny_bind (wpAny_listPart pu (wpAny_pure ?_))))
  unfold Builtin.List.listItems
  refine wpAny_bind (wpAny_bind (wpAny_seqItems e rfl (wpAny_pure ?_)))
  refine wpAny_bind (wpAny_of_eq ((sliceIndices_raw (some (a : Int)) none none items.size (by simp)).trans (congrArg (pure : Int × Int × Int → Sem (Int × Int × Int)) (tail_run ha))) ?_)
  refine wpAny_bind (wpAny_rule ?_)
  have ff : (List.filterMap (fun p : Value × Nat => if (if (1 : Int) > 0 then (decide ((a : Int) ≤ (p.2 : Int)) && decide ((p.2 : Int) < (items.size : Int)) && ((p.2 : Int) - (a : Int)) % 1 == 0) else (decide ((items.size : Int) < (p.2 : Int)) && decide ((p.2 : Int) ≤ (a : Int)) && ((a : Int) - (p.2 : Int)) % (-1) == 0)) = true then none else some p.1) items.toList.zipIdx).toArray = (items.toList.take a).toArray := by
    refine congrArg List.toArray ?_
    refine (taken (fun k => if (1 : Int) > 0 then (decide ((a : Int) ≤ (k : Int)) && decide ((k : Int) < (items.size : Int)) && ((k : Int) - (a : Int)) % 1 == 0) else (decide ((items.size : Int) < (k : Int)) && decide ((k : Int) ≤ (a : Int)) && ((a : Int) - (k : Int)) % (-1) == 0)) a items.toList 0 fun k _ k2 => ?_).trans (by rw [Nat.sub_zero])
    rw [Nat.zero_add, Array.length_toList] at k2
    rw [if_pos (by decide), Int.emod_one]
    have h2 : decide ((k : Int) < (items.size : Int)) = true := decide_eq_true (by omega)
    rw [h2, Bool.and_true]
    by_cases c : a ≤ k
    · rw [decide_eq_true c, decide_eq_true (show (a : Int) ≤ (k : Int) by omega)]
      rfl
    · rw [decide_eq_false c, decide_eq_false (show ¬ (a : Int) ≤ (k : Int) by omega)]
      rfl
  have q' := q (fun xs => (List.filterMap (fun p : Value × Nat => if (if (1 : Int) > 0 then (decide ((a : Int) ≤ (p.2 : Int)) && decide ((p.2 : Int) < (items.size : Int)) && ((p.2 : Int) - (a : Int)) % 1 == 0) else (decide ((items.size : Int) < (p.2 : Int)) && decide ((p.2 : Int) ≤ (a : Int)) && ((a : Int) - (p.2 : Int)) % (-1) == 0)) = true then none else some p.1) xs.toList.zipIdx).toArray) ff
  refine wpAny_bind (m := Builtin.List.listUpdate (.ref l) _) ?_
  refine wpAny_updateSeq (hz := hz) (_hz' := ?sz) e rfl ?wp
  case sz =>
    refine Nat.le_trans ?_ (Nat.le_succ_of_le hz)
    rw [List.size_toArray]
    refine Nat.le_trans (List.length_filterMap_le _ _) ?_
    rw [List.length_zipIdx, Array.length_toList]
    exact Nat.le_refl _
  case wp => exact wpAny_bind (wpAny_letGo (wpAny_pure ⟨.none, rfl, q'⟩))
end
/-- del xs[a:] -/
def tDelT (to ti : TE) : L2.TS := fun D σ H => to σ H fun x H1 => tPart ti σ H1 fun z H2 => ∃ (l : Addr) (xs : List V) (a : Nat), x = .ref l ∧ z = some ((a : Nat) : Int) ∧ H2 l = some (.lst xs) ∧ a ≤ xs.length ∧ D.nx σ (upd H2 l (.lst (xs.take a)))
section
variable {X : Cx}
theorem ps_delT {o i : Expr} {to ti : TE} {p1 p2 pos : Pos} (ho : PE X o to) (hi : PE X i ti) : PS X (.Delete [.Subscript o (.Slice (some i) none none p1) p2] pos) (tDelT to ti) := by
  refine ⟨fun pins s σ H D I h => ?_⟩
  refine wpAny_Delete (wpAny_deleteEach_cons (wpAny_delete_Subscript (thn (ho.run pins s σ H _ I h) fun u s1 ⟨x, H1, I1, rx, q1⟩ => ?_)))
  refine wpAny_Slice (thn ((po_some hi).run pins s1 σ H1 (fun z H2 => ∃ (l : Addr) (xs : List V) (a : Nat), x = .ref l ∧ z = some ((a : Nat) : Int) ∧ H2 l = some (.lst xs) ∧ a ≤ xs.length ∧ D.nx σ (upd H2 l (.lst (xs.take a)))) I1 q1) fun vl s2 ⟨z, H2, I2, pl, q2⟩ => ?_)
  · refine thn (po_none.run pins s2 σ H2 (fun z H3 => z = none ∧ H3 = H2) I2 ⟨rfl, rfl⟩) fun vu s3 ⟨z3, H3, I3, pu, e3, e4⟩ => ?_
    subst e3 e4
    rw [evalPart_none]
    refine wpAny_pure ?_
    obtain ⟨l, xs, a, ex, ez, hH, ha, q⟩ := q2
    subst ex ez
    obtain rfl : u = .ref l := rx
    have I4 : Inv X pins σ H3 { s3 with heap := s3.heap.push { cls := .type "slice", data := .fields #[vl, vu, .none] } } := I3.kept (t' := s3.toks) fun b ob q => Heap.get?_push_of_some _ q
    obtain ⟨z, its, n, r, hl, e⟩ := I4.lstM hH
    refine del_tail e (Heap.IsSliceOf.new ..) pl pu (by rw [List.size_toArray]; omega) (by rw [List.size_toArray]; omega) fun f hf => wpAny_deleteEach_nil ⟨σ, _, ?_, q⟩
    exact I4.lset (its' := its.take a) (t' := s3.toks) hH e (by rw [hf]) (r.take a) (by rw [List.length_take]; omega)
end
/-! ### t[::-1] -/
theorem back_adjust (n : Nat) : Builtin.Slice.sliceAdjust none none (-1) (n : Int) = ((n : Int) - 1, -1) := by
  unfold Builtin.Slice.sliceAdjust
  first | rfl | simp
theorem back_places (n : Nat) : Builtin.Slice.slicePlaces ((n : Int) - 1) (-1) (-1) = n := by
  unfold Builtin.Slice.slicePlaces
  first | omega | (split <;> omega) | (simp; omega) | (split <;> (try split) <;> simp <;> omega)
theorem fm_congr {α β : Type} {f g : α → Option β} : ∀ l : List α, (∀ x ∈ l, f x = g x) → l.filterMap f = l.filterMap g
  | [], _ => rfl
  | x :: r, h => by
    rw [List.filterMap_cons, List.filterMap_cons, h x (List.mem_cons_self ..), fm_congr r fun y m => h y (List.mem_cons_of_mem _ m)]
theorem back_pick (xs : Array Value) : ((List.range xs.size).filterMap fun (k : Nat) => xs[(((xs.size : Int) - 1) + (k : Int) * (-1)).toNat]?).toArray = xs.toList.reverse.toArray := by
  have e : (List.range xs.size).filterMap (fun (k : Nat) => xs[(((xs.size : Int) - 1) + (k : Int) * (-1)).toNat]?) = ((List.range xs.size).map fun k => xs.size - 1 - k).filterMap (xs[·]?) := by
    rw [List.filterMap_map]
    refine fm_congr _ fun k hk => ?_
    have := List.mem_range.mp hk
    show xs[(((xs.size : Int) - 1) + (k : Int) * (-1)).toNat]? = xs[xs.size - 1 - k]?
    rw [show (((xs.size : Int) - 1) + (k : Int) * (-1)).toNat = xs.size - 1 - k by omega]
  rw [e, PySem.W.krv_range, List.filterMap_reverse, PySem.W.krv_all]
section
variable {P : Program} {w : World} {A : Around} {E : Value → Shared → Prop} {s : Shared}
theorem back_tuple {t sl : Addr} {items : Array Value} {vl vu vs : Value} {Q : Value → Shared → Prop} (ht : IsTup s.heap t items) (hs : s.heap.IsSliceOf sl vl vu vs) (pl : IsPart vl none) (pu : IsPart vu none) (ps : IsPart vs (some (-1))) (hz : items.size ≤ sizeLine)
    (q : Q (.ref s.heap.objs.size) { s with heap := s.heap.push { cls := .type "tuple", data := .seq items.toList.reverse.toArray } }) : wpAny (model P w) A (getItem (.ref t) (.ref sl)) Q E s := by
  obtain ⟨os, hos, hcs, hds⟩ := id hs
  have ty : s.TypeIs (.ref sl) "slice" := ⟨os, hos, hcs⟩
  have fits : sizeOk (.seq items.toList.reverse.toArray) := by
    show items.toList.reverse.toArray.size ≤ sizeLine
    rw [List.size_toArray, List.length_reverse, Array.length_toList]
    exact hz
  unfold getItem
  refine wpAny_holding (wpAny_bind (wpAny_sequenceKey ht.typeIs (by decide) ?_))
  refine wpAny_bind (wpAny_callSpecial?_slot (name := Str.ofString "__getitem__") ht.typeIs PyProof.Rows.slot_tuple_getitem (wpAny_call_entry PyProof.Rows.slot_tuple_getitem ht.typeIs entry_tuple_getitem ?_ (args_tuple_getitem _ _)))
  show wpAny _ _ (Builtin.Tuple.tupleItemsOf (.ref t) >>= _) _ _ s
  refine wpAny_bind (tupleItemsOf_ ht (wpAny_bind (wpAny_typeOf ty ?_)))
  rw [if_pos (by decide)]
  have ap : wpAny (model P w) A.in1 (Builtin.Slice.sliceApplied (.ref sl) (pure (items.size : Int))) (fun r s' => r = (((items.size : Int) - 1), -1, items.size) ∧ s' = s) E s := by
    unfold Builtin.Slice.sliceApplied Builtin.Slice.sliceFields
    refine wpAny_bind (wpAny_bind (wpAny_field hos hds (x := vl) rfl (wpAny_bind (wpAny_field hos hds (x := vu) rfl (wpAny_bind (wpAny_field hos hds (x := vs) rfl (wpAny_pure ?_)))))))
    refine wpAny_bind (HT.slicePart_ ps ?_)
    show wpAny _ _ (if ((-1 : Int) == 0) = true then _ else _) _ _ s
    rw [if_neg (by decide)]
    refine wpAny_bind (HT.slicePart_ pl (wpAny_bind (HT.slicePart_ pu (wpAny_bind (wpAny_pure ?_)))))
    show wpAny _ _ (match Builtin.Slice.sliceAdjust none none (-1) (items.size : Int) with | (lo, hi) => pure (lo, (-1 : Int), Builtin.Slice.slicePlaces lo hi (-1))) _ _ s
    rw [back_adjust]
    show wpAny _ _ (pure ((items.size : Int) - 1, (-1 : Int), Builtin.Slice.slicePlaces ((items.size : Int) - 1) (-1) (-1))) _ _ s
    rw [back_places]
    exact wpAny_pure ⟨rfl, rfl⟩
  refine wpAny_bind (wpAny_mono ap (fun r s' ⟨e1, e2⟩ => ?_) fun _ _ z => z)
  subst e1 e2
  dsimp only
  rw [if_neg (by simp), back_pick]
  exact wpAny_bind (m := Builtin.Tuple.tupleExact _) (wpAny_newObj_type (wpAny_pure ⟨_, rfl, wpAny_pure q⟩) fits)
end
def tRevT (K : PySem.W.Frag) (te : TE) : TE := fun σ H Q => te σ H fun x H1 => ∃ a xs, x = .ref a ∧ SqT K H1 a xs ∧ ∀ p, H1 p = none → Q (.ref p) (upd H1 p (.tup xs.reverse))
section
variable {X : Cx}
theorem pe_revT {e : Expr} {te : TE} {k : Nat} {p1 p2 p3 pos : Pos} (he : PE X e te) : PE X (.Subscript e (.Slice none none (some (.UnaryOp .USub (.Constant (.int 1) k p1) p2)) p3) pos) (tRevT X.K te) := by
  have minus : PO X (some (.UnaryOp .USub (.Constant (.int 1) k p1) p2)) (tPart (tUn (rU fun i => .int (-i)) (tC (.int 1)))) := po_some (pe_un un_neg pe_int)
  refine ⟨fun pins s σ H Q I h => Subscript_ (thn (he.run pins s σ H _ I h) fun v s1 ⟨x, H1, I1, r1, a, xs, ex, hx, q⟩ => ?_)⟩
  subst ex
  obtain rfl : v = .ref a := r1
  refine wpAny_Slice (thn (po_none.run pins s1 σ H1 (fun o H2 => o = none ∧ H2 = H1) I1 ⟨rfl, rfl⟩) fun vl s2 ⟨o2, H2, I2, pl, el, e2⟩ => ?_)
  subst el e2
  refine thn (po_none.run pins s2 σ H2 (fun o H3 => o = none ∧ H3 = H2) I2 ⟨rfl, rfl⟩) fun vu s3 ⟨o3, H3, I3, pu, eu, e3⟩ => ?_
  subst eu e3
  refine thn (minus.run pins s3 σ H3 (fun o H4 => o = some (-1) ∧ H4 = H3) I3 ⟨1, rfl, -1, rfl, rfl, rfl⟩) fun vs s4 ⟨o4, H4, I4, ps, eo, e4⟩ => ?_
  subst eo e4
  have I5 : Inv X pins σ H4 { s4 with heap := s4.heap.push { cls := .type "slice", data := .fields #[vl, vu, vs] } } := I4.kept (t' := s4.toks) fun b ob q => Heap.get?_push_of_some _ q
  obtain ⟨its, r, ht, hz⟩ := I5.tuple hx
  have len := r.length
  refine tail_any (ops := [.ref a, .ref s4.heap.objs.size]) ht.typeIs PyProof.Rows.slot_tuple_getitem.lookup ?_ (by with_unfolding_all rfl)
  refine back_tuple ht (Heap.IsSliceOf.new _ vl vu vs) pl pu ps (by rw [List.size_toArray]; omega) ?_
  refine ⟨.ref _, _, I5.laid (t' := s4.toks) (o := .tup xs.reverse) (fun b ob q => Heap.get?_push_of_some _ q) (Nat.le_refl _) ?_, rfl, q _ (I5.hok.fresh (Nat.le_refl _))⟩
  exact ⟨by rw [List.length_reverse]; exact hz, _, r.reverse, IsTup.new _ _⟩
end
/-- xs.extend(t), t a tuple at any place -/
theorem extend_tuple (l b : Addr) (xs ys : Array Value) (n m : Nat) (dd : Option Addr) (sl : Array (Option Value)) (h0 : ¬(!xs.isEmpty && Builtin.List.listTooLong (xs.size + ys.size)) = true) (h1 : xs.size ≤ sizeLine) (h2 : xs.size + ys.size ≤ sizeLine + 1) :
    Meets (Builtin.«list.extend» ⟨[.ref l, .ref b], []⟩) (fun _ R s => s.heap.get? l = some { cls := .type "list", dict := none, data := .seq xs n, slots := #[] } ∧ s.heap.get? b = some { cls := .type "tuple", dict := dd, data := .seq ys m, slots := sl } ∧
      R (.ok (.ret Value.none)) { s with heap := s.heap.update l (Obj.mapSeq fun x => x ++ ys), toks := s.toks }) := by
  refine .of_wp fun prog w A R s h => ?_
  obtain ⟨hp, g, d, tk, os⟩ := s
  obtain ⟨hl, hb, h⟩ := h
  have f1 := PySem.AutoSeq1.idx_int
  have f2 := PySem.AutoSeq1.sub_tuple_tuple
  have f3 := PySem.AutoSeq1.sub_list_list
  have f4 := PySem.AutoSeq1.sub_tuple_list
  have f5 := PySem.AutoSeq1.sub_list_tuple
  have hz : (xs ++ ys).size ≤ sizeLine + 1 := by rw [Array.size_append]; exact h2
  wp_walk using (wpAny_updateSeq hl rfl (hz := h1) (_hz' := hz)), wpAny_loadPart' hl, wpAny_loadPart' hb
  exact ⟨_, rfl, h⟩
section
variable {X : Cx}
def rExtT : V → List V → Hp → VK → Prop := fun x vs H Q => ∃ l b xs zs, x = .ref l ∧ vs = [.ref b] ∧ H l = some (.lst xs) ∧ H b = some (.tup zs) ∧ xs.length + zs.length ≤ sizeLine ∧ Q .non (upd H l (.lst (xs ++ zs)))
theorem mt_extT : MtR X "list.extend" rExtT := by
  intro pins s σ H x vs v us Q I rx rv h
  obtain ⟨l, b, xs, zs, rfl, rfl, hH, hB, hz, q⟩ := h
  cases rx
  obtain ⟨u, rfl, ru⟩ := rv.one
  cases ru
  obtain ⟨z, its, n, r, hl, e⟩ := I.lstM hH
  obtain ⟨z2, its2, r2, ob, e2, c2, m, d2⟩ := (show ObjOk X.prog X.w H s.heap b (.tup zs) from I.hok b _ hB)
  obtain ⟨oc, od, dt, sl⟩ := ob
  simp only at c2 d2
  subst c2 d2
  have hsz : its.toArray.size + its2.toArray.size ≤ sizeLine := by
    rw [List.size_toArray, List.size_toArray]
    have := r.length
    have := r2.length
    omega
  have hlong : ¬ (!its.toArray.isEmpty && Builtin.List.listTooLong (its.toArray.size + its2.toArray.size)) = true := by
    rw [notLongL hsz, Bool.and_false]
    exact Bool.false_ne_true
  refine call_meets F.slot_list_extend ⟨_, e, rfl⟩ F.entry_list_extend (F.args_list_extend_2 _ _) (extend_tuple l b its.toArray its2.toArray n m od sl hlong (by omega) (by omega)) ⟨e, e2, ?_⟩
  refine ⟨.non, _, I.lset (its' := its ++ its2) hH e (by simp) (r.append r2) ?_, rfl, q⟩
  rw [List.length_append]
  exact hz
end
end RT

set_option maxHeartbeats 1000000
/-! the walk's object -/
namespace RT
open PySem PySem.Spec PyProof.Rows L2
abbrev sIn : Stmt := topS 2
abbrev sWalk : Stmt := topS 14
abbrev sWi : Stmt := inClass sWalk 0
abbrev sWt : Stmt := inClass sWalk 1
abbrev sWc : Stmt := inClass sWalk 3
theorem scIn : FnScope ["x"] ["x"] (defScope sIn) := ⟨rfl, rfl, rfl, by decide +kernel, rfl, by decide +kernel, by decide +kernel⟩
theorem scWi : FnScope ["self", "table", "text", "way"] ["self", "table", "text", "way"] (defScope sWi) := ⟨rfl, rfl, rfl, by decide +kernel, rfl, by decide +kernel, by decide +kernel⟩
theorem scWt : FnScope ["self", "signs"] ["self", "signs"] (defScope sWt) := ⟨rfl, rfl, rfl, by decide +kernel, rfl, by decide +kernel, by decide +kernel⟩
theorem scWc : FnScope ["self", "options", "step"] ["self", "options"] (defScope sWc) := ⟨rfl, rfl, rfl, by decide +kernel, rfl, by decide +kernel, by decide +kernel⟩
/-- a walk's places and what it walks -/
structure Wx where
  C : Addr
  x : Addr
  td : Addr
  wt : Addr
  wi : Addr
  tbA : Addr
  wyA : Addr
  tx : Str
  tb : List (Str × Fm)
  wy : List (Nat × Nat)
def wkF (c : Wx) (p t : Nat) : List (Str × V) := [("table", .ref c.tbA), ("text", .str c.tx), ("way", .ref c.wyA), ("place", .int (p : Nat)), ("taken", .int (t : Nat)), ("todo", .ref c.td), ("worths", .ref c.wt), ("within", .ref c.wi)]
def kyE (k : Ky) : List L2.Key × V := ([.inr k.1, .inl (k.2.1 : Nat), .inl (k.2.2 : Nat)], .bl true)
def wyD (q : Nat × Nat) : D := .tup [.int (q.1 : Nat), .int (q.2 : Nat)]
def TabAt (H : Hp) (a : Addr) (tb : List (Str × Fm)) : Prop := ∃ kvs : List (L2.Key × V), H a = some (.dK kvs) ∧ ∀ x f, (x, f) ∈ tb → ∃ u, valV kvs (.inr x) = some u ∧ Rp H u f.enc
abbrev WM (c : Wx) : Addr → Prop := fun b => b = c.x ∨ b = c.td ∨ b = c.wt ∨ b = c.wi
structure WkAt (c : Wx) (H : Hp) (s : St) : Prop where
  ob : ∃ dx, H c.x = some (.ins c.C dx (wkF c s.p s.t))
  td : ∃ us, H c.td = some (.lst us) ∧ Rps H us ((s.T.map It.enc).reverse)
  wt : ∃ ws, H c.wt = some (.lst ws) ∧ Rps H ws s.W
  ne : c.td ≠ c.wt
  wi : H c.wi = some (.dT (s.ks.map kyE))
  nd : s.ks.Nodup
  sm : small s
  tab : TabAt H c.tbA c.tb
  way : Rp H (.ref c.wyA) (.tup (c.wy.map wyD))
  few : c.wy.length ≤ 1000 ∧ c.tx.length ≤ 1000
theorem TabAt.ts {H H' : Hp} {a : Addr} {tb : List (Str × Fm)} (t : TabAt H a tb) (k : TS H H') (e : H' a = H a) : TabAt H' a tb := by
  obtain ⟨kvs, h, g⟩ := t
  exact ⟨kvs, e.trans h, fun x f m => let ⟨u, h1, h2⟩ := g x f m; ⟨u, h1, h2.ts k⟩⟩
theorem WkAt.xtd {c : Wx} {H : Hp} {s : St} (W : WkAt c H s) : c.x ≠ c.td ∧ c.x ≠ c.wt ∧ c.x ≠ c.wi ∧ c.td ≠ c.wi ∧ c.wt ≠ c.wi ∧ c.x ≠ c.tbA ∧ c.td ≠ c.tbA ∧ c.wt ≠ c.tbA ∧ c.wi ≠ c.tbA := by
  obtain ⟨dx, o⟩ := W.ob
  obtain ⟨us, t, _⟩ := W.td
  obtain ⟨ws, v, _⟩ := W.wt
  obtain ⟨kvs, tb, _⟩ := W.tab
  have i := W.wi
  exact ⟨ne_of o t (fun z => by cases z), ne_of o v (fun z => by cases z), ne_of o i (fun z => by cases z), ne_of t i (fun z => by cases z), ne_of v i (fun z => by cases z), ne_of o tb (fun z => by cases z), ne_of t tb (fun z => by cases z), ne_of v tb (fun z => by cases z), ne_of i tb (fun z => by cases z)⟩
theorem WkAt.new {c : Wx} {H : Hp} {s : St} (W : WkAt c H s) {p : Addr} {o : HO} (n : H p = none) : WkAt c (upd H p o) s := by
  have ts : TS H (upd H p o) := TS.new n
  obtain ⟨dx, ho⟩ := W.ob
  obtain ⟨us, t, r⟩ := W.td
  obtain ⟨ws, v, r2⟩ := W.wt
  obtain ⟨kvs, tb, _⟩ := id W.tab
  have up : ∀ {b : Addr} {u : HO}, H b = some u → upd H p o b = some u := fun e => by rw [upd_ne (ne_of_none e n)]; exact e
  exact ⟨⟨dx, up ho⟩, ⟨us, up t, r.ts ts⟩, ⟨ws, up v, r2.ts ts⟩, W.ne, up W.wi, W.nd, W.sm, W.tab.ts ts (by rw [up tb, tb]), W.way.ts ts, W.few⟩
theorem WkAt.setTd {c : Wx} {H : Hp} {s : St} (W : WkAt c H s) {T : List It} {us : List V} (r : Rps H us ((T.map It.enc).reverse)) (sm : small { s with T := T }) : WkAt c (upd H c.td (.lst us)) { s with T := T } ∧ TS H (upd H c.td (.lst us)) := by
  obtain ⟨x1, x2, x3, x4, x5, x6, x7, x8, x9⟩ := W.xtd
  obtain ⟨us0, t, _⟩ := W.td
  have ts : TS H (upd H c.td (.lst us)) := TS.put t fun _ z => by cases z
  obtain ⟨dx, ho⟩ := W.ob
  obtain ⟨ws, v, r2⟩ := W.wt
  refine ⟨⟨⟨dx, by rw [upd_ne x1]; exact ho⟩, ⟨us, upd_same, r.ts ts⟩, ⟨ws, by rw [upd_ne W.ne.symm]; exact v, r2.ts ts⟩, W.ne, by rw [upd_ne x4.symm]; exact W.wi, W.nd, sm, W.tab.ts ts (upd_ne x7.symm), W.way.ts ts, W.few⟩, ts⟩
theorem WkAt.setWt {c : Wx} {H : Hp} {s : St} (W : WkAt c H s) {D : List D} {us : List V} (r : Rps H us D) (sm : small { s with W := D }) : WkAt c (upd H c.wt (.lst us)) { s with W := D } ∧ TS H (upd H c.wt (.lst us)) := by
  obtain ⟨x1, x2, x3, x4, x5, x6, x7, x8, x9⟩ := W.xtd
  obtain ⟨us0, t, r1⟩ := W.td
  obtain ⟨ws, v, r2⟩ := W.wt
  have ts : TS H (upd H c.wt (.lst us)) := TS.put v fun _ z => by cases z
  obtain ⟨dx, ho⟩ := W.ob
  refine ⟨⟨⟨dx, by rw [upd_ne x2]; exact ho⟩, ⟨us0, by rw [upd_ne W.ne]; exact t, r1.ts ts⟩, ⟨us, upd_same, r.ts ts⟩, W.ne, by rw [upd_ne x5.symm]; exact W.wi, W.nd, sm, W.tab.ts ts (upd_ne x8.symm), W.way.ts ts, W.few⟩, ts⟩
theorem WkAt.setOb {c : Wx} {H : Hp} {s : St} (W : WkAt c H s) {p t : Nat} {dx : Addr} : WkAt c (upd H c.x (.ins c.C dx (wkF c p t))) { s with p := p, t := t } ∧ TS H (upd H c.x (.ins c.C dx (wkF c p t))) := by
  obtain ⟨x1, x2, x3, x4, x5, x6, x7, x8, x9⟩ := W.xtd
  obtain ⟨us0, tt, r1⟩ := W.td
  obtain ⟨ws, v, r2⟩ := W.wt
  obtain ⟨dx0, ho⟩ := W.ob
  have ts : TS H (upd H c.x (.ins c.C dx (wkF c p t))) := TS.put ho fun _ z => by cases z
  refine ⟨⟨⟨dx, upd_same⟩, ⟨us0, by rw [upd_ne x1.symm]; exact tt, r1.ts ts⟩, ⟨ws, by rw [upd_ne x2.symm]; exact v, r2.ts ts⟩, W.ne, by rw [upd_ne x3.symm]; exact W.wi, W.nd, W.sm, W.tab.ts ts (upd_ne x6.symm), W.way.ts ts, W.few⟩, ts⟩
theorem WkAt.setWi {c : Wx} {H : Hp} {s : St} (W : WkAt c H s) {ks : List Ky} (nd : ks.Nodup) (sm : small { s with ks := ks }) : WkAt c (upd H c.wi (.dT (ks.map kyE))) { s with ks := ks } ∧ TS H (upd H c.wi (.dT (ks.map kyE))) := by
  obtain ⟨x1, x2, x3, x4, x5, x6, x7, x8, x9⟩ := W.xtd
  obtain ⟨us0, t, r1⟩ := W.td
  obtain ⟨ws, v, r2⟩ := W.wt
  obtain ⟨dx0, ho⟩ := W.ob
  have ts : TS H (upd H c.wi (.dT (ks.map kyE))) := TS.put W.wi fun _ z => by cases z
  refine ⟨⟨⟨dx0, by rw [upd_ne x3]; exact ho⟩, ⟨us0, by rw [upd_ne x4]; exact t, r1.ts ts⟩, ⟨ws, by rw [upd_ne x5]; exact v, r2.ts ts⟩, W.ne, upd_same, nd, sm, W.tab.ts ts (upd_ne x9.symm), W.way.ts ts, W.few⟩, ts⟩
structure WkCls (K : PySem.W.Frag) (C : Addr) : Prop where
  cl : Cls K C
  no : ∀ m ∈ ([("table" : Str), "text", "way", "place", "taken", "todo", "worths", "within"] : List Str), NoAttr K C m
theorem WkCls.n {K : PySem.W.Frag} {C : Addr} (T : WkCls K C) {m : Str} (h : m ∈ ([("table" : Str), "text", "way", "place", "taken", "todo", "worths", "within"] : List Str) := by decide +kernel) : NoAttr K C m := T.no m h
section
variable {P : Program} {w : World} {K : PySem.W.Frag} {mg : Str → Option Value} {base : Heap}
def spIn : Sp := fun vs H Q _ => ∃ i : Int, vs = [.int i] ∧ Q (.bl true) H
theorem ok_in {f : Addr} {fd : FuncData} {k : Nat} (F : Fun K "is_int" "is_int" sIn f fd) (mi : mg "isinstance" = none) (mint : mg "int" = none) (mbool : mg "bool" = none) : FnOk P w K mg base CX0 (k + 1) f fd ["x"] spIn := by
  refine F.ok scIn (fun vs H Q E h => ?_) (fun cdv A outer s H vs Q E hr h => ?_)
  · obtain ⟨z, rfl, _⟩ := h
    rfl
  · obtain ⟨i, rfl, q⟩ := h
    refine ⟨_, (pss_one (ps_ret (pe_and (pe_callB call_isi (by rfl) mi (by decide +kernel) (pa_cons (pv 0) (pa_cons (pe_bltn (v := .ty "int") (by rfl) mint (by decide +kernel) rfl) pa_nil))) (pe_one (pe_not (pe_callB call_isi (by rfl) mi (by decide +kernel) (pa_cons (pv 0) (pa_cons (pe_bltn (v := .ty "bool") (by rfl) mbool (by decide +kernel) rfl) pa_nil)))))))), ?_⟩
    exact ⟨_, rfl, _, .ty "int", .type "int", .type "int", true, rfl, .ty _, .base (.int i), kit_ty (by decide +kernel), true, rfl, iteT ⟨_, rfl, _, .ty "bool", .type "int", .type "bool", false, rfl, .ty _, .base (.int i), kit_ty (by decide +kernel), false, rfl, q⟩⟩
def spWt (c : Wx) : Sp := fun vs H Q _ => ∃ (z : Str) (s : St), vs = [.ref c.x, .str z] ∧ WkAt c H s ∧ Txt.startswith3 c.tx z s.p = true ∧ z.length ≤ sizeLine ∧
  ∀ H', WkAt c H' { s with p := s.p + z.length } → Kp (WM c) H H' → TS H H' → Q (.bl true) H'
theorem ok_wt {c : Wx} {f : Addr} {fd : FuncData} {k : Nat} (F : Fun K "told" "Walk.told" sWt f fd) (T : WkCls K c.C) (ml : mg "len" = none) : FnOk P w K mg base CX0 (k + 1) f fd ["self", "signs"] (spWt c) := by
  refine F.ok scWt (fun vs H Q E h => ?_) (fun cdv A outer sh H vs Q E hr h => ?_)
  · obtain ⟨z, s, rfl, _⟩ := h
    rfl
  · obtain ⟨z, s, rfl, W, sw, hz, q⟩ := h
    refine ⟨_, (pss_cons (ps_if (pt_not (pt_val (pe_bm PySem.F.plainAttrs_str PySem.F.slot_str_startswith PySem.F.type_str_startswith mt_startswith3 (pe_fld (pv 0) rfl) (pa_cons (pv 1) (pa_cons (pe_fld (pv 0) rfl) pa_nil))))) (pss_one (ps_ret pe_bl)) pss_nil)
      (pss_cons (ps_fldaug (pv 0) (pe_callB call_len_str (by rfl) ml PySem.boot_len (pa_cons (pv 1) pa_nil)) in_add)
      (pss_one (ps_ret pe_bl)))), ?_⟩
    obtain ⟨dx, ho⟩ := id W.ob
    have qt : ∀ {b : Bool} {H' : Hp}, b = true → Q (.bl true) H' → Q (.bl b) H' := fun e q => by rw [e]; exact q
    refine ⟨_, rfl, c.x, c.C, dx, _, _, rfl, ho, T.cl, T.n, rfl, (show ("str" : String) = "str" from rfl), ?_⟩
    refine ⟨_, rfl, _, rfl, c.x, c.C, dx, _, _, rfl, ho, T.cl, T.n, rfl, _, _, _, rfl, rfl, _, rfl, iteF' (by rw [sw]; rfl) ?_⟩
    refine ⟨_, rfl, c.x, c.C, dx, _, _, rfl, ho, T.cl, T.n, rfl, _, rfl, _, rfl, hz, _, _, rfl, rfl, dx, _, ho, (by show 8 < 1000; decide), ?_⟩
    obtain ⟨W2, t2⟩ := W.setOb (p := s.p + z.length) (t := s.t) (dx := dx)
    exact q _ W2 (Kp.put (.inl rfl)) t2
def spWc (c : Wx) : Sp := fun vs H Q _ => ∃ (l : Addr) (os : List V) (s : St), vs = [.ref c.x, .ref l] ∧ WkAt c H s ∧ H l = some (.lst os) ∧ l ≠ c.td ∧ l ≠ c.wt ∧
  (c.wy.length ≤ s.t → Q .non H) ∧ (∀ j : Nat, c.wy[s.t]? = some (s.p, j) → j < os.length ∧ ∀ H', WkAt c H' { s with t := s.t + 1 } → Kp (WM c) H H' → TS H H' → Q (.int (j : Nat)) H') ∧
  (s.t < c.wy.length → ∃ j : Nat, c.wy[s.t]? = some (s.p, j))
theorem ok_wc {c : Wx} {f fi : Addr} {fd fdi : FuncData} {k : Nat} (F : Fun K "choice" "Walk.choice" sWc f fd) (T : WkCls K c.C) (GI : FnOk P w K mg base CX0 k fi fdi ["x"] spIn) (ki : PySem.W.keepIn K (.ref fi) = true) (bi : Binds K fdi ["x"] []) (gi : mg "is_int" = some (.ref fi)) (ml : mg "len" = none) (mi : mg "isinstance" = none) (mtu : mg "tuple" = none) : FnOk P w K mg base CX0 (k + 1) f fd ["self", "options"] (spWc c) := by
  refine F.ok scWc (fun vs H Q E h => ?_) (fun cdv A outer sh H vs Q E hr h => ?_)
  · obtain ⟨l, os, s, rfl, _⟩ := h
    rfl
  · obtain ⟨l, os, s, rfl, W, el, n1, n2, q0, q1, q2⟩ := h
    refine ⟨_, (pss_cons (ps_if (pt_cmpR op_ge (pe_fld (pv 0) rfl) (pe_callB call_len_seq (by rfl) ml PySem.boot_len (pa_cons (pe_fld (pv 0) rfl) pa_nil)) (nomark _)) (pss_one (ps_ret pe_non)) pss_nil)
      (pss_cons (ps_set (i := 2) scWc.nd rfl (.inl rfl) (pe_ix ix_tup (pe_fld (pv 0) rfl) (pe_fld (pv 0) rfl) (fun _ _ => rfl)))
      (pss_cons (ps_if (PW.pt (pw_or (pt_not (pt_val (pe_callB call_isi (by rfl) mi (by decide +kernel) (pa_cons (pv 2) (pa_cons (pe_bltn (v := .ty "tuple") (by rfl) mtu (by decide +kernel) rfl) pa_nil))))) (pw_or (pt_cmpR op_ne (pe_callB call_len_seq (by rfl) ml PySem.boot_len (pa_cons (pv 2) pa_nil)) pe_int (nomark _)) (pw_or (pt_not (pt_val (pe_call GI hr (by rfl) gi ki bi .nil pass0 (pa_cons (pe_ix ix_tup (pv 2) pe_int (fun _ _ => rfl)) pa_nil)))) (pw_or1 (pt_not (pt_val (pe_call GI hr (by rfl) gi ki bi .nil pass0 (pa_cons (pe_ix ix_tup (pv 2) pe_int (fun _ _ => rfl)) pa_nil))))))))) (pss_one (ps_ret pe_non)) pss_nil)
      (pss_cons (ps_if (PW.pt (pw_or (pt_cmpR op_ne (pe_ix ix_tup (pv 2) pe_int (fun _ _ => rfl)) (pe_fld (pv 0) rfl) (nomark _)) (pw_or1 (pt_not (pt_chain op_le op_lt pe_int (pe_ix ix_tup (pv 2) pe_int (fun _ _ => rfl)) (pe_callB call_len_seq (by rfl) ml PySem.boot_len (pa_cons (pv 1) pa_nil))))))) (pss_one (ps_ret pe_non)) pss_nil)
      (pss_cons (ps_fldaug (pv 0) pe_int in_add)
      (pss_one (ps_ret (pe_ix ix_tup (pv 2) pe_int (fun _ _ => rfl))))))))), ?_⟩
    obtain ⟨dx, ho⟩ := id W.ob
    obtain ⟨wv, ews, hws⟩ : ∃ wv, H c.wyA = some (.tup wv) ∧ Rps H wv (c.wy.map wyD) := by
      cases W.way with
      | tup e r => exact ⟨_, e, r⟩
    have lw : wv.length = c.wy.length := by rw [hws.len, List.length_map]
    refine ⟨_, rfl, c.x, c.C, dx, _, _, rfl, ho, T.cl, T.n, rfl, _, rfl, c.x, c.C, dx, _, _, rfl, ho, T.cl, T.n, rfl, c.wyA, wv, rfl, .inr (SqT.of ews), _, _, rfl, rfl, _, rfl, ite2 (fun z => ?_) (fun z => ?_)⟩
    · have z1 := of_decide_eq_true z
      exact q0 (by omega)
    have z1 : ¬ ((wv.length : Nat) : Int) ≤ (s.t : Nat) := fun h => z (decide_eq_true h)
    obtain ⟨j, ej⟩ := q2 (by omega)
    obtain ⟨lj, qj⟩ := q1 j ej
    have hv : wv[s.t]? = some (wv[s.t]'(by omega)) := List.getElem?_eq_getElem (by omega)
    obtain ⟨d, ed, rd⟩ := hws.get s.t _ hv
    rw [List.getElem?_map, ej] at ed
    cases ed
    generalize wv[s.t]'(by omega) = v at hv rd
    cases rd with
    | @tup b vs _ eb rb =>
    cases rb with
    | cons r1 rb =>
    cases r1
    cases rb with
    | cons r2 rb =>
    cases r2
    cases rb
    refine ⟨_, rfl, c.x, c.C, dx, _, _, rfl, ho, T.cl, T.n, rfl, _, rfl, c.x, c.C, dx, _, _, rfl, ho, T.cl, T.n, rfl, c.wyA, wv, s.t, .ref b, rfl, rfl, SqT.of ews, atI_nat (j := s.t) hv, ?_⟩
    have sq := SqT.of (K := K) eb
    refine ⟨_, rfl, _, .ty "tuple", .type "tuple", .type "tuple", true, rfl, .ty _, .base (.tup eb), kit_ty (by decide +kernel), true, rfl, iteF ?_⟩
    refine ⟨_, rfl, b, _, rfl, .inr sq, rfl, _, rfl, iteF' rfl ?_⟩
    refine ⟨_, rfl, b, _, 0, _, rfl, rfl, sq, atI_nat (j := 0) rfl, _, rfl, true, rfl, iteF ?_⟩
    refine ⟨_, rfl, b, _, 1, _, rfl, rfl, sq, atI_nat (j := 1) rfl, _, rfl, true, rfl, iteF ?_⟩
    refine ⟨_, rfl, b, _, 0, _, rfl, rfl, sq, atI_nat (j := 0) rfl, _, rfl, c.x, c.C, dx, _, _, rfl, ho, T.cl, T.n, rfl, rfl, _, rfl, iteF' ?_ ?_⟩
    · simp
    have h0 : (0 : Int) ≤ (j : Nat) := Int.natCast_nonneg j
    have h1 : ((j : Nat) : Int) < (os.length : Nat) := Int.ofNat_lt.mpr lj
    refine ⟨_, rfl, b, _, 1, _, rfl, rfl, sq, atI_nat (j := 1) rfl, _, _, rfl, rfl, _, rfl, iteT' (decide_eq_true h0) ?_⟩
    refine ⟨_, rfl, l, os, rfl, .inl (SqL.of el), _, _, rfl, rfl, _, rfl, iteF' (by rw [show decide (((s.p, j).snd : Int) < (os.length : Nat)) = true from decide_eq_true h1]; rfl) ?_⟩
    refine ⟨_, rfl, c.x, c.C, dx, _, _, rfl, ho, T.cl, T.n, rfl, _, _, rfl, rfl, dx, _, ho, (by show 8 < 1000; decide), ?_⟩
    obtain ⟨W2, t2⟩ := W.setOb (p := s.p) (t := s.t + 1) (dx := dx)
    refine ⟨_, rfl, b, _, 1, _, rfl, rfl, SqT.of (t2 _ _ eb), atI_nat (j := 1) rfl, ?_⟩
    exact qj _ W2 (Kp.put (.inl rfl)) t2
/-- Walk(table, text, way) -/
def spWi (C : Addr) : Sp := fun vs H Q _ => ∃ (x dx tbA wyA : Addr) (tx : Str) (tb : List (Str × Fm)) (wy : List (Nat × Nat)), vs = [.ref x, .ref tbA, .str tx, .ref wyA] ∧ H x = some (.ins C dx []) ∧ TabAt H tbA tb ∧ Rp H (.ref wyA) (.tup (wy.map wyD)) ∧ wy.length ≤ 1000 ∧ tx.length ≤ 1000 ∧
  ∀ (td wt wi : Addr) (H' : Hp), WkAt ⟨C, x, td, wt, wi, tbA, wyA, tx, tb, wy⟩ H' ⟨[], [], 0, 0, []⟩ → H td = none → H wt = none → H wi = none → Kp (fun b => b = x) H H' → Q .non H'
theorem ok_wi {C f : Addr} {fd : FuncData} {k : Nat} (F : Fun K "__init__" "Walk.__init__" sWi f fd) (T : WkCls K C) : FnOk P w K mg base CX0 (k + 1) f fd ["self", "table", "text", "way"] (spWi C) := by
  refine F.ok scWi (fun vs H Q E h => ?_) (fun cdv A outer sh H vs Q E hr h => ?_)
  · obtain ⟨x, dx, tbA, wyA, tx, tb, wy, rfl, _⟩ := h
    rfl
  · obtain ⟨x, dx, tbA, wyA, tx, tb, wy, rfl, hx, ht, hw, f1, f2, q⟩ := h
    refine ⟨_, (pss_cons (ps_fld (pv 0) (pv 1) rfl)
      (pss_cons (ps_fld (pv 0) (pv 2) rfl)
      (pss_cons (ps_fld (pv 0) (pv 3) rfl)
      (pss_cons (ps_fld (pv 0) pe_int rfl)
      (pss_cons (ps_fld (pv 0) pe_int rfl)
      (pss_cons (ps_fld (pv 0) (pe_lst pa_nil) rfl)
      (pss_cons (ps_fld (pv 0) (pe_lst pa_nil) rfl)
      (pss_one (ps_fld (pv 0) pe_dnewT rfl))))))))), ?_⟩
    refine ⟨_, rfl, _, rfl, x, C, dx, _, rfl, hx, T.cl, T.n, (by show 0 < 1000; decide), ?_⟩
    refine ⟨_, rfl, _, rfl, x, C, dx, _, rfl, upd_same, T.cl, T.n, (by show 1 < 1000; decide), ?_⟩
    refine ⟨_, rfl, _, rfl, x, C, dx, _, rfl, upd_same, T.cl, T.n, (by show 2 < 1000; decide), ?_⟩
    refine ⟨_, rfl, x, C, dx, _, rfl, upd_same, T.cl, T.n, (by show 3 < 1000; decide), ?_⟩
    refine ⟨_, rfl, x, C, dx, _, rfl, upd_same, T.cl, T.n, (by show 4 < 1000; decide), ?_⟩
    have kx : ∀ {H1 : Hp} {u : HO}, Kp (fun b => b = x) H H1 → Kp (fun b => b = x) H (upd H1 x u) := fun k => k.trans (Kp.put rfl)
    have k5 : Kp (fun b => b = x) H (upd (upd (upd (upd (upd H x (.ins C dx (putF "table" (.ref tbA) []))) x (.ins C dx (putF "text" (.str tx) (putF "table" (.ref tbA) [])))) x (.ins C dx (putF "way" (.ref wyA) (putF "text" (.str tx) (putF "table" (.ref tbA) []))))) x
      (.ins C dx (putF "place" (.int 0) (putF "way" (.ref wyA) (putF "text" (.str tx) (putF "table" (.ref tbA) [])))))) x (.ins C dx (putF "taken" (.int 0) (putF "place" (.int 0) (putF "way" (.ref wyA) (putF "text" (.str tx) (putF "table" (.ref tbA) []))))))) := kx (kx (kx (kx (kx Kp.refl))))
    have e5 : upd (upd (upd (upd (upd H x (.ins C dx (putF "table" (.ref tbA) []))) x (.ins C dx (putF "text" (.str tx) (putF "table" (.ref tbA) [])))) x (.ins C dx (putF "way" (.ref wyA) (putF "text" (.str tx) (putF "table" (.ref tbA) []))))) x
      (.ins C dx (putF "place" (.int 0) (putF "way" (.ref wyA) (putF "text" (.str tx) (putF "table" (.ref tbA) [])))))) x (.ins C dx (putF "taken" (.int 0) (putF "place" (.int 0) (putF "way" (.ref wyA) (putF "text" (.str tx) (putF "table" (.ref tbA) [])))))) x = some (.ins C dx (putF "taken" (.int 0) (putF "place" (.int 0) (putF "way" (.ref wyA) (putF "text" (.str tx) (putF "table" (.ref tbA) [])))))) := upd_same
    generalize upd (upd (upd (upd (upd H x (.ins C dx (putF "table" (.ref tbA) []))) x (.ins C dx (putF "text" (.str tx) (putF "table" (.ref tbA) [])))) x (.ins C dx (putF "way" (.ref wyA) (putF "text" (.str tx) (putF "table" (.ref tbA) []))))) x
      (.ins C dx (putF "place" (.int 0) (putF "way" (.ref wyA) (putF "text" (.str tx) (putF "table" (.ref tbA) [])))))) x (.ins C dx (putF "taken" (.int 0) (putF "place" (.int 0) (putF "way" (.ref wyA) (putF "text" (.str tx) (putF "table" (.ref tbA) [])))))) = H5 at k5 e5 ⊢
    have nn : ∀ {H1 : Hp} {p : Addr}, Kp (fun b => b = x) H H1 → H1 x ≠ none → H1 p = none → H p = none := fun k nx n => none_back k (fun e => by rw [e] at n; exact nx n) n
    have ne : ∀ {H1 : Hp} {p : Addr} {u : HO}, H1 x = some u → H1 p = none → x ≠ p := fun e n => ne_of_none e n
    refine ⟨Nat.zero_le _, fun td ntd => ⟨_, rfl, x, C, dx, _, rfl, by rw [upd_ne (ne e5 ntd)]; exact e5, T.cl, T.n, (by show 5 < 1000; decide), ?_⟩⟩
    have td0 : H td = none := nn k5 (by rw [e5]; exact fun z => by cases z) ntd
    have xtd := ne e5 ntd
    have k6 := kx (u := .ins C dx (putF "todo" (.ref td) (putF "taken" (.int 0) (putF "place" (.int 0) (putF "way" (.ref wyA) (putF "text" (.str tx) (putF "table" (.ref tbA) []))))))) (k5.own (o := .lst []) td0)
    have e6 : upd (upd H5 td (.lst [])) x (.ins C dx (putF "todo" (.ref td) (putF "taken" (.int 0) (putF "place" (.int 0) (putF "way" (.ref wyA) (putF "text" (.str tx) (putF "table" (.ref tbA) []))))))) x = some _ := upd_same
    have t6 : upd (upd H5 td (.lst [])) x (.ins C dx (putF "todo" (.ref td) (putF "taken" (.int 0) (putF "place" (.int 0) (putF "way" (.ref wyA) (putF "text" (.str tx) (putF "table" (.ref tbA) []))))))) td = some (.lst []) := by rw [upd_ne xtd.symm]; exact upd_same
    generalize upd (upd H5 td (.lst [])) x (.ins C dx (putF "todo" (.ref td) (putF "taken" (.int 0) (putF "place" (.int 0) (putF "way" (.ref wyA) (putF "text" (.str tx) (putF "table" (.ref tbA) []))))))) = H6 at k6 e6 t6 ⊢
    refine ⟨Nat.zero_le _, fun wt nwt => ⟨_, rfl, x, C, dx, _, rfl, by rw [upd_ne (ne e6 nwt)]; exact e6, T.cl, T.n, (by show 6 < 1000; decide), ?_⟩⟩
    have wt0 : H wt = none := nn k6 (by rw [e6]; exact fun z => by cases z) nwt
    have xwt := ne e6 nwt
    have tdwt : td ≠ wt := ne_of_none t6 nwt
    have k7 := kx (u := .ins C dx (putF "worths" (.ref wt) (putF "todo" (.ref td) (putF "taken" (.int 0) (putF "place" (.int 0) (putF "way" (.ref wyA) (putF "text" (.str tx) (putF "table" (.ref tbA) [])))))))) (k6.own (o := .lst []) wt0)
    have e7 : upd (upd H6 wt (.lst [])) x (.ins C dx (putF "worths" (.ref wt) (putF "todo" (.ref td) (putF "taken" (.int 0) (putF "place" (.int 0) (putF "way" (.ref wyA) (putF "text" (.str tx) (putF "table" (.ref tbA) [])))))))) x = some _ := upd_same
    have t7 : upd (upd H6 wt (.lst [])) x (.ins C dx (putF "worths" (.ref wt) (putF "todo" (.ref td) (putF "taken" (.int 0) (putF "place" (.int 0) (putF "way" (.ref wyA) (putF "text" (.str tx) (putF "table" (.ref tbA) [])))))))) td = some (.lst []) := by rw [upd_ne xtd.symm, upd_ne tdwt]; exact t6
    have w7 : upd (upd H6 wt (.lst [])) x (.ins C dx (putF "worths" (.ref wt) (putF "todo" (.ref td) (putF "taken" (.int 0) (putF "place" (.int 0) (putF "way" (.ref wyA) (putF "text" (.str tx) (putF "table" (.ref tbA) [])))))))) wt = some (.lst []) := by rw [upd_ne xwt.symm]; exact upd_same
    generalize upd (upd H6 wt (.lst [])) x (.ins C dx (putF "worths" (.ref wt) (putF "todo" (.ref td) (putF "taken" (.int 0) (putF "place" (.int 0) (putF "way" (.ref wyA) (putF "text" (.str tx) (putF "table" (.ref tbA) [])))))))) = H7 at k7 e7 t7 w7 ⊢
    intro wi nwi
    refine ⟨_, rfl, x, C, dx, _, rfl, by rw [upd_ne (ne e7 nwi)]; exact e7, T.cl, T.n, (by show 7 < 1000; decide), ?_⟩
    have wi0 : H wi = none := nn k7 (by rw [e7]; exact fun z => by cases z) nwi
    have xwi := ne e7 nwi
    have k8 := kx (u := .ins C dx (putF "within" (.ref wi) (putF "worths" (.ref wt) (putF "todo" (.ref td) (putF "taken" (.int 0) (putF "place" (.int 0) (putF "way" (.ref wyA) (putF "text" (.str tx) (putF "table" (.ref tbA) []))))))))) (k7.own (o := .dT []) wi0)
    have ts : TS H _ := fun b vs e => k8 b _ (fun z => by rw [z, hx] at e; cases e) e
    refine q td wt wi _ ⟨⟨dx, upd_same⟩, ⟨[], by rw [upd_ne xtd.symm, upd_ne (ne_of_none t7 nwi)]; exact t7, .nil⟩, ⟨[], by rw [upd_ne xwt.symm, upd_ne (ne_of_none w7 nwi)]; exact w7, .nil⟩, tdwt, by show upd _ x _ wi = _; rw [upd_ne xwi.symm]; exact upd_same, List.nodup_nil, ⟨Nat.zero_le _, Nat.zero_le _, Nat.zero_le _⟩, ?_, hw.ts ts, f1, f2⟩ td0 wt0 wi0 k8
    obtain ⟨kvs, e, g⟩ := ht
    exact ⟨kvs, k8 _ _ (fun z => by have z : tbA = x := z; rw [z, hx] at e; cases e) e, fun y f m => let ⟨u, h1, h2⟩ := g y f m; ⟨u, h1, h2.ts ts⟩⟩
end
end RT

set_option maxHeartbeats 1000000
/-! the steps of the walk -/
namespace RT
open PySem PySem.Spec PyProof.Rows L2
abbrev sT1 : Stmt := topS 16
abbrev sT2 : Stmt := topS 17
abbrev sT3 : Stmt := topS 18
abbrev sT4 : Stmt := topS 26
abbrev sEi : Stmt := topS 28
abbrev sEE : Stmt := topS 29
abbrev sNa : Stmt := topS 37
abbrev sEn : Stmt := topS 38
abbrev sLa : Stmt := topS 39
theorem scT1 : FnScope ["walk", "form"] ["walk", "form"] (defScope sT1) := ⟨rfl, rfl, rfl, by decide +kernel, rfl, by decide +kernel, by decide +kernel⟩
theorem scT2 : FnScope ["walk", "form"] ["walk", "form"] (defScope sT2) := ⟨rfl, rfl, rfl, by decide +kernel, rfl, by decide +kernel, by decide +kernel⟩
theorem scT3 : FnScope ["walk", "_"] ["walk", "_"] (defScope sT3) := ⟨rfl, rfl, rfl, by decide +kernel, rfl, by decide +kernel, by decide +kernel⟩
theorem scT4 : FnScope ["walk", "form"] ["walk", "form"] (defScope sT4) := ⟨rfl, rfl, rfl, by decide +kernel, rfl, by decide +kernel, by decide +kernel⟩
theorem scE : FnScope ["walk", "form", "choice", "name", "inner", "_"] ["walk", "form"] (defScope sEi) := ⟨rfl, rfl, rfl, by decide +kernel, rfl, by decide +kernel, by decide +kernel⟩
theorem scEE : FnScope ["walk", "item", "_", "name", "inner", "worth"] ["walk", "item"] (defScope sEE) := ⟨rfl, rfl, rfl, by decide +kernel, rfl, by decide +kernel, by decide +kernel⟩
theorem scN : FnScope ["walk", "form", "name", "key"] ["walk", "form"] (defScope sNa) := ⟨rfl, rfl, rfl, by decide +kernel, rfl, by decide +kernel, by decide +kernel⟩
theorem scEn : FnScope ["walk", "item"] ["walk", "item"] (defScope sEn) := ⟨rfl, rfl, rfl, by decide +kernel, rfl, by decide +kernel, by decide +kernel⟩
theorem scL : FnScope ["walk", "many", "worths", "start", "last"] ["walk", "many"] (defScope sLa) := ⟨rfl, rfl, rfl, by decide +kernel, rfl, by decide +kernel, by decide +kernel⟩
/-- a step: the item it is one of these -/
def spItem (c : Wx) (sel : It → Prop) : Sp := fun vs H Q _ => ∃ (v : V) (it : It) (s : St) (o : Option St), vs = [.ref c.x, v] ∧ WkAt c H s ∧ Rp H v it.enc ∧ sel it ∧ Stp c.tb c.tx c.wy it s o ∧ (∀ s', o = some s' → small s') ∧
  (o = none → ∀ H', Kp (WM c) H H' → Q (.bl false) H') ∧ (∀ s', o = some s' → ∀ H', WkAt c H' s' → Kp (WM c) H H' → TS H H' → Q (.bl true) H')
theorem Rp.tupE {H : Hp} {v : V} {ds : List D} (r : Rp H v (.tup ds)) : ∃ (a : Addr) (vs : List V), v = .ref a ∧ H a = some (.tup vs) ∧ Rps H vs ds := by
  cases r with
  | tup e r => exact ⟨_, _, rfl, e, r⟩
theorem Rps.one {H : Hp} {vs : List V} {d : D} (r : Rps H vs [d]) : ∃ v, vs = [v] ∧ Rp H v d := by
  cases r with
  | cons a b => cases b; exact ⟨_, rfl, a⟩
theorem Rps.two {H : Hp} {vs : List V} {d e : D} (r : Rps H vs [d, e]) : ∃ v w, vs = [v, w] ∧ Rp H v d ∧ Rp H w e := by
  cases r with
  | cons a b =>
    obtain ⟨w, rfl, q⟩ := b.one
    exact ⟨_, w, rfl, a, q⟩
theorem Rps.three {H : Hp} {vs : List V} {d e f : D} (r : Rps H vs [d, e, f]) : ∃ v w u, vs = [v, w, u] ∧ Rp H v d ∧ Rp H w e ∧ Rp H u f := by
  cases r with
  | cons a b =>
    obtain ⟨w, u, rfl, q⟩ := b.two
    exact ⟨_, w, u, rfl, a, q⟩
theorem Rps.snoc {H : Hp} : ∀ {vs : List V} {ds : List D} {d : D}, Rps H vs (ds ++ [d]) → ∃ us u, vs = us ++ [u] ∧ Rps H us ds ∧ Rp H u d
  | _, [], _, .cons a b => by
    cases b
    exact ⟨[], _, rfl, .nil, a⟩
  | _, e :: ds, _, .cons a b => by
    obtain ⟨us, u, rfl, r, q⟩ := Rps.snoc (ds := ds) b
    exact ⟨_ :: us, u, rfl, .cons a r, q⟩
theorem Rps.rev {H : Hp} : ∀ {vs : List V} {ds : List D}, Rps H vs ds → Rps H vs.reverse ds.reverse
  | _, _, .nil => .nil
  | _, _, .cons a r => by
    rw [List.reverse_cons, List.reverse_cons]
    exact (Rps.rev r).app (.cons a .nil)
theorem Rp.strE {H : Hp} {v : V} {z : Str} (r : Rp H v (.str z)) : v = .str z ∧ z.length ≤ sizeLine := by
  cases r with
  | str h => exact ⟨rfl, h⟩
theorem Kp.at_ {c : Wx} {H H' : Hp} (k : Kp (WM c) H H') {b : Addr} {o : HO} (n : H b = none) : Kp (WM c) H (upd H' b o) := k.own n
theorem encs_rev (T : List It) (is : List It) : ((is.reverse ++ T).map It.enc).reverse = (T.map It.enc).reverse ++ is.map It.enc := by
  rw [List.map_append, List.reverse_append, List.map_reverse, List.reverse_reverse]
section
variable {P : Program} {w : World} {K : PySem.W.Frag} {mg : Str → Option Value} {base : Heap}
theorem ok_t1 {c : Wx} {f ft : Addr} {fd fdt : FuncData} {k : Nat} (F : Fun K "_walk_text" "_walk_text" sT1 f fd) (TW : WkCls K c.C) (mTo : Meth K c.C "told" ft) (GTo : FnOk P w K mg base CX0 k ft fdt ["self", "signs"] (spWt c)) (bto : Binds K fdt ["self", "signs"] []) :
    FnOk P w K mg base CX0 (k + 1) f fd ["walk", "form"] (spItem c fun i => ∃ z, i = .form (.text z)) := by
  refine F.ok scT1 (fun vs H Q E h => ?_) (fun cdv A outer sh H vs Q E hr h => ?_)
  · obtain ⟨v, it, s, o, rfl, _⟩ := h
    rfl
  · obtain ⟨v, it, s, o, rfl, W, rv, ⟨z, rfl⟩, st, sm, q0, q1⟩ := h
    refine ⟨_, (pss_cons (ps_expr (pe_bm PySem.F.plainAttrs_list PySem.F.slot_list_append PySem.F.type_list_append mt_append (pe_fld (pv 0) rfl) (pa_cons (pe_tup pa_nil) pa_nil)))
      (pss_one (ps_ret (pe_meth (pv 0) TW.cl mTo GTo hr bto .nil pass0 (pa_cons (pe_ix ix_tup (pv 1) pe_int (fun _ _ => rfl)) pa_nil))))), ?_⟩
    obtain ⟨dx, ho⟩ := id W.ob
    obtain ⟨ws, ew, rw_⟩ := id W.wt
    obtain ⟨a, vs, rfl, ea, ra⟩ := Rp.tupE rv
    obtain ⟨v1, v2, rfl, r1, r2⟩ := ra.two
    obtain ⟨rfl, l1⟩ := r1.strE
    obtain ⟨rfl, l2⟩ := r2.strE
    cases st with
    | textT sw =>
    have sm1 := sm _ rfl
    have line : (3000 : Nat) < sizeLine := by rw [sizeLine_eq]; decide
    have lw := rw_.len
    have smW := W.sm
    refine ⟨_, rfl, c.x, c.C, dx, _, _, rfl, ho, TW.cl, TW.n, rfl, .inl ⟨rfl, _, SqL.of ew⟩, ⟨Nat.zero_le _, fun p np => ?_⟩⟩
    have W1 := W.new (o := .tup []) np
    obtain ⟨ws1, ew1, rw1⟩ := id W1.wt
    have t1 : TS H (upd H p (.tup [])) := TS.new np
    have k1 : Kp (WM c) H (upd H p (.tup [])) := Kp.new np
    have ep : upd H p (.tup []) p = some (.tup []) := upd_same
    generalize upd H p (.tup []) = H1 at W1 ew1 rw1 t1 k1 ep ⊢
    have lw1 := rw1.len
    refine ⟨c.wt, ws1, .ref p, rfl, rfl, ew1, by have := smW.2.1; omega, ?_⟩
    obtain ⟨W2, t2⟩ := W1.setWt (D := s.W ++ [.tup []]) (us := ws1 ++ [.ref p]) (rw1.app (.cons (.tup ep .nil) .nil)) ⟨sm1.1, sm1.2.1, sm1.2.2⟩
    have k2 : Kp (WM c) H1 (upd H1 c.wt (.lst (ws1 ++ [.ref p]))) := Kp.put (.inr (.inr (.inl rfl)))
    generalize upd H1 c.wt (.lst (ws1 ++ [.ref p])) = H2 at W2 t2 k2 ⊢
    obtain ⟨dx2, ho2⟩ := id W2.ob
    have ea2 := t2 _ _ (t1 _ _ ea)
    refine ⟨_, rfl, c.x, dx2, _, rfl, ho2, rfl, _, rfl, a, _, 1, .str z, rfl, rfl, SqT.of ea2, atI_nat (j := 1) rfl, z, _, rfl, W2, sw, l2, fun H3 W3 k3 t3 => ?_⟩
    exact q1 _ rfl H3 W3 ((k1.trans k2).trans k3) (t1.trans (t2.trans t3))
theorem ok_t2 {c : Wx} {f : Addr} {fd : FuncData} {k : Nat} (F : Fun K "_walk_skip" "_walk_skip" sT2 f fd) (TW : WkCls K c.C) :
    FnOk P w K mg base CX0 (k + 1) f fd ["walk", "form"] (spItem c fun i => ∃ g, i = .form (.skip g)) := by
  refine F.ok scT2 (fun vs H Q E h => ?_) (fun cdv A outer sh H vs Q E hr h => ?_)
  · obtain ⟨v, it, s, o, rfl, _⟩ := h
    rfl
  · obtain ⟨v, it, s, o, rfl, W, rv, ⟨g, rfl⟩, st, sm, q0, q1⟩ := h
    refine ⟨_, (pss_cons (ps_expr (pe_bm PySem.F.plainAttrs_list PySem.F.slot_list_extend PySem.F.type_list_extend mt_extend (pe_fld (pv 0) rfl) (pa_cons (pe_lst (pa_cons (pe_tup (pa_cons pe_str pa_nil)) (pa_cons (pe_ix ix_tup (pv 1) pe_int (fun _ _ => rfl)) pa_nil))) pa_nil)))
      (pss_one (ps_ret pe_bl))), ?_⟩
    obtain ⟨dx, ho⟩ := id W.ob
    obtain ⟨ws, ew, rw_⟩ := id W.td
    obtain ⟨a, vs, rfl, ea, ra⟩ := Rp.tupE rv
    obtain ⟨v1, v2, rfl, r1, r2⟩ := ra.two
    cases st with
    | skip =>
    have sm1 := sm _ rfl
    have line : (3000 : Nat) < sizeLine := by rw [sizeLine_eq]; decide
    have smW := W.sm
    refine ⟨_, rfl, c.x, c.C, dx, _, _, rfl, ho, TW.cl, TW.n, rfl, .inl ⟨rfl, _, SqL.of ew⟩, ⟨by show 1 ≤ sizeLine; omega, fun p np => ?_⟩⟩
    have W1 := W.new (o := .tup [.str "skipped"]) np
    have t1 : TS H (upd H p (.tup [.str "skipped"])) := TS.new np
    have k1 : Kp (WM c) H (upd H p (.tup [.str "skipped"])) := Kp.new np
    have ep : upd H p (.tup [.str "skipped"]) p = some (.tup [.str "skipped"]) := upd_same
    generalize upd H p (.tup [.str "skipped"]) = H1 at W1 t1 k1 ep ⊢
    refine ⟨_, rfl, a, _, 1, v2, rfl, rfl, SqT.of (t1 _ _ ea), atI_nat (j := 1) rfl, by show 2 ≤ sizeLine; omega, fun l nl => ?_⟩
    have W2 := W1.new (o := .lst [.ref p, v2]) nl
    obtain ⟨ws2, ew2, rw2⟩ := id W2.td
    have t2 : TS H1 (upd H1 l (.lst [.ref p, v2])) := TS.new nl
    have k2 : Kp (WM c) H1 (upd H1 l (.lst [.ref p, v2])) := Kp.new nl
    have el : upd H1 l (.lst [.ref p, v2]) l = some (.lst [.ref p, v2]) := upd_same
    generalize upd H1 l (.lst [.ref p, v2]) = H2 at W2 ew2 rw2 t2 k2 el ⊢
    have lw2 := rw2.len
    rw [List.length_reverse, List.length_map] at lw2
    refine ⟨c.td, l, ws2, _, rfl, rfl, ew2, el, by have := smW.1; show ws2.length + 2 ≤ _; omega, ?_⟩
    obtain ⟨W3, t3⟩ := W2.setTd (T := .form g :: .skipped :: s.T) (us := ws2 ++ [.ref p, v2]) (by
      have e := encs_rev s.T [.skipped, .form g]
      rw [show (.form g :: .skipped :: s.T : List It) = ([.skipped, .form g] : List It).reverse ++ s.T from rfl, e]
      exact rw2.app (.cons (.tup (t2 _ _ ep) (.cons (.str (by decide)) .nil)) (.cons (r2.ts (t1.trans t2)) .nil))) ⟨sm1.1, sm1.2.1, sm1.2.2⟩
    exact q1 _ rfl _ W3 ((k1.trans k2).trans (Kp.put (.inr (.inl rfl)))) (t1.trans (t2.trans t3))
theorem ok_t3 {c : Wx} {f : Addr} {fd : FuncData} {k : Nat} (F : Fun K "_end_skipped" "_end_skipped" sT3 f fd) (TW : WkCls K c.C) :
    FnOk P w K mg base CX0 (k + 1) f fd ["walk", "_"] (spItem c fun i => i = .skipped) := by
  refine F.ok scT3 (fun vs H Q E h => ?_) (fun cdv A outer sh H vs Q E hr h => ?_)
  · obtain ⟨v, it, s, o, rfl, _⟩ := h
    rfl
  · obtain ⟨v, it, s, o, rfl, W, rv, rfl, st, sm, q0, q1⟩ := h
    refine ⟨_, (pss_cons (ps_asg (pe_tup pa_nil) (pg_sub (pe_fld (pv 0) rfl) (pe_un un_neg pe_int) set_list))
      (pss_one (ps_ret pe_bl))), ?_⟩
    cases st with
    | @skipped s W0 d0 e0 =>
    have sm1 := sm _ rfl
    refine ⟨Nat.zero_le _, fun p np => ?_⟩
    have W1 := W.new (o := .tup []) np
    obtain ⟨ws1, ew1, rw1⟩ := id W1.wt
    obtain ⟨dx, ho⟩ := id W1.ob
    have t1 : TS H (upd H p (.tup [])) := TS.new np
    have k1 : Kp (WM c) H (upd H p (.tup [])) := Kp.new np
    have ep : upd H p (.tup []) p = some (.tup []) := upd_same
    generalize upd H p (.tup []) = H1 at W1 ew1 rw1 ho t1 k1 ep ⊢
    rw [e0] at rw1
    obtain ⟨us, u, rfl, ru, rd⟩ := rw1.snoc
    refine ⟨_, rfl, c.x, c.C, dx, _, _, rfl, ho, TW.cl, TW.n, rfl, 1, rfl, c.wt, _, -1, us.length, rfl, rfl, ew1, ?_, ?_⟩
    · rw [List.length_append]
      simp [ixN]
      omega
    have es : (us ++ [u]).set us.length (.ref p) = us ++ [.ref p] := by
      rw [List.set_append_right _ _ (Nat.le_refl _), Nat.sub_self]
      rfl
    obtain ⟨W2, t2⟩ := W1.setWt (D := W0 ++ [.tup []]) (us := us ++ [.ref p]) (ru.app (.cons (.tup ep .nil) .nil)) ⟨sm1.1, sm1.2.1, sm1.2.2⟩
    rw [es]
    exact q1 _ rfl _ W2 (k1.trans (Kp.put (.inr (.inr (.inl rfl))))) (t1.trans t2)
theorem ok_t4 {c : Wx} {f : Addr} {fd : FuncData} {k : Nat} (F : Fun K "_walk_row" "_walk_row" sT4 f fd) (TW : WkCls K c.C) :
    FnOk P w K mg base CX0 (k + 1) f fd ["walk", "form"] (spItem c fun i => ∃ fs, i = .form (.row fs)) := by
  refine F.ok scT4 (fun vs H Q E h => ?_) (fun cdv A outer sh H vs Q E hr h => ?_)
  · obtain ⟨v, it, s, o, rfl, _⟩ := h
    rfl
  · obtain ⟨v, it, s, o, rfl, W, rv, ⟨fs, rfl⟩, st, sm, q0, q1⟩ := h
    refine ⟨_, (pss_cons (ps_expr (pe_bm PySem.F.plainAttrs_list PySem.F.slot_list_append PySem.F.type_list_append mt_append (pe_fld (pv 0) rfl) (pa_cons (pe_tup (pa_cons pe_str (pa_cons (pv 1) pa_nil))) pa_nil)))
      (pss_cons (ps_expr (pe_bm PySem.F.plainAttrs_list PySem.F.slot_list_extend PySem.F.type_list_extend mt_extT (pe_fld (pv 0) rfl) (pa_cons (pe_revT (pe_ix ix_tup (pv 1) pe_int (fun _ _ => rfl))) pa_nil)))
      (pss_one (ps_ret pe_bl)))), ?_⟩
    obtain ⟨dx, ho⟩ := id W.ob
    obtain ⟨ws, ew, rw_⟩ := id W.td
    obtain ⟨a, vs, rfl, ea, ra⟩ := Rp.tupE rv
    obtain ⟨v1, v2, rfl, r1, r2⟩ := id ra.two
    obtain ⟨b, us, rfl, eb, rb⟩ := Rp.tupE r2
    cases st with
    | row =>
    have sm1 := sm _ rfl
    have line : (3000 : Nat) < sizeLine := by rw [sizeLine_eq]; decide
    have smW := W.sm
    refine ⟨_, rfl, c.x, c.C, dx, _, _, rfl, ho, TW.cl, TW.n, rfl, .inl ⟨rfl, _, SqL.of ew⟩, _, rfl, ⟨by show 2 ≤ sizeLine; omega, fun p np => ?_⟩⟩
    have W1 := W.new (o := .tup [.str "rowed", .ref a]) np
    have t1 : TS H (upd H p (.tup [.str "rowed", .ref a])) := TS.new np
    have k1 : Kp (WM c) H (upd H p (.tup [.str "rowed", .ref a])) := Kp.new np
    have ep : upd H p (.tup [.str "rowed", .ref a]) p = some (.tup [.str "rowed", .ref a]) := upd_same
    generalize upd H p (.tup [.str "rowed", .ref a]) = H1 at W1 t1 k1 ep ⊢
    obtain ⟨ws1, ew1, rw1⟩ := id W1.td
    have lw1 := rw1.len
    rw [List.length_reverse, List.length_map] at lw1
    refine ⟨c.td, ws1, .ref p, rfl, rfl, ew1, by have := smW.1; omega, ?_⟩
    have smT : s.T.length + 1 + fs.length ≤ 1000 := by
      have z := sm1.1
      simp only [List.length_append, List.length_map, List.length_cons] at z
      omega
    obtain ⟨W2, t2⟩ := W1.setTd (T := .rowed fs :: s.T) (us := ws1 ++ [.ref p]) (by
      have e := encs_rev s.T [.rowed fs]
      rw [show (.rowed fs :: s.T : List It) = ([.rowed fs] : List It).reverse ++ s.T from rfl, e]
      exact rw1.app (.cons (.tup ep (.cons (.str (by decide)) (.cons (rv.ts t1) .nil))) .nil)) ⟨by show s.T.length + 1 ≤ _; omega, smW.2.1, smW.2.2⟩
    have k2 : Kp (WM c) H1 (upd H1 c.td (.lst (ws1 ++ [.ref p]))) := Kp.put (.inr (.inl rfl))
    generalize upd H1 c.td (.lst (ws1 ++ [.ref p])) = H2 at W2 t2 k2 ⊢
    obtain ⟨dx2, ho2⟩ := id W2.ob
    obtain ⟨ws2, ew2, rw2⟩ := id W2.td
    have t02 := t1.trans t2
    refine ⟨_, rfl, c.x, c.C, dx2, _, _, rfl, ho2, TW.cl, TW.n, rfl, .inl ⟨rfl, _, SqL.of ew2⟩, _, rfl, a, _, 1, .ref b, rfl, rfl, SqT.of (t02 _ _ ea), atI_nat (j := 1) rfl, b, us, rfl, SqT.of (t02 _ _ eb), fun l nl => ?_⟩
    have W3 := W2.new (o := .tup us.reverse) nl
    have t3 : TS H2 (upd H2 l (.tup us.reverse)) := TS.new nl
    have k3 : Kp (WM c) H2 (upd H2 l (.tup us.reverse)) := Kp.new nl
    have el : upd H2 l (.tup us.reverse) l = some (.tup us.reverse) := upd_same
    generalize upd H2 l (.tup us.reverse) = H3 at W3 t3 k3 el ⊢
    obtain ⟨ws3, ew3, rw3⟩ := id W3.td
    have lw3 := rw3.len
    rw [List.length_reverse, List.length_map] at lw3
    have lb := rb.len
    rw [Fm.encs_map, List.length_map] at lb
    refine ⟨c.td, l, ws3, us.reverse, rfl, rfl, ew3, el, by rw [List.length_reverse]; have : ws3.length = s.T.length + 1 := lw3; omega, ?_⟩
    obtain ⟨W4, t4⟩ := W3.setTd (T := fs.map .form ++ .rowed fs :: s.T) (us := ws3 ++ us.reverse) (by
      have e := encs_rev (.rowed fs :: s.T) (fs.map .form).reverse
      rw [List.reverse_reverse] at e
      rw [e]
      refine rw3.app ?_
      rw [List.map_reverse, List.map_map]
      have rb' := (rb.ts (t02.trans t3)).rev
      rw [Fm.encs_map] at rb'
      exact rb') ⟨sm1.1, sm1.2.1, sm1.2.2⟩
    exact q1 _ rfl _ W4 (((k1.trans k2).trans k3).trans (Kp.put (.inr (.inl rfl)))) (t02.trans (t3.trans t4))
end
end RT

set_option maxHeartbeats 1000000
namespace RT
open PySem PySem.Spec PyProof.Rows L2
/-- the last so many worths, taken out -/
def spLa (c : Wx) : Sp := fun vs H Q _ => ∃ (s : St) (W0 ds : List D), vs = [.ref c.x, .int (ds.length : Nat)] ∧ WkAt c H s ∧ s.W = W0 ++ ds ∧
  ∀ (l : Addr) (us : List V) (H' : Hp), H' l = some (.lst us) → Rps H' us ds → l ≠ c.td → l ≠ c.wt → WkAt c H' { s with W := W0 } → Kp (WM c) H H' → TS H H' → Q (.ref l) H'
theorem Rps.split {H : Hp} : ∀ {vs : List V} {ds es : List D}, Rps H vs (ds ++ es) → Rps H (vs.take ds.length) ds ∧ Rps H (vs.drop ds.length) es
  | _, [], _, r => ⟨by simp; exact .nil, r⟩
  | _, _ :: ds, _, .cons a r => by
    obtain ⟨x, y⟩ := Rps.split (ds := ds) r
    exact ⟨.cons a x, y⟩
theorem cut_from (xs : List V) (n : Nat) (h : n ≤ xs.length) : cutV xs (some (n : Nat)) none = xs.drop n := by
  unfold cutV
  rw [show HT.sIx xs.length 0 (some ((n : Nat) : Int)) = min n xs.length from HT.sIx_nat xs.length 0 n, HT.sIx_none, Nat.min_eq_left h]
  rw [List.take_of_length_le]
  rw [List.length_drop]
  omega
section
variable {P : Program} {w : World} {K : PySem.W.Frag} {mg : Str → Option Value} {base : Heap}
theorem ok_la {c : Wx} {f : Addr} {fd : FuncData} {k : Nat} (F : Fun K "_last_worths" "_last_worths" sLa f fd) (TW : WkCls K c.C) (ml : mg "len" = none) : FnOk P w K mg base CX0 (k + 1) f fd ["walk", "many"] (spLa c) := by
  refine F.ok scL (fun vs H Q E h => ?_) (fun cdv A outer sh H vs Q E hr h => ?_)
  · obtain ⟨s, W0, ds, rfl, _⟩ := h
    rfl
  · obtain ⟨s, W0, ds, rfl, W, eW, q⟩ := h
    refine ⟨_, (pss_cons (ps_set (i := 2) scL.nd rfl (.inl rfl) (pe_fld (pv 0) rfl))
      (pss_cons (ps_set (i := 3) scL.nd rfl (.inl rfl) (pe_op op_sub (pe_callB call_len_seq (by rfl) ml PySem.boot_len (pa_cons (pv 2) pa_nil)) (pv 1)))
      (pss_cons (ps_set (i := 4) scL.nd rfl (.inl rfl) (pe_slice sl_list (pv 2) (po_some (pv 3)) po_none))
      (pss_cons (ps_delT (pv 2) (pv 3))
      (pss_one (ps_ret (pv 4))))))), ?_⟩
    obtain ⟨dx, ho⟩ := id W.ob
    obtain ⟨ws, ew, rw_⟩ := id W.wt
    rw [eW] at rw_
    have lw := rw_.len
    rw [List.length_append] at lw
    refine ⟨_, rfl, c.x, c.C, dx, _, _, rfl, ho, TW.cl, TW.n, rfl, ?_⟩
    refine ⟨_, rfl, c.wt, ws, rfl, .inl (SqL.of ew), _, rfl, _, _, rfl, rfl, ?_⟩
    have ei : ((ws.length : Nat) : Int) - (ds.length : Nat) = (W0.length : Nat) := by omega
    refine ⟨_, rfl, _, rfl, _, rfl, c.wt, ws, rfl, SqL.of ew, fun l nl => ?_⟩
    have ec : cutV ws (some (((ws.length : Nat) : Int) - (ds.length : Nat))) none = ws.drop W0.length := by rw [ei]; exact cut_from ws W0.length (by omega)
    rw [ec]
    have W1 := W.new (o := .lst (ws.drop W0.length)) nl
    have t1 : TS H (upd H l (.lst (ws.drop W0.length))) := TS.new nl
    have k1 : Kp (WM c) H (upd H l (.lst (ws.drop W0.length))) := Kp.new nl
    have el : upd H l (.lst (ws.drop W0.length)) l = some (.lst (ws.drop W0.length)) := upd_same
    have lwt : c.wt ≠ l := ne_of_none ew nl
    have ltd : l ≠ c.td := fun z => by
      obtain ⟨us, e, _⟩ := W.td
      rw [← z, nl] at e
      cases e
    have ew1 : upd H l (.lst (ws.drop W0.length)) c.wt = some (.lst ws) := by rw [upd_ne lwt]; exact ew
    generalize upd H l (.lst (ws.drop W0.length)) = H1 at W1 t1 k1 el ew1 ⊢
    have sm := W.sm
    obtain ⟨ra, rb⟩ := rw_.split
    obtain ⟨W2, t2⟩ := W1.setWt (D := W0) (us := ws.take W0.length) (ra.ts t1) ⟨sm.1, by show W0.length ≤ _; have := sm.2.1; rw [eW, List.length_append] at this; omega, sm.2.2⟩
    refine ⟨_, rfl, _, rfl, _, rfl, c.wt, ws, W0.length, rfl, congrArg some ei, ew1, by omega, ?_⟩
    refine ⟨_, rfl, ?_⟩
    exact q l _ _ (by rw [upd_ne lwt.symm]; exact el) (rb.ts (t1.trans t2)) ltd lwt.symm W2 (k1.trans (Kp.put (.inr (.inr (.inl rfl))))) (t1.trans t2)
theorem kyE_inj {a b : Ky} (h : (kyE a).1 = (kyE b).1) : a = b := by
  obtain ⟨x, p, t⟩ := a
  obtain ⟨y, q, u⟩ := b
  simp only [kyE, List.cons.injEq, Sum.inr.injEq, Sum.inl.injEq, Int.ofNat_inj, and_true] at h
  obtain ⟨rfl, rfl, rfl⟩ := h
  rfl
theorem ky_val (ks : List Ky) (k : Ky) : (valV (ks.map kyE) (kyE k).1).isSome = decide (k ∈ ks) := by
  induction ks with
  | nil => simp [valV_nil]
  | cons m r ih =>
    by_cases e : m = k
    · subst e
      rw [List.map_cons, show kyE m = ((kyE m).1, (kyE m).2) from rfl, valV_pos rfl]
      simp
    · rw [List.map_cons, show kyE m = ((kyE m).1, (kyE m).2) from rfl, valV_neg (fun z => e (kyE_inj z)), ih]
      have e2 : k ≠ m := fun z => e z.symm
      simp [e2]
theorem ky_put {ks : List Ky} {k : Ky} (h : k ∉ ks) : putK (ks.map kyE) (kyE k).1 (.bl true) = (ks ++ [k]).map kyE := by
  unfold putK
  rw [if_neg]
  · rw [List.map_append]
    rfl
  · intro z
    obtain ⟨p, hp, e⟩ := List.any_eq_true.mp z
    obtain ⟨m, hm, rfl⟩ := List.mem_map.mp hp
    exact h (kyE_inj (of_decide_eq_true e) ▸ hm)
theorem ky_drop (ks : List Ky) (k : Ky) : dropK (ks.map kyE) (kyE k).1 = (ks.filter fun m => decide (m ≠ k)).map kyE := by
  unfold dropK
  rw [List.filter_map]
  congr 1
  refine List.filter_congr fun m _ => ?_
  show decide ((kyE m).1 ≠ (kyE k).1) = decide (m ≠ k)
  by_cases e : m = k
  · subst e
    simp
  · rw [decide_eq_true e, decide_eq_true (show (kyE m).1 ≠ (kyE k).1 from fun z => e (kyE_inj z))]
theorem ok_en {c : Wx} {f : Addr} {fd : FuncData} {k : Nat} (F : Fun K "_end_named" "_end_named" sEn f fd) (TW : WkCls K c.C) :
    FnOk P w K mg base CX0 (k + 1) f fd ["walk", "item"] (spItem c fun i => ∃ x p t, i = .outof x p t) := by
  refine F.ok scEn (fun vs H Q E h => ?_) (fun cdv A outer sh H vs Q E hr h => ?_)
  · obtain ⟨v, it, s, o, rfl, _⟩ := h
    rfl
  · obtain ⟨v, it, s, o, rfl, W, rv, ⟨x, p, t, rfl⟩, st, sm, q0, q1⟩ := h
    refine ⟨_, (pss_cons (ps_ddelT (hu_of hr) (pe_fld (pv 0) rfl) (pe_ix ix_tup (pv 1) pe_int (fun _ _ => rfl)))
      (pss_one (ps_ret pe_bl))), ?_⟩
    obtain ⟨dx, ho⟩ := id W.ob
    obtain ⟨a, vs, rfl, ea, ra⟩ := Rp.tupE rv
    obtain ⟨v1, v2, rfl, r1, r2⟩ := ra.two
    obtain ⟨b, us, rfl, eb, rb⟩ := Rp.tupE r2
    obtain ⟨u1, u2, u3, rfl, s1, s2, s3⟩ := rb.three
    obtain ⟨rfl, _⟩ := s1.strE
    cases s2
    cases s3
    cases st with
    | outof hk =>
    have sm1 := sm _ rfl
    have ek := ky_drop s.ks (x, p, t)
    obtain ⟨W2, t2⟩ := W.setWi (ks := s.ks.filter fun m => decide (m ≠ (x, p, t))) (W.nd.filter _) ⟨sm1.1, sm1.2.1, sm1.2.2⟩
    refine ⟨_, rfl, c.x, c.C, dx, _, _, rfl, ho, TW.cl, TW.n, rfl, _, rfl, a, _, 1, .ref b, rfl, rfl, SqT.of ea, atI_nat (j := 1) rfl, c.wi, b, _, (kyE (x, p, t)).1, rfl, W.wi, rfl, eb, by rw [ky_val]; exact decide_eq_true hk, ?_⟩
    rw [ek]
    exact q1 _ rfl _ W2 (Kp.put (.inr (.inr (.inr rfl)))) t2
theorem ok_na {c : Wx} {f : Addr} {fd : FuncData} {k : Nat} (F : Fun K "_walk_named" "_walk_named" sNa f fd) (TW : WkCls K c.C) :
    FnOk P w K mg base CX0 (k + 1) f fd ["walk", "form"] (spItem c fun i => ∃ x, i = .form (.named x)) := by
  refine F.ok scN (fun vs H Q E h => ?_) (fun cdv A outer sh H vs Q E hr h => ?_)
  · obtain ⟨v, it, s, o, rfl, _⟩ := h
    rfl
  · obtain ⟨v, it, s, o, rfl, W, rv, ⟨x, rfl⟩, st, sm, q0, q1⟩ := h
    refine ⟨_, (pss_cons (ps_set (i := 2) scN.nd rfl (.inl rfl) (pe_ix ix_tup (pv 1) pe_int (fun _ _ => rfl)))
      (pss_cons (ps_set (i := 3) scN.nd rfl (.inl rfl) (pe_tup (pa_cons (pv 2) (pa_cons (pe_fld (pv 0) rfl) (pa_cons (pe_fld (pv 0) rfl) pa_nil)))))
      (pss_cons (ps_if (pt_cmp (pc_din (hu_of hr) (pv 3) (pe_fld (pv 0) rfl))) (pss_one (ps_ret pe_bl)) pss_nil)
      (pss_cons (ps_dput (hu_of hr) (pe_fld (pv 0) rfl) (pv 3) pe_bl rfl)
      (pss_cons (ps_expr (pe_bm PySem.F.plainAttrs_list PySem.F.slot_list_extend PySem.F.type_list_extend mt_extend (pe_fld (pv 0) rfl) (pa_cons (pe_lst (pa_cons (pe_tup (pa_cons pe_str (pa_cons (pv 3) pa_nil))) (pa_cons (pe_dget (hu_of hr) (pe_fld (pv 0) rfl) (pv 2) (fun _ _ => rfl)) pa_nil))) pa_nil)))
      (pss_one (ps_ret pe_bl))))))), ?_⟩
    obtain ⟨dx, ho⟩ := id W.ob
    obtain ⟨a, vs, rfl, ea, ra⟩ := Rp.tupE rv
    obtain ⟨v1, v2, rfl, r1, r2⟩ := ra.two
    obtain ⟨rfl, lx⟩ := r2.strE
    have line : (3000 : Nat) < sizeLine := by rw [sizeLine_eq]; decide
    refine ⟨_, rfl, a, _, 1, .str x, rfl, rfl, SqT.of ea, atI_nat (j := 1) rfl, ?_⟩
    refine ⟨_, rfl, _, rfl, c.x, c.C, dx, _, _, rfl, ho, TW.cl, TW.n, rfl, _, rfl, c.x, c.C, dx, _, _, rfl, ho, TW.cl, TW.n, rfl, by show 3 ≤ sizeLine; omega, fun p np => ?_⟩
    have W1 := W.new (o := .tup [.str x, .int (s.p : Nat), .int (s.t : Nat)]) np
    have t1 : TS H (upd H p (.tup [.str x, .int (s.p : Nat), .int (s.t : Nat)])) := TS.new np
    have k1 : Kp (WM c) H (upd H p (.tup [.str x, .int (s.p : Nat), .int (s.t : Nat)])) := Kp.new np
    have ep : upd H p (.tup [.str x, .int (s.p : Nat), .int (s.t : Nat)]) p = some (.tup ((kyE (x, s.p, s.t)).1.map kV)) := upd_same
    generalize upd H p (.tup [.str x, .int (s.p : Nat), .int (s.t : Nat)]) = H1 at W1 t1 k1 ep ⊢
    obtain ⟨dx1, ho1⟩ := id W1.ob
    refine ⟨_, rfl, _, rfl, c.x, c.C, dx1, _, _, rfl, ho1, TW.cl, TW.n, rfl, c.wi, _, rfl, DGet.t (k := (kyE (x, s.p, s.t)).1) W1.wi ep, ?_⟩
    have ev := ky_val s.ks (x, s.p, s.t)
    refine ⟨_, rfl, ?_⟩
    cases st with
    | namedF hk =>
      exact iteT' (by rw [ev]; exact decide_eq_true hk) (q0 rfl _ k1)
    | @namedT _ _ g hk hf =>
    refine iteF' (by rw [ev]; exact decide_eq_false hk) ?_
    have sm1 := sm _ rfl
    have smW := W.sm
    have smK : s.ks.length + 1 ≤ 1000 := by
      have z := sm1.2.2
      simp only [List.length_append, List.length_singleton] at z
      exact z
    obtain ⟨W2, t2⟩ := W1.setWi (ks := s.ks ++ [(x, s.p, s.t)]) (by
      rw [List.nodup_append]
      refine ⟨W.nd, by simp, fun u hu v hv e => ?_⟩
      rw [List.mem_singleton.mp hv] at e
      exact hk (e ▸ hu)) ⟨smW.1, smW.2.1, by show (s.ks ++ [_]).length ≤ 1000; rw [List.length_append]; exact smK⟩
    have ek := ky_put hk
    have k2 : Kp (WM c) H1 (upd H1 c.wi (.dT ((s.ks ++ [(x, s.p, s.t)]).map kyE))) := Kp.put (.inr (.inr (.inr rfl)))
    refine ⟨_, rfl, c.x, c.C, dx1, _, _, rfl, ho1, TW.cl, TW.n, rfl, _, rfl, c.wi, _, rfl, DPut.t (k := (kyE (x, s.p, s.t)).1) W1.wi ep (by rw [List.length_map]; omega), ?_⟩
    rw [ek]
    have ep2 := t2 _ _ ep
    generalize upd H1 c.wi (.dT ((s.ks ++ [(x, s.p, s.t)]).map kyE)) = H2 at W2 t2 k2 ep2 ⊢
    obtain ⟨ws2, ew2, rw2⟩ := id W2.td
    obtain ⟨dx2, ho2⟩ := id W2.ob
    have lw2 := rw2.len
    rw [List.length_reverse, List.length_map] at lw2
    have smT : s.T.length + 2 ≤ 1000 := by
      have z := sm1.1
      simp only [List.length_cons] at z
      omega
    obtain ⟨kvs, et, g2⟩ := id W2.tab
    obtain ⟨u, eu, ru⟩ := g2 x g hf
    refine ⟨_, rfl, c.x, c.C, dx2, _, _, rfl, ho2, TW.cl, TW.n, rfl, .inl ⟨rfl, _, SqL.of ew2⟩, _, rfl, by show 2 ≤ sizeLine; omega, fun r nr => ?_⟩
    have W3 := W2.new (o := .tup [.str "out of", .ref p]) nr
    have t3 : TS H2 (upd H2 r (.tup [.str "out of", .ref p])) := TS.new nr
    have k3 : Kp (WM c) H2 (upd H2 r (.tup [.str "out of", .ref p])) := Kp.new nr
    have er : upd H2 r (.tup [.str "out of", .ref p]) r = some (.tup [.str "out of", .ref p]) := upd_same
    have et3 : upd H2 r (.tup [.str "out of", .ref p]) c.tbA = some (.dK kvs) := by rw [upd_ne (ne_of_none et nr)]; exact et
    generalize upd H2 r (.tup [.str "out of", .ref p]) = H3 at W3 t3 k3 er et3 ⊢
    obtain ⟨dx3, ho3⟩ := id W3.ob
    refine ⟨_, rfl, c.x, c.C, dx3, _, _, rfl, ho3, TW.cl, TW.n, rfl, _, rfl, c.tbA, u, rfl, ?_, by show 2 ≤ sizeLine; omega, fun l nl => ?_⟩
    · rw [← eu]
      exact DGet.k (k := .inr x) et3
    have W4 := W3.new (o := .lst [.ref r, u]) nl
    have t4 : TS H3 (upd H3 l (.lst [.ref r, u])) := TS.new nl
    have k4 : Kp (WM c) H3 (upd H3 l (.lst [.ref r, u])) := Kp.new nl
    have el : upd H3 l (.lst [.ref r, u]) l = some (.lst [.ref r, u]) := upd_same
    generalize upd H3 l (.lst [.ref r, u]) = H4 at W4 t4 k4 el ⊢
    obtain ⟨ws4, ew4, rw4⟩ := id W4.td
    have lw4 := rw4.len
    rw [List.length_reverse, List.length_map] at lw4
    refine ⟨c.td, l, ws4, _, rfl, rfl, ew4, el, by show ws4.length + 2 ≤ _; have : ws4.length = s.T.length := lw4; omega, ?_⟩
    obtain ⟨W5, t5⟩ := W4.setTd (T := .form g :: .outof x s.p s.t :: s.T) (us := ws4 ++ [.ref r, u]) (by
      have e := encs_rev s.T [.outof x s.p s.t, .form g]
      rw [show (.form g :: .outof x s.p s.t :: s.T : List It) = ([.outof x s.p s.t, .form g] : List It).reverse ++ s.T from rfl, e]
      refine rw4.app (.cons (.tup (t4 _ _ er) (.cons (.str (by decide)) (.cons (.tup (t4 _ _ (t3 _ _ ep2)) (.cons (.str lx) (.cons .int (.cons .int .nil)))) .nil))) (.cons (ru.ts (t3.trans t4)) .nil))) ⟨by show s.T.length + 2 ≤ _; exact smT, smW.2.1, sm1.2.2⟩
    exact q1 _ rfl _ W5 ((((k1.trans k2).trans k3).trans k4).trans (Kp.put (.inr (.inl rfl)))) (t1.trans (t2.trans (t3.trans (t4.trans t5))))
end
end RT

set_option maxHeartbeats 1000000
namespace RT
open PySem PySem.Spec PyProof.Rows L2
theorem WkAt.off {c : Wx} {H : Hp} {s : St} (W : WkAt c H s) {p : Addr} {xs ys : List V} (e : H p = some (.lst xs)) (n1 : p ≠ c.td) (n2 : p ≠ c.wt) : WkAt c (upd H p (.lst ys)) s ∧ TS H (upd H p (.lst ys)) := by
  have ts : TS H (upd H p (.lst ys)) := TS.put e fun _ z => by cases z
  obtain ⟨dx, ho⟩ := W.ob
  obtain ⟨us, t, r⟩ := W.td
  obtain ⟨ws, v, r2⟩ := W.wt
  obtain ⟨kvs, tb, _⟩ := id W.tab
  exact ⟨⟨⟨dx, by rw [upd_ne (ne_of ho e fun z => by cases z)]; exact ho⟩, ⟨us, by rw [upd_ne n1.symm]; exact t, r.ts ts⟩, ⟨ws, by rw [upd_ne n2.symm]; exact v, r2.ts ts⟩, W.ne, by rw [upd_ne (ne_of W.wi e fun z => by cases z)]; exact W.wi, W.nd, W.sm, W.tab.ts ts (upd_ne (ne_of tb e fun z => by cases z)), W.way.ts ts, W.few⟩, ts⟩
theorem WkAt.offN {c : Wx} {H : Hp} {s : St} (W : WkAt c H s) {p : Addr} (n : H p = none) : p ≠ c.td ∧ p ≠ c.wt := by
  obtain ⟨us, t, r⟩ := W.td
  obtain ⟨ws, v, r2⟩ := W.wt
  exact ⟨(ne_of_none t n).symm, (ne_of_none v n).symm⟩
/-- the choices of an either -/
theorem either_item {H : Hp} {us : List V} {ns : List Str} {fs : List Fm} (r : Rps H us (List.zipWith (fun n d => .tup [.str n, d]) ns (Fm.encs fs))) (l : ns.length = fs.length) : us.length = fs.length ∧ ∀ (i : Nat) (x : V), us[i]? = some x → ∃ (m : Str) (f : Fm) (b : Addr) (u : V), ns[i]? = some m ∧ fs[i]? = some f ∧ x = .ref b ∧ H b = some (.tup [.str m, u]) ∧ Rp H u f.enc ∧ m.length ≤ sizeLine := by
  have lu : us.length = fs.length := by
    rw [r.len, List.length_zipWith, Fm.encs_map, List.length_map]
    omega
  refine ⟨lu, fun i x hx => ?_⟩
  obtain ⟨d, ed, rx⟩ := r.get i x hx
  have li : i < us.length := (List.getElem?_eq_some_iff.mp hx).1
  have hn : ns[i]? = some (ns[i]'(by omega)) := List.getElem?_eq_getElem (by omega)
  have hf : fs[i]? = some (fs[i]'(by omega)) := List.getElem?_eq_getElem (by omega)
  rw [List.getElem?_zipWith, hn, Fm.encs_map, List.getElem?_map, hf] at ed
  cases ed
  obtain ⟨b, vs, rfl, eb, rb⟩ := Rp.tupE rx
  obtain ⟨v1, v2, rfl, r1, r2⟩ := rb.two
  obtain ⟨rfl, lm⟩ := r1.strE
  exact ⟨_, _, b, v2, hn, hf, rfl, eb, r2, lm⟩
section
variable {P : Program} {w : World} {K : PySem.W.Frag} {mg : Str → Option Value} {base : Heap}
theorem ok_ei {c : Wx} {f fc : Addr} {fd fdc : FuncData} {k : Nat} (F : Fun K "_walk_either" "_walk_either" sEi f fd) (TW : WkCls K c.C) (mCh : Meth K c.C "choice" fc) (GCh : FnOk P w K mg base CX0 k fc fdc ["self", "options"] (spWc c)) (bch : Binds K fdc ["self", "options"] []) :
    FnOk P w K mg base CX0 (k + 1) f fd ["walk", "form"] (spItem c fun i => ∃ ns fs, i = .form (.either ns fs) ∧ ns.length = fs.length ∧ fs.length ≤ 100) := by
  refine F.ok scE (fun vs H Q E h => ?_) (fun cdv A outer sh H vs Q E hr h => ?_)
  · obtain ⟨v, it, s, o, rfl, _⟩ := h
    rfl
  · obtain ⟨v, it, s, o, rfl, W, rv, ⟨ns, fs, rfl, lnf, lf⟩, st, sm, q0, q1⟩ := h
    refine ⟨_, (pss_cons (ps_set (i := 2) scE.nd rfl (.inl rfl) (pe_meth (pv 0) TW.cl mCh GCh hr bch .nil pass0 (pa_cons (pe_lc (own := [("_", 5), ("inner", 4)]) (g := gTup K 2 (gCons (gName 5) (gCons (gName 4) gNil))) (tt := tYes) rfl scE.nd (pi_tup (pe_ix ix_tup (pv 1) pe_int (fun _ _ => rfl))) (blkOk_by (N := ["walk", "form", "choice", "name", "inner", "_"]) (sc := defScope sEi) (by decide +kernel)) (fun _ _ _ _ _ => (pg_tup rfl (pgs_cons (pg_name (i := 5) scE.nd rfl (.inl rfl)) (pgs_cons (pg_name (i := 4) scE.nd rfl (.inl rfl)) pgs_nil)))) (fun _ _ _ _ _ => pts_nil) (fun _ _ _ _ _ => (pe_tup (pa_cons (pv 4) pa_nil)))) pa_nil)))
      (pss_cons (ps_if (pt_cmpR op_isN (pv 2) pe_non (nomark _)) (pss_one (ps_ret pe_bl)) pss_nil)
      (pss_cons (ps_asg (pe_ix ix_tup (pe_ix ix_tup (pv 1) pe_int (fun _ _ => rfl)) (pv 2) (fun _ _ => rfl)) (pg_tup rfl (pgs_cons (pg_name (i := 3) scE.nd rfl (.inl rfl)) (pgs_cons (pg_name (i := 4) scE.nd rfl (.inl rfl)) pgs_nil))))
      (pss_cons (ps_expr (pe_bm PySem.F.plainAttrs_list PySem.F.slot_list_extend PySem.F.type_list_extend mt_extend (pe_fld (pv 0) rfl) (pa_cons (pe_lst (pa_cons (pe_tup (pa_cons pe_str (pa_cons (pv 3) (pa_cons (pv 4) pa_nil)))) (pa_cons (pv 4) pa_nil))) pa_nil)))
      (pss_one (ps_ret pe_bl)))))), ?_⟩
    obtain ⟨dx, ho⟩ := id W.ob
    obtain ⟨a, vs, rfl, ea, ra⟩ := Rp.tupE rv
    obtain ⟨v1, v2, rfl, r1, r2⟩ := ra.two
    obtain ⟨b, us, rfl, eb, rb⟩ := Rp.tupE r2
    obtain ⟨lu, item⟩ := either_item rb lnf
    have line : (3000 : Nat) < sizeLine := by rw [sizeLine_eq]; decide
    refine ⟨_, rfl, c.x, dx, _, rfl, ho, rfl, ?_⟩
    refine ⟨_, rfl, a, _, 1, .ref b, rfl, rfl, SqT.of ea, atI_nat (j := 1) rfl, b, rfl, ⟨_, SqT.of eb⟩, fun D nD => ?_⟩
    obtain ⟨nD1, nD2⟩ := W.offN nD
    refine lc_tup (xs := us) (fun i H4 => WkAt c H4 s ∧ TS H H4 ∧ Kp (WM c) H H4 ∧ ∃ os : List V, H4 D = some (.lst os) ∧ os.length = i) ?_ ?_ ?_ ?_
    · exact ⟨W.new nD, TS.new nD, Kp.new nD, [], upd_same, rfl⟩
    · exact fun i H4 _ h => SqT.of (h.2.1 _ _ eb)
    · rintro i x H4 hx ⟨W4, t4, k4, os, eD, lo⟩
      obtain ⟨m, f, bb, u, _, _, rfl, ebb, _, _⟩ := item i x hx
      have hi := (List.getElem?_eq_some_iff.mp hx).1
      refine ⟨bb, _, rfl, SqT.of (t4 _ _ ebb), rfl, _, _, rfl, _, _, rfl, rfl, rfl, tYes_ok (iteT ⟨_, rfl, by show 1 ≤ sizeLine; omega, fun p np => ?_⟩)⟩
      have W5 := W4.new (o := .tup [u]) np
      have t5 : TS H4 (upd H4 p (.tup [u])) := TS.new np
      have k5 : Kp (WM c) H4 (upd H4 p (.tup [u])) := Kp.new np
      have eD5 : upd H4 p (.tup [u]) D = some (.lst os) := by rw [upd_ne (ne_of_none eD np)]; exact eD
      generalize upd H4 p (.tup [u]) = H5 at W5 t5 k5 eD5 ⊢
      obtain ⟨W6, t6⟩ := W5.off (ys := os ++ [.ref p]) eD5 nD1 nD2
      exact ⟨os, eD5, by omega, W6, t4.trans (t5.trans t6), (k4.trans k5).own nD, _, upd_same, by rw [List.length_append, lo]; rfl⟩
    · rintro H4 ⟨W4, t4, k4, os, eD, lo⟩
      cases st with
      | eitherF hw =>
        refine ⟨D, os, s, rfl, W4, eD, nD1, nD2, fun _ => ?_, fun j e => ?_, fun h => absurd h (by omega)⟩
        · refine ⟨_, rfl, rfl, _, rfl, iteT' (by decide) (q0 rfl _ k4)⟩
        · have := (List.getElem?_eq_some_iff.mp e).1
          omega
      | @eitherT _ _ _ j n g hw hn hg hl =>
        have lj := (List.getElem?_eq_some_iff.mp hg).1
        refine ⟨D, os, s, rfl, W4, eD, nD1, nD2, fun h => ?_, fun j2 e => ?_, fun h => ⟨j, hw⟩⟩
        · have := (List.getElem?_eq_some_iff.mp hw).1
          omega
        · rw [hw] at e
          cases e
          refine ⟨by omega, fun H5 W5 k5 t5 => ?_⟩
          refine ⟨_, rfl, rfl, _, rfl, iteF' (decide_eq_false fun z => by cases z) ?_⟩
          have huj : us[j]? = some (us[j]'(by omega)) := List.getElem?_eq_getElem (by omega)
          obtain ⟨m, f, bb, u, em, ef, ex, ebb, ru, lm⟩ := item j _ huj
          rw [ex] at huj
          rw [hn] at em
          rw [hg] at ef
          cases em
          cases ef
          have t45 := t4.trans t5
          refine ⟨_, rfl, a, _, 1, .ref b, rfl, rfl, SqT.of (t45 _ _ ea), atI_nat (j := 1) rfl, _, rfl, b, us, j, .ref bb, rfl, rfl, SqT.of (t45 _ _ eb), atI_nat (j := j) huj, bb, _, rfl, SqT.of (t45 _ _ ebb), rfl, _, _, rfl, _, _, rfl, rfl, ?_⟩
          have sm1 := sm _ rfl
          have smW := W.sm
          obtain ⟨ws5, ew5, rw5⟩ := id W5.td
          obtain ⟨dx5, ho5⟩ := id W5.ob
          have smT : s.T.length + 2 ≤ 1000 := by
            have z := sm1.1
            simp only [List.length_cons] at z
            omega
          refine ⟨_, rfl, c.x, c.C, dx5, _, _, rfl, ho5, TW.cl, TW.n, rfl, .inl ⟨rfl, _, SqL.of ew5⟩, _, rfl, _, rfl, by show 3 ≤ sizeLine; omega, fun p np => ?_⟩
          have W6 := W5.new (o := .tup [.str "chosen", .str n, u]) np
          have t6 : TS H5 (upd H5 p (.tup [.str "chosen", .str n, u])) := TS.new np
          have k6 : Kp (WM c) H5 (upd H5 p (.tup [.str "chosen", .str n, u])) := Kp.new np
          have ep : upd H5 p (.tup [.str "chosen", .str n, u]) p = some (.tup [.str "chosen", .str n, u]) := upd_same
          generalize upd H5 p (.tup [.str "chosen", .str n, u]) = H6 at W6 t6 k6 ep ⊢
          refine ⟨_, rfl, by show 2 ≤ sizeLine; omega, fun l nl => ?_⟩
          have W7 := W6.new (o := .lst [.ref p, u]) nl
          have t7 : TS H6 (upd H6 l (.lst [.ref p, u])) := TS.new nl
          have k7 : Kp (WM c) H6 (upd H6 l (.lst [.ref p, u])) := Kp.new nl
          have el : upd H6 l (.lst [.ref p, u]) l = some (.lst [.ref p, u]) := upd_same
          generalize upd H6 l (.lst [.ref p, u]) = H7 at W7 t7 k7 el ⊢
          obtain ⟨ws7, ew7, rw7⟩ := id W7.td
          have lw7 := rw7.len
          rw [List.length_reverse, List.length_map] at lw7
          have t57 := t45.trans (t6.trans t7)
          refine ⟨c.td, l, ws7, _, rfl, rfl, ew7, el, by show ws7.length + 2 ≤ _; have : ws7.length = s.T.length := lw7; omega, ?_⟩
          obtain ⟨W8, t8⟩ := W7.setTd (T := .form g :: .chosen n g :: s.T) (us := ws7 ++ [.ref p, u]) (by
            have e := encs_rev s.T [.chosen n g, .form g]
            rw [show (.form g :: .chosen n g :: s.T : List It) = ([.chosen n g, .form g] : List It).reverse ++ s.T from rfl, e]
            exact rw7.app (.cons (.tup (t7 _ _ ep) (.cons (.str (by decide)) (.cons (.str lm) (.cons (ru.ts t57) .nil)))) (.cons (ru.ts t57) .nil))) ⟨by show s.T.length + 2 ≤ _; exact smT, smW.2.1, smW.2.2⟩
          exact q1 _ rfl _ W8 ((((k4.trans k5).trans k6).trans k7).trans (Kp.put (.inr (.inl rfl)))) (t57.trans t8)
abbrev BareAt (K : PySem.W.Frag) (B : Addr) : Prop := ∀ H : Hp, SqT K H B [.str "text", .str "skip"]
theorem bare_in (f : Fm) : inV (.str f.word) [.str "text", .str "skip"] = f.bare := by
  cases f
  · exact (by decide +kernel : inV (.str "text") [.str "text", .str "skip"] = true)
  · exact (by decide +kernel : inV (.str "skip") [.str "text", .str "skip"] = true)
  · exact (by decide +kernel : inV (.str "row") [.str "text", .str "skip"] = false)
  · exact (by decide +kernel : inV (.str "either") [.str "text", .str "skip"] = false)
  · exact (by decide +kernel : inV (.str "named") [.str "text", .str "skip"] = false)
theorem ok_ee {c : Wx} {f B : Addr} {fd : FuncData} {k : Nat} (F : Fun K "_end_either" "_end_either" sEE f fd) (TW : WkCls K c.C) (mB : mg "BARE" = some (.ref B)) (hB : BareAt K B) :
    FnOk P w K mg base CX0 (k + 1) f fd ["walk", "item"] (spItem c fun i => ∃ n g, i = .chosen n g) := by
  refine F.ok scEE (fun vs H Q E h => ?_) (fun cdv A outer sh H vs Q E hr h => ?_)
  · obtain ⟨v, it, s, o, rfl, _⟩ := h
    rfl
  · obtain ⟨v, it, s, o, rfl, W, rv, ⟨n, g, rfl⟩, st, sm, q0, q1⟩ := h
    refine ⟨_, (pss_cons (ps_asg (pv 1) (pg_tup rfl (pgs_cons (pg_name (i := 2) scEE.nd rfl (.inl rfl)) (pgs_cons (pg_name (i := 3) scEE.nd rfl (.inl rfl)) (pgs_cons (pg_name (i := 4) scEE.nd rfl (.inl rfl)) pgs_nil)))))
      (pss_cons (ps_set (i := 5) scEE.nd rfl (.inl rfl) (pe_bm0 PySem.F.plainAttrs_list PySem.F.slot_list_pop PySem.F.type_list_pop mt_pop (pe_fld (pv 0) rfl)))
      (pss_cons (ps_expr (pe_bm PySem.F.plainAttrs_list PySem.F.slot_list_append PySem.F.type_list_append mt_append (pe_fld (pv 0) rfl) (pa_cons (pe_ifExp (pt_cmpR op_in_seq (pe_ix ix_tup (pv 4) pe_int (fun _ _ => rfl)) (pe_glob (v := .ref B) (by rfl) mB rfl) (by rfl)) (pe_tup (pa_cons (pv 3) pa_nil)) (pe_tup (pa_cons (pv 3) (pa_cons (pv 5) pa_nil)))) pa_nil)))
      (pss_one (ps_ret pe_bl))))), ?_⟩
    obtain ⟨dx, ho⟩ := id W.ob
    obtain ⟨a, vs, rfl, ea, ra⟩ := Rp.tupE rv
    obtain ⟨v1, v2, v3, rfl, r1, r2, r3⟩ := ra.three
    obtain ⟨rfl, _⟩ := r1.strE
    obtain ⟨rfl, lm⟩ := r2.strE
    obtain ⟨gs, eg⟩ := g.enc_word
    rw [eg] at r3
    obtain ⟨b, us, rfl, eb, rb⟩ := Rp.tupE r3
    obtain ⟨ub, us2, rfl, rw1⟩ : ∃ x y, us = x :: y ∧ Rp H x (.str g.word) := by
      cases rb with
      | cons x y => exact ⟨_, _, rfl, x⟩
    obtain ⟨rfl, _⟩ := rw1.strE
    cases st with
    | @chosen _ _ _ W0 d0 e0 =>
    have sm1 := sm _ rfl
    have smW := W.sm
    have line : (3000 : Nat) < sizeLine := by rw [sizeLine_eq]; decide
    obtain ⟨ws, ew, rw_⟩ := id W.wt
    rw [e0] at rw_
    obtain ⟨us0, u, rfl, ru0, ru⟩ := rw_.snoc
    refine ⟨_, rfl, a, _, rfl, SqT.of ea, rfl, _, _, rfl, _, _, rfl, _, _, rfl, rfl, ?_⟩
    refine ⟨_, rfl, c.x, c.C, dx, _, _, rfl, ho, TW.cl, TW.n, rfl, .inl ⟨rfl, _, SqL.of ew⟩, c.wt, _, u, rfl, rfl, ew, by simp, ?_⟩
    rw [List.dropLast_concat]
    have lW : s.W.length = W0.length + 1 := by rw [e0, List.length_append]; rfl
    obtain ⟨W1, t1⟩ := W.setWt (D := W0) (us := us0) ru0 ⟨smW.1, by show W0.length ≤ _; have := smW.2.1; omega, smW.2.2⟩
    have k1 : Kp (WM c) H (upd H c.wt (.lst us0)) := Kp.put (.inr (.inr (.inl rfl)))
    have ew1 : upd H c.wt (.lst us0) c.wt = some (.lst us0) := upd_same
    generalize upd H c.wt (.lst us0) = H1 at W1 t1 k1 ew1 ⊢
    obtain ⟨dx1, ho1⟩ := id W1.ob
    have lu0 := ru0.len
    have fin : ∀ (p : Addr) (d : D) (vs : List V), H1 p = none → Rp (upd H1 p (.tup vs)) (.ref p) d → (∀ (H4 : Hp), WkAt c H4 { s with W := W0 ++ [d] } → Kp (WM c) H H4 → TS H H4 → Q (.bl true) H4) → upd H1 p (.tup vs) c.wt = some (.lst us0) ∧ us0.length < sizeLine ∧ Q (.bl true) (upd (upd H1 p (.tup vs)) c.wt (.lst (us0 ++ [.ref p]))) := fun p d vs np rd qq => by
      have W2 := W1.new (o := .tup vs) np
      have ew2 : upd H1 p (.tup vs) c.wt = some (.lst us0) := by rw [upd_ne (ne_of_none ew1 np)]; exact ew1
      have t2 : TS H1 (upd H1 p (.tup vs)) := TS.new np
      have k2 : Kp (WM c) H1 (upd H1 p (.tup vs)) := Kp.new np
      generalize upd H1 p (.tup vs) = H2 at W2 ew2 t2 k2 rd ⊢
      obtain ⟨W3, t3⟩ := W2.setWt (D := W0 ++ [d]) (us := us0 ++ [.ref p]) ((ru0.ts (t1.trans t2)).app (.cons rd .nil)) ⟨smW.1, by show (W0 ++ [d]).length ≤ _; rw [List.length_append]; show W0.length + 1 ≤ _; have := smW.2.1; omega, smW.2.2⟩
      exact ⟨ew2, by have := smW.2.1; omega, qq _ W3 ((k1.trans k2).trans (Kp.put (.inr (.inr (.inl rfl))))) (t1.trans (t2.trans t3))⟩
    refine ⟨_, rfl, c.x, c.C, dx1, _, _, rfl, ho1, TW.cl, TW.n, rfl, .inl ⟨rfl, _, SqL.of ew1⟩, ?_⟩
    refine ⟨_, rfl, b, _, 0, .str _, rfl, rfl, SqT.of (t1 _ _ eb), atI_nat (j := 0) rfl, B, _, rfl, .inr (hB _), rfl, rfl, _, rfl, ?_⟩
    have bi := bare_in g
    by_cases hg : g.bare = true
    · refine iteT' (bi.trans hg) ⟨_, rfl, by show 1 ≤ sizeLine; omega, fun p np => ?_⟩
      obtain ⟨x1, x2, x3⟩ := fin p (.tup [.str n]) [.str n] np (.tup upd_same (.cons (.str lm) .nil)) (fun H4 w k t => q1 _ rfl H4 (by rw [if_pos hg]; exact w) k t)
      exact ⟨c.wt, us0, .ref p, rfl, rfl, x1, x2, x3⟩
    · have hg2 : g.bare = false := by cases z : g.bare <;> simp_all
      refine iteF' (bi.trans hg2) ⟨_, rfl, _, rfl, by show 2 ≤ sizeLine; omega, fun p np => ?_⟩
      obtain ⟨x1, x2, x3⟩ := fin p (.tup [.str n, d0]) [.str n, u] np (.tup upd_same (.cons (.str lm) (.cons (ru.ts (t1.trans (TS.new np))) .nil))) (fun H4 w k t => q1 _ rfl H4 (by rw [if_neg hg]; exact w) k t)
      exact ⟨c.wt, us0, .ref p, rfl, rfl, x1, x2, x3⟩
end
end RT

set_option maxHeartbeats 2000000
/-! zip(t, l), t a tuple, l a list of as many items -/
namespace RT
open PySem PySem.Spec PyProof.Rows L2
/-- one turn each: the tuple's item, the list's item, in a new pair -/
def ItzM (K : PySem.W.Frag) (a b : Addr) : L2.It :=
  ⟨fun i H => ∃ (xs ys : List V) (x y : V), SqT K H a xs ∧ SqL K H b ys ∧ xs[i]? = some x ∧ ys[i]? = some y,
    fun i H v H' => ∃ T x y, v = .ref T ∧ H T = none ∧ H' = upd H T (.tup [x, y]) ∧ (∀ xs, SqT K H a xs → xs[i]? = some x) ∧ ∀ ys, SqL K H b ys → ys[i]? = some y,
    fun i H => ∃ xs ys : List V, SqT K H a xs ∧ SqL K H b ys ∧ i = xs.length ∧ i ≤ ys.length⟩
abbrev tmH1 (h : Heap) (a : Addr) : Heap := h.push { cls := .type "tuple_iterator", data := .fields #[.ref a, .int 0 0] }
abbrev tmH2 (h : Heap) (a b : Addr) : Heap := (tmH1 h a).push { cls := .type "list_iterator", data := .fields #[.ref b, .int 0 0] }
abbrev tmH3 (h : Heap) (a b : Addr) : Heap := (tmH2 h a b).push { cls := .type "tuple", data := .seq #[.ref h.objs.size, .ref (tmH1 h a).objs.size] }
abbrev tmH4 (h : Heap) (a b : Addr) : Heap := (tmH3 h a b).push { cls := .type "tuple", data := .seq #[.none, .none] }
abbrev tmH5 (h : Heap) (a b : Addr) : Heap := (tmH4 h a b).push { cls := .type "zip", data := .fields #[.none, .bool false, .bool false, .ref (tmH2 h a b).objs.size, .ref (tmH3 h a b).objs.size] }
theorem made_zipM (a b : Addr) (xs ys : Array Value) :
    Meets (Builtin.«zip.__new__» ⟨[.type "zip", .ref a, .ref b], []⟩) (fun _ R s => s.heap.IsTuple a xs ∧ s.heap.IsList b ys ∧ R (.ok (.ret (.ref (tmH4 s.heap a b).objs.size))) { s with heap := tmH5 s.heap a b }) :=
  .of_wp fun prog w A R s q => by
    obtain ⟨hp, g, d, tk, os⟩ := s
    obtain ⟨q1, q2, q3⟩ := q
    have sub := sub_zip
    have e1 : Heap.IsTuple (Shared.heap ⟨hp, g, d, tk, os⟩) a xs := q1
    have e2 : Heap.IsList (Shared.heap ⟨hp.push { cls := .type "tuple_iterator", data := .fields #[.ref a, .int 0 0] }, g, d, tk, os⟩) b ys := Heap.IsList.push q2 _
    wp_walk using wpAny_pyIter_tuple e1, wpAny_pyIter_list e2
    exact ⟨_, rfl, q3⟩
section
variable {P : Program} {w : World} {A : Around} {E : Value → Shared → Prop} {s : Shared}
theorem call_zipM {a b : Addr} {xs ys : Array Value} {Q : Value → Shared → Prop} (ha : s.heap.IsTuple a xs) (hb : s.heap.IsList b ys)
    (q : ∀ h', IsZip h' (s.heap.objs.size + 4) (s.heap.objs.size + 2) (s.heap.objs.size + 3) .none → IsPair h' (s.heap.objs.size + 2) (.ref s.heap.objs.size) (.ref (s.heap.objs.size + 1)) → IsPair h' (s.heap.objs.size + 3) .none .none →
      h'.IsTupleIter s.heap.objs.size a 0 → h'.IsListIter (s.heap.objs.size + 1) b 0 → (∀ c o, s.heap.get? c = some o → h'.get? c = some o) → Q (.ref (s.heap.objs.size + 4)) { s with heap := h' }) :
    wpAny (model P w) A (call (.type "zip") [.ref a, .ref b]) Q E s := by
  refine callType_new PySem.F.called_zip (by decide) (PySem.F.typeCall_zip_2 _ _) (PySem.F.newCall_zip_2 _ _) (fun obj => PySem.F.args_object_init_3 obj _ _) PySem.F.entry_zip_new (made_zipM a b xs ys) ⟨ha, hb, ?_⟩
  have s1 : (tmH1 s.heap a).objs.size = s.heap.objs.size + 1 := Heap.size_push ..
  have s2 : (tmH2 s.heap a b).objs.size = s.heap.objs.size + 2 := by rw [Heap.size_push, s1]
  have s3 : (tmH3 s.heap a b).objs.size = s.heap.objs.size + 3 := by rw [Heap.size_push, s2]
  have s4 : (tmH4 s.heap a b).objs.size = s.heap.objs.size + 4 := by rw [Heap.size_push, s3]
  have p5 : (tmH5 s.heap a b).get? (tmH4 s.heap a b).objs.size = some _ := Heap.get?_push_size _ rfl
  have p4 : (tmH5 s.heap a b).get? (tmH3 s.heap a b).objs.size = some _ := Heap.get?_push_of_some _ (Heap.get?_push_size _ rfl)
  have p3 : (tmH5 s.heap a b).get? (tmH2 s.heap a b).objs.size = some _ := Heap.get?_push_of_some _ (Heap.get?_push_of_some _ (Heap.get?_push_size _ rfl))
  have p2 : (tmH5 s.heap a b).get? (tmH1 s.heap a).objs.size = some _ := Heap.get?_push_of_some _ (Heap.get?_push_of_some _ (Heap.get?_push_of_some _ (Heap.get?_push_size _ rfl)))
  have p1 : (tmH5 s.heap a b).get? s.heap.objs.size = some _ := Heap.get?_push_of_some _ (Heap.get?_push_of_some _ (Heap.get?_push_of_some _ (Heap.get?_push_of_some _ (Heap.get?_push_size _ rfl))))
  show _ ∧ _
  rw [s2, s3, s4] at p5
  rw [s1, s2] at p3
  rw [s3] at p4
  rw [s1] at p2
  rw [s4]
  exact ⟨⟨_, p5, rfl⟩, q _ p5 p3 p4 ⟨_, p1, rfl, rfl⟩ ⟨_, p2, rfl, rfl⟩ fun c o x => Heap.get?_push_of_some _ (Heap.get?_push_of_some _ (Heap.get?_push_of_some _ (Heap.get?_push_of_some _ (Heap.get?_push_of_some _ x))))⟩
end
/-- the places of such a zip lie apart -/
theorem sepM {z TI TO i1 i2 a b : Addr} (D : ZipApart z TI TO i1 i2 a b) : ZipSep2 z TI TO i1 i2 [i1, a] [i2, b] where
  TIz := D.TIz
  TOz := D.TOz
  TITO := D.TITO
  TIi1 := D.TIi1
  mem1 := by simp
  zf1 := by simp [D.i1z.symm, D.l1z.symm]
  Tf1 := by simp [D.TOi1, D.l1TO.symm]
  TIi2 := D.TIi2
  mem2 := by simp
  zf2 := by simp [D.i2z.symm, D.l2z.symm]
  Tf2 := by simp [D.TOi2, D.l2TO.symm]
  sep1_2 := by simp [D.i12, D.l2i1.symm]
  sep2_1 := by simp [D.i12.symm, D.l1i2.symm]
theorem turn_zipM {P : Program} {w : World} {K : PySem.W.Frag} {elts : List Expr} {kk : Nat} {tpos : Pos} {a b z TI TO i1 i2 : Addr} (D : ZipApart z TI TO i1 i2 a b) :
    Turn P w K (.Tuple elts kk tpos) (ItzM K a b) [z, TI, TO, i1, i2] z (fun i h => IsZip h z TI TO .none ∧ IsPair h TI (.ref i1) (.ref i2) ∧ (∃ x y, IsPair h TO x y) ∧ h.IsTupleIter i1 a i ∧ h.IsListIter i2 b i) where
  mem := by simp
  obj := fun i h ⟨hz, h1, ⟨x, y, h2⟩, ⟨o1, e1, _, d1⟩, ⟨o2, e2, _, d2⟩⟩ c hc => by
    simp only [List.mem_cons, List.not_mem_nil, or_false] at hc
    rcases hc with rfl | rfl | rfl | rfl | rfl
    · exact ⟨_, hz, fun v q => nomatch q⟩
    · exact ⟨_, h1, fun v q => nomatch q⟩
    · exact ⟨_, h2, fun v q => nomatch q⟩
    · exact ⟨o1, e1, fun v q => by rw [d1] at q; cases q⟩
    · exact ⟨o2, e2, fun v q => by rw [d2] at q; cases q⟩
  keep := fun i h h' ⟨hz, h1, ⟨x, y, h2⟩, h3, h4⟩ k => ⟨k z (by simp) _ hz, k TI (by simp) _ h1, ⟨x, y, k TO (by simp) _ h2⟩, h3.at fun o q => k i1 (by simp) o q, h4.at fun o q => k i2 (by simp) o q⟩
  item := by
    intro X hP hw hK hc i pins s σ H E I hf st hg
    subst hP hw hK
    obtain ⟨hz, hTI, ⟨x0, y0, hTO⟩, h1, h2⟩ := st
    obtain ⟨xs, ys, x, y, hqx, hqy, hx, hy⟩ := hg
    obtain ⟨its, rv, p, _⟩ := I.tuple hqx
    obtain ⟨its2, rv2, p2, _⟩ := I.list hqy
    obtain ⟨u, hu, ru⟩ := rv.get hx
    obtain ⟨u2, hu2, ru2⟩ := rv2.get hy
    have hzl : z < s.heap.objs.size := Heap.lt_size hz
    have hh : X.A.in1.handled = none := I.ok.hd hc
    refine wpAny_pyNext_zipD2_item (sepM D) (Draws.tuple hh i1 a D.l1i1 its.toArray) (Draws.list hh i2 b D.l2i2 its2.toArray) hz hTI hTO ⟨h1, p⟩ ⟨h2, p2.isList⟩ (by rw [List.size_toArray]; exact (List.getElem?_eq_some_iff.mp hu).1) (by rw [List.size_toArray]; exact (List.getElem?_eq_some_iff.mp hu2).1)
      fun v1 v2 h' tk e1 e2 z' TO' st1 st2 hT hsz hk => ?_
    have q1 : v1 = u := by
      have e : its[i]? = some v1 := by simpa using e1
      rw [hu] at e
      exact (Option.some.inj e).symm
    have q2 : v2 = u2 := by
      have e : its2[i]? = some v2 := by simpa using e2
      rw [hu2] at e
      exact (Option.some.inj e).symm
    subst q1 q2
    refine ⟨_, rfl, wpAny_letOwnedTupleGo_zip (s := { s with heap := h', toks := tk }) z' fun h'' z'' sb => ?_⟩
    have low : ∀ c, c ∈ [z, TI, TO, i1, i2] → c < s.heap.objs.size := fun c hcm => by
      simp only [List.mem_cons, List.not_mem_nil, or_false] at hcm
      rcases hcm with rfl | rfl | rfl | rfl | rfl
      · exact hzl
      · exact Heap.lt_size hTI
      · exact Heap.lt_size hTO
      · obtain ⟨_, e, _⟩ := h1; exact Heap.lt_size e
      · obtain ⟨_, e, _⟩ := h2; exact Heap.lt_size e
    have hT2 : h''.get? s.heap.objs.size = some { cls := .type "tuple", data := .seq #[v1, v2] } := (sb.2 _ (Nat.ne_of_gt hzl)).trans hT
    have new : ObjOk X.prog X.w (upd H s.heap.objs.size (.tup [x, y])) h'' s.heap.objs.size (.tup [x, y]) := ⟨by show 2 ≤ sizeLine; decide, [v1, v2], .cons ru (.cons ru2 .nil), ⟨_, hT2, rfl, _, rfl⟩⟩
    have I1 : Inv X pins σ (upd H s.heap.objs.size (.tup [x, y])) { s with heap := h'', toks := tk } :=
      I.turnedNew (t' := tk) (ch := [z, TI, TO, i1, i2]) (fun c o hb q => (sb.2 c (fun e => hb (by simp [e]))).trans (hk c o (fun e => hb (by simp [e])) (fun e => hb (by simp [e])) (fun e => hb (by simp [e])) (fun e => hb (by simp [e])) q)) hf (Nat.le_refl _) new
    refine ⟨.ref s.heap.objs.size, _, I1, rfl, ⟨_, x, y, rfl, I.hok.fresh (Nat.le_refl _), rfl, fun l hl => by rw [I.tuple_inj hl hqx]; exact hx, fun l hl => by rw [I.list_inj hl hqy]; exact hy⟩, ⟨z'', (sb.2 _ D.TIz).trans (hk _ _ D.TIz D.TITO D.TIi1 D.TIi2 hTI), ⟨v1, v2, (sb.2 _ D.TOz).trans TO'⟩, st1.1.at fun o q => (sb.2 _ D.i1z).trans q, st2.1.at fun o q => (sb.2 _ D.i2z).trans q⟩, fun c hcm => ?_⟩
    rw [upd_ne (Nat.ne_of_lt (low c hcm))]
    exact (hf c hcm).1
  done := by
    intro X hP hw hK hc i pins s σ H E I hf st hg
    subst hP hw hK
    obtain ⟨hz, hTI, ⟨x0, y0, hTO⟩, h1, h2⟩ := st
    obtain ⟨xs, ys, hqx, hqy, e1, e2⟩ := hg
    obtain ⟨its, rv, p, _⟩ := I.tuple hqx
    obtain ⟨its2, rv2, p2, _⟩ := I.list hqy
    have l1 := rv.length
    have l2 := rv2.length
    have hh : X.A.in1.handled = none := I.ok.hd hc
    refine wpAny_pyNext_zipD2_end (sepM D) (Draws.tuple hh i1 a D.l1i1 its.toArray) (Draws.list hh i2 b D.l2i2 its2.toArray) hz hTI hTO ⟨h1, p⟩ ⟨h2, p2.isList⟩ (by rw [List.size_toArray]; omega) (by rw [List.size_toArray]; omega) (.inl (by rw [List.size_toArray]; omega)) fun h' tk hk => ⟨rfl, ?_⟩
    exact I.turnedL (t' := tk) (ch := [z, TI, TO, i1, i2]) (fun c o hb q => hk c o (fun e => hb (by simp [e])) (fun e => hb (by simp [e])) (fun e => hb (by simp [e])) (fun e => hb (by simp [e])) q) hf
  self := fun A i s Q E st h => wpAny_pyIter_zip st.1 h
def iZipM (K : PySem.W.Frag) (ta : TA) : TI := fun σ H R => ta σ H fun vs H1 => ∃ a b xs ys, vs = [.ref a, .ref b] ∧ SqT K H1 a xs ∧ SqL K H1 b ys ∧ R (ItzM K a b) H1
theorem pi_zipM {X : Cx} {e e2 : Expr} {ta : TA} {p pos tpos : Pos} {elts : List Expr} {kk : Nat} (hg : Gl X "zip") (hm : X.mg "zip" = none) (ha : PA X [e, e2] ta)
    (hs : starEach [e, e2] X.env = (false, eval e X.env) :: starEach [e2] X.env := by rfl) (hpl : (backTo pos (starEach [e2] X.env)).any (·.1) = false := by rfl) :
    PI X (.Tuple elts kk tpos) (.Call (.Name "zip" p) [e, e2] [] pos) (iZipM X.K ta) := by
  refine ⟨fun pins s σ H R I h => ?_⟩
  refine Call_ (ld_blt I hg hm PyProof.Rows.boot_zip (PyProof.Rows.callWith_type1 (thn (ha.run pos pins s σ H _ I h) fun us s1 ⟨vs, H1, I1, r1, q1⟩ => ?_) hs hpl))
  obtain ⟨a, b, xs, ys, ex, hqx, hqy, q⟩ := q1
  subst ex
  obtain ⟨u1, u2, rfl, e1, e2⟩ := vals2 r1
  cases e1
  cases e2
  obtain ⟨its, rv, p1, _⟩ := I1.tuple hqx
  obtain ⟨its2, rv2, p2, _⟩ := I1.list hqy
  obtain ⟨o1, ho1, _⟩ := id p1
  refine call_zipM (show s1.heap.IsTuple a its.toArray from p1) p2.isList fun h' hz hTI hTO h1 h2 hk => wpAny_pyIter_zip hz ?_
  have I2 : Inv X pins σ H1 { s1 with heap := h' } := I1.kept (t' := s1.toks) hk
  refine ⟨s1.heap.objs.size + 4, [s1.heap.objs.size + 4, s1.heap.objs.size + 2, s1.heap.objs.size + 3, s1.heap.objs.size, s1.heap.objs.size + 1], _, _, H1, rfl, I2, turn_zipM (PySem.W.ktu_apart s1.heap.objs.size a b (Heap.lt_size ho1) p2.lt), ⟨hz, hTI, ⟨_, _, hTO⟩, h1, h2⟩, fun c hcm => ?_, q⟩
  have le : s1.heap.objs.size ≤ c := by
    simp only [List.mem_cons, List.not_mem_nil, or_false] at hcm
    rcases hcm with rfl | rfl | rfl | rfl | rfl <;> first | exact Nat.le_refl _ | exact Nat.le_add_right _ _
  exact I1.fpOk le (I1.hok.fresh le)
/-- a comprehension over such a zip -/
theorem lc_zipM {K : PySem.W.Frag} {a b : Addr} {xs ys : List V} {g : TG} {tt : TT} {te : TE} {vs : List Nat} {σ : L2.St} {H1 : Hp} {D : Addr} {Qd : Hp → Prop} (hl2 : xs.length = ys.length) (Pv : Nat → Hp → Prop) (h0 : Pv 0 (upd H1 D (.lst []))) (hl : ∀ i H, Pv i H → SqT K H a xs ∧ SqL K H b ys)
    (hs : ∀ i x y H T, xs[i]? = some x → ys[i]? = some y → Pv i H → H T = none → g (.ref T) (wipe σ vs) (upd H T (.tup [x, y])) fun σ2 H2 => wipe σ2 vs = wipe σ vs ∧ tt σ2 H2 fun b H3 =>
      if b = true then te σ2 H3 fun y H4 => ∃ acc, H4 D = some (.lst acc) ∧ acc.length < sizeLine ∧ Pv (i + 1) (upd H4 D (.lst (acc ++ [y]))) else Pv (i + 1) H3) (hd : ∀ H, Pv xs.length H → Qd H) :
    ∃ W : Nat → Nat → Hp → Prop, (∃ m, W 0 m (upd H1 D (.lst []))) ∧ ∀ i m H, W i m H →
      ((ItzM K a b).stop i H ∧ Qd H) ∨ ((ItzM K a b).go i H ∧ ∃ Nx : Hp → Prop, (∀ H', Nx H' → ∃ m', m' < m ∧ W (i + 1) m' H') ∧ ∀ x H', (ItzM K a b).yld i H x H' → g x (wipe σ vs) H' fun σ2 H2 => wipe σ2 vs = wipe σ vs ∧ tt σ2 H2 fun b H3 =>
        if b = true then te σ2 H3 fun y H4 => ∃ acc, H4 D = some (.lst acc) ∧ acc.length < sizeLine ∧ Nx (upd H4 D (.lst (acc ++ [y]))) else Nx H3) := by
  refine ⟨fun i m H => m = xs.length - i ∧ i ≤ xs.length ∧ Pv i H, ⟨xs.length, by simp, Nat.zero_le _, h0⟩, ?_⟩
  rintro i m H ⟨rfl, hi, p⟩
  obtain ⟨qx, qy⟩ := hl i H p
  by_cases lt : i < xs.length
  · refine .inr ⟨⟨xs, ys, xs[i], ys[i]'(by omega), qx, qy, by simp [lt], by simp⟩, Pv (i + 1), fun H' p' => ⟨xs.length - (i + 1), by omega, rfl, lt, p'⟩, fun v H' yy => ?_⟩
    obtain ⟨T, x', y', rfl, nT, rfl, f1, f2⟩ := yy
    exact hs i x' y' H T (f1 xs qx) (f2 ys qy) p nT
  · have e : i = xs.length := by omega
    subst e
    exact .inl ⟨⟨xs, ys, qx, qy, rfl, by omega⟩, hd H p⟩
end RT

set_option maxHeartbeats 1000000
namespace RT
open PySem PySem.Spec PyProof.Rows L2
abbrev sRo : Stmt := topS 27
theorem scRo : FnScope ["walk", "item", "inner", "worths", "worth", "form"] ["walk", "item"] (defScope sRo) := ⟨rfl, rfl, rfl, by decide +kernel, rfl, by decide +kernel, by decide +kernel⟩
theorem keep_snoc : ∀ {fs : List Fm} {ds : List D} (f : Fm) (d : D), fs.length = ds.length → keep (fs ++ [f]) (ds ++ [d]) = keep fs ds ++ (if f.bare = true then [] else [d])
  | [], [], f, d, _ => by
    show (if f.bare = true then keep [] [] else d :: keep [] []) = keep [] [] ++ _
    split <;> rfl
  | g :: fs, e :: ds, f, d, h => by
    have ih := keep_snoc (fs := fs) (ds := ds) f d (by simpa using h)
    show (if g.bare = true then keep (fs ++ [f]) (ds ++ [d]) else e :: keep (fs ++ [f]) (ds ++ [d])) = (if g.bare = true then keep fs ds else e :: keep fs ds) ++ _
    rw [ih]
    split <;> simp
  | [], _ :: _, _, _, h => by simp at h
  | _ :: _, [], _, _, h => by simp at h
theorem keep_len : ∀ (fs : List Fm) (ds : List D), (keep fs ds).length ≤ ds.length
  | [], ds => by show 0 ≤ _; omega
  | _ :: _, [] => Nat.le_refl _
  | f :: fs, d :: ds => by
    have := keep_len fs ds
    show (if f.bare = true then keep fs ds else d :: keep fs ds).length ≤ ds.length + 1
    split
    · omega
    · simp only [List.length_cons]
      omega
section
variable {P : Program} {w : World} {K : PySem.W.Frag} {mg : Str → Option Value} {base : Heap}
theorem ok_ro {c : Wx} {f fl B : Addr} {fd fdl : FuncData} {k : Nat} (F : Fun K "_end_row" "_end_row" sRo f fd) (TW : WkCls K c.C) (GLa : FnOk P w K mg base CX0 k fl fdl ["walk", "many"] (spLa c)) (kla : PySem.W.keepIn K (.ref fl) = true) (bla : Binds K fdl ["walk", "many"] []) (gla : mg "_last_worths" = some (.ref fl))
    (ml : mg "len" = none) (mtu : mg "tuple" = none) (mz : mg "zip" = none) (mB : mg "BARE" = some (.ref B)) (hB : BareAt K B) :
    FnOk P w K mg base CX0 (k + 1) f fd ["walk", "item"] (spItem c fun i => ∃ fs, i = .rowed fs) := by
  refine F.ok scRo (fun vs H Q E h => ?_) (fun cdv A outer sh H vs Q E hr h => ?_)
  · obtain ⟨v, it, s, o, rfl, _⟩ := h
    rfl
  · obtain ⟨v, it, s, o, rfl, W, rv, ⟨fs, rfl⟩, st, sm, q0, q1⟩ := h
    refine ⟨_, (pss_cons (ps_set (i := 2) scRo.nd rfl (.inl rfl) (pe_ix ix_tup (pe_ix ix_tup (pv 1) pe_int (fun _ _ => rfl)) pe_int (fun _ _ => rfl)))
      (pss_cons (ps_set (i := 3) scRo.nd rfl (.inl rfl) (pe_call GLa hr (by rfl) gla kla bla .nil pass0 (pa_cons (pv 0) (pa_cons (pe_callB call_len_seq (by rfl) ml PySem.boot_len (pa_cons (pv 2) pa_nil)) pa_nil))))
      (pss_cons (ps_expr (pe_bm PySem.F.plainAttrs_list PySem.F.slot_list_append PySem.F.type_list_append mt_append (pe_fld (pv 0) rfl) (pa_cons (pe_callTy call_tuple_of (by rfl) mtu (by decide +kernel) (pa_cons (pe_lc (own := [("form", 5), ("worth", 4)]) (g := gTup K 2 (gCons (gName 5) (gCons (gName 4) gNil))) rfl scRo.nd (pi_zipM (by rfl) mz (pa_cons (pv 2) (pa_cons (pv 3) pa_nil))) (blkOk_by (N := ["walk", "item", "inner", "worths", "worth", "form"]) (sc := defScope sRo) (by decide +kernel)) (fun _ _ _ _ _ => (pg_tup rfl (pgs_cons (pg_name (i := 5) scRo.nd rfl (.inl rfl)) (pgs_cons (pg_name (i := 4) scRo.nd rfl (.inl rfl)) pgs_nil)))) (fun _ _ _ _ _ => (pts_one (pt_cmpR (show OpR _ (compareOp .NotIn) (rIn K true) from op_notIn_seq) (pe_ix (show IxR _ (rIxT K) from ix_tup) (pv 5) pe_int (fun _ _ => rfl)) (pe_glob (v := .ref B) (by rfl) mB rfl) (by rfl)))) (fun _ _ _ _ _ => (pv 4))) pa_nil)) pa_nil)))
      (pss_one (ps_ret pe_bl))))), ?_⟩
    obtain ⟨a, vs, rfl, ea, ra⟩ := Rp.tupE rv
    obtain ⟨v1, v2, rfl, r1, r2⟩ := ra.two
    obtain ⟨a2, vs2, rfl, ea2, ra2⟩ := Rp.tupE r2
    obtain ⟨w1, w2, rfl, s1, s2⟩ := ra2.two
    obtain ⟨b, us, rfl, eb, rb⟩ := Rp.tupE s2
    cases st with
    | @rowed _ _ W0 ws e0 ew0 =>
    have sm1 := sm _ rfl
    have smW := W.sm
    have line : (3000 : Nat) < sizeLine := by rw [sizeLine_eq]; decide
    have lb := rb.len
    rw [Fm.encs_map, List.length_map] at lb
    refine ⟨_, rfl, a, _, 1, .ref a2, rfl, rfl, SqT.of ea, atI_nat (j := 1) rfl, a2, _, 1, .ref b, rfl, rfl, SqT.of ea2, atI_nat (j := 1) rfl, ?_⟩
    refine ⟨_, rfl, _, rfl, b, us, rfl, .inr (SqT.of eb), s, W0, ws, by rw [ew0, ← lb]; rfl, W, e0, fun l us2 H1 el ru2 n1 n2 W1 k1 t1 => ?_⟩
    have lW : s.W.length = W0.length + ws.length := by rw [e0, List.length_append]
    have lu2 := ru2.len
    obtain ⟨dx, ho⟩ := id W1.ob
    obtain ⟨ws1, ew1, rw1⟩ := id W1.wt
    refine ⟨_, rfl, c.x, c.C, dx, _, _, rfl, ho, TW.cl, TW.n, rfl, .inl ⟨rfl, _, SqL.of ew1⟩, ?_⟩
    refine ⟨_, rfl, _, rfl, b, l, us, us2, rfl, SqT.of (t1 _ _ eb), SqL.of el, fun D nD => ?_⟩
    obtain ⟨nD1, nD2⟩ := W1.offN nD
    refine lc_zipM (xs := us) (ys := us2) (by omega) (fun i H4 => WkAt c H4 { s with W := W0 } ∧ TS H1 H4 ∧ Kp (WM c) H1 H4 ∧ H4 l = some (.lst us2) ∧ ∃ os : List V, H4 D = some (.lst os) ∧ os.length ≤ i ∧ i ≤ us.length ∧ Rps H4 os (keep (fs.take i) (ws.take i))) ?_ ?_ ?_ ?_
    · exact ⟨W1.new nD, TS.new nD, Kp.new nD, by rw [upd_ne (ne_of_none el nD)]; exact el, [], upd_same, Nat.le_refl _, Nat.zero_le _, by rw [List.take_zero]; exact .nil⟩
    · exact fun i H4 h => ⟨SqT.of (h.2.1 _ _ (t1 _ _ eb)), SqL.of h.2.2.2.1⟩
    · rintro i x y H4 T hx hy ⟨W4, t4, k4, el4, os, eD, lo, li, ro⟩ nT
      have hi := (List.getElem?_eq_some_iff.mp hx).1
      obtain ⟨dxf, edf, rf⟩ := rb.get i x hx
      rw [Fm.encs_map, List.getElem?_map, List.getElem?_eq_getElem (show i < fs.length by omega)] at edf
      cases edf
      obtain ⟨dy, edy, ry⟩ := ru2.get i y hy
      generalize hg : fs[i]'(by omega) = g at rf
      obtain ⟨gs, eg⟩ := g.enc_word
      rw [eg] at rf
      obtain ⟨fa, fv, rfl, efa, rfa⟩ := Rp.tupE rf
      obtain ⟨ub, us3, rfl, rw3⟩ : ∃ x y, fv = x :: y ∧ Rp H x (.str g.word) := by
        cases rfa with
        | cons x y => exact ⟨_, _, rfl, x⟩
      obtain ⟨rfl, _⟩ := rw3.strE
      have W5 := W4.new (o := .tup [.ref fa, y]) nT
      have t5 : TS H4 (upd H4 T (.tup [.ref fa, y])) := TS.new nT
      have k5 : Kp (WM c) H4 (upd H4 T (.tup [.ref fa, y])) := Kp.new nT
      have eT : upd H4 T (.tup [.ref fa, y]) T = some (.tup [.ref fa, y]) := upd_same
      have el5 : upd H4 T (.tup [.ref fa, y]) l = some (.lst us2) := by rw [upd_ne (ne_of_none el4 nT)]; exact el4
      have eD5 : upd H4 T (.tup [.ref fa, y]) D = some (.lst os) := by rw [upd_ne (ne_of_none eD nT)]; exact eD
      generalize upd H4 T (.tup [.ref fa, y]) = H5 at W5 t5 k5 eT el5 eD5 ⊢
      have tk1 : fs.take (i + 1) = fs.take i ++ [g] := by rw [List.take_add_one, List.getElem?_eq_getElem (show i < fs.length by omega), hg]; rfl
      have tk2 : ws.take (i + 1) = ws.take i ++ [dy] := by rw [List.take_add_one, edy]; rfl
      have tl : (fs.take i).length = (ws.take i).length := by rw [List.length_take, List.length_take, ew0]
      have ks := keep_snoc g dy tl
      have bi := bare_in g
      refine ⟨T, _, rfl, SqT.of eT, rfl, _, _, rfl, _, _, rfl, rfl, rfl, ?_⟩
      refine ⟨_, rfl, fa, _, 0, .str _, rfl, rfl, SqT.of (t5 _ _ (t4 _ _ (t1 _ _ efa))), atI_nat (j := 0) rfl, B, _, rfl, .inr (hB _), rfl, rfl, _, rfl, ?_⟩
      by_cases hgb : g.bare = true
      · refine iteF' (by show (!inV (.str g.word) [.str "text", .str "skip"]) = false; rw [bi, hgb]; rfl) ⟨W5, t4.trans t5, k4.trans k5, el5, os, eD5, by omega, by omega, ?_⟩
        rw [tk1, tk2, ks, if_pos hgb, List.append_nil]
        exact ro.ts t5
      · have hgb2 : g.bare = false := by cases z : g.bare <;> simp_all
        refine iteT' (by show (!inV (.str g.word) [.str "text", .str "skip"]) = true; rw [bi, hgb2]; rfl) ⟨_, rfl, os, eD5, by have := smW.2.1; omega, ?_⟩
        obtain ⟨W6, t6⟩ := W5.off (ys := os ++ [y]) eD5 nD1 nD2
        refine ⟨W6, t4.trans (t5.trans t6), (k4.trans k5).own nD, ?_, _, upd_same, by rw [List.length_append]; show os.length + 1 ≤ _; omega, by omega, ?_⟩
        · have nlD : l ≠ D := ne_of_none el nD
          rw [upd_ne nlD]
          exact el5
        · rw [tk1, tk2, ks, if_neg hgb]
          exact (ro.ts (t5.trans t6)).app (.cons (ry.ts (t4.trans (t5.trans t6))) .nil)
    · rintro H4 ⟨W4, t4, k4, el4, os, eD, lo, li, ro⟩
      have f1 : fs.take us.length = fs := List.take_of_length_le (by omega)
      have f2 : ws.take us.length = ws := List.take_of_length_le (by omega)
      rw [f1, f2] at ro
      refine ⟨D, os, rfl, .inl ⟨SqL.of eD, fun q nq => ?_⟩⟩
      have W5 := W4.new (o := .tup os) nq
      have t5 : TS H4 (upd H4 q (.tup os)) := TS.new nq
      have k5 : Kp (WM c) H4 (upd H4 q (.tup os)) := Kp.new nq
      have eq : upd H4 q (.tup os) q = some (.tup os) := upd_same
      generalize upd H4 q (.tup os) = H5 at W5 t5 k5 eq ⊢
      obtain ⟨ws5, ew5, rw5⟩ := id W5.wt
      have lw5 := rw5.len
      refine ⟨c.wt, ws5, .ref q, rfl, rfl, ew5, by have := smW.2.1; have : ws5.length = W0.length := lw5; omega, ?_⟩
      obtain ⟨W6, t6⟩ := W5.setWt (D := W0 ++ [.tup (keep fs ws)]) (us := ws5 ++ [.ref q]) (rw5.app (.cons (.tup eq (ro.ts t5)) .nil)) ⟨sm1.1, sm1.2.1, sm1.2.2⟩
      exact q1 _ rfl _ W6 (((k1.trans k4).trans k5).trans (Kp.put (.inr (.inr (.inl rfl))))) (t1.trans (t4.trans (t5.trans t6)))
end
end RT

set_option maxHeartbeats 1000000
namespace RT
open PySem PySem.Spec PyProof.Rows L2
abbrev sTab : Stmt := topS 9
abbrev sWd : Stmt := topS 13
abbrev sWo : Stmt := topS 15
theorem scTab : FnScope ["book", "name", "form"] ["book"] (defScope sTab) := ⟨rfl, rfl, rfl, by decide +kernel, rfl, by decide +kernel, by decide +kernel⟩
theorem scWd : FnScope ["book", "text", "way", "walk"] ["book", "text", "way"] (defScope sWd) := ⟨rfl, rfl, rfl, by decide +kernel, rfl, by decide +kernel, by decide +kernel⟩
theorem scWo : FnScope ["walk", "item", "step"] ["walk", "item"] (defScope sWo) := ⟨rfl, rfl, rfl, by decide +kernel, rfl, by decide +kernel, by decide +kernel⟩
def It.word : It → Str
  | .form f => f.word
  | .skipped => "skipped"
  | .rowed _ => "rowed"
  | .chosen _ _ => "chosen"
  | .outof _ _ _ => "out of"
theorem It.enc_word (i : It) : ∃ ds, i.enc = .tup (.str i.word :: ds) := by
  cases i with
  | form f => exact f.enc_word
  | _ => exact ⟨_, rfl⟩
def rowD (r : Str × Fm) : D := .tup [.str r.1, r.2.enc]
def bookD (s0 : Str) (tb : List (Str × Fm)) : D := .tup [.str s0, .tup (tb.map rowD)]
theorem zip_val : ∀ {tb : List (Str × Fm)} {us : List V} {i : Nat} {x : Str} {f : Fm} {u : V}, (tb.map (·.1)).Nodup → tb[i]? = some (x, f) → us[i]? = some u → valV (List.zipWith (fun (x : Str × Fm) u => ((.inr x.1 : L2.Key), u)) tb us) (.inr x) = some u
  | [], _, _, _, _, _, _, h, _ => by simp at h
  | _ :: _, [], _, _, _, _, _, _, h => by simp at h
  | (y, g) :: tb, v :: us, 0, x, f, u, _, h1, h2 => by
    cases h1
    cases h2
    exact valV_pos rfl
  | (y, g) :: tb, v :: us, i + 1, x, f, u, nd, h1, h2 => by
    have h1 : tb[i]? = some (x, f) := by simpa using h1
    have h2 : us[i]? = some u := by simpa using h2
    have ih := zip_val (List.nodup_cons.mp nd).2 h1 h2
    have ne : ¬ y = x := fun e => (List.nodup_cons.mp nd).1 (by
      show y ∈ tb.map (·.1)
      rw [e]
      exact List.mem_map.mpr ⟨_, List.mem_of_getElem? h1, rfl⟩)
    show valV (((.inr y : L2.Key), v) :: List.zipWith (fun (x : Str × Fm) u => ((.inr x.1 : L2.Key), u)) tb us) (.inr x) = some u
    rw [valV_neg (fun z => ne (Sum.inr.inj z))]
    exact ih
theorem FnOk.ex {P : Program} {w : World} {K : PySem.W.Frag} {mg : Str → Option Value} {base : Heap} {α : Type} {k : Nat} {f : Addr} {fd : FuncData} {ps : List Str} {sp : α → Sp} (h0 : ∀ a, FnOk P w K mg base CX0 k f fd ps (sp a)) : FnOk P w K mg base CX0 k f fd ps (fun vs H Q E => ∃ a, sp a vs H Q E) :=
  ⟨fun vs H Q E ⟨a, h⟩ => (h0 a).len vs H Q E h, fun A outer s H args us vs Q E hr h1 h2 h3 ⟨a, h⟩ => (h0 a).run A outer s H args us vs Q E hr h1 h2 h3 h⟩
section
variable {P : Program} {w : World} {K : PySem.W.Frag} {mg : Str → Option Value} {base : Heap}
def spTab : Sp := fun vs H Q _ => ∃ (v : V) (s0 : Str) (tb : List (Str × Fm)), vs = [v] ∧ Rp H v (bookD s0 tb) ∧ (tb.map (·.1)).Nodup ∧ tb.length ≤ 1000 ∧
  ∀ (d : Addr) (H' : Hp), H d = none → TabAt H' d tb → Kp M0 H H' → Q (.ref d) H'
theorem ok_tab {f : Addr} {fd : FuncData} {k : Nat} (F : Fun K "form_table" "form_table" sTab f fd) : FnOk P w K mg base CX0 (k + 1) f fd ["book"] spTab := by
  refine F.ok scTab (fun vs H Q E h => ?_) (fun cdv A outer s H vs Q E hr h => ?_)
  · obtain ⟨v, s0, tb, rfl, _⟩ := h
    rfl
  · obtain ⟨v, s0, tb, rfl, rv, nd, few, q⟩ := h
    obtain ⟨b, vs, rfl, eb, rb⟩ := Rp.tupE rv
    obtain ⟨v1, v2, rfl, r1, r2⟩ := rb.two
    obtain ⟨rows, ps, rfl, er, rr⟩ := Rp.tupE r2
    have lp := rr.len
    rw [List.length_map] at lp
    have row : ∀ (i : Nat) (x : V), ps[i]? = some x → ∃ (n : Str) (f : Fm) (p : Addr) (u : V), tb[i]? = some (n, f) ∧ x = .ref p ∧ H p = some (.tup [.str n, u]) ∧ Rp H u f.enc := fun i x hx => by
      obtain ⟨d, ed, rx⟩ := rr.get i x hx
      rw [List.getElem?_map] at ed
      obtain ⟨⟨n, f⟩, et, rfl⟩ := Option.map_eq_some_iff.mp ed
      obtain ⟨p, us, rfl, ep, rp⟩ := Rp.tupE rx
      obtain ⟨u1, u2, rfl, q1, q2⟩ := rp.two
      obtain ⟨rfl, _⟩ := q1.strE
      exact ⟨n, f, p, u2, et, rfl, ep, q2⟩
    refine ⟨_, (pss_one (ps_ret (pe_dc (own := [("name", 1), ("form", 2)]) (g := gTup K 2 (gCons (gName 1) (gCons (gName 2) gNil))) (tt := tYes) rfl scTab.nd (pi_tup (pe_ix ix_tup (pv 0) pe_int (fun _ _ => rfl))) (blkOk_by (N := ["book", "name", "form"]) (sc := defScope sTab) (by decide +kernel))
      (fun _ _ _ _ _ => (pg_tup rfl (pgs_cons (pg_name (i := 1) scTab.nd rfl (.inl rfl)) (pgs_cons (pg_name (i := 2) scTab.nd rfl (.inl rfl)) pgs_nil)))) (fun _ _ _ _ _ => pts_nil) (fun _ _ _ _ _ => (pv 1)) (fun _ _ _ _ _ => (pv 2))))), ?_⟩
    refine ⟨_, rfl, b, _, 1, .ref rows, rfl, rfl, SqT.of eb, atI_nat (j := 1) rfl, rows, rfl, ⟨_, SqT.of er⟩, fun D nD => ?_⟩
    refine dc_tup (xs := ps) (fun i H4 => Kp M0 H H4 ∧ ∃ us : List V, H4 D = some (.dK (List.zipWith (fun (x : Str × Fm) u => ((.inr x.1 : L2.Key), u)) (tb.take i) us)) ∧ us.length = i ∧ i ≤ tb.length ∧ ∀ (j : Nat) (u : V) (x : Str × Fm), us[j]? = some u → tb[j]? = some x → Rp H u x.2.enc) ?_ ?_ ?_ ?_
    · exact ⟨Kp.new nD, [], by rw [upd_same, List.take_zero]; rfl, rfl, Nat.zero_le _, fun j u x e => by simp at e⟩
    · exact fun i H4 _ h => SqT.of (h.1 _ _ (fun z => z) er)
    · rintro i x H4 hx ⟨k4, us, e4, lu, li, hu⟩
      obtain ⟨n, f, p, u, hb, rfl, ep, ru⟩ := row i x hx
      have hi := (List.getElem?_eq_some_iff.mp hb).1
      have tk : tb.take (i + 1) = tb.take i ++ [(n, f)] := by rw [List.take_add_one, hb]; rfl
      refine ⟨p, _, rfl, SqT.of (k4 _ _ (fun z => z) ep), rfl, _, _, rfl, _, _, rfl, rfl, rfl, tYes_ok (iteT ⟨_, rfl, _, rfl, _, .inr n, rfl, e4, ?_, fun b u n e => ?_, us ++ [u], ?_, ?_, hi, ?_⟩)⟩
      · rw [List.length_zipWith, List.length_take, lu, sizeLine_eq]
        omega
      · rw [upd_ne (ne_of_none e nD)]
        exact k4 b u n e
      · rw [upd_same, putK_new, tk, List.zipWith_append (by rw [List.length_take, lu]; omega)]
        · rfl
        · intro y hy e
          obtain ⟨j, hj⟩ := List.mem_iff_getElem?.mp hy
          have jl : j < i := by
            have z := (List.getElem?_eq_some_iff.mp hj).1
            rw [List.length_zipWith, lu] at z
            omega
          rw [List.getElem?_zipWith, List.getElem?_take_of_lt jl, List.getElem?_eq_getElem (show j < tb.length by omega), List.getElem?_eq_getElem (show j < us.length by omega)] at hj
          cases hj
          have ne := List.pairwise_iff_getElem.mp (List.nodup_iff_pairwise_ne.mp nd) j i (by rw [List.length_map]; omega) (by rw [List.length_map]; exact hi) jl
          rw [List.getElem_map, List.getElem_map, (List.getElem?_eq_some_iff.mp hb).2] at ne
          exact ne (Sum.inr.inj e)
      · rw [List.length_append, lu]
        rfl
      · intro j v x e1 e2
        by_cases cj : j < us.length
        · rw [List.getElem?_append_left cj] at e1
          exact hu j v x e1 e2
        · rw [List.getElem?_append_right (by omega)] at e1
          have z : j - us.length = 0 := by
            have q := (List.getElem?_eq_some_iff.mp e1).1
            rw [List.length_singleton] at q
            omega
          rw [z] at e1
          cases e1
          have ej : j = i := by omega
          rw [ej, hb] at e2
          cases e2
          exact ru
    · rintro H4 ⟨k4, us, e4, lu, li, hu⟩
      rw [lp, List.take_length] at e4
      refine q D H4 nD ⟨_, e4, fun x f m => ?_⟩ k4
      obtain ⟨i, hi⟩ := List.mem_iff_getElem?.mp m
      have li2 := (List.getElem?_eq_some_iff.mp hi).1
      have hu2 : us[i]? = some (us[i]'(by omega)) := List.getElem?_eq_getElem (by omega)
      refine ⟨us[i]'(by omega), ?_, (hu i _ _ hu2 hi).ts fun b vs e => k4 _ _ (fun z => z) e⟩
      exact zip_val nd hi hu2
/-- the dict of steps -/
structure StAt (P : Program) (w : World) (K : PySem.W.Frag) (mg : Str → Option Value) (base : Heap) (c : Wx) (k : Nat) (S : Addr) : Prop where
  at_ : ∀ it : It, it.ok → ∃ g, PySem.W.nsIn K S it.word = some (some (.ref g)) ∧ PySem.W.keepIn K (.ref g) = true ∧ FnR P w K mg base CX0 k g (spItem c fun i => i = it)
theorem ok_wo {c : Wx} {f S : Addr} {eS : Array DictEntry} {nS : Nat} {fd : FuncData} {k : Nat} (F : Fun K "walk_on" "walk_on" sWo f fd) (mS : mg "_STEPS" = some (.ref S)) (DS : KDict K w S eS nS) (A : StAt P w K mg base c k S) : FnOk P w K mg base CX0 (k + 1) f fd ["walk", "item"] (spItem c It.ok) := by
  refine F.ok scWo (fun vs H Q E h => ?_) (fun cdv A' outer sh H vs Q E hr h => ?_)
  · obtain ⟨v, it, s, o, rfl, _⟩ := h
    rfl
  · obtain ⟨v, it, s, o, rfl, W, rv, ok, st, sm, q0, q1⟩ := h
    refine ⟨_, (pss_cons (ps_set (i := 2) scWo.nd rfl (.inl rfl) (pe_kix DS (pe_glob (v := .ref S) (by rfl) mS rfl) (pe_ix ix_tup (pv 1) pe_int (fun _ _ => rfl)) (fun _ _ => rfl)))
      (pss_one (ps_ret (pe_callVs (i := 2) hr pass0 rfl (.inl rfl) (pa_cons (pv 0) (pa_cons (pv 1) pa_nil)))))), ?_⟩
    obtain ⟨ds, ei⟩ := it.enc_word
    have rv2 := rv
    rw [ei] at rv2
    obtain ⟨a, vs, rfl, ea, ra⟩ := Rp.tupE rv2
    obtain ⟨u, us, rfl, ru⟩ : ∃ x y, vs = x :: y ∧ Rp H x (.str it.word) := by
      cases ra with
      | cons x y => exact ⟨_, _, rfl, x⟩
    obtain ⟨rfl, _⟩ := ru.strE
    obtain ⟨g, eg, kg, FG⟩ := A.at_ it ok
    refine ⟨rfl, _, rfl, a, _, 0, .str _, rfl, rfl, SqT.of ea, atI_nat (j := 0) rfl, _, _, .ref g, rfl, eg, rfl, ?_⟩
    exact ⟨g, _, rfl, kg, FG, _, rfl, _, rfl, .ref a, it, s, o, rfl, W, rv, rfl, st, sm, q0, q1⟩
/-- all stay, the walk's places are new -/
theorem Kp.walk {c : Wx} {H H1 H2 : Hp} (k : Kp M0 H H1) (k2 : Kp (WM c) H1 H2) (n : ∀ b, WM c b → H b = none) : Kp M0 H H2 := fun b o _ e => k2 b o (fun z => by rw [n b z] at e; cases e) (k b o (fun z => z) e)
theorem Run.nil {tb : List (Str × Fm)} {tx : Str} {wy : List (Nat × Nat)} {s : St} {o : Option St} {n : Nat} (r : Run tb tx wy s o n) (h : s.T = []) : o = some s := by
  cases r with
  | fin _ => rfl
  | fail e _ _ => rw [h] at e; cases e
  | more e _ _ _ _ => rw [h] at e; cases e
/-- what walked tells of the end -/
def Res (tx : Str) (wy : List (Nat × Nat)) : Option St → Option D → Prop
  | none, r => r = none
  | some s, r => (s.p = tx.length ∧ s.t = wy.length ∧ ∃ d ds, s.W = d :: ds ∧ r = some d) ∨ (¬ (s.p = tx.length ∧ s.t = wy.length) ∧ r = none)
def spWd : Sp := fun vs H Q _ => ∃ (bv wv : V) (s0 : Str) (tx : Str) (tb : List (Str × Fm)) (wy : List (Nat × Nat)) (o : Option St) (n : Nat), vs = [bv, .str tx, wv] ∧ Rp H bv (bookD s0 tb) ∧ (tb.map (·.1)).Nodup ∧ tb.length ≤ 1000 ∧ Rp H wv (.tup (wy.map wyD)) ∧ wy.length ≤ 1000 ∧ tx.length ≤ 1000 ∧
  Run tb tx wy ⟨[.form (.named s0)], [], 0, 0, []⟩ o n ∧ (∀ s, o = some s → s.W ≠ []) ∧ (Res tx wy o none → ∀ H', Kp M0 H H' → Q .non H') ∧ ∀ d, Res tx wy o (some d) → ∀ v H', Kp M0 H H' → Rp H' v d → Q v H'
theorem ok_wd {C f ft fi fo : Addr} {fd fdt fdi fdo : FuncData} {k : Nat} (F : Fun K "walked" "walked" sWd f fd) (TW : WkCls K C)
    (GT : FnOk P w K mg base CX0 (k + 1) ft fdt ["book"] spTab) (kt : PySem.W.keepIn K (.ref ft) = true) (bt : Binds K fdt ["book"] []) (gt : mg "form_table" = some (.ref ft))
    (gWk : mg "Walk" = some (.ref C)) (MW : Mk K C fi) (GWi : FnOk P w K mg base CX0 k fi fdi ["self", "table", "text", "way"] (spWi C)) (bwi : Binds K fdi ["self", "table", "text", "way"] [])
    (GWo : ∀ c : Wx, c.C = C → FnOk P w K mg base CX0 (k + 1) fo fdo ["walk", "item"] (spItem c It.ok)) (kwo : PySem.W.keepIn K (.ref fo) = true) (bwo : Binds K fdo ["walk", "item"] []) (gwo : mg "walk_on" = some (.ref fo))
    (mi : mg "isinstance" = none) (mtu : mg "tuple" = none) (ml : mg "len" = none) : FnOk P w K mg base CX0 (k + 2) f fd ["book", "text", "way"] spWd := by
  have GWo := FnOk.ex (fun c : {c : Wx // c.C = C} => GWo c.1 c.2)
  refine F.ok scWd (fun vs H Q E h => ?_) (fun cdv A' outer sh H vs Q E hr h => ?_)
  · obtain ⟨bv, wv, s0, tx, tb, wy, o, n, rfl, _⟩ := h
    rfl
  · obtain ⟨bv, wv, s0, tx, tb, wy, o, n, rfl, rb, nd, few, rw_, fw, ft_, run, hW, qn, qs⟩ := h
    refine ⟨_, (pss_cons (ps_if (pt_not (pt_val (pe_callB call_isi (by rfl) mi (by decide +kernel) (pa_cons (pv 2) (pa_cons (pe_bltn (v := .ty "tuple") (by rfl) mtu (by decide +kernel) rfl) pa_nil))))) (pss_one (ps_ret pe_non)) pss_nil)
      (pss_cons (ps_set (i := 3) scWd.nd rfl (.inl rfl) (pe_make MW GWi hr (by rfl) gWk bwi .nil pass0 (pa_cons (pe_call GT hr (by rfl) gt kt bt .nil pass0 (pa_cons (pv 0) pa_nil)) (pa_cons (pv 1) (pa_cons (pv 2) pa_nil)))))
      (pss_cons (ps_expr (pe_bm PySem.F.plainAttrs_list PySem.F.slot_list_append PySem.F.type_list_append mt_append (pe_fld (pv 3) rfl) (pa_cons (pe_tup (pa_cons pe_str (pa_cons (pe_ix ix_tup (pv 0) pe_int (fun _ _ => rfl)) pa_nil))) pa_nil)))
      (pss_cons (ps_while PassesOwn.never (pt_truth (pe_fld (pv 3) rfl) (by intro _; rfl)) (pss_one (ps_if (pt_not (pt_val (pe_call GWo hr (by rfl) gwo kwo bwo .nil pass0 (pa_cons (pv 3) (pa_cons (pe_bm0 PySem.F.plainAttrs_list PySem.F.slot_list_pop PySem.F.type_list_pop mt_pop (pe_fld (pv 3) rfl)) pa_nil))))) (pss_one (ps_ret pe_non)) pss_nil)))
      (pss_one (ps_ret (pe_ifExp (PW.pt (pw_and (pt_cmpR op_eq (pe_fld (pv 3) rfl) (pe_callB call_len_str (by rfl) ml PySem.boot_len (pa_cons (pv 1) pa_nil)) (nomark _)) (pw_and1 (pt_cmpR op_eq (pe_fld (pv 3) rfl) (pe_callB call_len_seq (by rfl) ml PySem.boot_len (pa_cons (pv 2) pa_nil)) (nomark _))))) (pe_ix ix_list (pe_fld (pv 3) rfl) pe_int (fun _ _ => rfl)) pe_non))))))), ?_⟩
    obtain ⟨bk, bvs, rfl, ebk, rbk⟩ := Rp.tupE rb
    obtain ⟨b1, b2, rfl, rs0, rrows⟩ := rbk.two
    obtain ⟨rfl, ls0⟩ := rs0.strE
    obtain ⟨wa, wvs, rfl, ewa, rwa⟩ := id (Rp.tupE rw_)
    have line : (3000 : Nat) < sizeLine := by rw [sizeLine_eq]; decide
    have tsk : ∀ {H' : Hp}, Kp M0 H H' → TS H H' := fun k b vs e => k b _ (fun z => z) e
    refine ⟨_, rfl, _, .ty "tuple", .type "tuple", .type "tuple", true, rfl, .ty _, .base (.tup ewa), kit_ty (by decide +kernel), true, rfl, iteF ?_⟩
    refine ⟨_, rfl, _, s0, tb, rfl, rb, nd, few, fun d H1 nd1 ht1 k1 => ?_⟩
    refine ⟨_, rfl, _, rfl, ?_⟩
    intro x dx nx ndx nex
    have t1 := tsk k1
    have kx : Kp M0 H1 (upd (upd H1 dx (.own x)) x (.ins C dx [])) := (Kp.new ndx).trans (Kp.new (by rw [upd_ne nex.symm]; exact nx))
    have tx1 : TS H1 (upd (upd H1 dx (.own x)) x (.ins C dx [])) := fun b vs e => kx b _ (fun z => z) e
    have nx0 : H x = none := none_back k1 (fun z => z) nx
    have htd : TabAt (upd (upd H1 dx (.own x)) x (.ins C dx [])) d tb := by
      obtain ⟨kvs, e, g⟩ := ht1
      exact ⟨kvs, kx _ _ (fun z => z) e, fun y f m => let ⟨u, h1, h2⟩ := g y f m; ⟨u, h1, h2.ts tx1⟩⟩
    refine ⟨x, dx, d, wa, tx, tb, wy, rfl, upd_same, htd, rw_.ts (t1.trans tx1), fw, ft_, fun td wt wi H2 W2 ntd nwt nwi k2 => ⟨rfl, ?_⟩⟩
    have up0 : ∀ {p : Addr}, upd (upd H1 dx (.own x)) x (.ins C dx []) p = none → H p = none := fun {p} h => none_back (k1.trans kx) (fun z => z) h
    generalize hc : (⟨C, x, td, wt, wi, d, wa, tx, tb, wy⟩ : Wx) = c at W2
    have ecx : c.x = x := by rw [← hc]
    have ecC : c.C = C := by rw [← hc]
    have ecb : c.tb = tb := by rw [← hc]
    have ecy : c.wy = wy := by rw [← hc]
    have ecX : c.tx = tx := by rw [← hc]
    have new : ∀ b, WM c b → H b = none := fun b m => by
      rw [← hc] at m
      rcases m with rfl | rfl | rfl | rfl
      · exact nx0
      · exact up0 ntd
      · exact up0 nwt
      · exact up0 nwi
    have k02 : Kp M0 H H2 := fun b o _ e => k2 b o (fun z => by rw [z, nx0] at e; cases e) (kx b o (fun z => z) (k1 b o (fun z => z) e))
    clear htd k2 kx tx1 ht1 k1 t1 hc up0 ntd nwt nwi nx ndx nex nd1
    subst ecx ecC ecb ecy ecX
    obtain ⟨dx2, ho2⟩ := id W2.ob
    obtain ⟨us2, et2, r2⟩ := id W2.td
    have eus : us2 = [] := by
      have := r2.len
      exact List.eq_nil_of_length_eq_zero this
    subst eus
    refine ⟨_, rfl, c.x, c.C, dx2, _, _, rfl, ho2, TW.cl, TW.n, rfl, .inl ⟨rfl, _, SqL.of et2⟩, _, rfl, bk, _, 0, .str s0, rfl, rfl, SqT.of (tsk k02 _ _ ebk), atI_nat (j := 0) rfl, by show 2 ≤ sizeLine; omega, fun p np => ?_⟩
    have W3 := W2.new (o := .tup [.str "named", .str s0]) np
    have k03 : Kp M0 H (upd H2 p (.tup [.str "named", .str s0])) := k02.trans (Kp.new np)
    have ep : upd H2 p (.tup [.str "named", .str s0]) p = some (.tup [.str "named", .str s0]) := upd_same
    have et3 : upd H2 p (.tup [.str "named", .str s0]) c.td = some (.lst []) := by rw [upd_ne (ne_of_none et2 np)]; exact et2
    generalize upd H2 p (.tup [.str "named", .str s0]) = H3 at W3 k03 ep et3 ⊢
    refine ⟨c.td, [], .ref p, rfl, rfl, et3, by show 0 < sizeLine; omega, ?_⟩
    obtain ⟨W4, t4⟩ := W3.setTd (T := [.form (.named s0)]) (us := [] ++ [.ref p]) (.cons (.tup ep (.cons (.str (by decide)) (.cons (.str ls0) .nil))) .nil) ⟨by show 1 ≤ 1000; decide, Nat.zero_le _, Nat.zero_le _⟩
    have k34 : Kp (WM c) H3 (upd H3 c.td (.lst ([] ++ [.ref p]))) := Kp.put (.inr (.inl rfl))
    have k04 : Kp M0 H (upd H3 c.td (.lst ([] ++ [.ref p]))) := k03.walk k34 new
    generalize upd H3 c.td (.lst ([] ++ [.ref p])) = H4 at W4 k04 ⊢
    clear W2 W3 k02 k03 k34 t4 ep et3 et2 ho2 r2 np
    refine ⟨fun n σ H2 => ∃ s : St, σ = [some (.ref bk), some (.str c.tx), some (.ref wa), some (.ref c.x)] ∧ Run c.tb c.tx c.wy s o n ∧ WkAt c H2 s ∧ Kp M0 H H2, ⟨n, _, rfl, run, W4, k04⟩, ?_⟩
    rintro n σ H5 ⟨s, rfl, run, W, k⟩
    obtain ⟨dx, ho⟩ := id W.ob
    obtain ⟨us, et, ru⟩ := id W.td
    by_cases hT : s.T = []
    · have eus : us = [] := by
        have := ru.len
        rw [hT] at this
        exact List.eq_nil_of_length_eq_zero this
      subst eus
      refine ⟨_, rfl, c.x, c.C, dx, _, _, rfl, ho, TW.cl, TW.n, rfl, false, .inl ⟨[], SqL.of et, rfl⟩, iteF ?_⟩
      have eo := run.nil hT
      subst eo
      refine ⟨_, rfl, c.x, c.C, dx, _, _, rfl, ho, TW.cl, TW.n, rfl, _, rfl, _, rfl, by omega, rfl, _, rfl, ?_⟩
      have lw : wvs.length = c.wy.length := by rw [rwa.len, List.length_map]
      have rfld : ∀ i : Nat, V.int ((i : Nat) : Int) = V.int ((i : Nat) : Int) := fun _ => rfl
      have inj : ∀ {i j : Nat}, V.int ((i : Nat) : Int) = V.int ((j : Nat) : Int) → i = j := fun h => Int.ofNat_inj.mp (V.int.inj h)
      refine ite2 (fun c1 => ?_) (fun c1 => ?_)
      · have e1 := inj (of_decide_eq_true c1)
        refine ⟨_, rfl, c.x, c.C, dx, _, _, rfl, ho, TW.cl, TW.n, rfl, _, rfl, wa, wvs, rfl, .inr (SqT.of (tsk k _ _ ewa)), rfl, _, rfl, ite2 (fun c2 => ?_) (fun c2 => ?_)⟩
        · have e2 := inj (of_decide_eq_true c2)
          obtain ⟨ws, ew, rw2⟩ := id W.wt
          obtain ⟨d0, ds, eW⟩ : ∃ d0 ds, s.W = d0 :: ds := by
            cases z : s.W with
            | nil => exact absurd z (hW s rfl)
            | cons a b => exact ⟨a, b, rfl⟩
          rw [eW] at rw2
          cases rw2 with
          | @cons v0 _ vs0 _ q1 q2 =>
          exact ⟨_, rfl, c.x, c.C, dx, _, _, rfl, ho, TW.cl, TW.n, rfl, c.wt, _, 0, v0, rfl, rfl, SqL.of ew, atI_nat (j := 0) rfl, qs d0 (.inl ⟨e1, e2.trans lw, d0, ds, eW, rfl⟩) v0 H5 k q1⟩
        · exact qn (.inr ⟨fun z => c2 (decide_eq_true (by rw [z.2, ← lw])), rfl⟩) H5 k
      · exact iteF (qn (.inr ⟨fun z => c1 (decide_eq_true (by rw [z.1])), rfl⟩) H5 k)
    · have hr2 := hr
      obtain ⟨i, r, eT⟩ : ∃ i r, s.T = i :: r := by
        cases z : s.T with
        | nil => exact absurd z hT
        | cons a b => exact ⟨a, b, rfl⟩
      have ru2 := ru
      rw [eT, List.map_cons, List.reverse_cons] at ru2
      obtain ⟨us0, u, rfl, r0, ri⟩ := ru2.snoc
      refine ⟨_, rfl, c.x, c.C, dx, _, _, rfl, ho, TW.cl, TW.n, rfl, true, .inl ⟨_, SqL.of et, by cases us0 <;> rfl⟩, iteT ?_⟩
      refine ⟨fun σ' H' => ∃ (n' : Nat) (s : St), n' < n ∧ σ' = [some (.ref bk), some (.str c.tx), some (.ref wa), some (.ref c.x)] ∧ Run c.tb c.tx c.wy s o n' ∧ WkAt c H' s ∧ Kp M0 H H', fun σ' H' ⟨n', s, a1, a2, a3⟩ => ⟨n', a1, s, a2, a3⟩, ?_⟩
      refine ⟨_, rfl, _, rfl, c.x, c.C, dx, _, _, rfl, ho, TW.cl, TW.n, rfl, .inl ⟨rfl, _, SqL.of et⟩, c.td, _, u, rfl, rfl, et, by simp, ?_⟩
      rw [List.dropLast_concat]
      have smW := W.sm
      have lT : s.T.length = r.length + 1 := by rw [eT]; rfl
      obtain ⟨W6, t6⟩ := W.setTd (T := r) (us := us0) r0 ⟨by show r.length ≤ _; have := smW.1; omega, smW.2.1, smW.2.2⟩
      have k6 : Kp (WM c) H5 (upd H5 c.td (.lst us0)) := Kp.put (.inr (.inl rfl))
      have ri6 := ri.ts t6
      have k06 := k.walk k6 new
      generalize upd H5 c.td (.lst us0) = H6 at W6 ri6 k06 ⊢
      cases run with
      | fin e => exact absurd e hT
      | fail e ok st =>
        rw [eT] at e
        cases e
        refine ⟨⟨c, rfl⟩, u, i, _, none, rfl, W6, ri6, ok, st, fun s' z => (nomatch z), fun _ H7 k7 => ⟨false, rfl, iteT ?_⟩, fun s' z => (nomatch z)⟩
        exact qn rfl H7 (k06.walk k7 new)
      | @more _ s' _ _ _ m e ok st sm run' =>
        rw [eT] at e
        cases e
        refine ⟨⟨c, rfl⟩, u, i, _, some s', rfl, W6, ri6, ok, st, fun s2 z => by cases z; exact sm, fun z => (nomatch z), fun s2 z H7 W7 k7 t7 => ?_⟩
        cases z
        refine ⟨true, rfl, iteF ?_⟩
        exact ⟨m, s', Nat.lt_succ_self _, rfl, run', W7, k06.walk k7 new⟩
end
end RT

set_option maxHeartbeats 1000000
/-! walks of rings, without the program -/
namespace RT
open PySem PySem.Spec PyProof.Rows L2
def nm (k : Nat) : Str := ⟨#[97 + k]⟩
theorem nm_inj {i j : Nat} (h : nm i = nm j) : i = j := by
  have e : [97 + i] = [97 + j] := congrArg (fun z : Str => z.cps.toList) h
  have := (List.cons.inj e).1
  omega
/-- what stands around a name -/
def ar (w : Nat) (x : Str) : Fm :=
  if w = 0 then .named x else if w = 1 then .row [.named x] else if w = 2 then .skip (.named x) else if w = 3 then .row [.named x, .row []] else if w = 4 then .row [.row [], .named x] else .row [.skip (.row []), .named x]
def abv (w : Nat) (d : D) : D :=
  if w = 0 then d else if w = 1 then .tup [d] else if w = 2 then .tup [] else if w = 3 then .tup [d, .tup []] else if w = 4 then .tup [.tup [], d] else .tup [d]
def post (w : Nat) (x : Str) : List It :=
  if w = 0 then [] else if w = 1 then [.rowed [.named x]] else if w = 2 then [.skipped] else if w = 3 then [.form (.row []), .rowed [.named x, .row []]] else if w = 4 then [.rowed [.row [], .named x]] else [.rowed [.skip (.row []), .named x]]
def pre (w : Nat) : List D := if w < 4 then [] else [.tup []]
section
variable {tb : List (Str × Fm)} {tx : Str} {wy : List (Nat × Nat)} {o : Option St}
def RR (tb : List (Str × Fm)) (tx : Str) (wy : List (Nat × Nat)) (s : St) (o : Option St) : Prop := ∃ n, Run tb tx wy s o n
def Bd (q : Nat) (T : List It) (W : List D) (ks : List Ky) : Prop := T.length + 5 * q ≤ 900 ∧ W.length + 5 * q ≤ 900 ∧ ks.length + 5 * q ≤ 900
theorem RR.more {i : It} {r : List It} {W : List D} {p t : Nat} {ks : List Ky} {s' : St} (ok : i.ok) (st : Stp tb tx wy i ⟨r, W, p, t, ks⟩ (some s')) (sm : small s') (h : RR tb tx wy s' o) : RR tb tx wy ⟨i :: r, W, p, t, ks⟩ o :=
  let ⟨n, h⟩ := h
  ⟨n + 1, .more rfl ok st sm h⟩
theorem RR.fail {i : It} {r : List It} {W : List D} {p t : Nat} {ks : List Ky} (ok : i.ok) (st : Stp tb tx wy i ⟨r, W, p, t, ks⟩ none) : RR tb tx wy ⟨i :: r, W, p, t, ks⟩ none := ⟨1, .fail rfl ok st⟩
theorem sm_of {T : List It} {W : List D} {p t : Nat} {ks : List Ky} (h : T.length ≤ 1000) (h2 : W.length ≤ 1000) (h3 : ks.length ≤ 1000) : small ⟨T, W, p, t, ks⟩ := ⟨h, h2, h3⟩
theorem RR.row {fs : List Fm} {T : List It} {W : List D} {p t : Nat} {ks : List Ky} (h1 : fs.length + T.length + 1 ≤ 1000) (h2 : W.length ≤ 1000) (h3 : ks.length ≤ 1000) (h : RR tb tx wy ⟨fs.map .form ++ .rowed fs :: T, W, p, t, ks⟩ o) : RR tb tx wy ⟨.form (.row fs) :: T, W, p, t, ks⟩ o :=
  .more True.intro .row (sm_of (by simp only [List.length_append, List.length_map, List.length_cons]; omega) h2 h3) h
theorem RR.rowed {fs : List Fm} {T : List It} {W ws : List D} {p t : Nat} {ks : List Ky} (l : ws.length = fs.length) (h1 : T.length ≤ 1000) (h2 : W.length + 1 ≤ 1000) (h3 : ks.length ≤ 1000) (h : RR tb tx wy ⟨T, W ++ [.tup (keep fs ws)], p, t, ks⟩ o) : RR tb tx wy ⟨.rowed fs :: T, W ++ ws, p, t, ks⟩ o :=
  .more True.intro (.rowed (W0 := W) (ws := ws) rfl l) (sm_of h1 (by rw [List.length_append]; exact h2) h3) h
theorem RR.skip {f : Fm} {T : List It} {W : List D} {p t : Nat} {ks : List Ky} (h1 : T.length + 2 ≤ 1000) (h2 : W.length ≤ 1000) (h3 : ks.length ≤ 1000) (h : RR tb tx wy ⟨.form f :: .skipped :: T, W, p, t, ks⟩ o) : RR tb tx wy ⟨.form (.skip f) :: T, W, p, t, ks⟩ o :=
  .more True.intro .skip (sm_of h1 h2 h3) h
theorem RR.skipped {T : List It} {W : List D} {d : D} {p t : Nat} {ks : List Ky} (h1 : T.length ≤ 1000) (h2 : W.length + 1 ≤ 1000) (h3 : ks.length ≤ 1000) (h : RR tb tx wy ⟨T, W ++ [.tup []], p, t, ks⟩ o) : RR tb tx wy ⟨.skipped :: T, W ++ [d], p, t, ks⟩ o :=
  .more True.intro (.skipped (W0 := W) (d := d) rfl) (sm_of h1 (by rw [List.length_append]; exact h2) h3) h
/-- an empty row tells nothing put together -/
theorem RR.empty {T : List It} {W : List D} {p t : Nat} {ks : List Ky} (h1 : T.length + 1 ≤ 1000) (h2 : W.length + 1 ≤ 1000) (h3 : ks.length ≤ 1000) (h : RR tb tx wy ⟨T, W ++ [.tup []], p, t, ks⟩ o) : RR tb tx wy ⟨.form (.row []) :: T, W, p, t, ks⟩ o := by
  refine .row (by simp only [List.length_nil]; omega) (by omega) h3 ?_
  have r := RR.rowed (tb := tb) (tx := tx) (wy := wy) (o := o) (fs := []) (T := T) (W := W) (ws := []) (p := p) (t := t) (ks := ks) rfl (by omega) h2 h3 h
  rw [List.append_nil] at r
  exact r
theorem len1 (W : List D) (d : D) : (W ++ [d]).length = W.length + 1 := by rw [List.length_append]; rfl
theorem ar4 {w : Nat} (h0 : ¬ w = 0) (h1 : ¬ w = 1) (h2 : ¬ w = 2) (h3 : ¬ w = 3) (h4 : ¬ w = 4) (x : Str) (d : D) : ar w x = .row [.skip (.row []), .named x] ∧ post w x = [.rowed [.skip (.row []), .named x]] ∧ pre w = [.tup []] ∧ abv w d = .tup [d] := by
  have : ¬ w < 4 := by omega
  simp [ar, post, pre, abv, h0, h1, h2, h3, h4, this]
/-- down to the name -/
theorem RR.down {q w : Nat} {x : Str} {T : List It} {W : List D} {p t : Nat} {ks : List Ky} (b : Bd (q + 1) T W ks) (h : RR tb tx wy ⟨.form (.named x) :: (post w x ++ T), W ++ pre w, p, t, ks⟩ o) : RR tb tx wy ⟨.form (ar w x) :: T, W, p, t, ks⟩ o := by
  obtain ⟨b1, b2, b3⟩ := b
  have l1 := len1 W (.tup [])
  by_cases h0 : w = 0
  · subst h0
    simpa [ar, post, pre] using h
  by_cases h1 : w = 1
  · subst h1
    simp only [ar, post, pre] at h ⊢
    exact .row (by simp only [List.length_cons, List.length_nil]; omega) (by omega) (by omega) (by simpa using h)
  by_cases h2 : w = 2
  · subst h2
    simp only [ar, post, pre] at h ⊢
    exact .skip (by omega) (by omega) (by omega) (by simpa using h)
  by_cases h3 : w = 3
  · subst h3
    simp only [ar, post, pre] at h ⊢
    exact .row (by simp only [List.length_cons, List.length_nil]; omega) (by omega) (by omega) (by simpa using h)
  by_cases h4 : w = 4
  · subst h4
    have e : RR tb tx wy ⟨.form (.named x) :: .rowed [.row [], .named x] :: T, W ++ [.tup []], p, t, ks⟩ o := by simpa [post, pre] using h
    exact RR.row (fs := [.row [], .named x]) (by simp only [List.length_cons, List.length_nil]; omega) (by omega) (by omega) (RR.empty (T := .form (.named x) :: .rowed [.row [], .named x] :: T) (by simp only [List.length_cons]; omega) (by omega) (by omega) e)
  · obtain ⟨e, e2, e3, _⟩ := ar4 h0 h1 h2 h3 h4 x (.tup [])
    rw [e2, e3] at h
    rw [e]
    refine RR.row (fs := [.skip (.row []), .named x]) (by simp only [List.length_cons, List.length_nil]; omega) (by omega) (by omega) ?_
    refine RR.skip (f := .row []) (T := .form (.named x) :: .rowed [.skip (.row []), .named x] :: T) (by simp only [List.length_cons]; omega) (by omega) (by omega) ?_
    exact RR.empty (T := .skipped :: .form (.named x) :: .rowed [.skip (.row []), .named x] :: T) (by simp only [List.length_cons]; omega) (by omega) (by omega) (RR.skipped (T := .form (.named x) :: .rowed [.skip (.row []), .named x] :: T) (by simp only [List.length_cons]; omega) (by omega) (by omega) h)
/-- up again -/
theorem RR.up {q w : Nat} {x : Str} {T : List It} {W : List D} {p t : Nat} {ks : List Ky} {d : D} (b : Bd (q + 1) T W ks) (h : RR tb tx wy ⟨T, W ++ [abv w d], p, t, ks⟩ o) : RR tb tx wy ⟨post w x ++ T, W ++ pre w ++ [d], p, t, ks⟩ o := by
  obtain ⟨b1, b2, b3⟩ := b
  have l1 := len1 W d
  by_cases h0 : w = 0
  · subst h0
    simpa [abv, post, pre] using h
  by_cases h1 : w = 1
  · subst h1
    have e : RR tb tx wy ⟨.rowed [.named x] :: T, W ++ [d], p, t, ks⟩ o := RR.rowed rfl (by omega) (by omega) (by omega) (by simpa [abv, keep, Fm.bare] using h)
    simpa [post, pre] using e
  by_cases h2 : w = 2
  · subst h2
    have e : RR tb tx wy ⟨.skipped :: T, W ++ [d], p, t, ks⟩ o := RR.skipped (by omega) (by omega) (by omega) (by simpa [abv] using h)
    simpa [post, pre] using e
  by_cases h3 : w = 3
  · subst h3
    have e : RR tb tx wy ⟨.rowed [.named x, .row []] :: T, W ++ [d, .tup []], p, t, ks⟩ o := RR.rowed rfl (by omega) (by omega) (by omega) (by simpa [abv, keep, Fm.bare] using h)
    have e2 : RR tb tx wy ⟨.form (.row []) :: .rowed [.named x, .row []] :: T, W ++ [d], p, t, ks⟩ o := RR.empty (by simp only [List.length_cons]; omega) (by omega) (by omega) (by simpa using e)
    simpa [post, pre] using e2
  by_cases h4 : w = 4
  · subst h4
    have e : RR tb tx wy ⟨.rowed [.row [], .named x] :: T, W ++ [.tup [], d], p, t, ks⟩ o := RR.rowed rfl (by omega) (by omega) (by omega) (by simpa [abv, keep, Fm.bare] using h)
    simpa [post, pre] using e
  · obtain ⟨_, e2, e3, e4⟩ := ar4 h0 h1 h2 h3 h4 x d
    rw [e4] at h
    have e : RR tb tx wy ⟨.rowed [.skip (.row []), .named x] :: T, W ++ [.tup [], d], p, t, ks⟩ o := RR.rowed rfl (by omega) (by omega) (by omega) (by simpa [keep, Fm.bare] using h)
    rw [e2, e3]
    simpa using e
/-! ### round and round -/
theorem post_len (w : Nat) (x : Str) : (post w x).length ≤ 2 := by
  unfold post
  repeat' split
  all_goals simp
theorem pre_len (w : Nat) : (pre w).length ≤ 1 := by
  unfold pre
  split <;> simp
theorem RR.named {x : Str} {f : Fm} {T : List It} {W : List D} {p t : Nat} {ks : List Ky} (hk : (x, p, t) ∉ ks) (hf : (x, f) ∈ tb) (h1 : T.length + 2 ≤ 1000) (h2 : W.length ≤ 1000) (h3 : ks.length + 1 ≤ 1000) (h : RR tb tx wy ⟨.form f :: .outof x p t :: T, W, p, t, ks ++ [(x, p, t)]⟩ o) : RR tb tx wy ⟨.form (.named x) :: T, W, p, t, ks⟩ o :=
  .more True.intro (.namedT hk hf) (sm_of h1 h2 (by rw [List.length_append]; exact h3)) h
theorem filter_snoc {ks : List Ky} {k : Ky} (h : k ∉ ks) : (ks ++ [k]).filter (fun m => decide (m ≠ k)) = ks := by
  rw [List.filter_append]
  have e : ks.filter (fun m => decide (m ≠ k)) = ks := List.filter_eq_self.mpr fun m hm => decide_eq_true fun z => h (z ▸ hm)
  rw [e]
  simp
theorem RR.outof {x : Str} {T : List It} {W : List D} {p t p0 t0 : Nat} {ks : List Ky} (hk : (x, p0, t0) ∉ ks) (h1 : T.length ≤ 1000) (h2 : W.length ≤ 1000) (h3 : ks.length ≤ 1000) (h : RR tb tx wy ⟨T, W, p, t, ks⟩ o) : RR tb tx wy ⟨.outof x p0 t0 :: T, W, p, t, ks ++ [(x, p0, t0)]⟩ o := by
  have e := filter_snoc hk
  refine .more True.intro (.outof (by simp)) (sm_of h1 h2 (by show ((ks ++ [(x, p0, t0)]).filter _).length ≤ 1000; rw [e]; exact h3)) ?_
  show RR tb tx wy ⟨T, W, p, t, (ks ++ [(x, p0, t0)]).filter fun k => decide (k ≠ (x, p0, t0))⟩ o
  rw [e]
  exact h
/-- the rows of names from 1 on -/
def RowsIn (tb : List (Str × Fm)) (m : Nat) (wf : Nat → Nat) : Prop := ∀ k, 1 ≤ k → k < m → (nm k, ar (wf k) (nm ((k + 1) % m))) ∈ tb
/-- a ring without a decision -/
theorem ring {m : Nat} {wf : Nat → Nat} (hm : 1 ≤ m) (hm12 : m ≤ 12) (hr : ∀ k, k < m → (nm k, ar (wf k) (nm ((k + 1) % m))) ∈ tb) : ∀ (j k : Nat), k + j = m → 1 ≤ j → ∀ (T : List It) (W : List D), Bd (j + 1) T W ((List.range k).map fun i => (nm i, 0, 0)) → RR tb tx wy ⟨.form (.named (nm k)) :: T, W, 0, 0, (List.range k).map fun i => (nm i, 0, 0)⟩ none
  | 0, _, _, h, _, _, _ => absurd h (by decide)
  | j + 1, k, e, _, T, W, ⟨b1, b2, b3⟩ => by
    have nk : (nm k, 0, 0) ∉ (List.range k).map fun i => (nm i, 0, 0) := fun z => by
      obtain ⟨i, hi, q⟩ := List.mem_map.mp z
      have q2 := nm_inj (Prod.mk.inj q).1
      rw [q2] at hi
      exact absurd (List.mem_range.mp hi) (Nat.lt_irrefl _)
    have ek : ((List.range k).map fun i => (nm i, 0, 0)) ++ [(nm k, 0, 0)] = (List.range (k + 1)).map fun i => (nm i, 0, 0) := by rw [List.range_succ, List.map_append]; rfl
    refine .named nk (hr k (by omega)) (by omega) (by omega) (by omega) ?_
    rw [ek]
    have lk : ((List.range (k + 1)).map fun i => ((nm i, 0, 0) : Ky)).length = k + 1 := by simp
    have lk0 : ((List.range k).map fun i => ((nm i, 0, 0) : Ky)).length = k := by simp
    have pl := post_len (wf k) (nm ((k + 1) % m))
    have ql := pre_len (wf k)
    refine .down (q := j) ⟨by simp only [List.length_cons]; omega, by omega, by omega⟩ ?_
    by_cases c : j = 0
    · have e2 : (k + 1) % m = 0 := by
        have : k + 1 = m := by omega
        rw [this, Nat.mod_self]
      rw [e2]
      exact .fail True.intro (.namedF (List.mem_map.mpr ⟨0, List.mem_range.mpr (by omega), rfl⟩))
    · have e2 : (k + 1) % m = k + 1 := Nat.mod_eq_of_lt (by omega)
      rw [e2] at pl ⊢
      exact ring hm hm12 hr j (k + 1) (by omega) (by omega) _ _ ⟨by simp only [List.length_append, List.length_cons]; omega, by rw [List.length_append]; omega, by omega⟩
end
end RT

set_option maxHeartbeats 1000000
/-! rings with a decision -/
namespace RT
open PySem PySem.Spec PyProof.Rows L2
def abvs (wf : Nat → Nat) : Nat → Nat → D → D
  | _, 0, d => d
  | k, j + 1, d => abv (wf k) (abvs wf (k + 1) j d)
def rnd (wf : Nat → Nat) (m : Nat) (d : D) : D := .tup [.str "a", abvs wf 1 (m - 1) d]
def wth (wf : Nat → Nat) (m : Nat) : Nat → D
  | 0 => .tup [.str "b"]
  | r + 1 => rnd wf m (wth wf m r)
def deci (m : Nat) (z : Str) : Fm := .either ["a", "b"] [.named (nm (1 % m)), .text z]
def C1 (k t : Nat) (ks : List Ky) : Prop := ∀ q ∈ ks, q.2.2 ≤ t ∧ (q.2.2 = t → ∃ i, 1 ≤ i ∧ i < k ∧ q.1 = nm i)
section
variable {tb : List (Str × Fm)} {tx : Str} {wy : List (Nat × Nat)} {o : Option St}
theorem RR.chosen {n : Str} {f : Fm} {T : List It} {W : List D} {d : D} {p t : Nat} {ks : List Ky} (h1 : T.length ≤ 1000) (h2 : W.length + 1 ≤ 1000) (h3 : ks.length ≤ 1000) (h : RR tb tx wy ⟨T, W ++ [if f.bare = true then .tup [.str n] else .tup [.str n, d]], p, t, ks⟩ o) : RR tb tx wy ⟨.chosen n f :: T, W ++ [d], p, t, ks⟩ o :=
  .more True.intro (.chosen (W0 := W) (d := d) rfl) (sm_of h1 (by rw [List.length_append]; exact h2) h3) h
theorem RR.either {ns : List Str} {fs : List Fm} {c : Nat} {n : Str} {f : Fm} {T : List It} {W : List D} {p t : Nat} {ks : List Ky} (ok : ns.length = fs.length ∧ fs.length ≤ 100) (hw : wy[t]? = some (p, c)) (hn : ns[c]? = some n) (hf : fs[c]? = some f) (h1 : T.length + 2 ≤ 1000) (h2 : W.length ≤ 1000) (h3 : ks.length ≤ 1000) (h : RR tb tx wy ⟨.form f :: .chosen n f :: T, W, p, t + 1, ks⟩ o) : RR tb tx wy ⟨.form (.either ns fs) :: T, W, p, t, ks⟩ o :=
  .more ok (.eitherT hw hn hf ok.1) (sm_of h1 h2 h3) h
theorem RR.text {z : Str} {T : List It} {W : List D} {p t : Nat} {ks : List Ky} (sw : Txt.startswith3 tx z ((p : Nat) : Int) = true) (h1 : T.length ≤ 1000) (h2 : W.length + 1 ≤ 1000) (h3 : ks.length ≤ 1000) (h : RR tb tx wy ⟨T, W ++ [.tup []], p + z.length, t, ks⟩ o) : RR tb tx wy ⟨.form (.text z) :: T, W, p, t, ks⟩ o :=
  .more True.intro (.textT sw) (sm_of h1 (by rw [List.length_append]; exact h2) h3) h
theorem back {Z : Prop} {m : Nat} {wf : Nat → Nat} (hm : 1 ≤ m) (hm12 : m ≤ 12) (hr : RowsIn tb m wf) {L t1 t2 q : Nat} {d : D} (hq : 1 ≤ q)
    (HA : ∀ (T : List It) (W : List D) (ks : List Ky), Bd q T W ks → C1 m t1 ks → (¬ Z → RR tb tx wy ⟨T, W ++ [d], L, t2, ks⟩ o) → RR tb tx wy ⟨.form (.named (nm 0)) :: T, W, 0, t1, ks⟩ o) :
    ∀ (j k : Nat), k + j = m → 1 ≤ k → ∀ (T : List It) (W : List D) (ks : List Ky), Bd (q + j) T W ks → C1 k t1 ks → (¬ Z → RR tb tx wy ⟨T, W ++ [abvs wf k j d], L, t2, ks⟩ o) → RR tb tx wy ⟨.form (.named (nm (k % m))) :: T, W, 0, t1, ks⟩ o
  | 0, k, e, _, T, W, ks, b, c, h => by
    have e1 : k = m := by omega
    rw [e1, Nat.mod_self]
    exact HA T W ks b (e1 ▸ c) h
  | j + 1, k, e, h1, T, W, ks, ⟨b1, b2, b3⟩, c, h => by
    have e1 : k % m = k := Nat.mod_eq_of_lt (by omega)
    rw [e1]
    have nk : (nm k, 0, t1) ∉ ks := fun z => by
      obtain ⟨i, _, i2, i3⟩ := (c _ z).2 rfl
      have := nm_inj i3
      omega
    have lk : (ks ++ [(nm k, 0, t1)]).length = ks.length + 1 := by rw [List.length_append]; rfl
    have pl := post_len (wf k) (nm ((k + 1) % m))
    have ql := pre_len (wf k)
    have lp : (W ++ pre (wf k)).length ≤ W.length + 1 := by rw [List.length_append]; omega
    have lT : (post (wf k) (nm ((k + 1) % m)) ++ .outof (nm k) 0 t1 :: T).length ≤ T.length + 3 := by rw [List.length_append, List.length_cons]; omega
    refine .named nk (hr k h1 (by omega)) (by omega) (by omega) (by omega) ?_
    refine .down (q := 0) ⟨by simp only [List.length_cons]; omega, by omega, by omega⟩ ?_
    refine back hm hm12 hr hq HA j (k + 1) (by omega) (by omega) _ _ _ ⟨by omega, by omega, by omega⟩ (fun x hx => ?_) fun nz => ?_
    · rcases List.mem_append.mp hx with hx | hx
      · obtain ⟨a1, a2⟩ := c x hx
        exact ⟨a1, fun z => let ⟨i, i1, i2, i3⟩ := a2 z; ⟨i, i1, by omega, i3⟩⟩
      · rw [List.mem_singleton.mp hx]
        exact ⟨Nat.le_refl _, fun _ => ⟨k, h1, Nat.lt_succ_self _, rfl⟩⟩
    · refine .up (q := 0) ⟨by simp only [List.length_cons]; omega, by omega, by omega⟩ ?_
      have l1 := len1 W (abv (wf k) (abvs wf (k + 1) j d))
      exact .outof nk (by omega) (by omega) (by omega) (h nz)
theorem spin {Z : Prop} {m : Nat} {wf : Nat → Nat} {z : Str} (hm : 1 ≤ m) (hm12 : m ≤ 12) (hr : RowsIn tb m wf) (h0 : (nm 0, deci m z) ∈ tb) {N : Nat} (hw : ∀ t, t < N → wy[t]? = some (0, 0))
    (he : (¬ Z ∧ wy[N]? = some (0, 1) ∧ Txt.startswith3 tx z ((0 : Nat) : Int) = true) ∨ (Z ∧ wy.length ≤ N ∧ o = none)) :
    ∀ (r t : Nat), t + r = N → ∀ (T : List It) (W : List D) (ks : List Ky), Bd (r * (m + 1) + 2) T W ks → C1 m t ks → (¬ Z → RR tb tx wy ⟨T, W ++ [wth wf m r], z.length, N + 1, ks⟩ o) → RR tb tx wy ⟨.form (.named (nm 0)) :: T, W, 0, t, ks⟩ o
  | r, t, e, T, W, ks, ⟨b1, b2, b3⟩, c, h => by
    have n0 : (nm 0, 0, t) ∉ ks := fun q => by
      obtain ⟨i, i1, _, i3⟩ := (c _ q).2 rfl
      have := nm_inj i3
      omega
    have lk : (ks ++ [(nm 0, 0, t)]).length = ks.length + 1 := by rw [List.length_append]; rfl
    refine .named n0 h0 (by omega) (by omega) (by omega) ?_
    cases r with
    | zero =>
      have et : t = N := by omega
      subst et
      rcases he with ⟨nz, w1, sw⟩ | ⟨_, w1, rfl⟩
      · refine .either (c := 1) (n := "b") (f := .text z) ⟨rfl, by show 2 ≤ 100; decide⟩ w1 rfl rfl (by simp only [List.length_cons]; omega) (by omega) (by omega) ?_
        have l1 := len1 W (.tup [])
        refine .text sw (by simp only [List.length_cons]; omega) (by omega) (by omega) ?_
        have l2 := len1 W (D.tup [.str "b"])
        have hh := h nz
        refine RR.chosen (W := W) (d := .tup []) (by simp only [List.length_cons]; omega) (by omega) (by omega) ?_
        rw [if_pos (show (Fm.text z).bare = true from rfl), Nat.zero_add]
        exact .outof n0 (by omega) (by omega) (by omega) hh
      · exact .fail ⟨rfl, by show 2 ≤ 100; decide⟩ (.eitherF w1)
    | succ r =>
      have eq1 : (r + 1) * (m + 1) = r * (m + 1) + (m + 1) := Nat.succ_mul r (m + 1)
      refine .either (c := 0) (n := "a") (f := .named (nm (1 % m))) ⟨rfl, by show 2 ≤ 100; decide⟩ (hw t (by omega)) rfl rfl (by simp only [List.length_cons]; omega) (by omega) (by omega) ?_
      refine back (Z := Z) hm hm12 hr (hq := by omega) (q := r * (m + 1) + 2) (d := wth wf m r) (fun T W ks b c h => spin hm hm12 hr h0 hw he r (t + 1) (by omega) T W ks b c h) (m - 1) 1 (by omega) (Nat.le_refl _) _ _ _ ⟨by simp only [List.length_cons]; omega, by omega, by omega⟩ (fun x hx => ?_) fun nz => ?_
      · rcases List.mem_append.mp hx with hx | hx
        · have a1 := (c x hx).1
          exact ⟨by show x.2.2 ≤ t + 1; omega, fun q => absurd q (by show x.2.2 ≠ t + 1; omega)⟩
        · rw [List.mem_singleton.mp hx]
          exact ⟨by show t ≤ t + 1; omega, fun q => absurd q (by show t ≠ t + 1; omega)⟩
      · have l1 := len1 W (D.tup [.str "a", abvs wf 1 (m - 1) (wth wf m r)])
        refine .chosen (W := W) (by simp only [List.length_cons]; omega) (by omega) (by omega) ?_
        rw [if_neg (show ¬ (Fm.named (nm (1 % m))).bare = true from Bool.false_ne_true)]
        exact .outof n0 (by omega) (by omega) (by omega) (h nz)
end
end RT

set_option maxHeartbeats 1000000
/-! the law's own words -/
namespace RT
open PySem PySem.Spec PyProof.Rows L2
abbrev sSm : Stmt := topS 45
abbrev sAr : Stmt := topS 46
abbrev sAb : Stmt := topS 47
abbrev sRd : Stmt := topS 48
theorem scSm : FnScope ["_law_one", "_law_due", "_law_mine", "_law_other"] ["_law_one", "_law_due"] (defScope sSm) := ⟨rfl, rfl, rfl, by decide +kernel, rfl, by decide +kernel, by decide +kernel⟩
theorem scAr : FnScope ["_law_draws", "_law_name", "_law_way", "_law_here"] ["_law_draws", "_law_name"] (defScope sAr) := ⟨rfl, rfl, rfl, by decide +kernel, rfl, by decide +kernel, by decide +kernel⟩
theorem scAb : FnScope ["_law_form", "_law_worth", "_law_part"] ["_law_form", "_law_worth"] (defScope sAb) := ⟨rfl, rfl, rfl, by decide +kernel, rfl, by decide +kernel, by decide +kernel⟩
theorem scRd : FnScope ["_law_rows", "_law_worth", "_law_name", "_law_form"] ["_law_rows", "_law_worth"] (defScope sRd) := ⟨rfl, rfl, rfl, by decide +kernel, rfl, by decide +kernel, by decide +kernel⟩
/-- texts and tuples of such, so deep at most -/
def SD : Nat → D → Prop
  | 0, _ => False
  | n + 1, d => (∃ z, d = .str z) ∨ ∃ ds, d = .tup ds ∧ ds.length ≤ 1000 ∧ ∀ x ∈ ds, SD n x
theorem ts0 {H H' : Hp} (k : Kp M0 H H') : TS H H' := fun b vs e => k b _ (fun z => z) e
/-- a comprehension over a zip of two tuples -/
theorem lc_zipT {K : PySem.W.Frag} {a b : Addr} {xs ys : List V} {g : TG} {tt : TT} {te : TE} {vs : List Nat} {σ : L2.St} {H1 : Hp} {D : Addr} {Qd : Hp → Prop} (hl2 : xs.length = ys.length) (Pv : Nat → Hp → Prop) (h0 : Pv 0 (upd H1 D (.lst []))) (hl : ∀ i H, Pv i H → SqT K H a xs ∧ SqT K H b ys)
    (hs : ∀ i x y H T, xs[i]? = some x → ys[i]? = some y → Pv i H → H T = none → g (.ref T) (wipe σ vs) (upd H T (.tup [x, y])) fun σ2 H2 => wipe σ2 vs = wipe σ vs ∧ tt σ2 H2 fun b H3 =>
      if b = true then te σ2 H3 fun y H4 => ∃ acc, H4 D = some (.lst acc) ∧ acc.length < sizeLine ∧ Pv (i + 1) (upd H4 D (.lst (acc ++ [y]))) else Pv (i + 1) H3) (hd : ∀ H, Pv xs.length H → Qd H) :
    ∃ W : Nat → Nat → Hp → Prop, (∃ m, W 0 m (upd H1 D (.lst []))) ∧ ∀ i m H, W i m H →
      ((RZ.ItzT K a b).stop i H ∧ Qd H) ∨ ((RZ.ItzT K a b).go i H ∧ ∃ Nx : Hp → Prop, (∀ H', Nx H' → ∃ m', m' < m ∧ W (i + 1) m' H') ∧ ∀ x H', (RZ.ItzT K a b).yld i H x H' → g x (wipe σ vs) H' fun σ2 H2 => wipe σ2 vs = wipe σ vs ∧ tt σ2 H2 fun b H3 =>
        if b = true then te σ2 H3 fun y H4 => ∃ acc, H4 D = some (.lst acc) ∧ acc.length < sizeLine ∧ Nx (upd H4 D (.lst (acc ++ [y]))) else Nx H3) := by
  refine ⟨fun i m H => m = xs.length - i ∧ i ≤ xs.length ∧ Pv i H, ⟨xs.length, by simp, Nat.zero_le _, h0⟩, ?_⟩
  rintro i m H ⟨rfl, hi, p⟩
  obtain ⟨qx, qy⟩ := hl i H p
  by_cases lt : i < xs.length
  · refine .inr ⟨⟨xs, ys, xs[i], ys[i]'(by omega), qx, qy, by simp [lt], by simp⟩, Pv (i + 1), fun H' p' => ⟨xs.length - (i + 1), by omega, rfl, lt, p'⟩, fun v H' yy => ?_⟩
    obtain ⟨T, x', y', rfl, nT, rfl, f1, f2⟩ := yy
    exact hs i x' y' H T (f1 xs qx) (f2 ys qy) p nT
  · have e : i = xs.length := by omega
    subst e
    exact .inl ⟨⟨xs, ys, qx, qy, .inl (Nat.le_refl _)⟩, hd H p⟩
section
variable {P : Program} {w : World} {K : PySem.W.Frag} {mg : Str → Option Value} {base : Heap}
def spSame (n : Nat) : Sp := fun vs H Q _ => ∃ (v u : V) (d : D), vs = [v, u] ∧ Rp H v d ∧ Rp H u d ∧ SD n d ∧ ∀ H', Kp M0 H H' → Q (.bl true) H'
theorem none_sm {f : Addr} {fd : FuncData} {k : Nat} : FnOk P w K mg base CX0 k f fd ["_law_one", "_law_due"] (spSame 0) :=
  ⟨fun vs H Q E h => by obtain ⟨_, _, _, _, _, _, h, _⟩ := h; exact h.elim, fun A outer s H args us vs Q E _ _ _ _ h => by obtain ⟨_, _, _, _, _, _, h, _⟩ := h; exact h.elim⟩
theorem ok_sm {n : Nat} {f fr : Addr} {fd fdr : FuncData} {k : Nat} (F : Fun K "_law_same" "_law_same" sSm f fd) (GR : FnOk P w K mg base CX0 k fr fdr ["_law_one", "_law_due"] (spSame n)) (kr : PySem.W.keepIn K (.ref fr) = true) (br : Binds K fdr ["_law_one", "_law_due"] []) (gr : mg "_law_same" = some (.ref fr))
    (mi : mg "isinstance" = none) (mtu : mg "tuple" = none) (ms : mg "str" = none) (mint : mg "int" = none) (mbool : mg "bool" = none) (ml : mg "len" = none) (mz : mg "zip" = none) (mall : mg "all" = none) : FnOk P w K mg base CX0 (k + 1) f fd ["_law_one", "_law_due"] (spSame (n + 1)) := by
  refine F.ok scSm (fun vs H Q E h => ?_) (fun cdv A outer sh H vs Q E hr h => ?_)
  · obtain ⟨v, u, d, rfl, _⟩ := h
    rfl
  · obtain ⟨v, u, d, rfl, rv, ru, sd, q⟩ := h
    refine ⟨_, (pss_cons (ps_if (pt_cmpR op_isN (pv 1) pe_non (nomark _)) (pss_one (ps_ret (pe_cmpR op_isN (pv 0) pe_non (nomark _)))) pss_nil)
      (pss_cons (ps_if (pt_val (pe_callB call_isi (by rfl) mi (by decide +kernel) (pa_cons (pv 1) (pa_cons (pe_bltn (v := .ty "tuple") (by rfl) mtu (by decide +kernel) rfl) pa_nil)))) (pss_one (ps_ret (pe_and (pe_callB call_isi (by rfl) mi (by decide +kernel) (pa_cons (pv 0) (pa_cons (pe_bltn (v := .ty "tuple") (by rfl) mtu (by decide +kernel) rfl) pa_nil))) (pe_and (pe_cmpR op_eq (pe_callB call_len_seq (by rfl) ml PySem.boot_len (pa_cons (pv 0) pa_nil)) (pe_callB call_len_seq (by rfl) ml PySem.boot_len (pa_cons (pv 1) pa_nil)) (nomark _)) (pe_one (pe_callB (cr_all rfl) (by rfl) mall (by decide +kernel) (pa_cons (pe_lc (own := [("_law_mine", 2), ("_law_other", 3)]) (g := gTup K 2 (gCons (gName 2) (gCons (gName 3) gNil))) (tt := tYes) rfl scSm.nd (RZ.pi_zipA (by rfl) mz (pa_cons (pv 0) (pa_cons (pv 1) pa_nil))) (blkOk_by (N := ["_law_one", "_law_due", "_law_mine", "_law_other"]) (sc := defScope sSm) (by decide +kernel)) (fun _ _ _ _ _ => (pg_tup rfl (pgs_cons (pg_name (i := 2) scSm.nd rfl (.inl rfl)) (pgs_cons (pg_name (i := 3) scSm.nd rfl (.inl rfl)) pgs_nil)))) (fun _ _ _ _ _ => pts_nil) (fun _ _ _ _ _ => (pe_call GR hr (by rfl) gr kr br .nil pass0 (pa_cons (pv 2) (pa_cons (pv 3) pa_nil))))) pa_nil))))))) pss_nil)
      (pss_cons (ps_if (pt_val (pe_callB call_isi (by rfl) mi (by decide +kernel) (pa_cons (pv 1) (pa_cons (pe_bltn (v := .ty "str") (by rfl) ms (by decide +kernel) rfl) pa_nil)))) (pss_one (ps_ret (pe_and (pe_callB call_isi (by rfl) mi (by decide +kernel) (pa_cons (pv 0) (pa_cons (pe_bltn (v := .ty "str") (by rfl) ms (by decide +kernel) rfl) pa_nil))) (pe_one (pe_cmpR op_eq (pv 0) (pv 1) (nomark _)))))) pss_nil)
      (pss_one (ps_ret (pe_and (pe_callB call_isi (by rfl) mi (by decide +kernel) (pa_cons (pv 0) (pa_cons (pe_bltn (v := .ty "int") (by rfl) mint (by decide +kernel) rfl) pa_nil))) (pe_and (pe_not (pe_callB call_isi (by rfl) mi (by decide +kernel) (pa_cons (pv 0) (pa_cons (pe_bltn (v := .ty "bool") (by rfl) mbool (by decide +kernel) rfl) pa_nil)))) (pe_one (pe_cmpR op_eq (pv 0) (pv 1) (nomark _)))))))))), ?_⟩
    rcases sd with ⟨z, rfl⟩ | ⟨ds, rfl, lds, sds⟩
    · obtain ⟨rfl, _⟩ := rv.strE
      obtain ⟨rfl, lz⟩ := ru.strE
      refine ⟨_, rfl, rfl, _, rfl, iteF' (decide_eq_false fun z => by cases z) ?_⟩
      refine ⟨_, rfl, _, .ty "tuple", .type "str", .type "tuple", false, rfl, .ty _, .base (.str z), kit_ty (by decide +kernel), false, rfl, iteF ?_⟩
      refine ⟨_, rfl, _, .ty "str", .type "str", .type "str", true, rfl, .ty _, .base (.str z), kit_ty (by decide +kernel), true, rfl, iteT ?_⟩
      refine ⟨_, rfl, _, .ty "str", .type "str", .type "str", true, rfl, .ty _, .base (.str z), kit_ty (by decide +kernel), true, rfl, iteT ?_⟩
      refine ⟨_, rfl, _, rfl, rfl, ?_⟩
      rw [decide_eq_true rfl]
      exact q H Kp.refl
    · obtain ⟨a, vs, rfl, ea, ra⟩ := Rp.tupE rv
      obtain ⟨b, us, rfl, eb, rb⟩ := Rp.tupE ru
      have l1 := ra.len
      have l2 := rb.len
      have line : vs.length < sizeLine := by rw [sizeLine_eq, l1]; exact Nat.lt_of_le_of_lt lds (by decide)
      refine ⟨_, rfl, rfl, _, rfl, iteF' (decide_eq_false fun z => by cases z) ?_⟩
      refine ⟨_, rfl, _, .ty "tuple", .type "tuple", .type "tuple", true, rfl, .ty _, .base (.tup eb), kit_ty (by decide +kernel), true, rfl, iteT ?_⟩
      refine ⟨_, rfl, _, .ty "tuple", .type "tuple", .type "tuple", true, rfl, .ty _, .base (.tup ea), kit_ty (by decide +kernel), true, rfl, iteT ?_⟩
      refine ⟨_, rfl, a, vs, rfl, .inr (SqT.of ea), _, rfl, b, us, rfl, .inr (SqT.of eb), rfl, _, rfl, iteT' (decide_eq_true (by rw [l1, l2])) ?_⟩
      refine ⟨_, rfl, _, rfl, a, b, vs, us, rfl, .inr ⟨SqT.of ea, SqT.of eb, fun D nD => ?_⟩⟩
      refine lc_zipT (xs := vs) (ys := us) (by omega) (fun i H4 => Kp M0 H H4 ∧ H4 D = some (.lst ((List.replicate i true).map V.bl)) ∧ i ≤ vs.length) ?_ ?_ ?_ ?_
      · exact ⟨Kp.new nD, upd_same, Nat.zero_le _⟩
      · exact fun i H4 h => ⟨SqT.of (h.1 _ _ (fun z => z) ea), SqT.of (h.1 _ _ (fun z => z) eb)⟩
      · rintro i x y H4 T hx hy ⟨k4, eD, li⟩ nT
        have hi := (List.getElem?_eq_some_iff.mp hx).1
        obtain ⟨d1, e1, r1⟩ := ra.get i x hx
        obtain ⟨d2, e2, r2⟩ := rb.get i y hy
        rw [e1] at e2
        cases e2
        have k5 : Kp M0 H (upd H4 T (.tup [x, y])) := k4.trans (Kp.new nT)
        have eD5 : upd H4 T (.tup [x, y]) D = some (.lst ((List.replicate i true).map V.bl)) := by rw [upd_ne (ne_of_none eD nT)]; exact eD
        have eT : upd H4 T (.tup [x, y]) T = some (.tup [x, y]) := upd_same
        generalize upd H4 T (.tup [x, y]) = H5 at k5 eD5 eT ⊢
        refine ⟨T, _, rfl, SqT.of eT, rfl, _, _, rfl, _, _, rfl, rfl, rfl, tYes_ok (iteT ⟨_, rfl, _, rfl, x, y, d1, rfl, r1.ts (ts0 k5), r2.ts (ts0 k5), sds d1 (List.mem_of_getElem? e1), fun H6 k6 => ?_⟩)⟩
        refine ⟨_, k6 _ _ (fun z => z) eD5, by rw [List.length_map, List.length_replicate]; omega, (k5.trans k6).own nD, ?_, by omega⟩
        rw [upd_same, List.replicate_succ', List.map_append]
        rfl
      · rintro H4 ⟨k4, eD, _⟩
        refine ⟨D, List.replicate vs.length true, rfl, SqL.of eD, ?_⟩
        rw [show (List.replicate vs.length true).all id = true by simp]
        exact q H4 k4
/-! ### what stands around a name -/
theorem ar_enc (w : Nat) (x : Str) : (ar w x).enc = if w = 0 then .tup [.str "named", .str x] else if w = 1 then .tup [.str "row", .tup [.tup [.str "named", .str x]]] else if w = 2 then .tup [.str "skip", .tup [.str "named", .str x]] else if w = 3 then .tup [.str "row", .tup [.tup [.str "named", .str x], .tup [.str "row", .tup []]]]
    else if w = 4 then .tup [.str "row", .tup [.tup [.str "row", .tup []], .tup [.str "named", .str x]]] else .tup [.str "row", .tup [.tup [.str "skip", .tup [.str "row", .tup []]], .tup [.str "named", .str x]]] := by
  unfold ar
  repeat' split
  all_goals rfl
def spAr : Sp := fun vs H Q _ => ∃ (pd pc : Addr) (x : Str), vs = [.ref pd, .str x] ∧ Pot H pd pc ∧ x.length ≤ 1000 ∧
  ∀ (v : V) (w : Nat) (H' : Hp), w < 6 → Rp H' v (ar w x).enc → Pot H' pd pc → Kp (PM pd) H H' → Q v H'
theorem ok_ar {f fn : Addr} {fd fdn : FuncData} {k : Nat} (F : Fun K "_law_around" "_law_around" sAr f fd) (GN : FnOk P w K mg base CX0 k fn fdn ["_law_draws", "_law_many_here"] spNext) (kn : PySem.W.keepIn K (.ref fn) = true) (bn : Binds K fdn ["_law_draws", "_law_many_here"] []) (gn : mg "_law_next" = some (.ref fn)) :
    FnOk P w K mg base CX0 (k + 1) f fd ["_law_draws", "_law_name"] spAr := by
  refine F.ok scAr (fun vs H Q E h => ?_) (fun cdv A outer sh H vs Q E hr h => ?_)
  · obtain ⟨pd, pc, x, rfl, _⟩ := h
    rfl
  · obtain ⟨pd, pc, x, rfl, hP, lx, q⟩ := h
    refine ⟨_, (pss_cons (ps_set (i := 2) scAr.nd rfl (.inl rfl) (pe_call GN hr (by rfl) gn kn bn .nil pass0 (pa_cons (pv 0) (pa_cons pe_int pa_nil))))
      (pss_cons (ps_set (i := 3) scAr.nd rfl (.inl rfl) (pe_tup (pa_cons pe_str (pa_cons (pv 1) pa_nil))))
      (pss_cons (ps_if (pt_cmpR op_lt (pv 2) pe_int (nomark _)) (pss_one (ps_ret (pe_ix ix_list (pe_lst (pa_cons (pv 3) (pa_cons (pe_tup (pa_cons pe_str (pa_cons (pe_tup (pa_cons (pv 3) pa_nil)) pa_nil))) pa_nil))) (pv 2) (fun _ _ => rfl)))) pss_nil)
      (pss_cons (ps_if (pt_cmpR op_eq (pv 2) pe_int (nomark _)) (pss_one (ps_ret (pe_tup (pa_cons pe_str (pa_cons (pv 3) pa_nil))))) pss_nil)
      (pss_cons (ps_if (pt_cmpR op_eq (pv 2) pe_int (nomark _)) (pss_one (ps_ret (pe_tup (pa_cons pe_str (pa_cons (pe_tup (pa_cons (pv 3) (pa_cons (pe_tup (pa_cons pe_str (pa_cons (pe_tup pa_nil) pa_nil))) pa_nil))) pa_nil))))) pss_nil)
      (pss_one (ps_ret (pe_tup (pa_cons pe_str (pa_cons (pe_ix ix_list (pe_lst (pa_cons (pe_tup (pa_cons (pe_tup (pa_cons pe_str (pa_cons (pe_tup pa_nil) pa_nil))) (pa_cons (pv 3) pa_nil))) (pa_cons (pe_tup (pa_cons (pe_tup (pa_cons pe_str (pa_cons (pe_tup (pa_cons pe_str (pa_cons (pe_tup pa_nil) pa_nil))) pa_nil))) (pa_cons (pv 3) pa_nil))) pa_nil))) (pe_op op_sub (pv 2) pe_int) (fun _ _ => rfl)) pa_nil)))))))))), ?_⟩
    have line : (3000 : Nat) < sizeLine := by rw [sizeLine_eq]; decide
    refine ⟨_, rfl, pd, pc, 6, rfl, hP, by decide, by decide, fun d H1 lt P1 k1 => ?_⟩
    refine ⟨_, rfl, by show 2 ≤ sizeLine; omega, fun p np => ?_⟩
    have P2 := P1.new (o := .tup [.str "named", .str x]) np
    have k2 : Kp (PM pd) H (upd H1 p (.tup [.str "named", .str x])) := k1.trans (Kp.new np)
    have rp : Rp (upd H1 p (.tup [.str "named", .str x])) (.ref p) (.tup [.str "named", .str x]) := .tup upd_same (.cons (.str (by decide)) (.cons (.str (by omega)) .nil))
    generalize upd H1 p (.tup [.str "named", .str x]) = H2 at P2 k2 rp ⊢
    -- one more tuple
    have tup : ∀ {H3 : Hp} {vs : List V} {ds : List D}, Pot H3 pd pc → Kp (PM pd) H H3 → Rps H3 vs ds → ∀ p, H3 p = none → Pot (upd H3 p (.tup vs)) pd pc ∧ Kp (PM pd) H (upd H3 p (.tup vs)) ∧ Rp (upd H3 p (.tup vs)) (.ref p) (.tup ds) ∧ TS H3 (upd H3 p (.tup vs)) :=
      fun a b c p n => ⟨a.new n, b.trans (Kp.new n), .tup upd_same (c.ts (TS.new n)), TS.new n⟩
    have lst : ∀ {H3 : Hp} {vs : List V} , Pot H3 pd pc → Kp (PM pd) H H3 → ∀ p, H3 p = none → Pot (upd H3 p (.lst vs)) pd pc ∧ Kp (PM pd) H (upd H3 p (.lst vs)) ∧ TS H3 (upd H3 p (.lst vs)) :=
      fun a b p n => ⟨a.new n, b.trans (Kp.new n), TS.new n⟩
    have d6 : d < 6 := by omega
    have lt2 : ∀ {c A B : Prop} [Decidable c], c → A → (if c then A else B) := fun h a => by rw [if_pos h]; exact a
    by_cases h2 : d < 2
    · refine ⟨_, rfl, _, _, rfl, rfl, _, rfl, iteT' (decide_eq_true (by omega)) ?_⟩
      refine ⟨_, rfl, _, rfl, by show 1 ≤ sizeLine; omega, fun p1 n1 => ?_⟩
      obtain ⟨P3, k3, r3, t3⟩ := tup P2 k2 (.cons rp .nil) p1 n1
      generalize upd H2 p1 (.tup [.ref p]) = H3 at P3 k3 r3 t3 ⊢
      refine ⟨by show 2 ≤ sizeLine; omega, fun p2 n2 => ?_⟩
      obtain ⟨P4, k4, r4, t4⟩ := tup P3 k3 (.cons (.str (z := "row") (by decide)) (.cons r3 .nil)) p2 n2
      generalize upd H3 p2 (.tup [.str "row", .ref p1]) = H4 at P4 k4 r4 t4 ⊢
      refine ⟨by show 2 ≤ sizeLine; omega, fun l nl => ?_⟩
      obtain ⟨P5, k5, t5⟩ := lst (vs := [.ref p, .ref p2]) P4 k4 l nl
      have el : upd H4 l (.lst [.ref p, .ref p2]) l = some (.lst [.ref p, .ref p2]) := upd_same
      generalize upd H4 l (.lst [.ref p, .ref p2]) = H5 at P5 k5 t5 el ⊢
      refine ⟨_, rfl, l, [.ref p, .ref p2], (d : Int), ?_⟩
      by_cases h0 : d = 0
      · subst h0
        exact ⟨.ref p, rfl, rfl, SqL.of el, atI_nat (j := 0) rfl, q _ 0 H5 (by decide) (rp.ts (t3.trans (t4.trans t5))) P5 k5⟩
      · have h1 : d = 1 := by omega
        subst h1
        exact ⟨.ref p2, rfl, rfl, SqL.of el, atI_nat (j := 1) rfl, q _ 1 H5 (by decide) (r4.ts t5) P5 k5⟩
    refine ⟨_, rfl, _, _, rfl, rfl, _, rfl, iteF' (decide_eq_false (by omega)) ?_⟩
    have dn : ∀ j : Nat, V.int ((d : Nat) : Int) = V.int ((j : Nat) : Int) → d = j := fun j h => Int.ofNat_inj.mp (V.int.inj h)
    by_cases e2 : d = 2
    · subst e2
      refine ⟨_, rfl, rfl, _, rfl, iteT' (decide_eq_true rfl) ?_⟩
      refine ⟨_, rfl, by show 2 ≤ sizeLine; omega, fun p2 n2 => ?_⟩
      obtain ⟨P4, k4, r4, t4⟩ := tup P2 k2 (.cons (.str (z := "skip") (by decide)) (.cons rp .nil)) p2 n2
      exact q _ 2 _ (by decide) r4 P4 k4
    refine ⟨_, rfl, rfl, _, rfl, iteF' (decide_eq_false fun z => e2 (dn 2 z)) ?_⟩
    by_cases e3 : d = 3
    · subst e3
      refine ⟨_, rfl, rfl, _, rfl, iteT' (decide_eq_true rfl) ?_⟩
      refine ⟨_, rfl, by show 0 ≤ sizeLine; omega, fun p1 n1 => ?_⟩
      obtain ⟨P3, k3, r3, t3⟩ := tup P2 k2 .nil p1 n1
      generalize upd H2 p1 (.tup []) = H3 at P3 k3 r3 t3 ⊢
      refine ⟨by show 2 ≤ sizeLine; omega, fun p2 n2 => ?_⟩
      obtain ⟨P4, k4, r4, t4⟩ := tup P3 k3 (.cons (.str (z := "row") (by decide)) (.cons r3 .nil)) p2 n2
      generalize upd H3 p2 (.tup [.str "row", .ref p1]) = H4 at P4 k4 r4 t4 ⊢
      refine ⟨by show 2 ≤ sizeLine; omega, fun p3 n3 => ?_⟩
      obtain ⟨P5, k5, r5, t5⟩ := tup P4 k4 (.cons (rp.ts (t3.trans t4)) (.cons r4 .nil)) p3 n3
      generalize upd H4 p3 (.tup [.ref p, .ref p2]) = H5 at P5 k5 r5 t5 ⊢
      refine ⟨by show 2 ≤ sizeLine; omega, fun p4 n4 => ?_⟩
      obtain ⟨P6, k6, r6, t6⟩ := tup P5 k5 (.cons (.str (z := "row") (by decide)) (.cons r5 .nil)) p4 n4
      exact q _ 3 _ (by decide) r6 P6 k6
    refine ⟨_, rfl, rfl, _, rfl, iteF' (decide_eq_false fun z => e3 (dn 3 z)) ?_⟩
    -- (('row', ()), here)
    refine ⟨by show 0 ≤ sizeLine; omega, fun p1 n1 => ?_⟩
    obtain ⟨P3, k3, r3, t3⟩ := tup P2 k2 .nil p1 n1
    generalize upd H2 p1 (.tup []) = H3 at P3 k3 r3 t3 ⊢
    refine ⟨by show 2 ≤ sizeLine; omega, fun p2 n2 => ?_⟩
    obtain ⟨P4, k4, r4, t4⟩ := tup P3 k3 (.cons (.str (z := "row") (by decide)) (.cons r3 .nil)) p2 n2
    generalize upd H3 p2 (.tup [.str "row", .ref p1]) = H4 at P4 k4 r4 t4 ⊢
    refine ⟨_, rfl, by show 2 ≤ sizeLine; omega, fun p3 n3 => ?_⟩
    obtain ⟨P5, k5, r5, t5⟩ := tup P4 k4 (.cons r4 (.cons (rp.ts (t3.trans t4)) .nil)) p3 n3
    generalize upd H4 p3 (.tup [.ref p2, .ref p]) = H5 at P5 k5 r5 t5 ⊢
    have rp5 := rp.ts (t3.trans (t4.trans t5))
    -- (('skip', ('row', ())), here)
    refine ⟨by show 0 ≤ sizeLine; omega, fun p4 n4 => ?_⟩
    obtain ⟨P6, k6, r6, t6⟩ := tup P5 k5 .nil p4 n4
    generalize upd H5 p4 (.tup []) = H6 at P6 k6 r6 t6 ⊢
    refine ⟨by show 2 ≤ sizeLine; omega, fun p5 n5 => ?_⟩
    obtain ⟨P7, k7, r7, t7⟩ := tup P6 k6 (.cons (.str (z := "row") (by decide)) (.cons r6 .nil)) p5 n5
    generalize upd H6 p5 (.tup [.str "row", .ref p4]) = H7 at P7 k7 r7 t7 ⊢
    refine ⟨by show 2 ≤ sizeLine; omega, fun p6 n6 => ?_⟩
    obtain ⟨P8, k8, r8, t8⟩ := tup P7 k7 (.cons (.str (z := "skip") (by decide)) (.cons r7 .nil)) p6 n6
    generalize upd H7 p6 (.tup [.str "skip", .ref p5]) = H8 at P8 k8 r8 t8 ⊢
    refine ⟨_, rfl, by show 2 ≤ sizeLine; omega, fun p7 n7 => ?_⟩
    obtain ⟨P9, k9, r9, t9⟩ := tup P8 k8 (.cons r8 (.cons (rp5.ts (t6.trans (t7.trans t8))) .nil)) p7 n7
    generalize upd H8 p7 (.tup [.ref p6, .ref p]) = H9 at P9 k9 r9 t9 ⊢
    refine ⟨by show 2 ≤ sizeLine; omega, fun l nl => ?_⟩
    obtain ⟨P10, k10, t10⟩ := lst (vs := [.ref p3, .ref p7]) P9 k9 l nl
    have el : upd H9 l (.lst [.ref p3, .ref p7]) l = some (.lst [.ref p3, .ref p7]) := upd_same
    generalize upd H9 l (.lst [.ref p3, .ref p7]) = H10 at P10 k10 t10 el ⊢
    have r5' := r5.ts (t6.trans (t7.trans (t8.trans (t9.trans t10))))
    have r9' := r9.ts t10
    refine ⟨_, rfl, _, _, rfl, rfl, ?_⟩
    by_cases e4 : d = 4
    · subst e4
      refine ⟨l, _, 0, .ref p3, rfl, rfl, SqL.of el, atI_nat (j := 0) rfl, by show 2 ≤ sizeLine; omega, fun p8 n8 => ?_⟩
      obtain ⟨P11, k11, r11, _⟩ := tup P10 k10 (.cons (.str (z := "row") (by decide)) (.cons r5' .nil)) p8 n8
      exact q _ 4 _ (by decide) r11 P11 k11
    · have e5 : d = 5 := by omega
      subst e5
      refine ⟨l, _, 1, .ref p7, rfl, rfl, SqL.of el, atI_nat (j := 1) rfl, by show 2 ≤ sizeLine; omega, fun p8 n8 => ?_⟩
      obtain ⟨P11, k11, r11, _⟩ := tup P10 k10 (.cons (.str (z := "row") (by decide)) (.cons r9' .nil)) p8 n8
      exact q _ 5 _ (by decide) r11 P11 k11
end
end RT

set_option maxHeartbeats 1000000
namespace RT
open PySem PySem.Spec PyProof.Rows L2
def gabs (d : D) : List Fm → List D
  | [] => []
  | g :: r => if g.word = "skip" then gabs d r else (if g.word = "named" then d else .tup []) :: gabs d r
def gab (f : Fm) (d : D) : D := match f with
  | .skip _ => .tup []
  | .row fs => .tup (gabs d fs)
  | _ => d
theorem gabs_snoc (d : D) (g : Fm) : ∀ fs : List Fm, gabs d (fs ++ [g]) = gabs d fs ++ (if g.word = "skip" then [] else [if g.word = "named" then d else .tup []])
  | [] => by
    show (if g.word = "skip" then gabs d [] else _ :: gabs d []) = [] ++ _
    split <;> rfl
  | f :: r => by
    have ih := gabs_snoc d g r
    show (if f.word = "skip" then gabs d (r ++ [g]) else _ :: gabs d (r ++ [g])) = (if f.word = "skip" then gabs d r else _ :: gabs d r) ++ _
    rw [ih]
    split <;> simp
theorem gab_ar (w : Nat) (x : Str) (d : D) : gab (ar w x) d = abv w d := by
  have a1 : ¬ ("named" : Str) = "skip" := by decide +kernel
  have a2 : ¬ ("row" : Str) = "skip" := by decide +kernel
  have a3 : ¬ ("row" : Str) = "named" := by decide +kernel
  unfold ar abv
  repeat' split
  · rfl
  · simp [gab, gabs, Fm.word, a1]
  · rfl
  · simp [gab, gabs, Fm.word, a1, a2, a3]
  · simp [gab, gabs, Fm.word, a1, a2, a3]
  · simp [gab, gabs, Fm.word, a1, a2, a3]
section
variable {P : Program} {w : World} {K : PySem.W.Frag} {mg : Str → Option Value} {base : Heap}
def spAb : Sp := fun vs H Q _ => ∃ (fv wv : V) (f : Fm) (d : D), vs = [fv, wv] ∧ Rp H fv f.enc ∧ Rp H wv d ∧ (∀ fs, f = .row fs → fs.length ≤ 1000) ∧ ∀ (v : V) (H' : Hp), Rp H' v (gab f d) → Kp M0 H H' → Q v H'
theorem ok_ab {f : Addr} {fd : FuncData} {k : Nat} (F : Fun K "_law_above" "_law_above" sAb f fd) (mtu : mg "tuple" = none) : FnOk P w K mg base CX0 (k + 1) f fd ["_law_form", "_law_worth"] spAb := by
  refine F.ok scAb (fun vs H Q E h => ?_) (fun cdv A outer sh H vs Q E hr h => ?_)
  · obtain ⟨fv, wv, f, d, rfl, _⟩ := h
    rfl
  · obtain ⟨fv, wv, f, d, rfl, rf, rd, few, q⟩ := h
    refine ⟨_, (pss_cons (ps_if (pt_cmpR op_eq (pe_ix ix_tup (pv 0) pe_int (fun _ _ => rfl)) pe_str (nomark _)) (pss_one (ps_ret (pe_tup pa_nil))) pss_nil)
      (pss_cons (ps_if (pt_cmpR op_ne (pe_ix ix_tup (pv 0) pe_int (fun _ _ => rfl)) pe_str (nomark _)) (pss_one (ps_ret (pv 1))) pss_nil)
      (pss_one (ps_ret (pe_callTy call_tuple_of (by rfl) mtu (by decide +kernel) (pa_cons (pe_lc (own := [("_law_part", 2)]) (g := gName 2) rfl scAb.nd (pi_tup (pe_ix ix_tup (pv 0) pe_int (fun _ _ => rfl))) (blkOk_by (N := ["_law_form", "_law_worth", "_law_part"]) (sc := defScope sAb) (by decide +kernel)) (fun _ _ _ _ _ => (pg_name (i := 2) scAb.nd rfl (.inl rfl))) (fun _ _ _ _ _ => (pts_one (pt_cmpR op_ne (pe_ix (show IxR _ (rIxT K) from ix_tup) (pv 2) pe_int (fun _ _ => rfl)) pe_str (nomark _)))) (fun _ _ _ _ _ => (pe_ifExp (pt_cmpR op_eq (pe_ix (show IxR _ (rIxT K) from ix_tup) (pv 2) pe_int (fun _ _ => rfl)) pe_str (nomark _)) (pv 1) (pe_tup pa_nil)))) pa_nil)))))), ?_⟩
    have line : (3000 : Nat) < sizeLine := by rw [sizeLine_eq]; decide
    obtain ⟨gs, eg⟩ := f.enc_word
    have rf2 := rf
    rw [eg] at rf2
    obtain ⟨a, vs, rfl, ea, ra⟩ := Rp.tupE rf2
    obtain ⟨u, us, rfl, ru⟩ : ∃ x y, vs = x :: y ∧ Rp H x (.str f.word) := by
      cases ra with
      | cons x y => exact ⟨_, _, rfl, x⟩
    obtain ⟨rfl, _⟩ := ru.strE
    have w1 : ∀ {x y : Str}, ¬ x = y → decide (V.str x = V.str y) = false := fun h => decide_eq_false fun z => h (V.str.inj z)
    refine ⟨_, rfl, a, _, 0, .str f.word, rfl, rfl, SqT.of ea, atI_nat (j := 0) rfl, rfl, _, rfl, ite2 (fun c => ?_) (fun c => ?_)⟩
    · have e : f.word = "skip" := V.str.inj (of_decide_eq_true c)
      refine ⟨by show 0 ≤ sizeLine; omega, fun p np => q _ _ ?_ (Kp.new np)⟩
      cases f with
      | skip g => exact .tup upd_same .nil
      | _ => exact absurd e (by simp only [Fm.word]; decide +kernel)
    refine ⟨_, rfl, a, _, 0, .str f.word, rfl, rfl, SqT.of ea, atI_nat (j := 0) rfl, rfl, _, rfl, ite2 (fun c2 => ?_) (fun c2 => ?_)⟩
    · refine ⟨_, rfl, q _ _ ?_ Kp.refl⟩
      cases f with
      | skip g => exact absurd (decide_eq_true rfl) c
      | row fs => exact absurd c2 (by simp [Fm.word])
      | _ => exact rd
    · obtain ⟨fs, rfl⟩ : ∃ fs, f = .row fs := by
        cases f with
        | row fs => exact ⟨fs, rfl⟩
        | text z => exact absurd (show (!decide (V.str (Fm.text z).word = V.str "row")) = true by rw [w1 (by simp only [Fm.word]; decide +kernel)]; rfl) c2
        | skip z => exact absurd (decide_eq_true rfl) c
        | either z y => exact absurd (show (!decide (V.str (Fm.either z y).word = V.str "row")) = true by rw [w1 (by simp only [Fm.word]; decide +kernel)]; rfl) c2
        | named z => exact absurd (show (!decide (V.str (Fm.named z).word = V.str "row")) = true by rw [w1 (by simp only [Fm.word]; decide +kernel)]; rfl) c2
      have lfs := few fs rfl
      cases eg
      obtain ⟨v1, v2, ev, _, rv2⟩ := ra.two
      cases ev
      obtain ⟨b, ps, rfl, eb, rb⟩ := Rp.tupE rv2
      have lb := rb.len
      rw [Fm.encs_map, List.length_map] at lb
      refine ⟨_, rfl, a, _, 1, .ref b, rfl, rfl, SqT.of ea, atI_nat (j := 1) rfl, b, rfl, ⟨_, SqT.of eb⟩, fun D nD => ?_⟩
      refine lc_tup (xs := ps) (fun i H4 => Kp M0 H H4 ∧ ∃ os : List V, H4 D = some (.lst os) ∧ os.length ≤ i ∧ Rps H4 os (gabs d (fs.take i))) ?_ ?_ ?_ ?_
      · exact ⟨Kp.new nD, [], upd_same, Nat.le_refl _, by rw [List.take_zero]; exact .nil⟩
      · exact fun i H4 _ h => SqT.of (h.1 _ _ (fun z => z) eb)
      · rintro i x H4 hx ⟨k4, os, eD, lo, ro⟩
        have hi := (List.getElem?_eq_some_iff.mp hx).1
        obtain ⟨dx, edx, rx⟩ := rb.get i x hx
        rw [Fm.encs_map, List.getElem?_map, List.getElem?_eq_getElem (show i < fs.length by omega)] at edx
        cases edx
        generalize hg : fs[i]'(by omega) = g at rx
        have tk : fs.take (i + 1) = fs.take i ++ [g] := by rw [List.take_add_one, List.getElem?_eq_getElem (show i < fs.length by omega), hg]; rfl
        have sn := gabs_snoc d g (fs.take i)
        obtain ⟨gs2, eg2⟩ := g.enc_word
        rw [eg2] at rx
        obtain ⟨pa, pv, rfl, epa, rpa⟩ := Rp.tupE rx
        obtain ⟨u2, us2, rfl, ru2⟩ : ∃ x y, pv = x :: y ∧ Rp H x (.str g.word) := by
          cases rpa with
          | cons x y => exact ⟨_, _, rfl, x⟩
        obtain ⟨rfl, _⟩ := ru2.strE
        have ep := ts0 k4 _ _ epa
        have wr : ∀ (y : V) (e : RT.D) (H5 : Hp), Kp M0 H H5 → H5 D = some (.lst os) → Rps H5 os (gabs d (fs.take i)) → Rp H5 y e → gabs d (fs.take i) ++ [e] = gabs d (fs.take (i + 1)) → Kp M0 H (upd H5 D (.lst (os ++ [y]))) ∧ ∃ os' : List V, upd H5 D (.lst (os ++ [y])) D = some (.lst os') ∧ os'.length ≤ i + 1 ∧ Rps (upd H5 D (.lst (os ++ [y]))) os' (gabs d (fs.take (i + 1))) := fun y e H5 k5 eD5 r5 ry ee => by
          have t6 : TS H5 (upd H5 D (.lst (os ++ [y]))) := TS.put eD5 fun _ z => by cases z
          exact ⟨k5.own nD, _, upd_same, by rw [List.length_append]; show os.length + 1 ≤ _; omega, by rw [← ee]; exact (r5.ts t6).app (.cons (ry.ts t6) .nil)⟩
        refine ⟨rfl, ?_⟩
        refine ⟨_, rfl, pa, _, 0, .str g.word, rfl, rfl, SqT.of ep, atI_nat (j := 0) rfl, rfl, _, rfl, ?_⟩
        by_cases gs : g.word = "skip"
        · refine iteF' (by show (!decide (V.str g.word = V.str "skip")) = false; rw [gs, decide_eq_true rfl]; rfl) ⟨k4, os, eD, by omega, ?_⟩
          rw [tk, sn, if_pos gs, List.append_nil]
          exact ro
        refine iteT' (by show (!decide (V.str g.word = V.str "skip")) = true; rw [w1 gs]; rfl) ?_
        refine ⟨_, rfl, pa, _, 0, .str g.word, rfl, rfl, SqT.of ep, atI_nat (j := 0) rfl, rfl, _, rfl, ?_⟩
        by_cases gn : g.word = "named"
        · refine iteT' (by rw [gn]; exact decide_eq_true rfl) ⟨_, rfl, os, eD, by omega, ?_⟩
          exact wr wv d H4 k4 eD ro (rd.ts (ts0 k4)) (by rw [tk, sn, if_neg gs, if_pos gn])
        · refine iteF' (w1 gn) ⟨by show 0 ≤ sizeLine; omega, fun p np => ?_⟩
          have eD5 : upd H4 p (.tup []) D = some (.lst os) := by rw [upd_ne (ne_of_none eD np)]; exact eD
          have k5 : Kp M0 H4 (upd H4 p (.tup [])) := Kp.new np
          refine ⟨os, eD5, by omega, wr (.ref p) (.tup []) _ (k4.trans k5) eD5 (ro.ts (ts0 k5)) (.tup upd_same .nil) (by rw [tk, sn, if_neg gs, if_neg gn])⟩
      · rintro H4 ⟨k4, os, eD, lo, ro⟩
        rw [lb, List.take_length] at ro
        refine ⟨D, os, rfl, .inl ⟨SqL.of eD, fun l nl => ?_⟩⟩
        exact q _ _ (.tup upd_same (ro.ts (TS.new nl))) (k4.trans (Kp.new nl))
end
end RT

/-! t * k for any k from 0 -/
namespace RT
open PySem PySem.Spec PyProof.Rows L2
theorem tup_times0 (l : Addr) (its : Array Value) (n : Nat) (dd : Option Addr) (sl : Array (Option Value)) (u : Tok) (hi : its.isEmpty = false) :
    Meets (Builtin.«tuple.__mul__» ⟨[.ref l, .int 0 u], []⟩) (fun _ R s => s.heap.get? l = some { cls := .type "tuple", dict := dd, data := .seq its n, slots := sl } ∧
      R (.ok (.ret (Value.ref s.heap.objs.size))) { s with heap := s.heap.push { cls := Value.type "tuple", data := Data.seq #[] }, toks := s.toks }) :=
  .of_wp fun prog w A R s h => by
    obtain ⟨hp, g, d, tk, os⟩ := s
    obtain ⟨ho, h⟩ := h
    have f1 := AutoSeq1.idx_int
    wp_walk using wpAny_loadPart' ho
    exact ⟨_, rfl, h⟩
theorem tup_times1 (l : Addr) (its : Array Value) (n : Nat) (dd : Option Addr) (sl : Array (Option Value)) (u : Tok) :
    Meets (Builtin.«tuple.__mul__» ⟨[.ref l, .int 1 u], []⟩) (fun _ R s => s.heap.get? l = some { cls := .type "tuple", dict := dd, data := .seq its n, slots := sl } ∧ R (.ok (.ret (Value.ref l))) s) :=
  .of_wp fun prog w A R s h => by
    obtain ⟨hp, g, d, tk, os⟩ := s
    obtain ⟨ho, h⟩ := h
    have f1 := AutoSeq1.idx_int
    wp_walk using wpAny_loadPart' ho
    exact ⟨_, rfl, h⟩
section
variable {X : Cx}
def rTimes : R2 := fun x y H Q => ∃ (l : Addr) (k : Int) (xs : List V), x = .ref l ∧ y = .int k ∧ H l = some (.tup xs) ∧ xs ≠ [] ∧ 0 ≤ k ∧ k ≤ 1000 ∧ xs.length ≤ 1000 ∧
  ∀ (a : Addr) (H' : Hp), H' a = some (.tup (List.replicate k.toNat xs).flatten) → Kp M0 H H' → Q (.ref a) H'
theorem op_times : OpR X (binaryOp .Mult) rTimes := by
  intro pins s σ H x y v u Q I rx ry h
  obtain ⟨l, k, xs, rfl, rfl, hT, hne, h1, h2, hz, q⟩ := h
  by_cases big : 2 ≤ k
  · exact op_repT pins s σ H _ _ v u Q I rx ry ⟨l, k, xs, rfl, rfl, SqT.of hT, hne, big, h2, hz, fun p np => q p _ upd_same (Kp.new np)⟩
  cases rx
  obtain ⟨t, rfl⟩ := ry
  obtain ⟨its, r, ⟨⟨cls, dd, data, sl⟩, ho, hc, n, hd⟩, hs⟩ := I.tuple (SqT.of hT)
  cases hc
  cases hd
  have hi : its.toArray.isEmpty = false := by
    cases its with
    | nil =>
      cases xs with
      | nil => exact absurd rfl hne
      | cons a b => cases r
    | cons a b => rfl
  have tail : ∀ (W : Value → Shared → Prop) (E : Value → Shared → Prop), (wpAny (model X.prog X.w) X.A (call (.builtin "tuple.__mul__") [.ref l, .int k t]) W E s) → wpAny (model X.prog X.w) X.A (binaryOp .Mult (.ref l) (.int k t)) W E s := fun W E z =>
    wpAny_binaryOp_repeat_ref (T := "tuple") (U := "int") (by decide) ⟨_, ho, rfl⟩ (fun s' => typeIs_int s' k t) noFill_tuple_mul PySem.F.fills_int_mul PySem.F.slot_int_rmul repeat_tuple PySem.F.slot_int_index.lookup
      (call_meets PySem.F.slot_int_rmul (typeIs_int s k t) PySem.F.entry_int_rmul (PySem.F.args_int_rmul_2 _ _) (int_rmul_tuple k t l its.toArray n dd sl) ⟨ho, rfl, ⟨_, ho, rfl⟩, z⟩)
  refine tail _ _ ?_
  rcases (show k = 0 ∨ k = 1 by omega) with rfl | rfl
  · refine call_meets PySem.F.slot_tuple_mul ⟨_, ho, rfl⟩ PySem.F.entry_tuple_mul (PySem.F.args_tuple_mul_2 _ _) (tup_times0 l its.toArray n dd sl t hi) ⟨ho, ?_⟩
    exact ⟨.ref s.heap.objs.size, _, I.laid (t' := s.toks) (o := .tup []) (fun b ob e => Heap.get?_push_of_some _ e) (Nat.le_refl _) ⟨Nat.zero_le _, [], .nil, IsTup.new _ _⟩, rfl, q _ _ upd_same (Kp.new (I.hok.fresh (Nat.le_refl _)))⟩
  · refine call_meets PySem.F.slot_tuple_mul ⟨_, ho, rfl⟩ PySem.F.entry_tuple_mul (PySem.F.args_tuple_mul_2 _ _) (tup_times1 l its.toArray n dd sl t) ⟨ho, ?_⟩
    refine ⟨.ref l, H, I, rfl, q l H ?_ Kp.refl⟩
    show H l = some (.tup (List.replicate 1 xs).flatten)
    rw [hT]
    simp
end
end RT

set_option maxHeartbeats 1000000
namespace RT
open PySem PySem.Spec PyProof.Rows L2
abbrev sLaw : Stmt := topS 49
theorem scLaw : FnScope ["_law_script", "_law_draws", "_law_turn", "_law_many_here", "_law_names", "_law_k", "_law_rows", "_law_text", "_law_way", "_law_told", "_law_worth", "_law_times", "_law_book"] ["_law_script"] (defScope sLaw) := ⟨rfl, rfl, rfl, by decide +kernel, rfl, by decide +kernel, by decide +kernel⟩
theorem ar_few (w : Nat) (x : Str) : ∀ fs, ar w x = .row fs → fs.length ≤ 1000 := fun fs h => by
  unfold ar at h
  repeat' split at h
  all_goals first | (cases h; simp) | cases h
section
variable {P : Program} {w : World} {K : PySem.W.Frag} {mg : Str → Option Value} {base : Heap}
def spRd : Sp := fun vs H Q _ => ∃ (rl : Addr) (ps : List V) (bs : List (Str × Fm)) (m : Nat) (wf : Nat → Nat) (wv : V) (d : D), vs = [.ref rl, wv] ∧ H rl = some (.lst ps) ∧ Rps H ps (bs.map rowD) ∧ bs.length = m ∧ 1 ≤ m ∧ m ≤ 12 ∧ (∀ k, 1 ≤ k → k < m → ∃ x y, bs[k]? = some (x, ar (wf k) y)) ∧ Rp H wv d ∧
  ∀ (v : V) (H' : Hp), Rp H' v (rnd wf m d) → Kp M0 H H' → Q v H'
theorem ok_rd {f fa : Addr} {fd fda : FuncData} {k : Nat} (F : Fun K "_law_round" "_law_round" sRd f fd) (GA : FnOk P w K mg base CX0 k fa fda ["_law_form", "_law_worth"] spAb) (ka : PySem.W.keepIn K (.ref fa) = true) (ba : Binds K fda ["_law_form", "_law_worth"] []) (ga : mg "_law_above" = some (.ref fa)) (mrv : mg "reversed" = none) :
    FnOk P w K mg base CX0 (k + 1) f fd ["_law_rows", "_law_worth"] spRd := by
  refine F.ok scRd (fun vs H Q E h => ?_) (fun cdv A outer sh H vs Q E hr h => ?_)
  · obtain ⟨rl, ps, bs, m, wf, wv, d, rfl, _⟩ := h
    rfl
  · obtain ⟨rl, ps, bs, m, wf, wv, d, rfl, er, rr, lb, hm, hm12, row, rd, q⟩ := h
    refine ⟨_, (pss_cons (ps_for PassesOwn.never rfl (pi_reversed (by rfl) mrv (pa_cons (pe_slice sl_list (pv 0) (po_some pe_int) po_none) pa_nil)) (pg_tup rfl (pgs_cons (pg_name (i := 2) scRd.nd rfl (.inl rfl)) (pgs_cons (pg_name (i := 3) scRd.nd rfl (.inl rfl)) pgs_nil))) (pss_one (ps_set (i := 1) scRd.nd rfl (.inl rfl) (pe_call GA hr (by rfl) ga ka ba .nil pass0 (pa_cons (pv 3) (pa_cons (pv 1) pa_nil))))))
      (pss_one (ps_ret (pe_tup (pa_cons pe_str (pa_cons (pv 1) pa_nil)))))), ?_⟩
    have line : (3000 : Nat) < sizeLine := by rw [sizeLine_eq]; decide
    have lp := rr.len
    rw [List.length_map, lb] at lp
    refine ⟨_, rfl, _, rfl, rl, ps, rfl, SqL.of er, fun l nl => ?_⟩
    have ec : cutV ps (some 1) none = ps.drop 1 := cut_from ps 1 (by omega)
    rw [ec]
    have k1 : Kp M0 H (upd H l (.lst (ps.drop 1))) := Kp.new nl
    have el : upd H l (.lst (ps.drop 1)) l = some (.lst (ps.drop 1)) := upd_same
    generalize upd H l (.lst (ps.drop 1)) = H1 at k1 el ⊢
    refine ⟨l, ps.drop 1, rfl, SqL.of el, ?_⟩
    have ld : (ps.drop 1).length = m - 1 := by rw [List.length_drop, lp]
    refine for_Itv (xs := ps.drop 1) (fun i σ H2 => ∃ (v : V) (y2 y3 : Option V), σ = [some (.ref rl), some v, y2, y3] ∧ Rp H2 v (abvs wf (m - i) i d) ∧ Kp M0 H1 H2 ∧ i ≤ m - 1) ?_ ?_ ?_ ?_
    · exact ⟨wv, _, _, rfl, rd.ts (ts0 k1), Kp.refl, Nat.zero_le _⟩
    · rintro i σ H2 ⟨v, y2, y3, rfl, _, k2, _⟩
      exact SqL.of (k2 _ _ (fun z => z) el)
    · rintro i x σ H2 hi hx ⟨v, y2, y3, rfl, rv, k2, li⟩
      rw [ld] at hi hx
      rw [List.getElem?_drop] at hx
      have ej : 1 + (m - 1 - 1 - i) = m - 1 - i := by omega
      rw [ej] at hx
      obtain ⟨dx, edx, rx⟩ := rr.get _ x hx
      obtain ⟨x0, y0, eb⟩ := row (m - 1 - i) (by omega) (by omega)
      rw [List.getElem?_map, eb] at edx
      cases edx
      obtain ⟨p, us, rfl, ep, rp⟩ := Rp.tupE rx
      obtain ⟨u1, u2, rfl, r1, r2⟩ := rp.two
      have t12 := ts0 (k1.trans k2)
      refine ⟨p, _, rfl, SqT.of (t12 _ _ ep), rfl, _, _, rfl, _, _, rfl, rfl, ?_⟩
      refine ⟨_, rfl, _, rfl, u2, v, _, _, rfl, r2.ts t12, rv, ar_few _ _, fun v3 H3 r3 k3 => ?_⟩
      refine ⟨v3, _, _, rfl, ?_, k2.trans k3, by omega⟩
      rw [gab_ar] at r3
      have e1 : m - i = m - (i + 1) + 1 := by omega
      rw [e1] at r3
      have e2 : m - 1 - i = m - (i + 1) := by omega
      rw [e2] at r3
      exact r3
    · rintro σ H2 ⟨v, y2, y3, rfl, rv, k2, li⟩
      rw [ld] at rv
      have e1 : m - (m - 1) = 1 := by omega
      rw [e1] at rv
      refine ⟨_, rfl, by show 2 ≤ sizeLine; omega, fun p np => ?_⟩
      exact q _ _ (.tup upd_same (.cons (.str (by decide)) (.cons (rv.ts (TS.new np)) .nil))) ((k1.trans k2).trans (Kp.new np))
end
end RT

namespace RT
open PySem PySem.Spec PyProof.Rows L2
theorem slA {K : PySem.W.Frag} {H : Hp} {a : Addr} {xs : List V} {lo hi : Option Int} {Q : VK} (e : H a = some (.tup xs)) (h : ∀ b H', H' b = some (.tup (cutV xs lo hi)) → Kp M0 H H' → Q (.ref b) H') : rSlA K (.ref a) lo hi H Q := by
  refine ⟨a, xs, rfl, SqT.of e, fun z => h a H ?_ Kp.refl, fun _ p np => h p _ upd_same (Kp.new np)⟩
  unfold cutV
  rw [z.1, z.2, Nat.sub_zero, List.drop_zero, List.take_length]
  exact e
theorem ctA {K : PySem.W.Frag} {H : Hp} {a b : Addr} {xs ys : List V} {Q : VK} (e : H a = some (.tup xs)) (e2 : H b = some (.tup ys)) (hl : xs.length + ys.length ≤ sizeLine) (h : ∀ c H', H' c = some (.tup (xs ++ ys)) → Kp M0 H H' → Q (.ref c) H') : rCatA K (.ref a) (.ref b) H Q := by
  refine ⟨a, b, xs, ys, rfl, rfl, SqT.of e, SqT.of e2, hl, fun z => h b H ?_ Kp.refl, fun _ z => h a H ?_ Kp.refl, fun _ _ p np => h p _ upd_same (Kp.new np)⟩
  · rw [z, List.nil_append]
    exact e2
  · rw [z, List.append_nil]
    exact e
theorem cut_last (xs : List V) (y : V) : cutV (xs ++ [y]) none (some (-1)) = xs := by
  unfold cutV
  rw [HT.sIx_none]
  have e : HT.sIx (xs ++ [y]).length (xs ++ [y]).length (some (-1)) = xs.length := by
    unfold HT.sIx
    simp
    omega
  rw [e, List.drop_zero, Nat.sub_zero, List.take_left']
  rfl
theorem flat_rep (x : V) : ∀ n : Nat, (List.replicate n [x]).flatten = List.replicate n x
  | 0 => rfl
  | n + 1 => by
    rw [List.replicate_succ, List.flatten_cons, flat_rep x n]
    rfl
theorem rps_rep {H : Hp} {v : V} {d : D} (r : Rp H v d) : ∀ n : Nat, Rps H (List.replicate n v) (List.replicate n d)
  | 0 => .nil
  | n + 1 => .cons r (rps_rep r n)
def wyT (N : Nat) : List (Nat × Nat) := List.replicate N (0, 0)
theorem wyT_at {N t : Nat} (h : t < N) : (wyT N)[t]? = some (0, 0) := by
  unfold wyT
  rw [List.getElem?_replicate, if_pos h]
theorem wyF_at {N t : Nat} (h : t < N) : (wyT N ++ [(0, 1)])[t]? = some (0, 0) := by
  rw [List.getElem?_append_left (by rw [wyT, List.length_replicate]; exact h)]
  exact wyT_at h
theorem wyF_end (N : Nat) : (wyT N ++ [(0, 1)])[N]? = some (0, 1) := by
  rw [List.getElem?_append_right (by rw [wyT, List.length_replicate]; exact Nat.le_refl _), wyT, List.length_replicate, Nat.sub_self]
  rfl
/-! depths -/
theorem SD.up : ∀ {n : Nat} {d : D}, SD n d → SD (n + 1) d
  | 0, _, h => h.elim
  | n + 1, d, h => by
    rcases h with h | ⟨ds, e, l, hd⟩
    · exact .inl h
    · exact .inr ⟨ds, e, l, fun x hx => (hd x hx).up⟩
theorem SD.le {n m : Nat} {d : D} (h : SD n d) (l : n ≤ m) : SD m d := by
  obtain ⟨j, rfl⟩ : ∃ j, m = n + j := ⟨m - n, by omega⟩
  clear l
  induction j with
  | zero => exact h
  | succ j ih => exact ih.up
theorem sd_abv {n w : Nat} {d : D} (h : SD (n + 1) d) : SD (n + 2) (abv w d) := by
  have e : SD (n + 1) (.tup []) := .inr ⟨[], rfl, Nat.zero_le _, fun _ z => (nomatch z)⟩
  have one : ∀ ds : List D, ds.length ≤ 1000 → (∀ x ∈ ds, SD (n + 1) x) → SD (n + 2) (.tup ds) := fun ds l hd => .inr ⟨ds, rfl, l, hd⟩
  unfold abv
  repeat' split
  · exact h.up
  · exact one _ (by show 1 ≤ 1000; decide) fun x hx => by rw [List.mem_singleton.mp hx]; exact h
  · exact e.up
  · refine one _ (by show 2 ≤ 1000; decide) fun x hx => ?_
    simp only [List.mem_cons, List.not_mem_nil, or_false] at hx
    rcases hx with rfl | rfl
    · exact h
    · exact e
  · refine one _ (by show 2 ≤ 1000; decide) fun x hx => ?_
    simp only [List.mem_cons, List.not_mem_nil, or_false] at hx
    rcases hx with rfl | rfl
    · exact e
    · exact h
  · exact one _ (by show 1 ≤ 1000; decide) fun x hx => by rw [List.mem_singleton.mp hx]; exact h
theorem sd_abvs (wf : Nat → Nat) : ∀ (j k n : Nat) (d : D), SD (n + 1) d → SD (n + 1 + j) (abvs wf k j d)
  | 0, _, _, _, h => h
  | j + 1, k, n, d, h => by
    have z := sd_abvs wf j (k + 1) n d h
    have z2 : SD (n + j + 1) (abvs wf (k + 1) j d) := z.le (by omega)
    exact (sd_abv (w := wf k) z2).le (by omega)
theorem sd_wth {wf : Nat → Nat} {m : Nat} (hm : 1 ≤ m) : ∀ r : Nat, SD (r * m + 2) (wth wf m r)
  | 0 => .inr ⟨[.str "b"], rfl, by decide, fun x hx => by rw [List.mem_singleton.mp hx]; exact .inl ⟨_, rfl⟩⟩
  | r + 1 => by
    have z := sd_abvs wf (m - 1) 1 (r * m + 1) (wth wf m r) (sd_wth hm r)
    have e : (r + 1) * m = r * m + m := Nat.succ_mul r m
    have l2 : SD (r * m + m + 1) (abvs wf 1 (m - 1) (wth wf m r)) := z.le (by omega)
    have g : SD (r * m + m + 2) (rnd wf m (wth wf m r)) := by
      refine .inr ⟨_, rfl, by show 2 ≤ 1000; decide, fun x hx => ?_⟩
      simp only [List.mem_cons, List.not_mem_nil, or_false] at hx
      rcases hx with rfl | rfl
      · exact .inl ⟨_, rfl⟩
      · exact l2
    exact g.le (by omega)
end RT

set_option maxHeartbeats 0
/-! the law -/
namespace RT
open PySem PySem.Spec PyProof.Rows L2
theorem letters : ∀ j, j < 12 → ("abcdefghijkl" : Str).cps.toList[j]? = some (97 + j) := by decide +kernel
def bsOf (m : Nat) (wf : Nat → Nat) (i : Nat) : List (Str × Fm) := (List.range i).map fun k => (nm k, ar (wf k) (nm ((k + 1) % m)))
theorem bsOf_len (m : Nat) (wf : Nat → Nat) (i : Nat) : (bsOf m wf i).length = i := by simp [bsOf]
theorem bsOf_snoc (m : Nat) (wf : Nat → Nat) (i w : Nat) : ∃ wf' : Nat → Nat, bsOf m wf' (i + 1) = bsOf m wf i ++ [(nm i, ar w (nm ((i + 1) % m)))] := by
  refine ⟨fun k => if k = i then w else wf k, ?_⟩
  unfold bsOf
  rw [List.range_succ, List.map_append]
  congr 1
  · refine List.map_congr_left fun k hk => ?_
    have : ¬ k = i := by have := List.mem_range.mp hk; omega
    simp [this]
  · simp
theorem bsOf_at {m : Nat} {wf : Nat → Nat} {i k : Nat} (h : k < i) : (bsOf m wf i)[k]? = some (nm k, ar (wf k) (nm ((k + 1) % m))) := by
  unfold bsOf
  rw [List.getElem?_map, List.getElem?_range h]
  rfl
theorem bsOf_nd (m : Nat) (wf : Nat → Nat) (i : Nat) : ((bsOf m wf i).map (·.1)).Nodup := by
  unfold bsOf
  rw [List.map_map]
  show ((List.range i).map nm).Nodup
  rw [List.nodup_iff_pairwise_ne, List.pairwise_map]
  exact (List.nodup_iff_pairwise_ne.mp List.nodup_range).imp fun h e => h (nm_inj e)
def itemD (q : Str × List (Nat × Nat)) : D := .tup [.str q.1, .tup (q.2.map wyD)]
def tries : List (Str × List (Nat × Nat)) := [("", []), ("z", []), ("", [(0, 0)]), ("z", [(0, 1), (0, 0)])]
section
variable {P : Program} {w : World} {K : PySem.W.Frag} {mg : Str → Option Value} {base : Heap}
theorem pts {H H' : Hp} {pd pc : Addr} (P : Pot H pd pc) (k : Kp (PM pd) H H') : TS H H' := fun b vs e => k b _ (P.ne e fun _ z => by cases z) e
/-- what stands while a turn of the law runs -/
structure Ctx (H : Hp) (pd pc nl rl : Addr) (m : Nat) (ps : List V) (bs : List (Str × Fm)) : Prop where
  pot : Pot H pd pc
  eN : H nl = some (.lst ((List.range m).map fun j => V.str (nm j)))
  eR : H rl = some (.lst ps)
  rR : Rps H ps (bs.map rowD)
  ne : nl ≠ rl
  np : pc ≠ rl
theorem Ctx.kp0 {H H' : Hp} {pd pc nl rl : Addr} {m : Nat} {ps : List V} {bs : List (Str × Fm)} (c : Ctx H pd pc nl rl m ps bs) (k : Kp M0 H H') : Ctx H' pd pc nl rl m ps bs :=
  ⟨c.pot.keep k (fun z => z) (fun z => z), k _ _ (fun z => z) c.eN, k _ _ (fun z => z) c.eR, c.rR.ts (ts0 k), c.ne, c.np⟩
theorem Ctx.kpd {H H' : Hp} {pd pc nl rl : Addr} {m : Nat} {ps : List V} {bs : List (Str × Fm)} (c : Ctx H pd pc nl rl m ps bs) (k : Kp (PM pd) H H') (P' : Pot H' pd pc) : Ctx H' pd pc nl rl m ps bs :=
  ⟨P', k _ _ (c.pot.ne c.eN fun _ z => by cases z) c.eN, k _ _ (c.pot.ne c.eR fun _ z => by cases z) c.eR, c.rR.ts (pts c.pot k), c.ne, c.np⟩
theorem Ctx.new {H : Hp} {pd pc nl rl : Addr} {m : Nat} {ps : List V} {bs : List (Str × Fm)} (c : Ctx H pd pc nl rl m ps bs) {p : Addr} {o : HO} (n : H p = none) : Ctx (upd H p o) pd pc nl rl m ps bs := c.kp0 (Kp.new n)
theorem Ctx.put {H : Hp} {pd pc nl rl : Addr} {m : Nat} {ps ps' : List V} {bs bs' : List (Str × Fm)} (c : Ctx H pd pc nl rl m ps bs) (r : Rps H ps' (bs'.map rowD)) : Ctx (upd H rl (.lst ps')) pd pc nl rl m ps' bs' ∧ TS H (upd H rl (.lst ps')) := by
  have t : TS H (upd H rl (.lst ps')) := TS.put c.eR fun _ z => by cases z
  exact ⟨⟨c.pot.keep (M := fun b => b = rl) (Kp.put rfl) (fun z => c.pot.ne c.eR (fun _ z => by cases z) z.symm) (fun z => c.np z), by rw [upd_ne c.ne]; exact c.eN, upd_same, r.ts t, c.ne, c.np⟩, t⟩
/-- one more tuple -/
theorem Ctx.tup {H : Hp} {pd pc nl rl : Addr} {m : Nat} {ps : List V} {bs : List (Str × Fm)} (c : Ctx H pd pc nl rl m ps bs) {vs : List V} {ds : List D} (r : Rps H vs ds) {p : Addr} (n : H p = none) : Ctx (upd H p (.tup vs)) pd pc nl rl m ps bs ∧ Rp (upd H p (.tup vs)) (.ref p) (.tup ds) ∧ TS H (upd H p (.tup vs)) :=
  ⟨c.new n, .tup upd_same (r.ts (TS.new n)), TS.new n⟩
theorem nm_at {m j : Nat} (h : j < m) : ((List.range m).map fun j => V.str (nm j))[j]? = some (.str (nm j)) := by rw [List.getElem?_map, List.getElem?_range h]; rfl
theorem nm_len (j : Nat) : (nm j).length = 1 := rfl
def spLaw (K : PySem.W.Frag) : Sp := fun vs H Q _ => ∃ (a : Addr) (ns : List Int), vs = [.ref a] ∧ SqL K H a (ns.map V.int) ∧ ∀ H', Q (.bl true) H'
theorem ok_law {f fbe fm fn fa fwd fs fr : Addr} {fd fdbe fdm fdn fda fdwd fds fdr : FuncData} {k : Nat} (F : Fun K "law" "law" sLaw f fd)
    (GBe : FnOk P w K mg base CX0 k fbe fdbe ["_law_script"] (spBegin K)) (kbe : PySem.W.keepIn K (.ref fbe) = true) (bbe : Binds K fdbe ["_law_script"] []) (gbe : mg "_law_begin" = some (.ref fbe))
    (GM : FnOk P w K mg base CX0 k fm fdm ["_law_draws", "_law_few", "_law_most"] spMany) (km : PySem.W.keepIn K (.ref fm) = true) (bm : Binds K fdm ["_law_draws", "_law_few", "_law_most"] []) (gm : mg "_law_many" = some (.ref fm))
    (GN : FnOk P w K mg base CX0 k fn fdn ["_law_draws", "_law_many_here"] spNext) (kn : PySem.W.keepIn K (.ref fn) = true) (bn : Binds K fdn ["_law_draws", "_law_many_here"] []) (gn : mg "_law_next" = some (.ref fn))
    (GA : FnOk P w K mg base CX0 k fa fda ["_law_draws", "_law_name"] spAr) (ka : PySem.W.keepIn K (.ref fa) = true) (ba : Binds K fda ["_law_draws", "_law_name"] []) (ga : mg "_law_around" = some (.ref fa))
    (GWd : FnOk P w K mg base CX0 k fwd fdwd ["book", "text", "way"] spWd) (kwd : PySem.W.keepIn K (.ref fwd) = true) (bwd : Binds K fdwd ["book", "text", "way"] []) (gwd : mg "walked" = some (.ref fwd))
    (GS : FnOk P w K mg base CX0 k fs fds ["_law_one", "_law_due"] (spSame 21)) (ks : PySem.W.keepIn K (.ref fs) = true) (bs : Binds K fds ["_law_one", "_law_due"] []) (gs : mg "_law_same" = some (.ref fs))
    (GR : FnOk P w K mg base CX0 k fr fdr ["_law_rows", "_law_worth"] spRd) (kr : PySem.W.keepIn K (.ref fr) = true) (br : Binds K fdr ["_law_rows", "_law_worth"] []) (gr : mg "_law_round" = some (.ref fr))
    (mr : mg "range" = none) (mtu : mg "tuple" = none) (mmin : mg "min" = none) : FnOk P w K mg base CX0 (k + 1) f fd ["_law_script"] (spLaw K) := by
  refine F.ok scLaw (fun vs H Q E h => ?_) (fun cdv A outer sh H vs Q E hr h => ?_)
  · obtain ⟨a, ns, rfl, _⟩ := h
    rfl
  · obtain ⟨a, ns, rfl, hS, q⟩ := h
    refine ⟨_, (pss_cons (ps_set (i := 1) scLaw.nd rfl (.inr rfl) (pe_call GBe hr (by rfl) gbe kbe bbe .nil pass0 (pa_cons (pv 0) pa_nil)))
      (pss_cons (ps_for PassesOwn.never rfl (pi_range1 (by rfl) mr (pa_cons pe_int pa_nil)) (pg_name (i := 2) scLaw.nd rfl (.inl rfl)) (pss_cons (ps_set (i := 3) scLaw.nd rfl (.inr rfl) (pe_op op_add pe_int (pe_call GM hr (by rfl) gm km bm .nil pass0 (pa_cons (pv 1) (pa_cons pe_int (pa_cons pe_int pa_nil))))))
      (pss_cons (ps_set (i := 4) scLaw.nd rfl (.inr rfl) (pe_lc (own := [("_law_k", 5)]) (g := gName 5) (tt := tYes) rfl scLaw.nd (pi_range1 (by rfl) mr (pa_cons (pv 3) pa_nil)) (blkOk_by (N := ["_law_script", "_law_draws", "_law_turn", "_law_many_here", "_law_names", "_law_k", "_law_rows", "_law_text", "_law_way", "_law_told", "_law_worth", "_law_times", "_law_book"]) (sc := defScope sLaw) (by decide +kernel)) (fun _ _ _ _ _ => (pg_name (i := 5) scLaw.nd rfl (.inl rfl))) (fun _ _ _ _ _ => pts_nil) (fun _ _ _ _ _ => (pe_ix ix_str pe_str (pv 5) (fun _ _ => rfl)))))
      (pss_cons (ps_setLc (i := 6) (own := [("_law_k", 5)]) (g := gName 5) (tt := tYes) rfl scLaw.nd rfl rfl rfl (pi_range1 (by rfl) mr (pa_cons (pv 3) pa_nil)) (blkOk_by (N := ["_law_script", "_law_draws", "_law_turn", "_law_many_here", "_law_names", "_law_k", "_law_rows", "_law_text", "_law_way", "_law_told", "_law_worth", "_law_times", "_law_book"]) (sc := defScope sLaw) (by decide +kernel)) (fun _ _ _ _ _ => (pg_name (i := 5) scLaw.nd rfl (.inl rfl))) (fun _ _ _ _ _ => pts_nil) (fun _ _ _ _ _ => (pe_tup (pa_cons (pe_ix (show IxR _ (rIxL K) from ix_list) (pv 4) (pv 5) (fun _ _ => rfl)) (pa_cons (pe_call GA hr (by rfl) ga ka ba .nil pass0 (pa_cons (pv 1) (pa_cons (pe_ix (show IxR _ (rIxL K) from ix_list) (pv 4) (pe_op op_mod (pe_op op_add (pv 5) pe_int) (pv 3)) (fun _ _ => rfl)) pa_nil))) pa_nil)))))
      (pss_cons (ps_for PassesOwn.never rfl (pi_list (pe_lst (pa_cons (pe_tup (pa_cons pe_str (pa_cons (pe_tup pa_nil) pa_nil))) (pa_cons (pe_tup (pa_cons pe_str (pa_cons (pe_tup pa_nil) pa_nil))) (pa_cons (pe_tup (pa_cons pe_str (pa_cons (pe_tup (pa_cons (pe_tup (pa_cons pe_int (pa_cons pe_int pa_nil))) pa_nil)) pa_nil))) (pa_cons (pe_tup (pa_cons pe_str (pa_cons (pe_tup (pa_cons (pe_tup (pa_cons pe_int (pa_cons pe_int pa_nil))) (pa_cons (pe_tup (pa_cons pe_int (pa_cons pe_int pa_nil))) pa_nil))) pa_nil))) pa_nil)))))) (pg_tup rfl (pgs_cons (pg_name (i := 7) scLaw.nd rfl (.inl rfl)) (pgs_cons (pg_name (i := 8) scLaw.nd rfl (.inl rfl)) pgs_nil))) (pss_one (ps_if (pt_cmpR op_notN (pe_call GWd hr (by rfl) gwd kwd bwd .nil pass0 (pa_cons (pe_tup (pa_cons pe_str (pa_cons (pe_callTy call_tuple_of (by rfl) mtu (by decide +kernel) (pa_cons (pv 6) pa_nil)) pa_nil))) (pa_cons (pv 7) (pa_cons (pv 8) pa_nil)))) pe_non (nomark _)) (pss_one (ps_ret pe_bl)) pss_nil)))
      (pss_cons (ps_set (i := 9) scLaw.nd rfl (.inl rfl) (pe_ix (show IxR _ (rIxL K) from ix_list) (pe_lst (pa_cons pe_str (pa_cons pe_str (pa_cons pe_str pa_nil)))) (pe_call GN hr (by rfl) gn kn bn .nil pass0 (pa_cons (pv 1) (pa_cons pe_int pa_nil))) (fun _ _ => rfl)))
      (pss_cons (ps_asg (pe_tup (pa_cons pe_str (pa_cons (pe_tup (pa_cons pe_str (pa_cons (pe_tup (pa_cons (pe_tup (pa_cons pe_str (pa_cons (pe_tup (pa_cons pe_str (pa_cons (pe_ix (show IxR _ (rIxL K) from ix_list) (pv 4) (pe_op op_mod pe_int (pv 3)) (fun _ _ => rfl)) pa_nil))) pa_nil))) (pa_cons (pe_tup (pa_cons pe_str (pa_cons (pe_tup (pa_cons pe_str (pa_cons (pv 9) pa_nil))) pa_nil))) pa_nil))) pa_nil))) pa_nil))) (pg_sub (pv 6) pe_int set_list))
      (pss_cons (ps_set (i := 10) scLaw.nd rfl (.inl rfl) (pe_tup (pa_cons pe_str pa_nil)))
      (pss_cons (ps_set (i := 11) scLaw.nd rfl (.inl rfl) (pe_callB (call_min2 rfl) (by rfl) mmin (by decide +kernel) (pa_cons pe_int (pa_cons (pe_call GN hr (by rfl) gn kn bn .nil pass0 (pa_cons (pv 1) (pa_cons (pe_op op_add (pe_op op_fdiv pe_int (pv 3)) pe_int) pa_nil))) pa_nil))))
      (pss_cons (ps_for PassesOwn.never rfl (pi_range1 (by rfl) mr (pa_cons (pv 11) pa_nil)) (pg_name (i := 5) scLaw.nd rfl (.inl rfl)) (pss_one (ps_set (i := 10) scLaw.nd rfl (.inl rfl) (pe_call GR hr (by rfl) gr kr br .nil pass0 (pa_cons (pv 6) (pa_cons (pv 10) pa_nil))))))
      (pss_cons (ps_set (i := 12) scLaw.nd rfl (.inl rfl) (pe_tup (pa_cons pe_str (pa_cons (pe_callTy call_tuple_of (by rfl) mtu (by decide +kernel) (pa_cons (pv 6) pa_nil)) pa_nil))))
      (pss_cons (ps_set (i := 8) scLaw.nd rfl (.inl rfl) (pe_op op_catA (pe_op op_times (pe_tup (pa_cons (pe_tup (pa_cons pe_int (pa_cons pe_int pa_nil))) pa_nil)) (pv 11)) (pe_tup (pa_cons (pe_tup (pa_cons pe_int (pa_cons pe_int pa_nil))) pa_nil))))
      (pss_cons (ps_if (PW.pt (pw_or (pt_not (pt_val (pe_call GS hr (by rfl) gs ks bs .nil pass0 (pa_cons (pe_call GWd hr (by rfl) gwd kwd bwd .nil pass0 (pa_cons (pv 12) (pa_cons (pv 9) (pa_cons (pv 8) pa_nil)))) (pa_cons (pv 10) pa_nil))))) (pw_or1 (pt_not (pt_val (pe_call GS hr (by rfl) gs ks bs .nil pass0 (pa_cons (pe_call GWd hr (by rfl) gwd kwd bwd .nil pass0 (pa_cons (pv 12) (pa_cons (pv 9) (pa_cons (pv 8) pa_nil)))) (pa_cons (pv 10) pa_nil)))))))) (pss_one (ps_ret pe_bl)) pss_nil)
      (pss_one (ps_if (PW.pt (pw_or (pt_cmpR op_notN (pe_call GWd hr (by rfl) gwd kwd bwd .nil pass0 (pa_cons (pv 12) (pa_cons (pe_op op_add_str (pv 9) (pv 9)) (pa_cons (pv 8) pa_nil)))) pe_non (nomark _)) (pw_or1 (pt_cmpR op_notN (pe_call GWd hr (by rfl) gwd kwd bwd .nil pass0 (pa_cons (pv 12) (pa_cons (pv 9) (pa_cons (pe_slice sl_tupA (pv 8) po_none (po_some (pe_un un_neg pe_int))) pa_nil)))) pe_non (nomark _))))) (pss_one (ps_ret pe_bl)) pss_nil)))))))))))))))
      (pss_one (ps_ret pe_bl)))), ?_⟩
    have line : (3000 : Nat) < sizeLine := by rw [sizeLine_eq]; decide
    refine ⟨_, rfl, a, ns, rfl, hS, fun pd pc H1 k1 P1 => ?_⟩
    refine ⟨6, rfl, by decide, by decide, for_range (n := 6) (fun i σ H2 => (∃ y2 y3 y4 y5 y6 y7 y8 y9 y10 y11 y12, σ = [some (.ref a), some (.ref pd), y2, y3, y4, y5, y6, y7, y8, y9, y10, y11, y12]) ∧ Pot H2 pd pc) ?_ ?_ ?_⟩
    · exact ⟨⟨_, _, _, _, _, _, _, _, _, _, _, rfl⟩, P1⟩
    · rintro i σ H2 hi ⟨⟨y2, y3, y4, y5, y6, y7, y8, y9, y10, y11, y12, rfl⟩, P2⟩
      refine ⟨_, rfl, pd, pc, 3, 11, rfl, P2, by decide, by decide, fun d H3 ld P3 _ => ?_⟩
      have ld : d ≤ 11 := ld
      obtain ⟨m, em⟩ : ∃ m : Nat, m = d + 1 := ⟨_, rfl⟩
      have e1 : (1 : Int) + (d : Nat) = (m : Nat) := by omega
      have et : ((1 : Int) + (d : Nat)).toNat = m := by omega
      refine ⟨_, _, rfl, rfl, _, rfl, 1 + (d : Int), rfl, by omega, by omega, fun nl nnl => ?_⟩
      refine lc_range (lo := 0) (n := ((1 : Int) + (d : Nat)).toNat) (fun i H4 => Kp M0 H3 H4 ∧ H4 nl = some (.lst ((List.range i).map fun j => V.str (nm j)))) ?_ ?_ ?_
      · exact ⟨Kp.new nnl, upd_same⟩
      · rintro j H4 hj ⟨k4, e4⟩
        refine ⟨rfl, tYes_ok (iteT ?_)⟩
        have j12 : j < 12 := by omega
        refine ⟨_, rfl, _, _, 97 + j, rfl, rfl, by decide, ?_, ?_⟩
        · rw [Int.zero_add]
          exact atI_nat (letters j j12)
        refine ⟨_, e4, by rw [List.length_map, List.length_range]; omega, k4.own nnl, ?_⟩
        rw [upd_same, List.range_succ, List.map_append]
        rfl
      · rintro H4 ⟨k4, e4⟩
        rw [et] at e4
        have P4 := P3.keep k4 (fun z => z) (fun z => z)
        clear k4 P3 nnl
        refine ⟨_, rfl, 1 + (d : Int), rfl, by omega, by omega, fun rl nrl => ?_⟩
        refine lc_range (lo := 0) (n := ((1 : Int) + (d : Nat)).toNat) (fun i H5 => ∃ (ps : List V) (wf : Nat → Nat), Ctx H5 pd pc nl rl m ps (bsOf m wf i) ∧ ps.length = i) ?_ ?_ ?_
        · exact ⟨[], fun _ => 0, ⟨P4.new nrl, by rw [upd_ne (ne_of_none e4 nrl)]; exact e4, upd_same, .nil, ne_of_none e4 nrl, let ⟨_, _, _, _, E⟩ := P4; ne_of_none E.c nrl⟩, rfl⟩
        · rintro j H5 hj ⟨ps, wf, c5, lp⟩
          have jm : j < m := by omega
          refine ⟨rfl, tYes_ok (iteT ?_)⟩
          refine ⟨_, rfl, _, rfl, nl, _, _, .str (nm j), rfl, rfl, SqL.of c5.eN, by rw [Int.zero_add]; exact atI_nat (nm_at jm), ?_⟩
          have ei : ((0 : Int) + (j : Nat) + 1) % (1 + (d : Nat)) = (((j + 1) % m : Nat) : Int) := by
            rw [e1, show ((0 : Int) + (j : Nat) + 1) = ((j + 1 : Nat) : Int) by omega]
            rfl
          have lm : (j + 1) % m < m := Nat.mod_lt _ (by omega)
          refine ⟨_, rfl, _, rfl, _, rfl, _, _, rfl, rfl, _, rfl, _, _, rfl, rfl, by omega, nl, _, _, .str (nm ((j + 1) % m)), rfl, rfl, SqL.of c5.eN, ?_, ?_⟩
          · exact (congrArg (atI _) ei).trans (atI_nat (nm_at lm))
          refine ⟨pd, pc, _, rfl, c5.pot, by rw [nm_len]; decide, fun v w H6 _ rv P6 k6 => ?_⟩
          have c6 := c5.kpd k6 P6
          refine ⟨by show 2 ≤ sizeLine; omega, fun p np => ?_⟩
          obtain ⟨c7, r7, t7⟩ := c6.tup (.cons (.str (z := nm j) (by rw [nm_len]; omega)) (.cons rv .nil)) np
          generalize upd H6 p (.tup [.str (nm j), v]) = H7 at c7 r7 ⊢
          obtain ⟨wf', ew⟩ := bsOf_snoc m wf j w
          obtain ⟨c8, _⟩ := c7.put (ps' := ps ++ [.ref p]) (bs' := bsOf m wf' (j + 1)) (by
            rw [ew, List.map_append]
            exact c7.rR.app (.cons r7 .nil))
          exact ⟨ps, c7.eR, by omega, _, wf', c8, by rw [List.length_append, lp]; rfl⟩
        · rintro H5 ⟨ps, wf, c5, lp⟩
          rw [et] at c5 lp
          have hm1 : 1 ≤ m := by omega
          have hm12 : m ≤ 12 := by omega
          have l2 : 2 ≤ sizeLine := by omega
          have l1' : 1 ≤ sizeLine := by omega
          have l0' : 0 ≤ sizeLine := by omega
          -- the texts and ways
          refine ⟨l0', fun p1 n1 => ?_⟩
          obtain ⟨c6, r1, t1⟩ := c5.tup .nil n1
          generalize upd H5 p1 (.tup []) = H6 at c6 r1 t1 ⊢
          refine ⟨l2, fun p2 n2 => ?_⟩
          obtain ⟨c7, r2, t2⟩ := c6.tup (.cons (.str (z := "") (by decide)) (.cons r1 .nil)) n2
          generalize upd H6 p2 (.tup [.str "", .ref p1]) = H7 at c7 r2 t2 ⊢
          refine ⟨l0', fun p3 n3 => ?_⟩
          obtain ⟨c8, r3, t3⟩ := c7.tup .nil n3
          generalize upd H7 p3 (.tup []) = H8 at c8 r3 t3 ⊢
          refine ⟨l2, fun p4 n4 => ?_⟩
          obtain ⟨c9, r4, t4⟩ := c8.tup (.cons (.str (z := "z") (by decide)) (.cons r3 .nil)) n4
          generalize upd H8 p4 (.tup [.str "z", .ref p3]) = H9 at c9 r4 t4 ⊢
          refine ⟨l2, fun p5 n5 => ?_⟩
          obtain ⟨c10, r5, t5⟩ := c9.tup (.cons (.int (i := 0)) (.cons (.int (i := 0)) .nil)) n5
          generalize upd H9 p5 (.tup [.int 0, .int 0]) = H10 at c10 r5 t5 ⊢
          refine ⟨l1', fun p6 n6 => ?_⟩
          obtain ⟨c11, r6, t6⟩ := c10.tup (.cons r5 .nil) n6
          generalize upd H10 p6 (.tup [.ref p5]) = H11 at c11 r6 t6 ⊢
          refine ⟨l2, fun p7 n7 => ?_⟩
          obtain ⟨c12, r7, t7⟩ := c11.tup (.cons (.str (z := "") (by decide)) (.cons r6 .nil)) n7
          generalize upd H11 p7 (.tup [.str "", .ref p6]) = H12 at c12 r7 t7 ⊢
          refine ⟨l2, fun p8 n8 => ?_⟩
          obtain ⟨c13, r8, t8⟩ := c12.tup (.cons (.int (i := 0)) (.cons (.int (i := 1)) .nil)) n8
          generalize upd H12 p8 (.tup [.int 0, .int 1]) = H13 at c13 r8 t8 ⊢
          refine ⟨l2, fun p9 n9 => ?_⟩
          obtain ⟨c14, r9, t9⟩ := c13.tup (.cons (.int (i := 0)) (.cons (.int (i := 0)) .nil)) n9
          generalize upd H13 p9 (.tup [.int 0, .int 0]) = H14 at c14 r9 t9 ⊢
          refine ⟨l2, fun p10 n10 => ?_⟩
          obtain ⟨c15, r10, t10⟩ := c14.tup (.cons (r8.ts t9) (.cons r9 .nil)) n10
          generalize upd H14 p10 (.tup [.ref p8, .ref p9]) = H15 at c15 r10 t10 ⊢
          refine ⟨l2, fun p11 n11 => ?_⟩
          obtain ⟨c16, r11, t11⟩ := c15.tup (.cons (.str (z := "z") (by decide)) (.cons r10 .nil)) n11
          generalize upd H15 p11 (.tup [.str "z", .ref p10]) = H16 at c16 r11 t11 ⊢
          have rt : Rps H16 [.ref p2, .ref p4, .ref p7, .ref p11] (tries.map itemD) :=
            .cons (r2.ts (t3.trans (t4.trans (t5.trans (t6.trans (t7.trans (t8.trans (t9.trans (t10.trans t11))))))))) (.cons (r4.ts (t5.trans (t6.trans (t7.trans (t8.trans (t9.trans (t10.trans t11))))))) (.cons (r7.ts (t8.trans (t9.trans (t10.trans t11)))) (.cons r11 .nil)))
          clear r1 r2 r3 r4 r5 r6 r7 r8 r9 r10 r11 t1 t2 t3 t4 t5 t6 t7 t8 t9 t10 t11 c6 c7 c8 c9 c10 c11 c12 c13 c14 c15 c5 n1 n2 n3 n4 n5 n6 n7 n8 n9 n10 n11
          refine ⟨by show 4 ≤ sizeLine; omega, fun l nl' => ?_⟩
          have c17 := c16.new (o := .lst [.ref p2, .ref p4, .ref p7, .ref p11]) nl'
          have el : upd H16 l (.lst [.ref p2, .ref p4, .ref p7, .ref p11]) l = some (.lst [.ref p2, .ref p4, .ref p7, .ref p11]) := upd_same
          have rt17 := rt.ts (TS.new (o := .lst [.ref p2, .ref p4, .ref p7, .ref p11]) nl')
          generalize upd H16 l (.lst [.ref p2, .ref p4, .ref p7, .ref p11]) = H17 at c17 el rt17 ⊢
          clear c16 rt nl'
          refine ⟨l, rfl, ⟨_, SqL.of el⟩, for_list (xs := [.ref p2, .ref p4, .ref p7, .ref p11]) (fun j σ H18 => (∃ y5 y7 y8 y9 y10 y11 y12, σ = [some (.ref a), some (.ref pd), some (.int (0 + (i : Nat))), some (.int (1 + (d : Nat))), some (.ref nl), y5, some (.ref rl), y7, y8, y9, y10, y11, y12]) ∧ Kp M0 H17 H18) ?_ ?_ ?_ ?_⟩
          · exact ⟨⟨_, _, _, _, _, _, _, rfl⟩, Kp.refl⟩
          · exact fun j σ H18 _ h => SqL.of (h.2 _ _ (fun z => z) el)
          · rintro j x σ H18 hx ⟨⟨y5, y7, y8, y9, y10, y11, y12, rfl⟩, k18⟩
            obtain ⟨dx, edx, rx⟩ := rt17.get j x hx
            rw [List.getElem?_map] at edx
            obtain ⟨⟨tx, wy⟩, eit, rfl⟩ := Option.map_eq_some_iff.mp edx
            have mt := List.mem_of_getElem? eit
            have few : wy.length ≤ 1000 ∧ tx.length ≤ 1000 := by
              simp only [tries, List.mem_cons, List.not_mem_nil, or_false, Prod.mk.injEq] at mt
              rcases mt with ⟨rfl, rfl⟩ | ⟨rfl, rfl⟩ | ⟨rfl, rfl⟩ | ⟨rfl, rfl⟩ <;> exact ⟨by decide, by decide⟩
            obtain ⟨pi, vs, rfl, epi, rpi⟩ := Rp.tupE rx
            obtain ⟨u1, u2, rfl, q1, q2⟩ := rpi.two
            obtain ⟨rfl, ltx⟩ := q1.strE
            have t18 := ts0 k18
            have c18 := c17.kp0 k18
            refine ⟨pi, _, rfl, SqT.of (t18 _ _ epi), rfl, _, _, rfl, _, _, rfl, rfl, ?_⟩
            refine ⟨_, rfl, rl, ps, rfl, .inl ⟨SqL.of c18.eR, fun r1 nr1 => ?_⟩⟩
            have e1r := c18.rR.ts (TS.new (o := .tup ps) nr1)
            have k19 : Kp M0 H18 (upd H18 r1 (.tup ps)) := Kp.new nr1
            have rr1 : Rp (upd H18 r1 (.tup ps)) (.ref r1) (.tup ((bsOf m wf m).map rowD)) := .tup upd_same e1r
            generalize upd H18 r1 (.tup ps) = H19 at k19 rr1 ⊢
            refine ⟨l2, fun r2 nr2 => ?_⟩
            have k20 : Kp M0 H19 (upd H19 r2 (.tup [.str "a", .ref r1])) := Kp.new nr2
            have rr2 : Rp (upd H19 r2 (.tup [.str "a", .ref r1])) (.ref r2) (bookD "a" (bsOf m wf m)) := .tup upd_same (.cons (.str (by decide)) (.cons (rr1.ts (TS.new nr2)) .nil))
            generalize upd H19 r2 (.tup [.str "a", .ref r1]) = H20 at k20 rr2 ⊢
            obtain ⟨N, run⟩ := ring (tb := bsOf m wf m) (tx := tx) (wy := wy) hm1 hm12 (fun k h => List.mem_of_getElem? (bsOf_at (wf := wf) h)) m 0 (by omega) hm1 [] [] ⟨by simp only [List.length_nil]; omega, by simp only [List.length_nil]; omega, by simp only [List.range_zero, List.map_nil, List.length_nil]; omega⟩
            refine ⟨_, rfl, _, rfl, .ref r2, u2, "a", tx, bsOf m wf m, wy, none, N, rfl, rr2, bsOf_nd m wf m, by rw [bsOf_len]; omega, q2.ts (t18.trans (ts0 (k19.trans k20))), few.1, few.2, run, fun s z => (nomatch z), fun _ H21 k21 => ?_, fun d z => (nomatch z)⟩
            refine ⟨rfl, _, rfl, iteF' rfl ?_⟩
            exact ⟨⟨_, _, _, _, _, _, _, rfl⟩, ((k18.trans k19).trans k20).trans k21⟩
          · rintro σ H18 ⟨⟨y5, y7, y8, y9, y10, y11, y12, rfl⟩, k18⟩
            have c18 := c17.kp0 k18
            clear c17 k18 el rt17
            -- told
            refine ⟨by show 3 ≤ sizeLine; omega, fun tl ntl => ?_⟩
            have c19 := c18.new (o := .lst [.str "z", .str "zz", .str "a0"]) ntl
            have etl : upd H18 tl (.lst [.str "z", .str "zz", .str "a0"]) tl = some (.lst [.str "z", .str "zz", .str "a0"]) := upd_same
            generalize upd H18 tl (.lst [.str "z", .str "zz", .str "a0"]) = H19 at c19 etl ⊢
            clear c18 ntl
            refine ⟨_, rfl, pd, pc, 3, rfl, c19.pot, by decide, by decide, fun dt H20 ldt P20 k20 => ?_⟩
            have c20 := c19.kpd k20 P20
            have etl2 := k20 _ _ (c19.pot.ne etl fun _ z => by cases z) etl
            obtain ⟨told, etd, ht⟩ : ∃ told : Str, ([V.str "z", V.str "zz", V.str "a0"] : List V)[dt]? = some (.str told) ∧ (told = "z" ∨ told = "zz" ∨ told = "a0") := by
              have : dt < 3 := by omega
              rcases (show dt = 0 ∨ dt = 1 ∨ dt = 2 by omega) with rfl | rfl | rfl
              · exact ⟨_, rfl, .inl rfl⟩
              · exact ⟨_, rfl, .inr (.inl rfl)⟩
              · exact ⟨_, rfl, .inr (.inr rfl)⟩
            refine ⟨tl, _, _, .str told, rfl, rfl, SqL.of etl2, atI_nat etd, ?_⟩
            clear c19 etl etl2 k20 P20
            have na : ("a" : Str) = nm 0 := by decide +kernel
            have ltd : told.length ≤ 2 := by rcases ht with rfl | rfl | rfl <;> decide
            have l1m : 1 % m < m := Nat.mod_lt _ (by omega)
            have e1m : (1 : Int) % (1 + (d : Nat)) = ((1 % m : Nat) : Int) := by
              rw [e1]
              rfl
            -- rows[0] = ..
            refine ⟨_, rfl, _, rfl, _, _, rfl, rfl, by omega, nl, _, _, .str (nm (1 % m)), rfl, rfl, SqL.of c20.eN, (congrArg (atI _) e1m).trans (atI_nat (nm_at l1m)), l2, fun p1 n1 => ?_⟩
            obtain ⟨c21, r1, t1⟩ := c20.tup (.cons (.str (z := "named") (by decide)) (.cons (.str (z := nm (1 % m)) (by rw [nm_len]; omega)) .nil)) n1
            generalize upd H20 p1 (.tup [.str "named", .str (nm (1 % m))]) = H21 at c21 r1 t1 ⊢
            refine ⟨l2, fun p2 n2 => ?_⟩
            obtain ⟨c22, r2, t2⟩ := c21.tup (.cons (.str (z := "a") (by decide)) (.cons r1 .nil)) n2
            generalize upd H21 p2 (.tup [.str "a", .ref p1]) = H22 at c22 r2 t2 ⊢
            refine ⟨_, rfl, l2, fun p3 n3 => ?_⟩
            obtain ⟨c23, r3, t3⟩ := c22.tup (.cons (.str (z := "text") (by decide)) (.cons (.str (z := told) (by omega)) .nil)) n3
            generalize upd H22 p3 (.tup [.str "text", .str told]) = H23 at c23 r3 t3 ⊢
            refine ⟨l2, fun p4 n4 => ?_⟩
            obtain ⟨c24, r4, t4⟩ := c23.tup (.cons (.str (z := "b") (by decide)) (.cons r3 .nil)) n4
            generalize upd H23 p4 (.tup [.str "b", .ref p3]) = H24 at c24 r4 t4 ⊢
            refine ⟨l2, fun p5 n5 => ?_⟩
            obtain ⟨c25, r5, t5⟩ := c24.tup (.cons (r2.ts (t3.trans t4)) (.cons r4 .nil)) n5
            generalize upd H24 p5 (.tup [.ref p2, .ref p4]) = H25 at c25 r5 t5 ⊢
            refine ⟨l2, fun p6 n6 => ?_⟩
            obtain ⟨c26, r6, t6⟩ := c25.tup (.cons (.str (z := "either") (by decide)) (.cons r5 .nil)) n6
            generalize upd H25 p6 (.tup [.str "either", .ref p5]) = H26 at c26 r6 t6 ⊢
            refine ⟨l2, fun p7 n7 => ?_⟩
            obtain ⟨c27, r7, t7⟩ := c26.tup (.cons (.str (z := "a") (by decide)) (.cons r6 .nil)) n7
            generalize upd H26 p7 (.tup [.str "a", .ref p6]) = H27 at c27 r7 t7 ⊢
            clear r1 r2 r3 r4 r5 r6 t1 t2 t3 t4 t5 t6 t7 c20 c21 c22 c23 c24 c25 c26 n1 n2 n3 n4 n5 n6 n7
            obtain ⟨v0, ps1, eps⟩ : ∃ v0 ps1, ps = v0 :: ps1 := by
              cases ps with
              | nil => exact absurd lp (by simp only [List.length_nil]; omega)
              | cons x y => exact ⟨x, y, rfl⟩
            obtain ⟨b0, bs1, ebs⟩ : ∃ b0 bs1, bsOf m wf m = b0 :: bs1 := by
              cases z : bsOf m wf m with
              | nil =>
                have := bsOf_len m wf m
                rw [z] at this
                exact absurd this (by simp only [List.length_nil]; omega)
              | cons x y => exact ⟨x, y, rfl⟩
            have row : ∀ k, 1 ≤ k → k < m → ((nm 0, deci m told) :: bs1)[k]? = some (nm k, ar (wf k) (nm ((k + 1) % m))) := fun k h1 h2 => by
              have e := bsOf_at (m := m) (wf := wf) h2
              rw [ebs] at e
              obtain ⟨k', rfl⟩ : ∃ k', k = k' + 1 := ⟨k - 1, by omega⟩
              simpa using e
            have lbs : ((nm 0, deci m told) :: bs1).length = m := by
              have := bsOf_len m wf m
              rw [ebs] at this
              exact this
            have ndb : (((nm 0, deci m told) :: bs1).map (·.1)).Nodup := by
              have z := bsOf_nd m wf m
              have e0 := bsOf_at (m := m) (wf := wf) (show 0 < m by omega)
              rw [ebs] at z e0
              have e0 : b0 = (nm 0, ar (wf 0) (nm ((0 + 1) % m))) := by simpa using e0
              rw [e0] at z
              exact z
            obtain ⟨c28, t28⟩ := c27.put (ps' := ps.set 0 (.ref p7)) (bs' := (nm 0, deci m told) :: bs1) (by
              have z := c27.rR
              rw [eps, ebs] at z
              rw [eps]
              cases z with
              | cons z1 z2 => exact .cons (by rw [← na]; exact r7) z2)
            refine ⟨_, rfl, rl, ps, 0, 0, rfl, rfl, c27.eR, by rw [eps]; simp [ixN]; try omega, ?_⟩
            have m0 : (nm 0, deci m told) ∈ (nm 0, deci m told) :: bs1 := List.mem_cons_self ..
            generalize upd H27 rl (.lst (ps.set 0 (.ref p7))) = H28 at c28 ⊢
            generalize ps.set 0 (.ref p7) = ps2 at c28
            generalize (nm 0, deci m told) :: bs1 = bs2 at c28 row lbs ndb m0
            clear c27 t28 ebs eps lp
            -- worth = ('b',)
            refine ⟨l1', fun p8 n8 => ?_⟩
            obtain ⟨c29, r8, _⟩ := c28.tup (.cons (.str (z := "b") (by decide)) .nil) n8
            generalize upd H28 p8 (.tup [.str "b"]) = H29 at c29 r8 ⊢
            clear c28 n8
            -- times
            obtain ⟨D18, hD⟩ : ∃ D : Nat, 18 / m = D := ⟨_, rfl⟩
            have e18 : (18 : Int) / (1 + (d : Nat)) = (D18 : Nat) := by
              rw [e1, ← hD]
              rfl
            have d18 : D18 ≤ 18 := by rw [← hD]; exact Nat.div_le_self 18 m
            have dm18 : D18 * m ≤ 18 := by rw [← hD]; exact Nat.div_mul_le_self 18 m
            clear hD
            refine ⟨_, rfl, _, rfl, _, _, rfl, rfl, ⟨by omega, by omega⟩, _, _, rfl, rfl, pd, pc, (18 : Int) / (1 + (d : Nat)) + 1, rfl, c29.pot, by omega, by omega, fun dn H30 ldn P30 k30 => ?_⟩
            have c30 := c29.kpd k30 P30
            have r30 := r8.ts (pts c29.pot k30)
            have ldn2 : dn ≤ D18 := by omega
            refine ⟨_, _, rfl, ?_⟩
            obtain ⟨N, eN, lN, lN8⟩ : ∃ N : Nat, (if ((dn : Nat) : Int) < 8 then ((dn : Nat) : Int) else 8) = (N : Nat) ∧ N ≤ dn ∧ N ≤ 8 := by
              by_cases z : ((dn : Nat) : Int) < 8
              · exact ⟨dn, if_pos z, Nat.le_refl _, by omega⟩
              · exact ⟨8, if_neg z, by omega, Nat.le_refl _⟩
            have lNm : N * m ≤ 18 := Nat.le_trans (Nat.mul_le_mul_right m (Nat.le_trans lN ldn2)) dm18
            rw [eN]
            clear c29 r8 k30 P30 ldn
            refine ⟨_, rfl, ((N : Nat) : Int), rfl, by omega, by omega, ?_⟩
            refine for_range (n := ((N : Nat) : Int).toNat) (fun j σ H31 => (∃ (y5 : Option V) (v : V), σ = [some (.ref a), some (.ref pd), some (.int (0 + (i : Nat))), some (.int (1 + (d : Nat))), some (.ref nl), y5, some (.ref rl), y7, y8, some (.str told), some v, some (.int (N : Nat)), y12] ∧ Rp H31 v (wth wf m j)) ∧ Kp M0 H30 H31) ?_ ?_ ?_
            · exact ⟨⟨_, _, rfl, r30⟩, Kp.refl⟩
            · rintro j σ H31 hj ⟨⟨y5, v, rfl, rv⟩, k31⟩
              have c31 := c30.kp0 k31
              refine ⟨_, rfl, _, rfl, rl, ps2, bs2, m, wf, v, _, rfl, c31.eR, c31.rR, lbs, hm1, hm12, fun k h1 h2 => ⟨_, _, row k h1 h2⟩, rv, fun v2 H32 rv2 k32 => ?_⟩
              exact ⟨⟨_, _, rfl, rv2⟩, k31.trans k32⟩
            · rintro σ H31 ⟨⟨y5, v, rfl, rv⟩, k31⟩
              have c31 := c30.kp0 k31
              rw [show ((N : Nat) : Int).toNat = N by omega] at rv
              clear c30 k31 r30
              -- book
              refine ⟨_, rfl, rl, ps2, rfl, .inl ⟨SqL.of c31.eR, fun r1 nr1 => ?_⟩⟩
              obtain ⟨c32, q1, t32⟩ := c31.tup c31.rR nr1
              have rv2 := rv.ts t32
              generalize upd H31 r1 (.tup ps2) = H32 at c32 q1 rv2 ⊢
              refine ⟨l2, fun bk nbk => ?_⟩
              obtain ⟨c33, q2, t33⟩ := c32.tup (.cons (.str (z := "a") (by decide)) (.cons q1 .nil)) nbk
              have rv3 := rv2.ts t33
              generalize upd H32 bk (.tup [.str "a", .ref r1]) = H33 at c33 q2 rv3 ⊢
              clear c31 c32 rv rv2 q1 t32 t33
              -- the way
              refine ⟨l2, fun w1 nw1 => ?_⟩
              obtain ⟨c34, g1, t34⟩ := c33.tup (.cons (.int (i := 0)) (.cons (.int (i := 0)) .nil)) nw1
              have rv4 := rv3.ts t34
              have q4 := q2.ts t34
              generalize upd H33 w1 (.tup [.int 0, .int 0]) = H34 at c34 g1 rv4 q4 ⊢
              refine ⟨l1', fun w2 nw2 => ?_⟩
              have t35 : TS H34 (upd H34 w2 (.tup [.ref w1])) := TS.new nw2
              have c35 := c34.new (o := .tup [.ref w1]) nw2
              have e35 : upd H34 w2 (.tup [.ref w1]) w2 = some (.tup [.ref w1]) := upd_same
              have rv5 := rv4.ts t35
              have q5 := q4.ts t35
              have g5 := g1.ts t35
              generalize upd H34 w2 (.tup [.ref w1]) = H35 at c35 rv5 q5 g5 e35 ⊢
              refine ⟨_, rfl, w2, ((N : Nat) : Int), [.ref w1], rfl, rfl, e35, by simp, by omega, by omega, by show 1 ≤ 1000; decide, fun wa H36 ea k36 => ?_⟩
              rw [Int.toNat_natCast, flat_rep] at ea
              have c36 := c35.kp0 k36
              have rv6 := rv5.ts (ts0 k36)
              have q6 := q5.ts (ts0 k36)
              have g6 := g5.ts (ts0 k36)
              clear c33 c34 c35 rv3 rv4 rv5 q2 q4 q5 g1 g5 e35 t34 t35 k36 nw1 nw2
              refine ⟨l2, fun w3 nw3 => ?_⟩
              obtain ⟨c37, g7, t37⟩ := c36.tup (.cons (.int (i := 0)) (.cons (.int (i := 1)) .nil)) nw3
              have rv7 := rv6.ts t37
              have q7 := q6.ts t37
              have g6' := g6.ts t37
              have ea7 := t37 _ _ ea
              generalize upd H36 w3 (.tup [.int 0, .int 1]) = H37 at c37 g7 rv7 q7 g6' ea7 ⊢
              refine ⟨l1', fun w4 nw4 => ?_⟩
              have t38 : TS H37 (upd H37 w4 (.tup [.ref w3])) := TS.new nw4
              have c38 := c37.new (o := .tup [.ref w3]) nw4
              have e38 : upd H37 w4 (.tup [.ref w3]) w4 = some (.tup [.ref w3]) := upd_same
              have rv8 := rv7.ts t38
              have q8 := q7.ts t38
              have g8 := g6'.ts t38
              have g9 := g7.ts t38
              have ea8 := t38 _ _ ea7
              generalize upd H37 w4 (.tup [.ref w3]) = H38 at c38 rv8 q8 g8 g9 e38 ea8 ⊢
              refine ctA ea8 e38 (by rw [List.length_replicate]; show N + 1 ≤ _; omega) fun wy H39 ey k39 => ?_
              have c39 := c38.kp0 k39
              have rv9 := rv8.ts (ts0 k39)
              have q9 := q8.ts (ts0 k39)
              have gw : Rp H39 (.ref wy) (.tup ((wyT N ++ [(0, 1)]).map wyD)) := by
                refine .tup ey ?_
                rw [List.map_append, wyT, List.map_replicate]
                exact (rps_rep (g8.ts (ts0 k39)) N).app (.cons (g9.ts (ts0 k39)) .nil)
              have gw1 := g8.ts (ts0 k39)
              clear c36 c37 c38 rv6 rv7 rv8 q6 q7 q8 g6 g7 g6' g8 g9 e38 ea ea7 ea8 k39 nw3 nw4 t37 t38
              -- the walks
              have rin : RowsIn bs2 m wf := fun k h1 h2 => List.mem_of_getElem? (row k h1 h2)
              have nb : N * (m + 1) ≤ 26 := by
                rw [Nat.mul_succ]
                omega
              have bd : Bd (N * (m + 1) + 2) [] [] [] := ⟨by simp only [List.length_nil]; omega, by simp only [List.length_nil]; omega, by simp only [List.length_nil]; omega⟩
              have c0 : C1 m 0 [] := fun _ z => (nomatch z)
              have sw1 : Txt.startswith3 told told ((0 : Nat) : Int) = true := by rcases ht with rfl | rfl | rfl <;> decide +kernel
              have sw2 : Txt.startswith3 (told ++ told) told ((0 : Nat) : Int) = true := by rcases ht with rfl | rfl | rfl <;> decide +kernel
              have ll : (told ++ told).length ≠ told.length ∧ (told ++ told).length ≤ 1000 := by rcases ht with rfl | rfl | rfl <;> decide +kernel
              have lwy : (wyT N ++ [(0, 1)]).length = N + 1 := by rw [List.length_append, wyT, List.length_replicate]; rfl
              obtain ⟨n1, run1⟩ : RR bs2 told (wyT N ++ [(0, 1)]) ⟨[.form (.named "a")], [], 0, 0, []⟩ (some ⟨[], [wth wf m N], told.length, N + 1, []⟩) := by
                rw [na]
                exact spin (Z := False) hm1 hm12 rin m0 (N := N) (fun t h => wyF_at h) (.inl ⟨id, wyF_end N, sw1⟩) N 0 (by omega) [] [] [] bd c0 fun _ => ⟨0, .fin rfl⟩
              obtain ⟨n2, run2⟩ : RR bs2 (told ++ told) (wyT N ++ [(0, 1)]) ⟨[.form (.named "a")], [], 0, 0, []⟩ (some ⟨[], [wth wf m N], told.length, N + 1, []⟩) := by
                rw [na]
                exact spin (Z := False) hm1 hm12 rin m0 (N := N) (fun t h => wyF_at h) (.inl ⟨id, wyF_end N, sw2⟩) N 0 (by omega) [] [] [] bd c0 fun _ => ⟨0, .fin rfl⟩
              obtain ⟨n3, run3⟩ : RR bs2 told (wyT N) ⟨[.form (.named "a")], [], 0, 0, []⟩ none := by
                rw [na]
                exact spin (Z := True) hm1 hm12 rin m0 (N := N) (fun t h => wyT_at h) (.inr ⟨trivial, by rw [wyT, List.length_replicate]; exact Nat.le_refl _, rfl⟩) N 0 (by omega) [] [] [] bd c0 fun z => absurd trivial z
              have lb12 : bs2.length ≤ 1000 := by omega
              have sdw : SD 21 (wth wf m N) := (sd_wth hm1 N).le (by omega)
              have nores : ∀ {tx : Str} {wy : List (Nat × Nat)} {s : St}, (s.p = tx.length ∧ s.t = wy.length) → Res tx wy (some s) none → False := fun h z => by
                rcases z with ⟨_, _, _, _, _, z⟩ | ⟨z, _⟩
                · cases z
                · exact z h
              have yesres : ∀ {tx : Str} {wy : List (Nat × Nat)} {dd : D}, Res tx wy (some ⟨[], [wth wf m N], told.length, N + 1, []⟩) (some dd) → dd = wth wf m N := fun z => by
                rcases z with ⟨_, _, d1, ds1, e1, e2⟩ | ⟨_, z⟩
                · cases e1
                  exact Option.some.inj e2
                · cases z
              have noyes : ∀ {tx : Str} {wy : List (Nat × Nat)} {s : St} {dd : D}, s.p ≠ tx.length → Res tx wy (some s) (some dd) → False := fun h z => by
                rcases z with ⟨z, _⟩ | ⟨_, z⟩
                · exact h z
                · cases z
              refine ⟨_, rfl, _, rfl, _, rfl, .ref bk, .ref wy, "a", told, bs2, wyT N ++ [(0, 1)], _, n1, rfl, q9, ndb, lb12, gw, by omega, by omega, run1, fun s z => by cases z; exact List.cons_ne_nil _ _, fun z => (nores ⟨rfl, lwy.symm⟩ z).elim, fun dd z v1 H40 k40 rv40 => ?_⟩
              have edd := yesres z
              subst edd
              refine ⟨_, rfl, v1, v, wth wf m N, rfl, rv40, rv9.ts (ts0 k40), sdw, fun H41 k41 => ⟨true, rfl, iteF ?_⟩⟩
              have k41' := k40.trans k41
              refine ⟨_, rfl, _, rfl, _, rfl, .ref bk, .ref wy, "a", told, bs2, wyT N ++ [(0, 1)], _, n1, rfl, q9.ts (ts0 k41'), ndb, lb12, gw.ts (ts0 k41'), by omega, by omega, run1, fun s z => by cases z; exact List.cons_ne_nil _ _, fun z => (nores ⟨rfl, lwy.symm⟩ z).elim, fun dd z v2 H42 k42 rv42 => ?_⟩
              have edd := yesres z
              subst edd
              have k42' := k41'.trans k42
              refine ⟨_, rfl, v2, v, wth wf m N, rfl, rv42, rv9.ts (ts0 k42'), sdw, fun H43 k43 => ⟨true, rfl, iteF ?_⟩⟩
              have k43' := k42'.trans k43
              -- the text twice
              refine ⟨_, rfl, _, rfl, _, rfl, _, _, rfl, rfl, by omega, _, rfl, .ref bk, .ref wy, "a", told ++ told, bs2, wyT N ++ [(0, 1)], _, n2, rfl, q9.ts (ts0 k43'), ndb, lb12, gw.ts (ts0 k43'), by omega, ll.2, run2, fun s z => by cases z; exact List.cons_ne_nil _ _, fun _ H44 k44 => ?_, fun dd z => (noyes (fun e => ll.1 e.symm) z).elim⟩
              refine ⟨rfl, _, rfl, iteF' rfl ?_⟩
              have k44' := k43'.trans k44
              refine ⟨_, rfl, _, rfl, _, rfl, ?_⟩
              refine ⟨_, rfl, _, rfl, slA (k44' _ _ (fun z => z) ey) fun wb H45 eb k45 => ?_⟩
              rw [cut_last] at eb
              have k45' := k44'.trans k45
              have gw2 : Rp H45 (.ref wb) (.tup ((wyT N).map wyD)) := by
                refine .tup eb ?_
                rw [wyT, List.map_replicate]
                exact rps_rep (gw1.ts (ts0 k45')) N
              refine ⟨.ref bk, .ref wb, "a", told, bs2, wyT N, none, n3, rfl, q9.ts (ts0 k45'), ndb, lb12, gw2, by rw [wyT, List.length_replicate]; omega, by omega, run3, fun s z => (nomatch z), fun _ H46 k46 => ?_, fun dd z => (nomatch z)⟩
              refine ⟨rfl, _, rfl, iteF' rfl ?_⟩
              exact ⟨⟨_, _, _, _, _, _, _, _, _, _, _, rfl⟩, (c39.kp0 (k45'.trans k46)).pot⟩
    · rintro σ H2 ⟨⟨y2, y3, y4, y5, y6, y7, y8, y9, y10, y11, y12, rfl⟩, P2⟩
      exact q H2
end
end RT

/-! which function takes which step -/
namespace RT
open PySem PySem.Spec PyProof.Rows L2
section
variable {P : Program} {w : World} {K : PySem.W.Frag} {mg : Str → Option Value} {base : Heap}
theorem st_of {c : Wx} {j k : Nat} {g : Addr} {fd : FuncData} {ps : List Str} {sel : It → Prop} (F : FnOk P w K mg base CX0 j g fd ps (spItem c sel)) (hb : Binds K fd ps []) (h : j ≤ k) (it : It) (hs : sel it) : FnR P w K mg base CX0 k g (spItem c fun i => i = it) :=
  ((F.raw hb .nil).mono h).imp fun vs H Q E ⟨v, i, s, o, e, W, r, hi, rest⟩ => by
    rw [List.append_nil]
    subst hi
    exact ⟨v, i, s, o, e, W, r, hs, rest⟩
/-- a word's function -/
def AtStep (P : Program) (w : World) (K : PySem.W.Frag) (mg : Str → Option Value) (base : Heap) (c : Wx) (k : Nat) (S : Addr) (x : Str) (sel : It → Prop) : Prop :=
  ∃ g, PySem.W.nsIn K S x = some (some (.ref g)) ∧ PySem.W.keepIn K (.ref g) = true ∧ ∀ it, sel it → FnR P w K mg base CX0 k g (spItem c fun i => i = it)
theorem st_all {c : Wx} {k : Nat} {S : Addr} (h1 : AtStep P w K mg base c k S "text" fun i => ∃ z, i = .form (.text z)) (h2 : AtStep P w K mg base c k S "skip" fun i => ∃ g, i = .form (.skip g)) (h3 : AtStep P w K mg base c k S "row" fun i => ∃ fs, i = .form (.row fs))
    (h4 : AtStep P w K mg base c k S "either" fun i => ∃ ns fs, i = .form (.either ns fs) ∧ ns.length = fs.length ∧ fs.length ≤ 100) (h5 : AtStep P w K mg base c k S "named" fun i => ∃ x, i = .form (.named x)) (h6 : AtStep P w K mg base c k S "skipped" fun i => i = .skipped)
    (h7 : AtStep P w K mg base c k S "rowed" fun i => ∃ fs, i = .rowed fs) (h8 : AtStep P w K mg base c k S "chosen" fun i => ∃ n g, i = .chosen n g) (h9 : AtStep P w K mg base c k S "out of" fun i => ∃ x p t, i = .outof x p t) : StAt P w K mg base c k S := by
  have mk : ∀ {x : Str} {sel : It → Prop} {it : It}, it.word = x → AtStep P w K mg base c k S x sel → sel it → ∃ g, PySem.W.nsIn K S it.word = some (some (.ref g)) ∧ PySem.W.keepIn K (.ref g) = true ∧ FnR P w K mg base CX0 k g (spItem c fun i => i = it) := fun e ⟨g, a, b, d⟩ s => ⟨g, by rw [e]; exact a, b, d _ s⟩
  refine ⟨fun it ok => ?_⟩
  cases it with
  | form f =>
    cases f with
    | text z => exact mk rfl h1 ⟨z, rfl⟩
    | skip g => exact mk rfl h2 ⟨g, rfl⟩
    | row fs => exact mk rfl h3 ⟨fs, rfl⟩
    | either ns fs => exact mk rfl h4 ⟨ns, fs, rfl, ok⟩
    | named x => exact mk rfl h5 ⟨x, rfl⟩
  | skipped => exact mk rfl h6 rfl
  | rowed fs => exact mk rfl h7 ⟨fs, rfl⟩
  | chosen n g => exact mk rfl h8 ⟨n, g, rfl⟩
  | outof x p t => exact mk rfl h9 ⟨x, p, t, rfl⟩
theorem at_step {c : Wx} {j k : Nat} {S g : Addr} {fd : FuncData} {ps : List Str} {x : Str} {sel : It → Prop} (n : PySem.W.nsIn K S x = some (some (.ref g))) (kp : PySem.W.keepIn K (.ref g) = true) (F : FnOk P w K mg base CX0 j g fd ps (spItem c sel)) (hb : Binds K fd ps []) (h : j ≤ k) : AtStep P w K mg base c k S x sel :=
  ⟨g, n, kp, fun it hs => st_of F hb h it hs⟩
end
end RT

/-! ### the end -/
namespace RT
open PySem PySem.Spec PyProof.Rows L2
set_option maxHeartbeats 0 in
theorem all_mk {l : PySem.W.OpenLaw} {w : World} {K : PySem.W.Frag} {h : Heap} {mg : Str → Option Value} {fa : Addr} (X : K.In h) (G : h.Ns mainGlobals mg) (hfa : mg "law" = some (.ref fa))
    {f1 : Addr} {od1 an1 : Option Addr} {sl1 : Array (Option Value)} {oc1 kV1 dc1 pm1 ct1 : Value} {cd1 : Value} {f2 : Addr} {od2 an2 : Option Addr} {sl2 : Array (Option Value)} {oc2 kV2 dc2 pm2 ct2 : Value} {cd2 : Value} {f3 : Addr} {od3 an3 : Option Addr} {sl3 : Array (Option Value)} {oc3 kV3 dc3 pm3 ct3 : Value} {cd3 : Value} {f4 : Addr} {od4 an4 : Option Addr} {sl4 : Array (Option Value)} {oc4 kV4 dc4 pm4 ct4 : Value} {cd4 : Value} {f5 : Addr} {od5 an5 : Option Addr} {sl5 : Array (Option Value)} {oc5 kV5 dc5 pm5 ct5 : Value} {cd5 : Value} {f6 : Addr} {od6 an6 : Option Addr} {sl6 : Array (Option Value)} {oc6 kV6 dc6 pm6 ct6 : Value} {cd6 : Value} {f7 : Addr} {od7 an7 : Option Addr} {sl7 : Array (Option Value)} {oc7 kV7 dc7 pm7 ct7 : Value} {cd7 : Value} {f8 : Addr} {od8 an8 : Option Addr} {sl8 : Array (Option Value)} {oc8 kV8 dc8 pm8 ct8 : Value} {cd8 : Value} {f9 : Addr} {od9 an9 : Option Addr} {sl9 : Array (Option Value)} {oc9 kV9 dc9 pm9 ct9 : Value} {cd9 : Value} {f10 : Addr} {od10 an10 : Option Addr} {sl10 : Array (Option Value)} {oc10 kV10 dc10 pm10 ct10 : Value} {cd10 : Value} {f11 : Addr} {od11 an11 : Option Addr} {sl11 : Array (Option Value)} {oc11 kV11 dc11 pm11 ct11 : Value} {cd11 : Value} {f12 : Addr} {od12 an12 : Option Addr} {sl12 : Array (Option Value)} {oc12 kV12 dc12 pm12 ct12 : Value} {cd12 : Value} {f13 : Addr} {od13 an13 : Option Addr} {sl13 : Array (Option Value)} {oc13 kV13 dc13 pm13 ct13 : Value} {cd13 : Value} {f14 : Addr} {od14 an14 : Option Addr} {sl14 : Array (Option Value)} {oc14 kV14 dc14 pm14 ct14 : Value} {cd14 : Value} {f15 : Addr} {od15 an15 : Option Addr} {sl15 : Array (Option Value)} {oc15 kV15 dc15 pm15 ct15 : Value} {cd15 : Value} {f16 : Addr} {od16 an16 : Option Addr} {sl16 : Array (Option Value)} {oc16 kV16 dc16 pm16 ct16 : Value} {cd16 : Value} {f17 : Addr} {od17 an17 : Option Addr} {sl17 : Array (Option Value)} {oc17 kV17 dc17 pm17 ct17 : Value} {cd17 : Value} {f18 : Addr} {od18 an18 : Option Addr} {sl18 : Array (Option Value)} {oc18 kV18 dc18 pm18 ct18 : Value} {cd18 : Value} {f19 : Addr} {od19 an19 : Option Addr} {sl19 : Array (Option Value)} {oc19 kV19 dc19 pm19 ct19 : Value} {cd19 : Value} {f20 : Addr} {od20 an20 : Option Addr} {sl20 : Array (Option Value)} {oc20 kV20 dc20 pm20 ct20 : Value} {cd20 : Value} {f21 : Addr} {od21 an21 : Option Addr} {sl21 : Array (Option Value)} {oc21 kV21 dc21 pm21 ct21 : Value} {cd21 : Value} {f22 : Addr} {od22 an22 : Option Addr} {sl22 : Array (Option Value)} {oc22 kV22 dc22 pm22 ct22 : Value} {cd22 : Value} {CW : Addr} {fv1 : Addr} {odv1 anv1 : Option Addr} {slv1 : Array (Option Value)} {ocv1 kVv1 dcv1 pmv1 cdv1 ctv1 : Value} {fv2 : Addr} {odv2 anv2 : Option Addr} {slv2 : Array (Option Value)} {ocv2 kVv2 dcv2 pmv2 cdv2 ctv2 : Value} {fv3 : Addr} {odv3 anv3 : Option Addr} {slv3 : Array (Option Value)} {ocv3 kVv3 dcv3 pmv3 cdv3 ctv3 : Value}
    (a1 : PySem.W.nsIn K mainGlobals "is_int" = some (some (.ref f1)))
    (l1 : K.lookup f1 = some ⟨oc1, od1, .func (PySem.W.fnOf "is_int" "is_int" (defArgs sIn) (defBody sIn) (defScope sIn) .none kV1 dc1 pm1 an1 cd1 ct1), sl1⟩)
    (c1 : PySem.W.codeIn K cd1 "is_int" = true)
    (k1 : PySem.W.keepIn K (.ref f1) = true)
    (a2 : PySem.W.nsIn K mainGlobals "form_table" = some (some (.ref f2)))
    (l2 : K.lookup f2 = some ⟨oc2, od2, .func (PySem.W.fnOf "form_table" "form_table" (defArgs sTab) (defBody sTab) (defScope sTab) .none kV2 dc2 pm2 an2 cd2 ct2), sl2⟩)
    (c2 : PySem.W.codeIn K cd2 "form_table" = true)
    (k2 : PySem.W.keepIn K (.ref f2) = true)
    (a3 : PySem.W.nsIn K mainGlobals "walked" = some (some (.ref f3)))
    (l3 : K.lookup f3 = some ⟨oc3, od3, .func (PySem.W.fnOf "walked" "walked" (defArgs sWd) (defBody sWd) (defScope sWd) .none kV3 dc3 pm3 an3 cd3 ct3), sl3⟩)
    (c3 : PySem.W.codeIn K cd3 "walked" = true)
    (k3 : PySem.W.keepIn K (.ref f3) = true)
    (a4 : PySem.W.nsIn K mainGlobals "walk_on" = some (some (.ref f4)))
    (l4 : K.lookup f4 = some ⟨oc4, od4, .func (PySem.W.fnOf "walk_on" "walk_on" (defArgs sWo) (defBody sWo) (defScope sWo) .none kV4 dc4 pm4 an4 cd4 ct4), sl4⟩)
    (c4 : PySem.W.codeIn K cd4 "walk_on" = true)
    (k4 : PySem.W.keepIn K (.ref f4) = true)
    (a5 : PySem.W.nsIn K mainGlobals "_walk_text" = some (some (.ref f5)))
    (l5 : K.lookup f5 = some ⟨oc5, od5, .func (PySem.W.fnOf "_walk_text" "_walk_text" (defArgs sT1) (defBody sT1) (defScope sT1) .none kV5 dc5 pm5 an5 cd5 ct5), sl5⟩)
    (c5 : PySem.W.codeIn K cd5 "_walk_text" = true)
    (k5 : PySem.W.keepIn K (.ref f5) = true)
    (a6 : PySem.W.nsIn K mainGlobals "_walk_skip" = some (some (.ref f6)))
    (l6 : K.lookup f6 = some ⟨oc6, od6, .func (PySem.W.fnOf "_walk_skip" "_walk_skip" (defArgs sT2) (defBody sT2) (defScope sT2) .none kV6 dc6 pm6 an6 cd6 ct6), sl6⟩)
    (c6 : PySem.W.codeIn K cd6 "_walk_skip" = true)
    (k6 : PySem.W.keepIn K (.ref f6) = true)
    (a7 : PySem.W.nsIn K mainGlobals "_end_skipped" = some (some (.ref f7)))
    (l7 : K.lookup f7 = some ⟨oc7, od7, .func (PySem.W.fnOf "_end_skipped" "_end_skipped" (defArgs sT3) (defBody sT3) (defScope sT3) .none kV7 dc7 pm7 an7 cd7 ct7), sl7⟩)
    (c7 : PySem.W.codeIn K cd7 "_end_skipped" = true)
    (k7 : PySem.W.keepIn K (.ref f7) = true)
    (a8 : PySem.W.nsIn K mainGlobals "_walk_row" = some (some (.ref f8)))
    (l8 : K.lookup f8 = some ⟨oc8, od8, .func (PySem.W.fnOf "_walk_row" "_walk_row" (defArgs sT4) (defBody sT4) (defScope sT4) .none kV8 dc8 pm8 an8 cd8 ct8), sl8⟩)
    (c8 : PySem.W.codeIn K cd8 "_walk_row" = true)
    (k8 : PySem.W.keepIn K (.ref f8) = true)
    (a9 : PySem.W.nsIn K mainGlobals "_end_row" = some (some (.ref f9)))
    (l9 : K.lookup f9 = some ⟨oc9, od9, .func (PySem.W.fnOf "_end_row" "_end_row" (defArgs sRo) (defBody sRo) (defScope sRo) .none kV9 dc9 pm9 an9 cd9 ct9), sl9⟩)
    (c9 : PySem.W.codeIn K cd9 "_end_row" = true)
    (k9 : PySem.W.keepIn K (.ref f9) = true)
    (a10 : PySem.W.nsIn K mainGlobals "_walk_either" = some (some (.ref f10)))
    (l10 : K.lookup f10 = some ⟨oc10, od10, .func (PySem.W.fnOf "_walk_either" "_walk_either" (defArgs sEi) (defBody sEi) (defScope sEi) .none kV10 dc10 pm10 an10 cd10 ct10), sl10⟩)
    (c10 : PySem.W.codeIn K cd10 "_walk_either" = true)
    (k10 : PySem.W.keepIn K (.ref f10) = true)
    (a11 : PySem.W.nsIn K mainGlobals "_end_either" = some (some (.ref f11)))
    (l11 : K.lookup f11 = some ⟨oc11, od11, .func (PySem.W.fnOf "_end_either" "_end_either" (defArgs sEE) (defBody sEE) (defScope sEE) .none kV11 dc11 pm11 an11 cd11 ct11), sl11⟩)
    (c11 : PySem.W.codeIn K cd11 "_end_either" = true)
    (k11 : PySem.W.keepIn K (.ref f11) = true)
    (a12 : PySem.W.nsIn K mainGlobals "_walk_named" = some (some (.ref f12)))
    (l12 : K.lookup f12 = some ⟨oc12, od12, .func (PySem.W.fnOf "_walk_named" "_walk_named" (defArgs sNa) (defBody sNa) (defScope sNa) .none kV12 dc12 pm12 an12 cd12 ct12), sl12⟩)
    (c12 : PySem.W.codeIn K cd12 "_walk_named" = true)
    (k12 : PySem.W.keepIn K (.ref f12) = true)
    (a13 : PySem.W.nsIn K mainGlobals "_end_named" = some (some (.ref f13)))
    (l13 : K.lookup f13 = some ⟨oc13, od13, .func (PySem.W.fnOf "_end_named" "_end_named" (defArgs sEn) (defBody sEn) (defScope sEn) .none kV13 dc13 pm13 an13 cd13 ct13), sl13⟩)
    (c13 : PySem.W.codeIn K cd13 "_end_named" = true)
    (k13 : PySem.W.keepIn K (.ref f13) = true)
    (a14 : PySem.W.nsIn K mainGlobals "_last_worths" = some (some (.ref f14)))
    (l14 : K.lookup f14 = some ⟨oc14, od14, .func (PySem.W.fnOf "_last_worths" "_last_worths" (defArgs sLa) (defBody sLa) (defScope sLa) .none kV14 dc14 pm14 an14 cd14 ct14), sl14⟩)
    (c14 : PySem.W.codeIn K cd14 "_last_worths" = true)
    (k14 : PySem.W.keepIn K (.ref f14) = true)
    (a15 : PySem.W.nsIn K mainGlobals "_law_begin" = some (some (.ref f15)))
    (l15 : K.lookup f15 = some ⟨oc15, od15, .func (PySem.W.fnOf "_law_begin" "_law_begin" (defArgs sBegin) (defBody sBegin) (defScope sBegin) .none kV15 dc15 pm15 an15 cd15 ct15), sl15⟩)
    (c15 : PySem.W.codeIn K cd15 "_law_begin" = true)
    (k15 : PySem.W.keepIn K (.ref f15) = true)
    (a16 : PySem.W.nsIn K mainGlobals "_law_next" = some (some (.ref f16)))
    (l16 : K.lookup f16 = some ⟨oc16, od16, .func (PySem.W.fnOf "_law_next" "_law_next" (defArgs sNext) (defBody sNext) (defScope sNext) .none kV16 dc16 pm16 an16 cd16 ct16), sl16⟩)
    (c16 : PySem.W.codeIn K cd16 "_law_next" = true)
    (k16 : PySem.W.keepIn K (.ref f16) = true)
    (a17 : PySem.W.nsIn K mainGlobals "_law_many" = some (some (.ref f17)))
    (l17 : K.lookup f17 = some ⟨oc17, od17, .func (PySem.W.fnOf "_law_many" "_law_many" (defArgs sMany) (defBody sMany) (defScope sMany) .none kV17 dc17 pm17 an17 cd17 ct17), sl17⟩)
    (c17 : PySem.W.codeIn K cd17 "_law_many" = true)
    (k17 : PySem.W.keepIn K (.ref f17) = true)
    (a18 : PySem.W.nsIn K mainGlobals "_law_same" = some (some (.ref f18)))
    (l18 : K.lookup f18 = some ⟨oc18, od18, .func (PySem.W.fnOf "_law_same" "_law_same" (defArgs sSm) (defBody sSm) (defScope sSm) .none kV18 dc18 pm18 an18 cd18 ct18), sl18⟩)
    (c18 : PySem.W.codeIn K cd18 "_law_same" = true)
    (k18 : PySem.W.keepIn K (.ref f18) = true)
    (a19 : PySem.W.nsIn K mainGlobals "_law_around" = some (some (.ref f19)))
    (l19 : K.lookup f19 = some ⟨oc19, od19, .func (PySem.W.fnOf "_law_around" "_law_around" (defArgs sAr) (defBody sAr) (defScope sAr) .none kV19 dc19 pm19 an19 cd19 ct19), sl19⟩)
    (c19 : PySem.W.codeIn K cd19 "_law_around" = true)
    (k19 : PySem.W.keepIn K (.ref f19) = true)
    (a20 : PySem.W.nsIn K mainGlobals "_law_above" = some (some (.ref f20)))
    (l20 : K.lookup f20 = some ⟨oc20, od20, .func (PySem.W.fnOf "_law_above" "_law_above" (defArgs sAb) (defBody sAb) (defScope sAb) .none kV20 dc20 pm20 an20 cd20 ct20), sl20⟩)
    (c20 : PySem.W.codeIn K cd20 "_law_above" = true)
    (k20 : PySem.W.keepIn K (.ref f20) = true)
    (a21 : PySem.W.nsIn K mainGlobals "_law_round" = some (some (.ref f21)))
    (l21 : K.lookup f21 = some ⟨oc21, od21, .func (PySem.W.fnOf "_law_round" "_law_round" (defArgs sRd) (defBody sRd) (defScope sRd) .none kV21 dc21 pm21 an21 cd21 ct21), sl21⟩)
    (c21 : PySem.W.codeIn K cd21 "_law_round" = true)
    (k21 : PySem.W.keepIn K (.ref f21) = true)
    (a22 : PySem.W.nsIn K mainGlobals "law" = some (some (.ref f22)))
    (l22 : K.lookup f22 = some ⟨oc22, od22, .func (PySem.W.fnOf "law" "law" (defArgs sLaw) (defBody sLaw) (defScope sLaw) .none kV22 dc22 pm22 an22 cd22 ct22), sl22⟩)
    (c22 : PySem.W.codeIn K cd22 "law" = true)
    (k22 : PySem.W.keepIn K (.ref f22) = true)
    (z1 : PySem.W.nsIn K mainGlobals "range" = some none)
    (z2 : PySem.W.nsIn K mainGlobals "len" = some none)
    (z3 : PySem.W.nsIn K mainGlobals "list" = some none)
    (z4 : PySem.W.nsIn K mainGlobals "zip" = some none)
    (z5 : PySem.W.nsIn K mainGlobals "tuple" = some none)
    (z6 : PySem.W.nsIn K mainGlobals "min" = some none)
    (z7 : PySem.W.nsIn K mainGlobals "isinstance" = some none)
    (z8 : PySem.W.nsIn K mainGlobals "int" = some none)
    (z9 : PySem.W.nsIn K mainGlobals "bool" = some none)
    (z10 : PySem.W.nsIn K mainGlobals "str" = some none)
    (z11 : PySem.W.nsIn K mainGlobals "all" = some none)
    (z12 : PySem.W.nsIn K mainGlobals "reversed" = some none)
    (aCv : PySem.W.nsIn K mainGlobals "Walk" = some (some (.ref CW)))
    (av1 : PySem.W.findIn K (.ref CW) "__init__" = some (some (.ref fv1))) (iv1 : PySem.W.isFn K (.ref fv1) = true) (lv1 : K.lookup fv1 = some ⟨ocv1, odv1, .func (PySem.W.fnOf "__init__" "Walk.__init__" (defArgs sWi) (defBody sWi) (defScope sWi) .none kVv1 dcv1 pmv1 anv1 cdv1 ctv1), slv1⟩) (cv1 : PySem.W.codeIn K cdv1 "Walk.__init__" = true) (kv1 : PySem.W.keepIn K (.ref fv1) = true)
    (av2 : PySem.W.findIn K (.ref CW) "told" = some (some (.ref fv2))) (iv2 : PySem.W.isFn K (.ref fv2) = true) (lv2 : K.lookup fv2 = some ⟨ocv2, odv2, .func (PySem.W.fnOf "told" "Walk.told" (defArgs sWt) (defBody sWt) (defScope sWt) .none kVv2 dcv2 pmv2 anv2 cdv2 ctv2), slv2⟩) (cv2 : PySem.W.codeIn K cdv2 "Walk.told" = true) (kv2 : PySem.W.keepIn K (.ref fv2) = true)
    (av3 : PySem.W.findIn K (.ref CW) "choice" = some (some (.ref fv3))) (iv3 : PySem.W.isFn K (.ref fv3) = true) (lv3 : K.lookup fv3 = some ⟨ocv3, odv3, .func (PySem.W.fnOf "choice" "Walk.choice" (defArgs sWc) (defBody sWc) (defScope sWc) .none kVv3 dcv3 pmv3 anv3 cdv3 ctv3), slv3⟩) (cv3 : PySem.W.codeIn K cdv3 "Walk.choice" = true) (kv3 : PySem.W.keepIn K (.ref fv3) = true)
    (pg_v : PySem.W.plainGet K CW Str.empty = true) (hd_v : PySem.W.hasDictIn K CW = true) (po_v : PySem.W.plainOver K CW = true) (sa_v : PySem.W.findIn K (.ref CW) "__setattr__" = some (some (.builtin "object.__setattr__"))) (mk_v : PySem.W.makesIn K CW = true) (kc_v : PySem.W.keepIn K (.ref CW) = true)
    (n_table : PySem.W.findIn K (.ref CW) "table" = some none)
    (n_text : PySem.W.findIn K (.ref CW) "text" = some none)
    (n_way : PySem.W.findIn K (.ref CW) "way" = some none)
    (n_place : PySem.W.findIn K (.ref CW) "place" = some none)
    (n_taken : PySem.W.findIn K (.ref CW) "taken" = some none)
    (n_todo : PySem.W.findIn K (.ref CW) "todo" = some none)
    (n_worths : PySem.W.findIn K (.ref CW) "worths" = some none)
    (n_within : PySem.W.findIn K (.ref CW) "within" = some none)
    {S B : Addr} {eS : Array DictEntry} {nS nB : Nat} {odB : Option Addr} {slB : Array (Option Value)} {tb1 tb2 : Tok}
    (hS : PySem.W.nsIn K mainGlobals "_STEPS" = some (some (.ref S)))
    (dS : K.lookup S = some ⟨.type "dict", none, .dict eS nS, #[]⟩)
    (lS : PySem.W.KeysLit w.params eS.toList)
    (wS : (S == sysModules) = false)
    (hB : PySem.W.nsIn K mainGlobals "BARE" = some (some (.ref B)))
    (dB : K.lookup B = some ⟨.type "tuple", odB, .seq #[.str "text" tb1, .str "skip" tb2] nB, slB⟩)
    (s0 : PySem.W.nsIn K S "text" = some (some (.ref f5)))
    (s1 : PySem.W.nsIn K S "skip" = some (some (.ref f6)))
    (s2 : PySem.W.nsIn K S "row" = some (some (.ref f8)))
    (s3 : PySem.W.nsIn K S "either" = some (some (.ref f10)))
    (s4 : PySem.W.nsIn K S "named" = some (some (.ref f12)))
    (s5 : PySem.W.nsIn K S "skipped" = some (some (.ref f7)))
    (s6 : PySem.W.nsIn K S "rowed" = some (some (.ref f9)))
    (s7 : PySem.W.nsIn K S "chosen" = some (some (.ref f11)))
    (s8 : PySem.W.nsIn K S "out of" = some (some (.ref f13))) :
    ∃ fd : FuncData, (∀ (s : Shared) (u : Value), BindsTo s fd ⟨[u], []⟩ [("_law_script", u)]) ∧ ∀ base : Heap, K.In base → base.Ns mainGlobals mg → FnOk l.prog w K mg base CX0 22 fa fd ["_law_script"] (spLaw K) := by
  have e := hfa.symm.trans (PySem.W.mg_of X G a22)
  cases e
  have F1 := fun_mk (st := sIn) l1 c1 k1
  have F2 := fun_mk (st := sTab) l2 c2 k2
  have F3 := fun_mk (st := sWd) l3 c3 k3
  have F4 := fun_mk (st := sWo) l4 c4 k4
  have F5 := fun_mk (st := sT1) l5 c5 k5
  have F6 := fun_mk (st := sT2) l6 c6 k6
  have F7 := fun_mk (st := sT3) l7 c7 k7
  have F8 := fun_mk (st := sT4) l8 c8 k8
  have F9 := fun_mk (st := sRo) l9 c9 k9
  have F10 := fun_mk (st := sEi) l10 c10 k10
  have F11 := fun_mk (st := sEE) l11 c11 k11
  have F12 := fun_mk (st := sNa) l12 c12 k12
  have F13 := fun_mk (st := sEn) l13 c13 k13
  have F14 := fun_mk (st := sLa) l14 c14 k14
  have F15 := fun_mk (st := sBegin) l15 c15 k15
  have F16 := fun_mk (st := sNext) l16 c16 k16
  have F17 := fun_mk (st := sMany) l17 c17 k17
  have F18 := fun_mk (st := sSm) l18 c18 k18
  have F19 := fun_mk (st := sAr) l19 c19 k19
  have F20 := fun_mk (st := sAb) l20 c20 k20
  have F21 := fun_mk (st := sRd) l21 c21 k21
  have F22 := fun_mk (st := sLaw) l22 c22 k22
  have b1 := F1.binds (ps := ["x"]) fun _ _ _ _ _ _ us hl => match us, hl with | [_], _ => rfl
  have g1 := PySem.W.mg_of X G a1
  have b2 := F2.binds (ps := ["book"]) fun _ _ _ _ _ _ us hl => match us, hl with | [_], _ => rfl
  have g2 := PySem.W.mg_of X G a2
  have b3 := F3.binds (ps := ["book", "text", "way"]) fun _ _ _ _ _ _ us hl => match us, hl with | [_, _, _], _ => rfl
  have g3 := PySem.W.mg_of X G a3
  have b4 := F4.binds (ps := ["walk", "item"]) fun _ _ _ _ _ _ us hl => match us, hl with | [_, _], _ => rfl
  have g4 := PySem.W.mg_of X G a4
  have b5 := F5.binds (ps := ["walk", "form"]) fun _ _ _ _ _ _ us hl => match us, hl with | [_, _], _ => rfl
  have g5 := PySem.W.mg_of X G a5
  have b6 := F6.binds (ps := ["walk", "form"]) fun _ _ _ _ _ _ us hl => match us, hl with | [_, _], _ => rfl
  have g6 := PySem.W.mg_of X G a6
  have b7 := F7.binds (ps := ["walk", "_"]) fun _ _ _ _ _ _ us hl => match us, hl with | [_, _], _ => rfl
  have g7 := PySem.W.mg_of X G a7
  have b8 := F8.binds (ps := ["walk", "form"]) fun _ _ _ _ _ _ us hl => match us, hl with | [_, _], _ => rfl
  have g8 := PySem.W.mg_of X G a8
  have b9 := F9.binds (ps := ["walk", "item"]) fun _ _ _ _ _ _ us hl => match us, hl with | [_, _], _ => rfl
  have g9 := PySem.W.mg_of X G a9
  have b10 := F10.binds (ps := ["walk", "form"]) fun _ _ _ _ _ _ us hl => match us, hl with | [_, _], _ => rfl
  have g10 := PySem.W.mg_of X G a10
  have b11 := F11.binds (ps := ["walk", "item"]) fun _ _ _ _ _ _ us hl => match us, hl with | [_, _], _ => rfl
  have g11 := PySem.W.mg_of X G a11
  have b12 := F12.binds (ps := ["walk", "form"]) fun _ _ _ _ _ _ us hl => match us, hl with | [_, _], _ => rfl
  have g12 := PySem.W.mg_of X G a12
  have b13 := F13.binds (ps := ["walk", "item"]) fun _ _ _ _ _ _ us hl => match us, hl with | [_, _], _ => rfl
  have g13 := PySem.W.mg_of X G a13
  have b14 := F14.binds (ps := ["walk", "many"]) fun _ _ _ _ _ _ us hl => match us, hl with | [_, _], _ => rfl
  have g14 := PySem.W.mg_of X G a14
  have b15 := F15.binds (ps := ["_law_script"]) fun _ _ _ _ _ _ us hl => match us, hl with | [_], _ => rfl
  have g15 := PySem.W.mg_of X G a15
  have b16 := F16.binds (ps := ["_law_draws", "_law_many_here"]) fun _ _ _ _ _ _ us hl => match us, hl with | [_, _], _ => rfl
  have g16 := PySem.W.mg_of X G a16
  have b17 := F17.binds (ps := ["_law_draws", "_law_few", "_law_most"]) fun _ _ _ _ _ _ us hl => match us, hl with | [_, _, _], _ => rfl
  have g17 := PySem.W.mg_of X G a17
  have b18 := F18.binds (ps := ["_law_one", "_law_due"]) fun _ _ _ _ _ _ us hl => match us, hl with | [_, _], _ => rfl
  have g18 := PySem.W.mg_of X G a18
  have b19 := F19.binds (ps := ["_law_draws", "_law_name"]) fun _ _ _ _ _ _ us hl => match us, hl with | [_, _], _ => rfl
  have g19 := PySem.W.mg_of X G a19
  have b20 := F20.binds (ps := ["_law_form", "_law_worth"]) fun _ _ _ _ _ _ us hl => match us, hl with | [_, _], _ => rfl
  have g20 := PySem.W.mg_of X G a20
  have b21 := F21.binds (ps := ["_law_rows", "_law_worth"]) fun _ _ _ _ _ _ us hl => match us, hl with | [_, _], _ => rfl
  have g21 := PySem.W.mg_of X G a21
  have m_range := PySem.W.mg_none_of X G z1
  have m_len := PySem.W.mg_none_of X G z2
  have m_list := PySem.W.mg_none_of X G z3
  have m_zip := PySem.W.mg_none_of X G z4
  have m_tuple := PySem.W.mg_none_of X G z5
  have m_min := PySem.W.mg_none_of X G z6
  have m_isinstance := PySem.W.mg_none_of X G z7
  have m_int := PySem.W.mg_none_of X G z8
  have m_bool := PySem.W.mg_none_of X G z9
  have m_str := PySem.W.mg_none_of X G z10
  have m_all := PySem.W.mg_none_of X G z11
  have m_reversed := PySem.W.mg_none_of X G z12
  have mS := PySem.W.mg_of X G hS
  have mB := PySem.W.mg_of X G hB
  have DS : KDict K w S eS nS := ⟨dS, lS, wS⟩
  have HB : BareAt K B := fun H => .inr ⟨_, _, _, dB, rfl, rfl, by show 2 ≤ sizeLine; decide, .cons ⟨_, rfl⟩ (.cons ⟨_, rfl⟩ .nil)⟩
  have TW : WkCls K CW := ⟨⟨pg_v, hd_v, po_v, sa_v⟩, fun m hm => by
    simp only [List.mem_cons, List.not_mem_nil, or_false] at hm
    rcases hm with rfl | rfl | rfl | rfl | rfl | rfl | rfl | rfl <;> assumption⟩
  have gCW := PySem.W.mg_of X G aCv
  have MkW : Mk K CW fv1 := ⟨mk_v, av1, iv1, kc_v⟩
  have Mto : Meth K CW "told" fv2 := ⟨av2, iv2, kv2⟩
  have Mch : Meth K CW "choice" fv3 := ⟨av3, iv3, kv3⟩
  have Fv1 := fun_mk (st := sWi) lv1 cv1 kv1
  have bv1 := Fv1.binds (ps := ["self", "table", "text", "way"]) fun _ _ _ _ _ _ us hl => match us, hl with | [_, _, _, _], _ => rfl
  have Fv2 := fun_mk (st := sWt) lv2 cv2 kv2
  have bv2 := Fv2.binds (ps := ["self", "signs"]) fun _ _ _ _ _ _ us hl => match us, hl with | [_, _], _ => rfl
  have Fv3 := fun_mk (st := sWc) lv3 cv3 kv3
  have bv3 := Fv3.binds (ps := ["self", "options"]) fun _ _ _ _ _ _ us hl => match us, hl with | [_, _], _ => rfl
  refine ⟨PySem.W.fnOf "law" "law" (defArgs sLaw) (defBody sLaw) (defScope sLaw) .none kV22 dc22 pm22 an22 cd22 ct22, fun s v => .of_eq rfl, fun base hK hN => ?_⟩
  · have GIn := ok_in (P := l.prog) (w := w) (mg := mg) (base := base) (k := 0) F1 m_isinstance m_int m_bool
    have GTab := ok_tab (P := l.prog) (w := w) (mg := mg) (base := base) (k := 0) F2
    have GWi := ok_wi (P := l.prog) (w := w) (mg := mg) (base := base) (k := 0) Fv1 TW
    have GSt : ∀ cx : Wx, cx.C = CW → StAt l.prog w K mg base cx 3 S := fun cx hcx => by
      subst hcx
      have GTo := ok_wt (P := l.prog) (w := w) (mg := mg) (base := base) (k := 0) Fv2 TW m_len
      have GCh := ok_wc (k := 1) Fv3 TW GIn k1 b1 g1 m_len m_isinstance m_tuple
      have GLa := ok_la (P := l.prog) (w := w) (mg := mg) (base := base) (c := cx) (k := 0) F14 TW m_len
      exact st_all (at_step s0 k5 (ok_t1 (k := 1) F5 TW Mto GTo bv2) b5 (by decide))
        (at_step s1 k6 (ok_t2 (P := l.prog) (w := w) (mg := mg) (base := base) (k := 0) F6 TW) b6 (by decide))
        (at_step s2 k8 (ok_t4 (P := l.prog) (w := w) (mg := mg) (base := base) (k := 0) F8 TW) b8 (by decide))
        (at_step s3 k10 (ok_ei (k := 2) F10 TW Mch GCh bv3) b10 (by decide))
        (at_step s4 k12 (ok_na (P := l.prog) (w := w) (mg := mg) (base := base) (k := 0) F12 TW) b12 (by decide))
        (at_step s5 k7 (ok_t3 (P := l.prog) (w := w) (mg := mg) (base := base) (k := 0) F7 TW) b7 (by decide))
        (at_step s6 k9 (ok_ro (k := 1) F9 TW GLa k14 b14 g14 m_len m_tuple m_zip mB HB) b9 (by decide))
        (at_step s7 k11 (ok_ee (P := l.prog) (w := w) (mg := mg) (base := base) (k := 0) F11 TW mB HB) b11 (by decide))
        (at_step s8 k13 (ok_en (P := l.prog) (w := w) (mg := mg) (base := base) (k := 0) F13 TW) b13 (by decide))
    have GWo : ∀ cx : Wx, cx.C = CW → FnOk l.prog w K mg base CX0 4 _ _ _ (spItem cx It.ok) := fun cx hcx => ok_wo (k := 3) F4 mS DS (GSt cx hcx)
    have GWd := ok_wd (k := 3) F3 TW (GTab.mono (by decide)) k2 b2 g2 gCW MkW (GWi.mono (by decide)) bv1 GWo k4 b4 g4 m_isinstance m_tuple m_len
    have GBe := ok_begin (P := l.prog) (w := w) (mg := mg) (base := base) (k := 0) F15 m_list
    have GN := ok_next (P := l.prog) (w := w) (mg := mg) (base := base) (k := 0) F16 m_len m_int
    have GM := ok_many F17 GN k16 b16 g16
    have GAr := ok_ar F19 GN k16 b16 g16
    have GAb := ok_ab (P := l.prog) (w := w) (mg := mg) (base := base) (k := 0) F20 m_tuple
    have GRd := ok_rd F21 GAb k20 b20 g20 m_reversed
    have GS0 : FnOk l.prog w K mg base CX0 0 _ _ _ (spSame 0) := none_sm (f := f18) (fd := PySem.W.fnOf "_law_same" "_law_same" (defArgs sSm) (defBody sSm) (defScope sSm) .none kV18 dc18 pm18 an18 cd18 ct18)
    have GS1 := ok_sm (n := 0) (k := 0) F18 GS0 k18 b18 g18 m_isinstance m_tuple m_str m_int m_bool m_len m_zip m_all
    have GS2 := ok_sm (n := 1) (k := 1) F18 GS1 k18 b18 g18 m_isinstance m_tuple m_str m_int m_bool m_len m_zip m_all
    have GS3 := ok_sm (n := 2) (k := 2) F18 GS2 k18 b18 g18 m_isinstance m_tuple m_str m_int m_bool m_len m_zip m_all
    have GS4 := ok_sm (n := 3) (k := 3) F18 GS3 k18 b18 g18 m_isinstance m_tuple m_str m_int m_bool m_len m_zip m_all
    have GS5 := ok_sm (n := 4) (k := 4) F18 GS4 k18 b18 g18 m_isinstance m_tuple m_str m_int m_bool m_len m_zip m_all
    have GS6 := ok_sm (n := 5) (k := 5) F18 GS5 k18 b18 g18 m_isinstance m_tuple m_str m_int m_bool m_len m_zip m_all
    have GS7 := ok_sm (n := 6) (k := 6) F18 GS6 k18 b18 g18 m_isinstance m_tuple m_str m_int m_bool m_len m_zip m_all
    have GS8 := ok_sm (n := 7) (k := 7) F18 GS7 k18 b18 g18 m_isinstance m_tuple m_str m_int m_bool m_len m_zip m_all
    have GS9 := ok_sm (n := 8) (k := 8) F18 GS8 k18 b18 g18 m_isinstance m_tuple m_str m_int m_bool m_len m_zip m_all
    have GS10 := ok_sm (n := 9) (k := 9) F18 GS9 k18 b18 g18 m_isinstance m_tuple m_str m_int m_bool m_len m_zip m_all
    have GS11 := ok_sm (n := 10) (k := 10) F18 GS10 k18 b18 g18 m_isinstance m_tuple m_str m_int m_bool m_len m_zip m_all
    have GS12 := ok_sm (n := 11) (k := 11) F18 GS11 k18 b18 g18 m_isinstance m_tuple m_str m_int m_bool m_len m_zip m_all
    have GS13 := ok_sm (n := 12) (k := 12) F18 GS12 k18 b18 g18 m_isinstance m_tuple m_str m_int m_bool m_len m_zip m_all
    have GS14 := ok_sm (n := 13) (k := 13) F18 GS13 k18 b18 g18 m_isinstance m_tuple m_str m_int m_bool m_len m_zip m_all
    have GS15 := ok_sm (n := 14) (k := 14) F18 GS14 k18 b18 g18 m_isinstance m_tuple m_str m_int m_bool m_len m_zip m_all
    have GS16 := ok_sm (n := 15) (k := 15) F18 GS15 k18 b18 g18 m_isinstance m_tuple m_str m_int m_bool m_len m_zip m_all
    have GS17 := ok_sm (n := 16) (k := 16) F18 GS16 k18 b18 g18 m_isinstance m_tuple m_str m_int m_bool m_len m_zip m_all
    have GS18 := ok_sm (n := 17) (k := 17) F18 GS17 k18 b18 g18 m_isinstance m_tuple m_str m_int m_bool m_len m_zip m_all
    have GS19 := ok_sm (n := 18) (k := 18) F18 GS18 k18 b18 g18 m_isinstance m_tuple m_str m_int m_bool m_len m_zip m_all
    have GS20 := ok_sm (n := 19) (k := 19) F18 GS19 k18 b18 g18 m_isinstance m_tuple m_str m_int m_bool m_len m_zip m_all
    have GS21 := ok_sm (n := 20) (k := 20) F18 GS20 k18 b18 g18 m_isinstance m_tuple m_str m_int m_bool m_len m_zip m_all
    exact ok_law (k := 21) F22 (GBe.mono (by decide)) k15 b15 g15 (GM.mono (by decide)) k17 b17 g17 (GN.mono (by decide)) k16 b16 g16 (GAr.mono (by decide)) k19 b19 g19 (GWd.mono (by decide)) k3 b3 g3 GS21 k18 b18 g18 (GRd.mono (by decide)) k21 b21 g21 m_range m_tuple m_min
end RT
open PySem PySem.W PyProof.Rows
set_option maxRecDepth 100000 in
set_option maxHeartbeats 0 in
theorem PySem.Challenge.cw_readtell_k14_rings_without_end_holds : PySem.Challenge.rw_readtell_k14_rings_without_end.Holds := by
  w_on; o_law; k_head; (case hw => w_witness2)
  k_fill
  refine L2.walk_ofK (l := PySem.Challenge.rw_readtell_k14_rings_without_end) (n := 63) (k := 22) (x := "_law_script") (CX := L2.CX0) (sp := RT.spLaw) rfl (by decide) rfl ⟨rfl, by decide, by decide⟩ (fun w h Y => PySem.W.kIn_of Y) ?F (fun _ _ a ns _ _ hS => ⟨a, ns, rfl, hS, fun _ => rfl⟩) (fun _ _ _ _ z => z)
  case F =>
    intro w mg fa h KX G hmg
    refine' RT.all_mk KX G hmg ?a1 ?l1 ?c1 ?k1 ?a2 ?l2 ?c2 ?k2 ?a3 ?l3 ?c3 ?k3 ?a4 ?l4 ?c4 ?k4 ?a5 ?l5 ?c5 ?k5 ?a6 ?l6 ?c6 ?k6 ?a7 ?l7 ?c7 ?k7 ?a8 ?l8 ?c8 ?k8 ?a9 ?l9 ?c9 ?k9 ?a10 ?l10 ?c10 ?k10 ?a11 ?l11 ?c11 ?k11 ?a12 ?l12 ?c12 ?k12 ?a13 ?l13 ?c13 ?k13 ?a14 ?l14 ?c14 ?k14 ?a15 ?l15 ?c15 ?k15 ?a16 ?l16 ?c16 ?k16 ?a17 ?l17 ?c17 ?k17 ?a18 ?l18 ?c18 ?k18 ?a19 ?l19 ?c19 ?k19 ?a20 ?l20 ?c20 ?k20 ?a21 ?l21 ?c21 ?k21 ?a22 ?l22 ?c22 ?k22 ?z1 ?z2 ?z3 ?z4 ?z5 ?z6 ?z7 ?z8 ?z9 ?z10 ?z11 ?z12 ?aCv ?av1 ?iv1 ?lv1 ?cv1 ?kv1 ?av2 ?iv2 ?lv2 ?cv2 ?kv2 ?av3 ?iv3 ?lv3 ?cv3 ?kv3 ?pg_v ?hd_v ?po_v ?sa_v ?mk_v ?kc_v ?n_table ?n_text ?n_way ?n_place ?n_taken ?n_todo ?n_worths ?n_within ?hS ?dS ?lS ?wS ?hB ?dB ?s0 ?s1 ?s2 ?s3 ?s4 ?s5 ?s6 ?s7 ?s8
    (case a1 => k_is)
    (case l1 => k_is)
    (case c1 => k_is)
    (case k1 => k_is)
    (case a2 => k_is)
    (case l2 => k_is)
    (case c2 => k_is)
    (case k2 => k_is)
    (case a3 => k_is)
    (case l3 => k_is)
    (case c3 => k_is)
    (case k3 => k_is)
    (case a4 => k_is)
    (case l4 => k_is)
    (case c4 => k_is)
    (case k4 => k_is)
    (case a5 => k_is)
    (case l5 => k_is)
    (case c5 => k_is)
    (case k5 => k_is)
    (case a6 => k_is)
    (case l6 => k_is)
    (case c6 => k_is)
    (case k6 => k_is)
    (case a7 => k_is)
    (case l7 => k_is)
    (case c7 => k_is)
    (case k7 => k_is)
    (case a8 => k_is)
    (case l8 => k_is)
    (case c8 => k_is)
    (case k8 => k_is)
    (case a9 => k_is)
    (case l9 => k_is)
    (case c9 => k_is)
    (case k9 => k_is)
    (case a10 => k_is)
    (case l10 => k_is)
    (case c10 => k_is)
    (case k10 => k_is)
    (case a11 => k_is)
    (case l11 => k_is)
    (case c11 => k_is)
    (case k11 => k_is)
    (case a12 => k_is)
    (case l12 => k_is)
    (case c12 => k_is)
    (case k12 => k_is)
    (case a13 => k_is)
    (case l13 => k_is)
    (case c13 => k_is)
    (case k13 => k_is)
    (case a14 => k_is)
    (case l14 => k_is)
    (case c14 => k_is)
    (case k14 => k_is)
    (case a15 => k_is)
    (case l15 => k_is)
    (case c15 => k_is)
    (case k15 => k_is)
    (case a16 => k_is)
    (case l16 => k_is)
    (case c16 => k_is)
    (case k16 => k_is)
    (case a17 => k_is)
    (case l17 => k_is)
    (case c17 => k_is)
    (case k17 => k_is)
    (case a18 => k_is)
    (case l18 => k_is)
    (case c18 => k_is)
    (case k18 => k_is)
    (case a19 => k_is)
    (case l19 => k_is)
    (case c19 => k_is)
    (case k19 => k_is)
    (case a20 => k_is)
    (case l20 => k_is)
    (case c20 => k_is)
    (case k20 => k_is)
    (case a21 => k_is)
    (case l21 => k_is)
    (case c21 => k_is)
    (case k21 => k_is)
    (case a22 => k_is)
    (case l22 => k_is)
    (case c22 => k_is)
    (case k22 => k_is)
    (case z1 => k_is)
    (case z2 => k_is)
    (case z3 => k_is)
    (case z4 => k_is)
    (case z5 => k_is)
    (case z6 => k_is)
    (case z7 => k_is)
    (case z8 => k_is)
    (case z9 => k_is)
    (case z10 => k_is)
    (case z11 => k_is)
    (case z12 => k_is)
    (case aCv => k_is)
    (case av1 => k_is)
    (case iv1 => k_is)
    (case lv1 => k_is)
    (case cv1 => k_is)
    (case kv1 => k_is)
    (case av2 => k_is)
    (case iv2 => k_is)
    (case lv2 => k_is)
    (case cv2 => k_is)
    (case kv2 => k_is)
    (case av3 => k_is)
    (case iv3 => k_is)
    (case lv3 => k_is)
    (case cv3 => k_is)
    (case kv3 => k_is)
    (case pg_v => k_is)
    (case hd_v => k_is)
    (case po_v => k_is)
    (case sa_v => k_is)
    (case mk_v => k_is)
    (case kc_v => k_is)
    (case n_table => k_is)
    (case n_text => k_is)
    (case n_way => k_is)
    (case n_place => k_is)
    (case n_taken => k_is)
    (case n_todo => k_is)
    (case n_worths => k_is)
    (case n_within => k_is)
    (case hS => k_is)
    (case dS => k_is)
    (case lS => exact ⟨⟨_, _, rfl, rfl⟩, ⟨_, _, rfl, rfl⟩, ⟨_, _, rfl, rfl⟩, ⟨_, _, rfl, rfl⟩, ⟨_, _, rfl, rfl⟩, ⟨_, _, rfl, rfl⟩, ⟨_, _, rfl, rfl⟩, ⟨_, _, rfl, rfl⟩, ⟨_, _, rfl, rfl⟩, ⟨_, _, rfl, rfl⟩, ⟨_, _, rfl, rfl⟩, ⟨_, _, rfl, rfl⟩, ⟨_, _, rfl, rfl⟩, ⟨_, _, rfl, rfl⟩, ⟨_, _, rfl, rfl⟩, ⟨_, _, rfl, rfl⟩, ⟨_, _, rfl, rfl⟩, ⟨_, _, rfl, rfl⟩, ⟨_, _, rfl, rfl⟩, ⟨_, _, rfl, rfl⟩, ⟨_, _, rfl, rfl⟩, ⟨_, _, rfl, rfl⟩, trivial⟩)
    (case wS => rfl)
    (case hB => k_is)
    (case dB => k_is)
    (case s0 => k_is)
    (case s1 => k_is)
    (case s2 => k_is)
    (case s3 => k_is)
    (case s4 => k_is)
    (case s5 => k_is)
    (case s6 => k_is)
    (case s7 => k_is)
    (case s8 => k_is)
