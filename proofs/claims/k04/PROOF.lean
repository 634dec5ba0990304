import PyProof.Rows.All
import Wide.All
import OpenK.AllK
import Wide.FinOn
import PySem.Challenge.RW_readtell_k04_forms_spoilt
import HandS.ForMost
import HandS.Wide
import HandS.IsInst
import HandS.TupLe
import HandS.AnyAll
import HandS.EndTab
import HandS.SetFor
import HandS.Strs
import HandS.SetTxt0
import HandS.Dict
import HandS.GenList
import HandS.TupAny
import HandS.Text
import HandS.Zip
import HandS.DictTup
import KE.KDictZip
import HandS.TupMul
import PyProof.NeKinds
import PyProof.Rows.EqBoolInt
import HandS.Small
import PyProof.Rows.StrMeet
import HandS.IterVal
import KE.KeyNested
import KE.KDictCopyH
import HandS.Flow
import HandS.Style
set_option Elab.async false
set_option linter.all false
set_option maxRecDepth 100000
/-! the drawing words of the law, by hand -/
namespace RT
open PySem PySem.Spec PyProof.Rows L2
def topS (i : Nat) : Stmt := PySem.Challenge.pw_readtell_k04_forms_spoilt.main.body.getD i (.Pass ⟨0, 0, 0, 0⟩)
abbrev sPot : Stmt := topS 33
abbrev sNext : Stmt := topS 34
abbrev sPick : Stmt := topS 35
/-! ### frames -/
/-- all but the places M stays -/
def Kp (M : Addr → Prop) (H H' : Hp) : Prop := ∀ b o, ¬ M b → H b = some o → H' b = some o
theorem Kp.refl {M : Addr → Prop} {H : Hp} : Kp M H H := fun _ _ _ e => e
theorem Kp.trans {M : Addr → Prop} {H H1 H2 : Hp} (a : Kp M H H1) (b : Kp M H1 H2) : Kp M H H2 := fun c o h e => b c o h (a c o h e)
theorem Kp.mono {M N : Addr → Prop} {H H1 : Hp} (a : Kp M H H1) (h : ∀ b, M b → N b) : Kp N H H1 := fun c o k e => a c o (fun z => k (h c z)) e
theorem Kp.new {M : Addr → Prop} {H : Hp} {p : Addr} {o : HO} (h : H p = none) : Kp M H (upd H p o) := fun b u _ e => by rw [upd_ne (ne_of_none e h)]; exact e
theorem Kp.put {M : Addr → Prop} {H : Hp} {p : Addr} {o : HO} (h : M p) : Kp M H (upd H p o) := fun b u k e => by rw [upd_ne (fun z => k (by rw [z]; exact h))]; exact e
abbrev M0 : Addr → Prop := fun _ => False
theorem sqL_keep {K : PySem.W.Frag} {H H' : Hp} {a : Addr} {xs : List V} (k : Kp M0 H H') (h : SqL K H a xs) : SqL K H' a xs := by
  rcases h with (h | ⟨o, h⟩) | h
  · exact .inl (.inl (k _ _ (fun z => z) h))
  · exact .inl (.inr ⟨o, k _ _ (fun z => z) h⟩)
  · exact .inr h
/-! ### the pot -/
abbrev Ex := Option (Int × Int × Int)
/-- room, told, signs, once they are there -/
def exL : Ex → List (Key × V)
  | none => []
  | some (r, o, g) => [(.inr "room", .int r), (.inr "told", .int o), (.inr "signs", .int g)]
theorem exL_few (e : Ex) : (exL e).length ≤ 3 := by rcases e with _ | ⟨r, o, g⟩ <;> simp [exL]
def potD (po : Addr) (s t : Int) (e : Ex) : HO := .dK ((.inr "own", .ref po) :: (.inr "seed", .int s) :: (.inr "turn", .int t) :: exL e)
structure Pot (H : Hp) (pd po : Addr) (t : Nat) (e : Ex) : Prop where
  d : ∃ s : Int, 0 ≤ s ∧ s < 2305843009213693951 ∧ H pd = some (potD po s t e)
  o : ∃ ns : List Int, ns.length ≤ 63 ∧ (∀ n ∈ ns, 0 ≤ n) ∧ H po = some (.lst (ns.map V.int))
theorem Pot.keep {M : Addr → Prop} {H H' : Hp} {pd po : Addr} {t : Nat} {ex : Ex} (P : Pot H pd po t ex) (k : Kp M H H') (hd : ¬ M pd) (ho : ¬ M po) : Pot H' pd po t ex := by
  obtain ⟨⟨s, h0, h1, e⟩, ns, h2, h3, e2⟩ := P
  exact ⟨⟨s, h0, h1, k _ _ hd e⟩, ns, h2, h3, k _ _ ho e2⟩
/-- what the drawing words may change -/
abbrev PM (pd po : Addr) : Addr → Prop := fun b => b = pd ∨ b = po
theorem scPot : FnScope ["_law_script", "_law_seed", "_law_own", "_law_far", "_law_cell"] ["_law_script"] (defScope sPot) := ⟨rfl, rfl, rfl, by decide +kernel, rfl, by decide +kernel, by decide +kernel⟩
theorem scNext : FnScope ["_law_pot_here", "_law_many", "_law_digit", "_law_turn", "_law_mixed"] ["_law_pot_here", "_law_many"] (defScope sNext) := ⟨rfl, rfl, rfl, by decide +kernel, rfl, by decide +kernel, by decide +kernel⟩
theorem scPick : FnScope ["_law_pot_here", "_law_some"] ["_law_pot_here", "_law_some"] (defScope sPick) := ⟨rfl, rfl, rfl, by decide +kernel, rfl, by decide +kernel, by decide +kernel⟩
section
variable {P : Program} {w : World} {K : PySem.W.Frag} {mg : Str → Option Value} {base : Heap}
def spPot (K : PySem.W.Frag) : Sp := fun vs H Q _ => ∃ (a : Addr) (ns : List Int), vs = [.ref a] ∧ SqL K H a (ns.map V.int) ∧
  ∀ (pd po : Addr) (H' : Hp), Kp M0 H H' → H pd = none → H po = none → pd ≠ po → Pot H' pd po 0 none → Q (.ref pd) H'
theorem cut63 (xs : List V) : cutV xs none (some 63) = xs.take 63 := by
  unfold cutV
  rw [HT.sIx_none, show HT.sIx xs.length xs.length (some 63) = min 63 xs.length from HT.sIx_nat xs.length xs.length 63]
  rw [List.drop_zero, Nat.sub_zero]
  by_cases h : xs.length ≤ 63
  · rw [Nat.min_eq_right h, List.take_length, List.take_of_length_le h]
  · rw [Nat.min_eq_left (by omega)]
theorem ok_pot {f : Addr} {fd : FuncData} {k : Nat} (F : Fun K "_law_pot" "_law_pot" sPot f fd) (mabs : mg "abs" = none) : FnOk P w K mg base CX0 (k + 1) f fd ["_law_script"] (spPot K) := by
  refine F.ok scPot (fun vs H Q E h => ?_) (fun cdv A outer s H vs Q E hr h => ?_)
  · obtain ⟨a, ns, rfl, _⟩ := h
    rfl
  · obtain ⟨a, ns, rfl, hS, q⟩ := h
    refine ⟨_, pss_cons (ps_set (i := 1) scPot.nd rfl (.inl rfl) pe_int)
      (pss_cons (ps_set (i := 2) scPot.nd rfl (.inl rfl) (pe_lst pa_nil))
      (pss_cons (ps_set (i := 3) scPot.nd rfl (.inl rfl) (pe_op op_mulW (pe_op op_mulW (pe_op op_pow pe_int pe_int) (pe_op op_pow pe_int pe_int)) (pe_op op_pow pe_int pe_int)))
      (pss_cons (ps_for PassesOwn.never rfl (pi_list (pe_slice sl_list (pv 0) po_none (po_some pe_int))) (pg_name (i := 4) scPot.nd rfl (.inl rfl))
        (pss_cons (ps_set (i := 1) scPot.nd rfl (.inl rfl) (pe_op op_mod (pe_op op_add (pe_op op_add (pe_op op_mul (pv 1) pe_int) (pe_op op_mod (pv 4) (pe_op op_pow pe_int pe_int))) pe_int) pe_int))
        (pss_one (ps_if (pt_cmpR op_ge (pe_callB call_abs (by rfl) mabs (by decide +kernel) (pa_cons (pv 4) pa_nil)) (pe_op op_pow pe_int pe_int) (nomark _))
          (pss_one (ps_expr (pe_bm PySem.F.plainAttrs_list PySem.F.slot_list_append PySem.F.type_list_append mt_append (pv 2)
            (pa_cons (pe_op op_mod (pe_callB call_abs (by rfl) mabs (by decide +kernel) (pa_cons (pv 4) pa_nil)) (pv 3)) pa_nil)))) pss_nil))))
      (pss_one (ps_ret (pe_disp (pps_cons pe_str (pv 2) (pps_cons pe_str (pv 1) (pps_cons pe_str pe_int pps_nil))) (by rfl) (by rfl) (fun z => by cases z) (by decide))))))), ?_⟩
    -- own = []
    refine ⟨Nat.zero_le _, fun o no => ?_⟩
    have k1 : Kp M0 H (upd H o (.lst [])) := Kp.new no
    -- far
    refine ⟨_, _, rfl, rfl, ⟨by decide, by decide, by decide⟩, _, _, rfl, rfl, ⟨by decide, by decide, by decide⟩, _, _, rfl, rfl, wide_mul (a := 200) (b := 200) (by decide +kernel) (by decide +kernel) (by decide) (by decide) (by decide), _, _, rfl, rfl, ⟨by decide, by decide, by decide⟩, _, _, rfl, rfl, wide_mul (a := 400) (b := 200) (by decide +kernel) (by decide +kernel) (by decide) (by decide) (by decide), ?_⟩
    -- script[:63]
    refine ⟨.ref a, rfl, 63, rfl, a, ns.map V.int, rfl, sqL_keep k1 hS, fun c nc => ?_⟩
    have nco : c ≠ o := fun e => by
      rw [e, upd_same] at nc
      cases nc
    have k2 : Kp M0 H (upd (upd H o (.lst [])) c (.lst (cutV (ns.map V.int) none (some 63)))) := k1.trans (Kp.new nc)
    rw [cut63, ← List.map_take] at k2 ⊢
    generalize hns : ns.take 63 = ms at k2 ⊢
    have hms : ms.length ≤ 63 := by rw [← hns, List.length_take]; omega
    have hc : SqL K (upd (upd H o (.lst [])) c (.lst (ms.map V.int))) c (ms.map V.int) := .inl (.inl upd_same)
    refine ⟨c, rfl, ⟨_, hc⟩, for_list (xs := ms.map V.int) (fun i σ H3 => ∃ (s : Int) (os : List Int) (y4 : Option V), σ = [some (.ref a), some (.int s), some (.ref o), some (.int (10 ^ 60 * 10 ^ 60 * 10 ^ 60)), y4] ∧ 0 ≤ s ∧ s < 2305843009213693951 ∧ os.length ≤ i ∧ (∀ n ∈ os, 0 ≤ n) ∧
      H3 o = some (.lst (os.map V.int)) ∧ H3 c = some (.lst (ms.map V.int)) ∧ Kp M0 H H3) ?_ ?_ ?_ ?_⟩
    · exact ⟨17, [], none, rfl, by decide, by decide, Nat.le_refl _, fun _ z => (nomatch z), by rw [upd_ne nco.symm, upd_same] <;> rfl, upd_same, k2⟩
    · rintro i σ H3 _ ⟨s, os, y4, rfl, _, _, _, _, _, e2, _⟩
      exact .inl (.inl e2)
    · rintro i x σ H3 hx ⟨s, os, y4, rfl, h0, h1, h2, h3, e1, e2, k3⟩
      have hi : i < ms.length := by
        have z := (List.getElem?_eq_some_iff.mp hx).1
        rw [List.length_map] at z
        exact z
      obtain ⟨n, rfl⟩ : ∃ n : Int, x = .int n := by
        rw [List.getElem?_map, List.getElem?_eq_getElem hi] at hx
        exact ⟨_, (Option.some.inj hx).symm⟩
      refine ⟨_, rfl, _, _, rfl, rfl, .inl ⟨by omega, by omega⟩, _, rfl, _, _, rfl, rfl, ⟨by decide, by decide, by decide⟩, _, _, rfl, rfl, (by show (0 : Int) < 10 ^ 40; decide +kernel), _, _, rfl, rfl, _, _, rfl, rfl, _, _, rfl, rfl, (by show (0 : Int) < 2305843009213693951; decide), ?_⟩
      refine ⟨_, rfl, _, rfl, _, _, rfl, rfl, ⟨by decide, by decide, by decide⟩, _, _, rfl, rfl, _, rfl, ite2 (fun c => ?_) (fun c => ?_)⟩
      · refine ⟨_, rfl, .inl ⟨rfl, _, .inl (.inl e1)⟩, _, rfl, _, rfl, _, rfl, _, _, rfl, rfl, (by show (0 : Int) < 10 ^ 60 * 10 ^ 60 * 10 ^ 60; decide +kernel), o, _, _, rfl, rfl, e1, ?_, ?_⟩
        · rw [List.length_map]
          exact small1000 (by omega)
        · refine ⟨_, os ++ [_], _, rfl, Int.emod_nonneg _ (by decide), Int.emod_lt_of_pos _ (by decide), by rw [List.length_append]; simp; omega, ?_, by rw [upd_same, List.map_append] <;> rfl, ?_, ?_⟩
          · intro n hn
            rcases List.mem_append.mp hn with z | z
            · exact h3 n z
            · rw [List.mem_singleton.mp z]
              exact Int.emod_nonneg _ (by decide +kernel)
          · rw [upd_ne nco]
            exact e2
          · intro b u _ e
            have nb : b ≠ o := ne_of_none e no
            rw [upd_ne nb]
            exact k3 b u (fun z => z) e
      · exact ⟨_, os, _, rfl, Int.emod_nonneg _ (by decide), Int.emod_lt_of_pos _ (by decide), by omega, h3, e1, e2, k3⟩
    · rintro σ H3 ⟨s, os, y4, rfl, h0, h1, h2, h3, e1, e2, k3⟩
      rw [List.length_map] at h2
      intro p np
      refine ⟨_, rfl, _, rfl, upd_same, [(.inr "own", .ref o), (.inr "seed", .int s), (.inr "turn", .int 0)], rfl, (by show 3 ≤ 15; decide), ?_⟩
      have hp : p ≠ o := fun z => by
        rw [z, e1] at np
        cases np
      have hpn : H p = none := by
        cases z : H p with
        | none => rfl
        | some u =>
          rw [k3 p u (fun z => z) z] at np
          cases np
      refine q p o _ ?_ hpn no hp ⟨⟨s, h0, h1, ?_⟩, os, by omega, h3, ?_⟩
      · intro b u _ e
        have nb : b ≠ p := fun z => by
          rw [z, hpn] at e
          cases e
        rw [upd_ne nb, upd_ne nb]
        exact k3 b u (fun z => z) e
      · rw [upd_same]
        rfl
      · rw [upd_ne hp.symm, upd_ne hp.symm]
        exact e1

/-! ### _law_next -/
theorem shaped_ints : ∀ ns : List Int, SeqAt.shaped (.list (ns.map PyData.int)) = true := by
  have a : ∀ ns : List Int, PyData.canLayAll0 (ns.map PyData.int) = true := fun ns => by
    induction ns with
    | nil => rfl
    | cons n r ih => simp only [List.map_cons, PyData.canLayAll0, PyData.canLay0, ih, Bool.and_self]
  have b : ∀ ns : List Int, PyData.depthAll (ns.map PyData.int) = 0 := fun ns => by
    induction ns with
    | nil => rfl
    | cons n r ih => simp only [List.map_cons, PyData.depthAll, PyData.depth, ih, Nat.max_self]
  intro ns
  unfold SeqAt.shaped
  simp only [PyData.canLay0, a ns, PyData.depth, b ns, Bool.true_and]
  rfl
theorem dpAll_ints {K : PySem.W.Frag} {H : Hp} : ∀ ns : List Int, DpAll K H (ns.map V.int) (ns.map PyData.int)
  | [] => .nil
  | n :: r => .cons (.int n) (dpAll_ints r)
theorem dp_ints {K : PySem.W.Frag} {H : Hp} {a : Addr} {ns : List Int} (h : SqL K H a (ns.map V.int)) : Dp K H (.ref a) (.list (ns.map PyData.int)) := .lst h (dpAll_ints ns)
/-- the pot told out -/
structure PotE (H : Hp) (pd po : Addr) (t : Nat) (ex : Ex) (s : Int) (ns : List Int) : Prop where
  s0 : 0 ≤ s
  s1 : s < 2305843009213693951
  d : H pd = some (potD po s t ex)
  len : ns.length ≤ 63
  nn : ∀ n ∈ ns, 0 ≤ n
  o : H po = some (.lst (ns.map V.int))
theorem PotE.pot {H : Hp} {pd po : Addr} {t : Nat} {ex : Ex} {s : Int} {ns : List Int} (E : PotE H pd po t ex s ns) : Pot H pd po t ex := ⟨⟨s, E.s0, E.s1, E.d⟩, ns, E.len, E.nn, E.o⟩
theorem Pot.e {H : Hp} {pd po : Addr} {t : Nat} {ex : Ex} (P : Pot H pd po t ex) : ∃ s ns, PotE H pd po t ex s ns := by
  obtain ⟨⟨s, h0, h1, e⟩, ns, h2, h3, e2⟩ := P
  exact ⟨s, ns, h0, h1, e, h2, h3, e2⟩
theorem PotE.ne {H : Hp} {pd po : Addr} {t : Nat} {ex : Ex} {s : Int} {ns : List Int} (E : PotE H pd po t ex s ns) : pd ≠ po := ne_of E.d E.o (fun z => by cases z)
theorem PotE.new {H : Hp} {pd po : Addr} {t : Nat} {ex : Ex} {s : Int} {ns : List Int} (E : PotE H pd po t ex s ns) {p : Addr} {o : HO} (n : H p = none) : PotE (upd H p o) pd po t ex s ns :=
  ⟨E.s0, E.s1, by rw [upd_ne (ne_of_none E.d n)]; exact E.d, E.len, E.nn, by rw [upd_ne (ne_of_none E.o n)]; exact E.o⟩
theorem PotE.own {H : Hp} {pd po : Addr} {t : Nat} {ex : Ex} {s : Int} {ns : List Int} (E : PotE H pd po t ex s ns) {ms : List Int} (h : ms.length ≤ 63) (h2 : ∀ n ∈ ms, 0 ≤ n) : PotE (upd H po (.lst (ms.map V.int))) pd po t ex s ms :=
  ⟨E.s0, E.s1, by rw [upd_ne E.ne]; exact E.d, h, h2, upd_same⟩
theorem eqv_nil_of (ns : List Int) : PyData.eqv (.list (ns.map PyData.int)) (.list []) = ns.isEmpty := by
  cases ns <;> simp [PyData.eqv, PyData.eqvAll]
theorem wide_add {i j : Int} {a : Nat} (ha : i.natAbs < 2 ^ a) (hb : j.natAbs < 2 ^ a) : (i + j).natAbs < 2 ^ (a + 1) := by
  have h := Int.natAbs_add_le i j
  rw [Nat.pow_succ]
  omega
theorem wide_up {i : Int} {a b : Nat} (ha : i.natAbs < 2 ^ a) (h : a ≤ b) : i.natAbs < 2 ^ b := Nat.lt_of_lt_of_le ha (Nat.pow_le_pow_right (by decide) h)
theorem mod_small (x : Int) : (x % 2305843009213693921).natAbs < 2 ^ 64 := by
  have := Int.emod_nonneg x (show (2305843009213693921 : Int) ≠ 0 by decide)
  have := Int.emod_lt_of_pos x (show (0 : Int) < 2305843009213693921 by decide)
  show _ < 18446744073709551616
  omega
theorem mod_small2 (x : Int) : (x % 1000003 + 69621).natAbs < 2 ^ 64 := by
  have := Int.emod_nonneg x (show (1000003 : Int) ≠ 0 by decide)
  have := Int.emod_lt_of_pos x (show (0 : Int) < 1000003 by decide)
  show _ < 18446744073709551616
  omega
def spNext : Sp := fun vs H Q _ => ∃ (pd po : Addr) (t : Nat) (ex : Ex) (m : Int), vs = [.ref pd, .int m] ∧ Pot H pd po t ex ∧ t < 2 ^ 50 ∧ 1 ≤ m ∧ m < 1073741824 ∧
  ∀ (d : Int) (H' : Hp) (t' : Nat), t' ≤ t + 1 → 0 ≤ d → d < m → Pot H' pd po t' ex → Kp (PM pd po) H H' → Q (.int d) H'
theorem ok_next {f : Addr} {fd : FuncData} {k : Nat} (F : Fun K "_law_next" "_law_next" sNext f fd) : FnOk P w K mg base CX0 (k + 1) f fd ["_law_pot_here", "_law_many"] spNext := by
  refine F.ok scNext (fun vs H Q E h => ?_) (fun cdv A outer s H vs Q E hr h => ?_)
  · obtain ⟨pd, po, t, ex, m, rfl, _⟩ := h
    rfl
  · obtain ⟨pd, po, t, ex, m, rfl, hP, ht, hm1, hm2, q⟩ := h
    refine ⟨_, pss_cons (ps_while PassesOwn.never (PW.pt (pw_and (pt_cmpR (op_neD hr.units) (pe_dget (hu_of hr) (pv 0) pe_str (fun _ _ => rfl)) (pe_lst pa_nil) (nomark _))
        (pw_and1 (pt_cmpR op_eq (pe_ix ix_list (pe_dget (hu_of hr) (pv 0) pe_str (fun _ _ => rfl)) pe_int (fun _ _ => rfl)) pe_int (nomark _)))))
        (pss_one (ps_expr (pe_bm PySem.F.plainAttrs_list PySem.F.slot_list_pop PySem.F.type_list_pop mt_popAt (pe_dget (hu_of hr) (pv 0) pe_str (fun _ _ => rfl)) (pa_cons pe_int pa_nil)))))
      (pss_cons (ps_if (pt_cmpR (op_neD hr.units) (pe_dget (hu_of hr) (pv 0) pe_str (fun _ _ => rfl)) (pe_lst pa_nil) (nomark _))
        (pss_cons (ps_set (i := 2) scNext.nd rfl (.inl rfl) (pe_op op_mod (pe_ix ix_list (pe_dget (hu_of hr) (pv 0) pe_str (fun _ _ => rfl)) pe_int (fun _ _ => rfl)) (pv 1)))
        (pss_cons (ps_asg (pe_op op_fdiv (pe_ix ix_list (pe_dget (hu_of hr) (pv 0) pe_str (fun _ _ => rfl)) pe_int (fun _ _ => rfl)) (pv 1)) (pg_sub (pe_dget (hu_of hr) (pv 0) pe_str (fun _ _ => rfl)) pe_int set_list))
        (pss_one (ps_ret (pv 2))))) pss_nil)
      (pss_cons (ps_dput (hu_of hr) (pv 0) pe_str (pe_op op_add (pe_dget (hu_of hr) (pv 0) pe_str (fun _ _ => rfl)) pe_int) rfl)
      (pss_cons (ps_set (i := 3) scNext.nd rfl (.inl rfl) (pe_dget (hu_of hr) (pv 0) pe_str (fun _ _ => rfl)))
      (pss_cons (ps_set (i := 4) scNext.nd rfl (.inl rfl) (pe_op op_add (pe_op op_add (pe_dget (hu_of hr) (pv 0) pe_str (fun _ _ => rfl)) (pe_op op_mulW (pe_op op_mulW (pv 3) (pv 3)) pe_int)) (pe_op op_mulW (pv 3) pe_int)))
      (pss_cons (ps_set (i := 4) scNext.nd rfl (.inl rfl) (pe_op op_mod (pe_op op_mulW (pv 4) pe_int) pe_int))
      (pss_cons (ps_set (i := 4) scNext.nd rfl (.inl rfl) (pe_op op_mod (pe_op op_mulW (pv 4) (pe_op op_add (pe_op op_mod (pv 4) pe_int) pe_int)) pe_int))
      (pss_one (ps_ret (pe_op op_mod (pe_op op_fdiv (pv 4) pe_int) (pv 1)))))))))), ?_⟩
    obtain ⟨s0, ns0, E0⟩ := hP.e
    refine ⟨fun n σ H2 => ∃ ns : List Int, σ = [some (.ref pd), some (.int m), none, none, none] ∧ n = ns.length ∧ Kp (PM pd po) H H2 ∧ PotE H2 pd po t ex s0 ns, ⟨_, ns0, rfl, rfl, Kp.refl, E0⟩, ?_⟩
    rintro n σ H2 ⟨ns, rfl, rfl, k2, E2⟩
    refine ⟨_, rfl, pd, _, rfl, DGet.k (k := .inr "own") E2.d, Nat.zero_le _, fun p np => ?_⟩
    have E3 := E2.new (o := .lst []) np
    have k3 : Kp (PM pd po) H (upd H2 p (.lst [])) := k2.trans (Kp.new np)
    refine ⟨_, .list [], dp_ints (SqL.of E3.o), .lst (SqL.of upd_same) .nil, shaped_ints _, rfl, _, rfl, ?_⟩
    cases ns with
    | nil =>
      refine iteF (iteF ?_)
      -- the second test
      refine ⟨_, rfl, pd, _, rfl, DGet.k (k := .inr "own") E3.d, Nat.zero_le _, fun p2 np2 => ?_⟩
      have E4 := E3.new (o := .lst []) np2
      have k4 : Kp (PM pd po) H (upd (upd H2 p (.lst [])) p2 (.lst [])) := k3.trans (Kp.new np2)
      have hp2 : upd (upd H2 p (.lst [])) p2 (.lst []) p2 = some (.lst []) := upd_same
      generalize upd (upd H2 p (.lst [])) p2 (.lst []) = H4 at E4 k4 hp2 ⊢
      refine ⟨_, .list [], dp_ints (SqL.of E4.o), .lst (SqL.of hp2) .nil, shaped_ints _, rfl, _, rfl, iteF ?_⟩
      -- turn + 1
      refine ⟨_, rfl, pd, _, rfl, DGet.k (k := .inr "turn") E4.d, _, _, rfl, rfl, _, rfl, pd, _, rfl, DPut.k (k := .inr "turn") E4.d (by have := exL_few ex; rw [sizeLine_eq]; simp only [List.length_cons]; omega), ?_⟩
      have E5 : PotE (upd H4 pd (.dK (putK ((.inr "own", V.ref po) :: (.inr "seed", V.int s0) :: (.inr "turn", V.int t) :: exL ex) (.inr "turn") (.int ((t : Int) + 1))))) pd po (t + 1) ex s0 [] :=
        ⟨E4.s0, E4.s1, by rw [upd_same]; rcases ex with _ | ⟨_, _, _⟩ <;> rfl, E4.len, E4.nn, by rw [upd_ne E4.ne.symm]; exact E4.o⟩
      have k5 : Kp (PM pd po) H (upd H4 pd (.dK (putK ((.inr "own", V.ref po) :: (.inr "seed", V.int s0) :: (.inr "turn", V.int t) :: exL ex) (.inr "turn") (.int ((t : Int) + 1))))) := k4.trans (Kp.put (.inl rfl))
      generalize upd H4 pd (.dK (putK ((.inr "own", V.ref po) :: (.inr "seed", V.int s0) :: (.inr "turn", V.int t) :: exL ex) (.inr "turn") (.int ((t : Int) + 1)))) = H5 at E5 k5 ⊢
      have hx : (((t + 1 : Nat) : Int)).natAbs < 2 ^ 64 := by
        show _ < 18446744073709551616
        have h50 : t < 1125899906842624 := ht
        omega
      have hs : s0.natAbs < 2 ^ 64 := by
        show _ < 18446744073709551616
        have := E5.s0
        have := E5.s1
        omega
      have hxx := wide_lt hx hx
      have hxx2 := wide_lt hxx (show (7919 : Int).natAbs < 2 ^ 13 by decide)
      have hx2 := wide_lt hx (show (104729 : Int).natAbs < 2 ^ 17 by decide)
      refine ⟨_, rfl, pd, _, rfl, DGet.k (k := .inr "turn") E5.d, ?_⟩
      refine ⟨_, rfl, pd, _, rfl, DGet.k (k := .inr "seed") E5.d, _, rfl, _, rfl, _, _, rfl, rfl, wide_mul hx hx (by decide) (by decide) (by decide), _, _, rfl, rfl, wide_mul hxx (show (7919 : Int).natAbs < 2 ^ 13 by decide) (by decide) (by decide) (by decide), _, _, rfl, rfl,
        _, rfl, _, _, rfl, rfl, wide_mul hx (show (104729 : Int).natAbs < 2 ^ 17 by decide) (by decide) (by decide) (by decide), _, _, rfl, rfl, ?_⟩
      have hm3 := wide_add (wide_add (wide_up hs (show 64 ≤ 141 by decide)) (wide_up hxx2 (show 64 + 64 + 13 ≤ 141 by decide))) (wide_up hx2 (show 64 + 17 ≤ 141 + 1 by decide))
      refine ⟨_, rfl, _, _, rfl, rfl, wide_mul hm3 (show (48271 : Int).natAbs < 2 ^ 16 by decide) (by decide) (by decide) (by decide), _, _, rfl, rfl, (by show (0 : Int) < 2305843009213693921; decide), ?_⟩
      refine ⟨_, rfl, _, rfl, _, _, rfl, rfl, (by show (0 : Int) < 1000003; decide), _, _, rfl, rfl, _, _, rfl, rfl, wide_mul (mod_small _) (mod_small2 _) (by decide) (by decide) (by decide), _, _, rfl, rfl, (by show (0 : Int) < 2305843009213693907; decide), ?_⟩
      refine ⟨_, rfl, _, _, rfl, rfl, ⟨by decide, by decide⟩, _, rfl, _, _, rfl, rfl, (by show (0 : Int) < m; omega), ?_⟩
      exact q _ _ (t + 1) (Nat.le_refl _) (Int.emod_nonneg _ (by omega)) (Int.emod_lt_of_pos _ (by omega)) E5.pot k5
    | cons n r =>
      refine iteT ?_
      refine ⟨_, rfl, pd, _, rfl, DGet.k (k := .inr "own") E3.d, po, _, 0, .int n, rfl, rfl, SqL.of E3.o, atI_nat (j := 0) rfl, rfl, _, rfl, ite2 (fun c => ?_) (fun c => ?_)⟩
      · -- a nought goes
        have l63 : r.length ≤ 63 := by
          have := E3.len
          rw [List.length_cons] at this
          omega
        refine ⟨fun σ' H' => σ' = [some (.ref pd), some (.int m), none, none, none] ∧ Kp (PM pd po) H H' ∧ PotE H' pd po t ex s0 r, fun σ' H' ⟨e, k, E⟩ => ⟨r.length, Nat.lt_succ_self _, r, e, rfl, k, E⟩, ?_⟩
        refine ⟨_, rfl, pd, _, rfl, DGet.k (k := .inr "own") E3.d, .inl ⟨rfl, _, SqL.of E3.o⟩, po, _, 0, 0, .int n, rfl, rfl, E3.o, by decide, by decide, ?_, rfl, rfl, ?_, ?_⟩
        · unfold seqIndex?
          simp
        · exact k3.trans (Kp.put (.inr rfl))
        · exact E3.own l63 fun z hz => E3.nn z (List.mem_cons_of_mem _ hz)
      · -- the digit
        refine ⟨_, rfl, pd, _, rfl, DGet.k (k := .inr "own") E3.d, Nat.zero_le _, fun p2 np2 => ?_⟩
        have E4 := E3.new (o := .lst []) np2
        have k4 : Kp (PM pd po) H (upd (upd H2 p (.lst [])) p2 (.lst [])) := k3.trans (Kp.new np2)
        have hn : 0 ≤ n := E4.nn n (List.mem_cons_self ..)
        refine ⟨_, .list [], dp_ints (SqL.of E4.o), .lst (SqL.of upd_same) .nil, shaped_ints _, rfl, _, rfl, iteT ?_⟩
        refine ⟨_, rfl, pd, _, rfl, DGet.k (k := .inr "own") E4.d, po, _, 0, .int n, rfl, rfl, SqL.of E4.o, atI_nat (j := 0) rfl, _, rfl, _, _, rfl, rfl, (by show (0 : Int) < m; omega), ?_⟩
        refine ⟨_, rfl, pd, _, rfl, DGet.k (k := .inr "own") E4.d, po, _, 0, .int n, rfl, rfl, SqL.of E4.o, atI_nat (j := 0) rfl, _, rfl, _, _, rfl, rfl, ⟨by omega, by omega⟩, ?_⟩
        refine ⟨_, rfl, pd, _, rfl, DGet.k (k := .inr "own") E4.d, po, _, 0, 0, rfl, rfl, E4.o, by simp [ixN], ?_⟩
        have E5 : PotE (upd (upd (upd H2 p (.lst [])) p2 (.lst [])) po (.lst (((n / m) :: r).map V.int))) pd po t ex s0 ((n / m) :: r) := E4.own E4.len (fun z hz => by
          rcases List.mem_cons.mp hz with e | e
          · rw [e]
            exact Int.ediv_nonneg hn (by omega)
          · exact E4.nn z (List.mem_cons_of_mem _ e))
        refine ⟨_, rfl, ?_⟩
        exact q _ _ t (Nat.le_succ _) (Int.emod_nonneg _ (by omega)) (Int.emod_lt_of_pos _ (by omega)) E5.pot (k4.trans (Kp.put (.inr rfl)))

/-! ### _law_pick -/
/-- what is drawn from: a text or a list that is not the pot's -/
def Draws (K : PySem.W.Frag) (H : Hp) (po : Addr) (x : V) (R : V → Prop) : Prop :=
  (∃ z : Str, x = .str z ∧ 1 ≤ z.length ∧ z.length ≤ 1000 ∧ ∀ c ∈ z.cps.toList, R (.str ⟨#[c]⟩)) ∨
  (∃ (l : Addr) (xs : List V), x = .ref l ∧ H l = some (.lst xs) ∧ l ≠ po ∧ 1 ≤ xs.length ∧ xs.length ≤ 1000 ∧ ∀ v ∈ xs, R v)
def spPick (K : PySem.W.Frag) : Sp := fun vs H Q _ => ∃ (pd po : Addr) (t : Nat) (ex : Ex) (x : V) (R : V → Prop), vs = [.ref pd, x] ∧ Pot H pd po t ex ∧ t < 2 ^ 50 ∧ Draws K H po x R ∧
  ∀ (v : V) (H' : Hp) (t' : Nat), t' ≤ t + 1 → R v → Pot H' pd po t' ex → Kp (PM pd po) H H' → Q v H'
theorem at_some {α : Type} {xs : List α} {d : Int} (h0 : 0 ≤ d) (h1 : d < xs.length) : ∃ v, atI xs d = some v ∧ v ∈ xs := by
  obtain ⟨j, rfl⟩ := Int.eq_ofNat_of_zero_le h0
  have hj : j < xs.length := by omega
  exact ⟨xs[j], atI_nat (List.getElem?_eq_getElem hj), List.getElem_mem hj⟩
theorem ok_pick {f fn : Addr} {fd fdn : FuncData} {k : Nat} (F : Fun K "_law_pick" "_law_pick" sPick f fd) (G : FnOk P w K mg base CX0 k fn fdn ["_law_pot_here", "_law_many"] spNext) (kn : PySem.W.keepIn K (.ref fn) = true) (bn : Binds K fdn ["_law_pot_here", "_law_many"] []) (gn : mg "_law_next" = some (.ref fn)) (ml : mg "len" = none) :
    FnOk P w K mg base CX0 (k + 1) f fd ["_law_pot_here", "_law_some"] (spPick K) := by
  refine F.ok scPick (fun vs H Q E h => ?_) (fun cdv A outer s H vs Q E hr h => ?_)
  · obtain ⟨pd, po, t, ex, x, R, rfl, _⟩ := h
    rfl
  · obtain ⟨pd, po, t, ex, x, R, rfl, hP, ht, hD, q⟩ := h
    refine ⟨_, pss_one (ps_ret (pe_ix ix_seq (pv 1) (pe_call G hr (by rfl) gn kn bn .nil pass0 (pa_cons (pv 0) (pa_cons (pe_callB call_len (by rfl) ml PySem.boot_len (pa_cons (pv 1) pa_nil)) pa_nil))) (fun _ _ => rfl))), ?_⟩
    rcases hD with ⟨z, rfl, h1, h2, hR⟩ | ⟨l, xs, rfl, hl, hlo, h1, h2, hR⟩
    · have zl : z.length ≤ sizeLine := Nat.le_of_lt (small1000 h2)
      have el : z.length = z.cps.toList.length := by simp [Str.length]
      refine ⟨_, rfl, _, rfl, _, rfl, _, z.length, rfl, ⟨zl, rfl⟩, pd, po, t, ex, _, rfl, hP, ht, by omega, by omega, fun d H' t' ht' d0 d1 hP' hk => ?_⟩
      obtain ⟨c, hc, hm⟩ := at_some (xs := z.cps.toList) d0 (by omega)
      exact .inr (.inr ⟨z, d, c, rfl, rfl, zl, hc, q _ _ t' ht' (hR c hm) hP' hk⟩)
    · refine ⟨_, rfl, _, rfl, _, rfl, _, xs.length, rfl, .inl ⟨xs, SqL.of hl, rfl⟩, pd, po, t, ex, _, rfl, hP, ht, by omega, by omega, fun d H' t' ht' d0 d1 hP' hk => ?_⟩
      obtain ⟨v, hv, hm⟩ := at_some (xs := xs) d0 d1
      have hne : ¬ PM pd po l := fun z => by
        rcases z with z | z
        · obtain ⟨s, _, _, e⟩ := hP.d
          rw [z, e] at hl
          cases hl
        · exact hlo z
      exact .inl ⟨l, xs, d, v, rfl, rfl, SqL.of (hk l _ hne hl), hv, q _ _ t' ht' (hR v hm) hP' hk⟩
/-! ### texts of single signs -/
theorem joinL_nil : ∀ ps : List (List Nat), TL.joinL [] ps = ps.flatten
  | [] => rfl
  | [p] => by simp [TL.joinL]
  | p :: q :: r => by
    show p ++ ([] ++ TL.joinL [] (q :: r)) = _
    rw [joinL_nil (q :: r)]
    rfl
theorem join_signs (cs : List Nat) : Txt.join (Str.ofString "") (cs.map fun c => (⟨#[c]⟩ : Str)) = ⟨cs.toArray⟩ := by
  refine TL.ext_tl ?_
  rw [TL.join_eq, TL.tl_join]
  have e : TL.tl (Str.ofString "") = [] := rfl
  rw [e, joinL_nil, List.map_map, TL.tl_mk]
  induction cs with
  | nil => rfl
  | cons c r ih =>
    rw [List.map_cons, List.flatten_cons, ih]
    rfl
theorem sum_ones (cs : List Nat) : ((cs.map fun c => (⟨#[c]⟩ : Str)).map (·.length)).sum = cs.length := by
  induction cs with
  | nil => rfl
  | cons c r ih =>
    rw [List.map_cons, List.map_cons, List.sum_cons, ih, List.length_cons]
    show 1 + r.length = r.length + 1
    omega
end
end RT

set_option maxHeartbeats 4000000
/-! sorted(set(xs)), xs a list of texts -/
namespace LK
open PySem PySem.Spec PyProof.Rows L2 PySem.Froz
/-! ### the payload -/
section
variable {P : Program} {w : World} {A : Around} {E : Value → Shared → Prop} {s : Shared}
theorem addTx_ris (h : Int) (v : Value) (D : SD) (r : Ris D.2.2.place.toList) : Ris (addTx h v D).2.2.place.toList ∧ (addTx h v D).2.2.led = D.2.2.led := by
  have r1 := layNew_ris D.2.2 D.1 h v r
  have l1 := layNew_led D.2.2 D.1 h v
  have pl : ∀ t : SetTable, (if t.plain = true then { t with plain := false } else t).place = t.place ∧ (if t.plain = true then { t with plain := false } else t).led = t.led := fun t => by split <;> exact ⟨rfl, rfl⟩
  obtain ⟨p1, p2⟩ := pl (layNew D.2.2 D.1 h v).2.1
  unfold addTx tailTx
  by_cases c : (!(layNew D.2.2 D.1 h v).2.2.1 && (if (layNew D.2.2 D.1 h v).2.1.plain = true then { (layNew D.2.2 D.1 h v).2.1 with plain := false } else (layNew D.2.2 D.1 h v).2.1).tooFull) = true
  · rw [if_pos c]
    exact ⟨relayAll_ris _ _ _, (relayAll_led _ _ _).trans (p2.trans l1)⟩
  · rw [if_neg c]
    exact ⟨by show Ris (Array.toList (SetTable.place _)); rw [p1]; exact r1, p2.trans l1⟩
/-- a set of just the texts l -/
def TSet (P : Program) (w : World) (h : Heap) (a : Addr) (l : List Str) : Prop :=
  ∃ D : SD, h.get? a = some (sObj "set" D) ∧ TxOk P w D l ∧ l.Nodup ∧ Ris D.2.2.place.toList ∧ (w.params.followText "set-order" = true ∨ D.2.2.led = true)
theorem TSet.at {h h' : Heap} {a : Addr} {l : List Str} (t : TSet P w h a l) (k : ∀ o, h.get? a = some o → h'.get? a = some o) : TSet P w h' a l := by
  obtain ⟨D, ho, r⟩ := t
  exact ⟨D, k _ ho, r⟩
/-- a text that is there already -/
theorem again_x {a : Addr} {D : SD} {l : List Str} {k : Str} {u : Tok} {Q : Bool → Shared → Prop} (ho : s.heap.get? a = some (sObj "set" D)) (F : TxOk P w D l) (hk : k ∈ l) (hb : l.length < scanBound) (q : Q false s) :
    wpAny (model P w) A (setAddHashed a (.str k u) (hashStr w k)) Q E s := by
  obtain ⟨e, he, hp⟩ := (F.mem k).mp hk
  have few : D.1.size < scanBound := F.sz ▸ hb
  obtain ⟨j, hj⟩ : ∃ j, List.findIdx? (fun e => (PySem.strKind P w).is k e.2) D.1.toList = some j := by
    cases c : List.findIdx? (fun e => (PySem.strKind P w).is k e.2) D.1.toList with
    | some j => exact ⟨j, rfl⟩
    | none =>
      have z := List.findIdx?_eq_none_iff.mp c e he
      rw [hp] at z
      cases z
  unfold setAddHashed setAddHashedIn
  refine wpAny_holding ?_
  refine wpAny_bind (wpAny_setState_of ho (es := D.1) (ep := D.2.1) (t := D.2.2) rfl F.fit ?_)
  dsimp only
  rw [byScan_of (knd := PySem.strKind P w) rfl few F.el, if_pos rfl]
  unfold setAddByScan
  refine wpAny_bind (wpAny_bind (wpAny_rule (wpAny_bind (wpAny_setScan_of (is_str k u) ho (es := D.1) (ep := D.2.1) (t := D.2.2) rfl F.fit F.el ?_))))
  rw [hj]
  exact wpAny_pure (wpAny_pure q)
theorem tset_add {a : Addr} {l : List Str} {k : Str} {u : Tok} {Q : Bool → Shared → Prop} (t : TSet P w s.heap a l) (hb : l.length + 1 < scanBound)
    (q : ∀ (h' : Heap) (b : Bool), (∀ c o, c ≠ a → s.heap.get? c = some o → h'.get? c = some o) → TSet P w h' a (if k ∈ l then l else k :: l) → Q b { s with heap := h' }) :
    wpAny (model P w) A (setAddHashed a (.str k u) (hashStr w k)) Q E s := by
  obtain ⟨D, ho, F, nd, r, ld⟩ := t
  by_cases hk : k ∈ l
  · rw [if_pos hk] at q
    exact again_x ho F hk (by omega) (q s.heap false (fun _ _ _ e => e) ⟨D, ho, F, nd, r, ld⟩)
  · rw [if_neg hk] at q
    refine add_x ho F hk hb (q _ true (fun c o n e => ?_) ?_)
    · rw [Heap.get?_update_other _ _ (Ne.symm n)]
      exact e
    · obtain ⟨r1, r2⟩ := addTx_ris (hashStr w k) (.str k u) D r
      exact ⟨_, get_upd _ ho rfl, add_ok u F, List.nodup_cons.mpr ⟨hk, nd⟩, r1, ld.imp id fun z => r2.trans z⟩
/-! ### set(xs) -/
/-- the members met in xs -/
def metL (zs : List Str) : List Str → List Str
  | l => zs.foldl (fun l z => if z ∈ l then l else z :: l) l
theorem metL_mem (zs : List Str) : ∀ (l : List Str) (k : Str), k ∈ metL zs l ↔ k ∈ l ∨ k ∈ zs := by
  induction zs with
  | nil => exact fun l k => ⟨.inl, fun h => h.elim id fun z => nomatch z⟩
  | cons c r ih =>
    intro l k
    refine (ih (if c ∈ l then l else c :: l) k).trans ?_
    have z : k ∈ (if c ∈ l then l else c :: l) ↔ k ∈ l ∨ k = c := by
      split
      · rename_i h
        exact ⟨.inl, fun q => q.elim id fun e => e ▸ h⟩
      · rw [List.mem_cons]
        exact Or.comm
    rw [z, List.mem_cons, or_assoc]
theorem metL_nodup (zs : List Str) : ∀ (l : List Str), l.Nodup → (metL zs l).Nodup := by
  induction zs with
  | nil => exact fun l h => h
  | cons c r ih =>
    intro l h
    refine ih (if c ∈ l then l else c :: l) ?_
    split
    · exact h
    · rename_i n
      exact List.nodup_cons.mpr ⟨n, h⟩
theorem strs_atL : ∀ {its : List Value} {zs : List Str}, StrsAre its zs → ∀ (i : Nat) (v : Value), its[i]? = some v → ∃ z t, zs[i]? = some z ∧ v = .str z t
  | _, _, .nil, i, v, h => by simp at h
  | _, _, .cons n t hr, 0, v, h => by
    simp at h
    exact ⟨n, t, rfl, h.symm⟩
  | _, _, .cons n t hr, i + 1, v, h => by
    simp only [List.getElem?_cons_succ] at h
    obtain ⟨z, t', e1, e2⟩ := strs_atL hr i v h
    exact ⟨z, t', by simpa using e1, e2⟩
/-- the items from the i-th on, one by one -/
theorem list_in {I S : Addr} {fp wr : List Addr} {n : Nat} {PV : Nat → Value → Prop} {St : Nat → Heap → Prop} {R : Result → Shared → Prop} {zs : List Str} (W : Walks P w A.in1 I fp wr n PV St) (hS : S ∉ fp) (hz : zs.length = n) (hn : n + 1 < scanBound)
    (hval : ∀ i v, PV i v → ∃ z t, zs[i]? = some z ∧ v = .str z t) :
    ∀ (cs : List Str) (i : Nat) (l : List Str) (s : Shared), zs.drop i = cs → i ≤ n → St i s.heap → TSet P w s.heap S l → l.length ≤ i →
      (∀ s' : Shared, s'.gens = s.gens → s'.drawn = s.drawn → s'.os = s.os → (∀ b o, b ≠ S → b ∉ wr → s.heap.get? b = some o → s'.heap.get? b = some o) → TSet P w s'.heap S (metL cs l) → R (.ok (.ret .none)) s') →
      codeAny (model P w) A (.builtin "set.update.loop" ⟨[.ref S, .ref I], []⟩) R s := by
  have off : S ∉ wr := fun m => hS (W.sub _ m)
  have WS := W.toS
  intro cs
  induction cs with
  | nil =>
    intro i l s hd hi hst hT _ hR
    have e : i = n := by
      have q := congrArg List.length hd
      rw [List.length_drop] at q
      simp only [List.length_nil] at q
      omega
    subst e
    refine codeAny_builtin PyProof.Rows.F.entry_set_update_loop ?_
    rw [Around.under_plainId PyProof.Rows.F.plain_set_update_loop _]
    show wpAny _ A.in1 (pyNext (.ref I) >>= _) _ _ _
    refine wpAny_bind (WS.done _ _ _ hst fun s' m => ?_)
    exact wpAny_pure (hR s' m.gens m.drawn m.os (fun b o _ nw e => m.heap b o nw e) (hT.at fun o e => m.heap S o off e))
  | cons c r ih =>
    intro i l s hd hi hst hT hl hR
    have hlt : i < n := by
      have q := congrArg List.length hd
      rw [List.length_drop, List.length_cons] at q
      omega
    have hc : zs[i]? = some c := by
      have q := congrArg (·[0]?) hd
      simpa using q
    have hd2 : zs.drop (i + 1) = r := by
      have q := congrArg (List.drop 1) hd
      simpa using q
    refine codeAny_builtin PyProof.Rows.F.entry_set_update_loop ?_
    rw [Around.under_plainId PyProof.Rows.F.plain_set_update_loop _]
    show wpAny _ A.in1 (pyNext (.ref I) >>= _) _ _ _
    refine wpAny_bind (WS.item i _ _ _ hlt hst fun v s1 hv hst1 m => ?_)
    obtain ⟨c', u, hc', rfl⟩ := hval i v hv
    rw [hc] at hc'
    cases hc'
    have hT1 : TSet P w s1.heap S l := hT.at fun o e => m.heap S o off e
    show wpAny _ A.in1 (holding [Value.str c u] (setAdd S (.str c u)) >>= _) _ _ _
    unfold setAdd
    refine wpAny_bind (wpAny_holding (wpAny_holding (wpAny_bind ((PySem.strKind P w).pyHash (k := c) (is_str _ _) ?_))))
    refine tset_add (s := { s1 with toks := s1.toks + 1 }) hT1 (by omega) fun h' b hk hT2 => ?_
    refine wpAny_pure ⟨plainId_quiet PyProof.Rows.F.plain_set_update_loop _, ih (i + 1) _ _ hd2 hlt (WS.frame _ s1 h' _ hst1 (Nat.le_succ _) fun b hb o e => hk b o (fun q => hS (q ▸ hb)) e) hT2 ?_ fun s2 g2 d2 o2 k2 hT3 => ?_⟩
    · show (if c ∈ l then l else c :: l).length ≤ i + 1
      split
      · omega
      · rw [List.length_cons]
        omega
    · exact hR s2 (g2.trans m.gens) (d2.trans m.drawn) (o2.trans m.os) (fun b o nS nw e => k2 b o nS nw (hk b o nS (m.heap b o nw e))) hT3
/-- the new set -/
abbrev bare (w : World) : Obj := sObj "set" (#[], 0, .fresh 0 0 (!w.params.followText "set-order"))
theorem bare_ok {h : Heap} {a : Addr} (e : h.get? a = some (bare w)) : TSet P w h a [] :=
  ⟨_, e, TxOk.nil rfl, List.nodup_nil, List.Pairwise.nil, by
    show _ ∨ (!w.params.followText "set-order") = true
    cases w.params.followText "set-order" <;> simp⟩
theorem set_list {l0 : Addr} {items : Array Value} {zs : List Str} {Q : Value → Shared → Prop} (hh : A.handled = none) (hl : s.heap.IsList l0 items) (hi : StrsAre items.toList zs) (hz : zs.length + 1 < scanBound)
    (q : ∀ (h' : Heap) (tk : Nat), TSet P w h' s.heap.objs.size (metL zs []) → (∀ b o, s.heap.get? b = some o → h'.get? b = some o) → Q (.ref s.heap.objs.size) { s with heap := h', toks := tk }) :
    wpAny (model P w) A (call (.type "set") [.ref l0]) Q E s := by
  obtain ⟨c, tl, mro⟩ := PySem.F.called_set.mro
  have mk := PySem.F.called_set.made
  have sb := PySem.F.called_set.sub
  refine wpAny_call (codeAny_of_tree ?_)
  show wpAny _ _ (callAny (.type "set") _) _ _ _
  refine wpAny_pure ⟨Code.quiet_builtin _ (by decide +kernel), codeAny_builtin PySem.F.entry_type_call ?_⟩
  rw [Around.under_plain (weight_type_call_type "set" [.ref l0] []) rfl]
  have nt := PySem.F.called_set.notType
  have cc := PySem.F.called_set.canCreate
  have tc := PySem.F.typeCall_set_1 (.ref l0)
  repeat (any_goals (first | assumption | wp_step))
  refine codeAny_mono (code_set_led1 (.ref l0) (E := E) (Q₁ := fun v t => v = .ref s.heap.objs.size ∧ t = { s with heap := s.heap.push (bare w) }) ⟨rfl, rfl⟩) fun r t hr => ?_
  cases r with
  | error e => exact hr
  | ok fl =>
    cases fl with
    | ret obj =>
      obtain ⟨rfl, rfl⟩ := hr
      have at0 : (s.heap.push (bare w)).get? s.heap.objs.size = some (bare w) := Heap.get?_push_size _ rfl
      have ty : Shared.TypeIs { s with heap := s.heap.push (bare w) } (.ref s.heap.objs.size) "set" := ⟨_, at0, rfl⟩
      have il := PySem.F.called_set.init.lookup
      have ib := PySem.F.called_set.init.bind (.ref s.heap.objs.size)
      repeat (any_goals (first | assumption | wp_step))
      refine codeAny_mono (codeAny_call_builtin (R := wants (fun v t2 => v = .none ∧ ∃ (h' : Heap) (tk : Nat), t2 = { s with heap := h', toks := tk } ∧ TSet P w h' s.heap.objs.size (metL zs []) ∧
        ∀ b o, s.heap.get? b = some o → h'.get? b = some o) E) PySem.F.called_set.init.plain PySem.F.entry_set_init (check_set_init_1 ty ?_)) fun r2 t2 hr2 => ?_
      · obtain ⟨ol, hol, hcl, nl, hdl⟩ := hl
        obtain ⟨ocls, odict, odata, oslots⟩ := ol
        simp only at hcl hdl
        subst hcl; subst hdl
        have hol' : (s.heap.push (bare w)).get? l0 = some { cls := .type "list", dict := odict, data := .seq items nl, slots := oslots } := Heap.get?_push_of_some _ hol
        have hsls := PySem.F.sub_list_set
        have hslf := PySem.F.sub_list_frozenset
        have hne : (Value.type "list" == Value.type "dict") = false := by decide
        have hl1 : (s.heap.push (bare w)).IsList l0 items := ⟨_, hol', rfl, nl, rfl⟩
        unfold Builtin.«set.__init__» noKeywords Builtin.Frozenset.updateFrom
        generalize hPI : pyIter = PI
        wp_walk
        subst hPI
        refine wpAny_pyIter_list hl1 ?_
        refine wpAny_bind (wpAny_runValue ?_)
        have hlS : l0 < s.heap.objs.size := Heap.lt_size hol
        have hh3 : A.in1.in1.in1.handled = none := by simp [hh]
        have hneI : l0 ≠ (s.heap.push (bare w)).objs.size := by
          rw [Heap.size_push]; exact Nat.ne_of_lt (Nat.lt_succ_of_lt hlS)
        have hSf : s.heap.objs.size ∉ [(s.heap.push (bare w)).objs.size, l0] := by
          rw [Heap.size_push]; simp only [List.mem_cons, List.mem_singleton, List.not_mem_nil, or_false, not_or]
          exact ⟨Nat.ne_of_lt (Nat.lt_succ_self _), Nat.ne_of_gt hlS⟩
        have hsz : zs.length = items.size := by rw [← StrsAre.len_eq hi, Array.length_toList]
        refine list_in (Walks.list hh3 _ l0 hneI items) hSf hsz (by rw [← hsz]; exact hz) (fun i v hv => strs_atL hi i v (by rw [Array.getElem?_toList]; exact hv)) zs 0 [] _ rfl (Nat.zero_le _) ⟨⟨_, Heap.get?_push_size _ rfl, rfl, rfl⟩, (hl1.push _)⟩ (bare_ok (Heap.get?_push_of_some _ at0)) (Nat.le_refl _) fun s' g d os k t => ?_
        obtain ⟨h', g', d', tk', os'⟩ := s'
        cases g
        cases d
        cases os
        refine wpAny_pure ?_
        show wpAny _ _ (ret Value.none) _ _ _
        refine wpAny_pure ⟨rfl, h', tk', rfl, t, fun b o e => ?_⟩
        have lt := Heap.lt_size e
        refine k b o (Nat.ne_of_lt lt) (fun m => ?_) (Heap.get?_push_of_some _ (Heap.get?_push_of_some _ e))
        rw [List.mem_singleton, Heap.size_push] at m
        exact absurd (show s.heap.objs.size + 1 < s.heap.objs.size from m ▸ lt) (Nat.not_lt.mpr (Nat.le_succ _))
      · cases r2 with
        | error e => exact hr2
        | ok fl2 =>
          cases fl2 with
          | ret v =>
            obtain ⟨rfl, h', tk, rfl, t, k⟩ := hr2
            repeat (any_goals (first | assumption | wp_step))
            exact q h' tk t k
          | _ => exact hr2.elim
    | _ => exact hr.elim
end
theorem perm_in : ∀ {l ss : List Str}, l.Nodup → (∀ k ∈ l, k ∈ ss) → ss.length ≤ l.length → ss.Perm l
  | [], ss, _, _, h => by
    cases ss with
    | nil => exact .nil
    | cons a r => exact absurd h (Nat.not_succ_le_zero _)
  | k :: r, ss, nd, hi, h => by
    have hk := hi k (List.mem_cons_self ..)
    have nd2 := List.nodup_cons.mp nd
    refine (List.perm_cons_erase hk).trans (.cons k (perm_in nd2.2 (fun x hx => ?_) ?_))
    · exact (List.mem_erase_of_ne fun e => nd2.1 (by rw [← e]; exact hx)).mpr (hi x (List.mem_cons_of_mem _ hx))
    · rw [List.length_erase_of_mem hk]
      rw [List.length_cons] at h
      omega
section
variable {P : Program} {w : World} {A : Around} {E : Value → Shared → Prop} {s : Shared}
theorem txt_of : ∀ {out : List Value}, (∀ v ∈ out, ∃ k t, v = Value.str k t) → ∃ ss : List Str, StrsAre out ss
  | [], _ => ⟨[], .nil⟩
  | v :: r, h => by
    obtain ⟨k, t, rfl⟩ := h v (List.mem_cons_self ..)
    obtain ⟨ss, q⟩ := txt_of fun x hx => h x (List.mem_cons_of_mem _ hx)
    exact ⟨k :: ss, .cons k t q⟩
theorem txt_mem : ∀ {out : List Value} {ss : List Str}, StrsAre out ss → ∀ k : Str, (∃ t, Value.str k t ∈ out) → k ∈ ss
  | _, _, .nil, k, ⟨t, h⟩ => nomatch h
  | _, _, .cons y u q, k, ⟨t, h⟩ => by
    rcases List.mem_cons.mp h with e | e
    · cases e
      exact List.mem_cons_self ..
    · exact List.mem_cons_of_mem _ (txt_mem q k ⟨t, e⟩)
theorem str_is {k : Str} {v : Value} (h : (PySem.strKind P w).is k v = true) : ∃ t, v = .str k t := by
  cases v with
  | str y t =>
    have e : y = k := beq_iff_eq.mp h
    exact ⟨t, e ▸ rfl⟩
  | _ => cases h
theorem sort_tset {a : Addr} {l : List Str} {Q : Value → Shared → Prop} (T : TSet P w s.heap a l) (hh : A.handled = none) (h64 : l.length < 64)
    (q : ∀ (s' : Shared) (p : Addr) (out : Array Value) (c : Nat) (ys : List Str), (∀ b o, s.heap.get? b = some o → s'.heap.get? b = some o) → s'.gens = s.gens → s'.os = s.os → s.heap.objs.size ≤ p →
      s'.heap.get? p = some (seqObj "list" out c) → StrsAre out.toList ys → ys.Perm l → sortedS ys = true → Q (.ref p) s') : wpAny (model P w) A (call (.builtin "sorted") [.ref a]) Q E s := by
  obtain ⟨⟨es, ep, t⟩, ho, F, nd, r, ld⟩ := T
  have esz : es.size = l.length := F.sz
  have few : es.size < scanBound := by
    rw [esz]
    exact Nat.lt_trans h64 (by unfold scanBound; decide)
  refine Calls.call_function_entry kind_sorted plain_sorted entry_sorted (args_sorted1 _) ?_
  unfold Builtin.«sorted»
  refine wpAny_bind (m := checkCount "sorted" 1 1 _) (wpAny_pure ?_)
  refine wpAny_bind (collect_set (A := A.in1) hh ⟨_, ho, rfl, rfl⟩ F.fit few r ld fun s1 vs k1 big g1 o1 pm => ?_)
  have len : vs.length = l.length := by rw [pm.length_eq, List.length_map, Array.length_toList, esz]
  obtain ⟨ss, hS⟩ := txt_of (out := vs) fun v hv => by
    obtain ⟨e, he, ev⟩ := List.mem_map.mp (pm.mem_iff.mp hv)
    obtain ⟨⟨k, hk, _⟩, _⟩ := F.el e he
    obtain ⟨u, eu⟩ := str_is hk
    exact ⟨k, u, ev ▸ eu⟩
  have pl : ss.Perm l := perm_in nd (fun k hk => txt_mem hS k (by
    obtain ⟨e, he, z⟩ := (F.mem k).mp hk
    obtain ⟨u, eu⟩ := str_is z
    exact ⟨u, pm.mem_iff.mpr (List.mem_map.mpr ⟨e, he, eu⟩)⟩)) (by have z := (vals_of_strs hS).length; rw [List.length_map] at z; omega)
  refine wpAny_bind (wpAny_newList ?_ (by rw [len, sizeLine_eq]; omega))
  have at1 : (s1.heap.push (seqObj "list" vs.toArray 0)).get? s1.heap.objs.size = some (seqObj "list" vs.toArray 0) := Heap.get?_push_size _ rfl
  refine wpAny_bind (wpAny_holding (wpAny_call_entry slot_list_sort ⟨_, at1, rfl⟩ entry_list_sort ?_ (args_list_sort _)))
  refine list_sort_treeK strKind_oneLt at1 hS.keysOf (fun v₁ v₂ rest e => keyKind_strs (ss := ss) (by rw [← e]; exact hS)) (by omega) fun st' a1 a2 => ⟨_, rfl, ?_⟩
  obtain ⟨ys, b1, b2, b3⟩ := sorted_out_str hS a1 a2
  obtain ⟨c, hc⟩ := sortedHeap_at (vs := vs) (out := (arrOf st').map (·.2)) at1
  refine wpAny_pure ⟨_, rfl, q _ s1.heap.objs.size _ c ys (fun b u e => ?_) g1 o1 big hc b1 (b2.trans pl) b3⟩
  have e1 := k1 b u e
  have lt := Heap.lt_size e1
  show (sortedHeap (s1.heap.push (seqObj "list" vs.toArray 0)) s1.heap.objs.size vs _).get? b = some u
  rw [sortedHeap_old (Nat.ne_of_lt lt) (by rw [size_push']; exact Nat.lt_succ_of_lt lt)]
  exact Heap.get?_push_of_some _ e1
end
/-! ### as calls -/
def TSetO (P : Program) (w : World) (a : Addr) (l : List Str) : HO := .ext fun h => TSet P w h a l
section
variable {X : Cx}
/-- set(xs), xs a list of texts -/
def rSetLs (K : PySem.W.Frag) (P : Program) (w : World) : List V → Hp → VK → Prop := fun xs H Q => ∃ (l : Addr) (zs : List Str), xs = [.ref l] ∧ SqL K H l (zs.map V.str) ∧ zs.length < 4000 ∧ ∀ p, H p = none → Q (.ref p) (upd H p (TSetO P w p (metL zs [])))
theorem vals_strsAre : ∀ {zs : List Str} {us : List Value}, Vals (zs.map V.str) us → StrsAre us zs
  | [], _, h => by
    cases h
    exact .nil
  | z :: zs, _, h => by
    cases h with
    | cons r t =>
      obtain ⟨tk, rfl⟩ := r
      exact .cons z tk (vals_strsAre t)
theorem cr_setLs (hc : X.calm = true) : CallR X (.type "set") (rSetLs X.K X.prog X.w) := by
  intro pins s σ H xs us Q I r h
  obtain ⟨l, zs, rfl, hs, hz, q⟩ := h
  obtain rfl := Vals.ref1 r
  obtain ⟨its, rv, pl, _⟩ := I.list hs
  refine set_list (zs := zs) (I.ok.hd hc) pl.isList (by simpa using vals_strsAre rv) (by unfold scanBound; omega) fun h' tk T k => ?_
  refine ⟨.ref s.heap.objs.size, upd H s.heap.objs.size (TSetO X.prog X.w s.heap.objs.size (metL zs [])), I.laid (t' := tk) k (Nat.le_refl _) ⟨T, ?_, fun h1 h2 p k2 => p.at k2⟩, rfl, q _ (I.hok.fresh (Nat.le_refl _))⟩
  obtain ⟨D, ho, _⟩ := T
  exact ⟨_, ho⟩
def rSortTx (P : Program) (w : World) : List V → Hp → VK → Prop := fun xs H Q => ∃ (a : Addr) (l : List Str), xs = [.ref a] ∧ H a = some (TSetO P w a l) ∧ l.length < 64 ∧
  ∀ (ys : List Str) (p : Addr), ys.Perm l → sortedS ys = true → H p = none → Q (.ref p) (upd H p (.lst (ys.map V.str)))
theorem cr_sortTx (hc : X.calm = true) : CallR X (.builtin "sorted") (rSortTx X.prog X.w) := by
  intro pins s σ H xs us Q I r h
  obtain ⟨a, l, rfl, ha, h64, q⟩ := h
  have T : TSet X.prog X.w s.heap a l := (I.hok a _ ha).1
  rw [Vals.ref1 r]
  refine sort_tset T (I.ok.hd hc) h64 fun s' p out c ys k g o hp e hS pl st => ?_
  have hn : H p = none := I.hok.fresh hp
  have few : (ys.map V.str).length ≤ sizeLine := by rw [List.length_map, pl.length_eq, sizeLine_eq]; omega
  exact ⟨.ref p, _, I.call' (ch := []) o (Un.laid k hp hn) (I.hok.laid (o := .lst (ys.map V.str)) k hp ⟨few, out.toList, c, vals_of_strs hS, e⟩) (g ▸ I.bare) (fun _ z => nomatch z), rfl, q ys p pl st hn⟩
end
end LK

set_option maxHeartbeats 4000000
/-! len(set(list)), a list of texts and ints -/
namespace LK
open PySem PySem.Spec PyProof.Rows L2 PySem.Froz
section
variable {P : Program} {w : World} {A : Around} {E : Value → Shared → Prop} {s : Shared}
def inB (ks : List Key) (i : Nat) (k : Key) : Bool := (ks.take i).any fun x => decide (k = x)
/-- how many unlike ones are among the first -/
def cntK (ks : List Key) : Nat → Nat
  | 0 => 0
  | i + 1 => match ks[i]? with
    | some k => if inB ks i k = true then cntK ks i else cntK ks i + 1
    | none => cntK ks i
theorem cntK_le (ks : List Key) : ∀ i, cntK ks i ≤ i
  | 0 => Nat.le_refl _
  | i + 1 => by
    have ih := cntK_le ks i
    unfold cntK
    split
    · split <;> omega
    · omega
theorem cntK_some {ks : List Key} {i : Nat} {k : Key} (e : ks[i]? = some k) : cntK ks (i + 1) = if inB ks i k = true then cntK ks i else cntK ks i + 1 := by
  show (match ks[i]? with | some k => if inB ks i k = true then cntK ks i else cntK ks i + 1 | none => cntK ks i) = _
  rw [e]
theorem inB_mem {ks : List Key} {i : Nat} {k : Key} : inB ks i k = true ↔ k ∈ ks.take i := by
  unfold inB
  rw [List.any_eq_true]
  exact ⟨fun ⟨x, m, e⟩ => by rw [of_decide_eq_true e]; exact m, fun m => ⟨k, m, decide_eq_true rfl⟩⟩
theorem cntK_iff {ks : List Key} : ∀ i, i ≤ ks.length → (cntK ks i = i ↔ (ks.take i).Nodup)
  | 0, _ => by simp [cntK]
  | i + 1, h => by
    have hi : i < ks.length := h
    have e : ks[i]? = some ks[i] := List.getElem?_eq_getElem hi
    have ih := cntK_iff (ks := ks) i (by omega)
    have le := cntK_le ks i
    rw [cntK_some e, List.take_add_one, e, List.nodup_append]
    by_cases c : inB ks i ks[i] = true
    · rw [if_pos c]
      refine ⟨fun z => by omega, fun ⟨_, _, z⟩ => absurd rfl (z _ (inB_mem.mp c) _ (List.mem_singleton.mpr rfl))⟩
    · rw [if_neg c]
      refine ⟨fun z => ⟨ih.mp (by omega), by simp, fun a ha b hb e => c (inB_mem.mpr ?_)⟩, fun ⟨z, _, _⟩ => congrArg (· + 1) (ih.mpr z)⟩
      have hb : b = ks[i] := by simpa using hb
      rw [← hb, ← e]
      exact ha
theorem cntK_all {ks : List Key} : decide (cntK ks ks.length = ks.length) = decide ks.Nodup := by
  have h := cntK_iff (ks := ks) ks.length (Nat.le_refl _)
  rw [List.take_length] at h
  exact decide_eq_decide.mpr h
abbrev KSet (P : Program) (w : World) (h : Heap) (a : Addr) (ks : List Key) (i : Nat) : Prop := h.SetOf (mixKind P w) a (inB ks i) (cntK ks i)
theorem kset_congr {h : Heap} {a : Addr} {S T : Key → Bool} {n m : Nat} (t : h.SetOf (mixKind P w) a S n) (e : ∀ x, S x = T x) (en : n = m) : h.SetOf (mixKind P w) a T m := by
  rw [← funext e, ← en]
  exact t
theorem kset_at {h h' : Heap} {a : Addr} {ks : List Key} {i : Nat} (t : KSet P w h a ks i) (k : ∀ o, h.get? a = some o → h'.get? a = some o) : KSet P w h' a ks i := by
  obtain ⟨o, es, ep, t, ho, r⟩ := t
  exact ⟨o, es, ep, t, k _ ho, r⟩
theorem scan_key {k : Key} {v : Value} (h : (mixKind P w).is k v = true) : v.scannable = true := by
  rcases keyIs_shape h with ⟨i, t, rfl, rfl⟩ | ⟨x, t, rfl, rfl⟩ <;> rfl
theorem take_step {ks : List Key} {i : Nat} {k : Key} (e : ks[i]? = some k) (x : Key) : (inB ks i x || decide (x = k)) = inB ks (i + 1) x := by
  have q : ks.take (i + 1) = ks.take i ++ [k] := by rw [List.take_add_one, e]; rfl
  unfold inB
  rw [q, List.any_append]
  simp
theorem keys_in {I S : Addr} {fp wr : List Addr} {items : Array Value} {ks : List Key} {St : Nat → Heap → Prop} {R : Result → Shared → Prop} (W : Walks P w A.in1 I fp wr items.size (fun i v => items[i]? = some v) St) (hS : S ∉ fp) (hn : items.size + 1 < scanBound)
    (hk : ∀ (i : Nat) (v : Value), items[i]? = some v → ∃ k : Key, ks[i]? = some k ∧ (mixKind P w).is k v = true) :
    ∀ (j i : Nat) (s : Shared), i + j = items.size → St i s.heap → KSet P w s.heap S ks i →
      (∀ s' : Shared, s'.gens = s.gens → s'.drawn = s.drawn → s'.os = s.os → (∀ b o, b ≠ S → b ∉ wr → s.heap.get? b = some o → s'.heap.get? b = some o) → KSet P w s'.heap S ks items.size → R (.ok (.ret .none)) s') →
      codeAny (model P w) A (.builtin "set.update.loop" ⟨[.ref S, .ref I], []⟩) R s := by
  have off : S ∉ wr := fun m => hS (W.sub _ m)
  have WS := W.toS
  intro j
  induction j with
  | zero =>
    intro i s hi hst hT hR
    have e : i = items.size := by omega
    subst e
    refine codeAny_builtin PyProof.Rows.F.entry_set_update_loop ?_
    rw [Around.under_plainId PyProof.Rows.F.plain_set_update_loop _]
    show wpAny _ A.in1 (pyNext (.ref I) >>= _) _ _ _
    refine wpAny_bind (WS.done _ _ _ hst fun s' m => ?_)
    exact wpAny_pure (hR s' m.gens m.drawn m.os (fun b o _ nw e => m.heap b o nw e) (kset_at hT fun o e => m.heap S o off e))
  | succ j ih =>
    intro i s hi hst hT hR
    have hlt : i < items.size := by omega
    refine codeAny_builtin PyProof.Rows.F.entry_set_update_loop ?_
    rw [Around.under_plainId PyProof.Rows.F.plain_set_update_loop _]
    show wpAny _ A.in1 (pyNext (.ref I) >>= _) _ _ _
    refine wpAny_bind (WS.item i _ _ _ hlt hst fun v s1 hv hst1 m => ?_)
    obtain ⟨k, ek, is⟩ := hk i v hv
    have hT1 : KSet P w s1.heap S ks i := kset_at hT fun o e => m.heap S o off e
    show wpAny _ A.in1 (holding [v] (setAdd S v) >>= _) _ _ _
    unfold setAdd
    refine wpAny_bind (wpAny_holding (wpAny_holding (wpAny_bind ((mixKind P w).pyHash (k := k) is ?_))))
    refine wpAny_setAddHashed_of (s := { s1 with toks := s1.toks + 1 }) is (scan_key is) hT1 (by have := cntK_le ks i; omega) fun h' sb hT2 => ?_
    have hT3 : KSet P w h' S ks (i + 1) := by
      refine kset_congr hT2 (fun x => take_step ek x) ?_
      rw [cntK_some ek]
    have hkeep : ∀ c o, c ≠ S → s1.heap.get? c = some o → h'.get? c = some o := fun c o n e => sb.extBut c o n e
    refine wpAny_pure ⟨plainId_quiet PyProof.Rows.F.plain_set_update_loop _, ih (i + 1) _ (by omega) (WS.frame _ s1 h' _ hst1 (Nat.le_succ _) fun b hb o e => hkeep b o (fun q => hS (q ▸ hb)) e) hT3 fun s2 g2 d2 o2 k2 hT4 => ?_⟩
    exact hR s2 (g2.trans m.gens) (d2.trans m.drawn) (o2.trans m.os) (fun b o nS nw e => k2 b o nS nw (hkeep b o nS (m.heap b o nw e))) hT4
theorem set_keys {l : Addr} {items : Array Value} {ks : List Key} {Q : Value → Shared → Prop} (hh : A.handled = none) (hl : s.heap.IsList l items) (hz : items.size + 1 < scanBound)
    (hk : ∀ (i : Nat) (v : Value), items[i]? = some v → ∃ k : Key, ks[i]? = some k ∧ (mixKind P w).is k v = true)
    (q : ∀ (h' : Heap) (tk : Nat), KSet P w h' s.heap.objs.size ks items.size → (∀ b o, s.heap.get? b = some o → h'.get? b = some o) → Q (.ref s.heap.objs.size) { s with heap := h', toks := tk }) :
    wpAny (model P w) A (call (.type "set") [.ref l]) Q E s := by
  obtain ⟨c, tl, mro⟩ := PySem.F.called_set.mro
  have mk := PySem.F.called_set.made
  have sb := PySem.F.called_set.sub
  refine wpAny_call (codeAny_of_tree ?_)
  show wpAny _ _ (callAny (.type "set") _) _ _ _
  refine wpAny_pure ⟨Code.quiet_builtin _ (by decide +kernel), codeAny_builtin PySem.F.entry_type_call ?_⟩
  rw [Around.under_plain (weight_type_call_type "set" [.ref l] []) rfl]
  have nt := PySem.F.called_set.notType
  have cc := PySem.F.called_set.canCreate
  have tc := PySem.F.typeCall_set_1 (.ref l)
  repeat (any_goals (first | assumption | wp_step))
  refine codeAny_mono (code_set_led1 (.ref l) (E := E) (Q₁ := fun v t => v = .ref s.heap.objs.size ∧ t = { s with heap := s.heap.push (bare w) }) ⟨rfl, rfl⟩) fun r t hr => ?_
  cases r with
  | error e => exact hr
  | ok fl =>
    cases fl with
    | ret obj =>
      obtain ⟨rfl, rfl⟩ := hr
      have at0 : (s.heap.push (bare w)).get? s.heap.objs.size = some (bare w) := Heap.get?_push_size _ rfl
      have ty : Shared.TypeIs { s with heap := s.heap.push (bare w) } (.ref s.heap.objs.size) "set" := ⟨_, at0, rfl⟩
      have il := PySem.F.called_set.init.lookup
      have ib := PySem.F.called_set.init.bind (.ref s.heap.objs.size)
      repeat (any_goals (first | assumption | wp_step))
      refine codeAny_mono (codeAny_call_builtin (R := wants (fun v t2 => v = .none ∧ ∃ (h' : Heap) (tk : Nat), t2 = { s with heap := h', toks := tk } ∧ KSet P w h' s.heap.objs.size ks items.size ∧
        ∀ b o, s.heap.get? b = some o → h'.get? b = some o) E) PySem.F.called_set.init.plain PySem.F.entry_set_init (check_set_init_1 ty ?_)) fun r2 t2 hr2 => ?_
      · obtain ⟨⟨ocls, odict, odata, oslots⟩, hol, hcl, nl, hdl⟩ := hl
        simp only at hcl hdl
        subst hcl hdl
        have lS : l < s.heap.objs.size := Heap.lt_size hol
        have hol2 : (s.heap.push (bare w)).get? l = some { cls := .type "list", dict := odict, data := .seq items nl, slots := oslots } := Heap.get?_push_of_some _ hol
        have s1 := PySem.F.sub_list_set
        have s2 := PySem.F.sub_list_frozenset
        have ne : (Value.type "list" == Value.type "dict") = false := by decide
        have isl : (s.heap.push (bare w)).IsList l items := ⟨_, hol2, rfl, nl, rfl⟩
        unfold Builtin.«set.__init__» noKeywords Builtin.Frozenset.updateFrom
        generalize hPI : pyIter = PI
        wp_walk
        subst hPI
        have lI : l ≠ (s.heap.push (bare w)).objs.size := by
          rw [Heap.size_push]
          exact Nat.ne_of_lt (Nat.lt_succ_of_lt lS)
        have nS : s.heap.objs.size ∉ [(s.heap.push (bare w)).objs.size, l] := fun m => by
          rw [List.mem_cons, List.mem_singleton, Heap.size_push] at m
          rcases m with m | m
          · exact absurd m (Nat.ne_of_lt (Nat.lt_succ_self _))
          · exact absurd m (Nat.ne_of_gt lS)
        refine wpAny_pyIter_list isl ?_
        refine wpAny_bind (wpAny_runValue ?_)
        refine keys_in (Walks.list (by simp [hh]) _ l lI items) nS hz hk items.size 0 _ (Nat.zero_add _) ⟨⟨_, Heap.get?_push_size _ rfl, rfl, rfl⟩, isl.push _⟩ ?_ fun s' g d os k t => ?_
        · exact ⟨_, #[], 0, _, Heap.get?_push_of_some _ at0, ⟨rfl, rfl, rfl⟩, rfl, fun e he => absurd he (by simp), fun k => ⟨fun z => absurd z (by simp [inB]), fun ⟨e, he, _⟩ => absurd he (by simp)⟩, by show 0 < scanBound; unfold scanBound; decide, by rfl, rfl⟩
        · obtain ⟨h', g', d', tk', os'⟩ := s'
          cases g
          cases d
          cases os
          refine wpAny_pure ?_
          show wpAny _ _ (ret Value.none) _ _ _
          refine wpAny_pure ⟨rfl, h', tk', rfl, t, fun b o e => ?_⟩
          have lt := Heap.lt_size e
          refine k b o (Nat.ne_of_lt lt) (fun m => ?_) (Heap.get?_push_of_some _ (Heap.get?_push_of_some _ e))
          rw [List.mem_singleton, Heap.size_push] at m
          exact absurd (show s.heap.objs.size + 1 < s.heap.objs.size from m ▸ lt) (Nat.not_lt.mpr (Nat.le_succ _))
      · cases r2 with
        | error e => exact hr2
        | ok fl2 =>
          cases fl2 with
          | ret v =>
            obtain ⟨rfl, h', tk, rfl, t, k⟩ := hr2
            repeat (any_goals (first | assumption | wp_step))
            exact q h' tk t k
          | _ => exact hr2.elim
    | _ => exact hr.elim
end
section
variable {X : Cx}
theorem keys_vals {ks : List Key} : ∀ {us : List Value}, Vals (ks.map kV) us → ∀ (P : Program) (w : World) (i : Nat) (v : Value), us[i]? = some v → ∃ k, ks[i]? = some k ∧ (mixKind P w).is k v = true := by
  induction ks with
  | nil =>
    intro us r P w i v h
    cases r
    simp at h
  | cons k r ih =>
    intro us rr P w i v h
    cases rr with
    | cons r1 r2 =>
      cases i with
      | zero =>
        cases h
        exact ⟨k, rfl, kV_is r1⟩
      | succ i => exact ih r2 P w i v (by simpa using h)
def tLenSetG (K : PySem.W.Frag) (ta : TE) : TE := fun σ H Q => ta σ H fun x H1 => ∃ (l : Addr) (ks : List Key), x = .ref l ∧ SqL K H1 l (ks.map kV) ∧ ks.length ≤ 4000 ∧ Q (.int (cntK ks ks.length : Nat)) H1
theorem pe_lenSetG {a : Expr} {ta : TE} {p p2 q pos : Pos} (hg : Gl X "len") (hm : X.mg "len" = none) (hg2 : Gl X "set") (hm2 : X.mg "set" = none) (ha : PE X a ta) (hc : X.calm = true := by rfl)
    (na : starEach [a] X.env = (false, eval a X.env) :: starEach [] X.env := by rfl) : PE X (.Call (.Name "len" p) [.Call (.Name "set" p2) [a] [] q] [] pos) (tLenSetG X.K ta) := by
  refine ⟨fun pins s σ H Q I h => ?_⟩
  refine Call_ (ld_blt I hg hm boot_len (PyProof.Rows.callWith_builtin1 (PyProof.Rows.args_cons ?_ rfl) rfl rfl))
  refine Call_ (ld_blt I hg2 hm2 boot_set (PyProof.Rows.callWith_type1 (PyProof.Rows.args_cons (thn (ha.run pins s σ H _ I h) fun v s1 ⟨x, H1, I1, r1, q1⟩ => PyProof.Rows.args_nil ?_) na) na rfl))
  obtain ⟨l, ks, rfl, hq, hl, q1⟩ := q1
  cases r1
  obtain ⟨its, r, pl, hz⟩ := I1.list hq
  have len : its.toArray.size = ks.length := by rw [List.size_toArray, ← r.length, List.length_map]
  refine set_keys (I1.ok.hd hc) pl.isList (by rw [len]; exact Nat.lt_of_le_of_lt (Nat.succ_le_succ hl) (by unfold scanBound; decide)) (fun i v e => keys_vals r _ _ i v (by simpa using e)) fun h' tk hS k => ?_
  refine PyProof.Rows.args_nil ?_
  rw [len] at hS
  obtain ⟨o, es, ep, t, ho, hex, hd, _, _, _, hf, hn⟩ := hS
  have I2 : Inv X pins σ H1 { s1 with heap := h', toks := tk } := I1.kept k
  exact call_len_set ho hex hd hf (by rw [hn]; exact Int.ofNat_lt.mpr (Nat.lt_of_le_of_lt (Nat.le_trans (cntK_le _ _) hl) (by decide))) ⟨.int (cntK ks ks.length : Nat), H1, I2.tok _, ⟨_, by rw [hn]⟩, q1⟩
end
end LK

/-! all(..), any(..) of a generator expression whose element may do anything: the loop of all -/
namespace GE
open PySem PySem.Spec PyProof.Rows L2 GenW
theorem over_start {A : Around} {elt tg iter : Expr} {ifs : List Expr} {scope : Scope} {pos : Pos} {it acc : Value} {env : Env} : A.over (.compStart (.GeneratorExp elt [⟨tg, iter, ifs, 0⟩] scope pos) 0 it acc env) [] = A.deeper env := by
  first
    | rfl
    | (obtain ⟨hd, d, fr, gs, u⟩ := A; simp [Around.over, Around.deeper, marksOver, frameCount, unitsOf, envsOf, guardsOf, pushEnvs, pushGuards, Code.envs, Code.env?, Code.isFrame, Code.guards, Code.isGuard, Code.weight, Code.frames, Code.isCreation, Code.isCaller, Code.cUnits])
theorem over_turn {A : Around} {elt tg iter : Expr} {ifs : List Expr} {scope : Scope} {pos : Pos} {it acc : Value} {env : Env} : A.over (.compLoop (.GeneratorExp elt [⟨tg, iter, ifs, 0⟩] scope pos) 0 it acc env) [] = A.deeper env := by
  first
    | rfl
    | (obtain ⟨hd, d, fr, gs, u⟩ := A; simp [Around.over, Around.deeper, marksOver, frameCount, unitsOf, envsOf, guardsOf, pushEnvs, pushGuards, Code.envs, Code.env?, Code.isFrame, Code.guards, Code.isGuard, Code.weight, Code.frames, Code.isCreation, Code.isCaller, Code.cUnits])
end GE

namespace GE
open PySem PySem.Spec PyProof.Rows L2 GenW
/-- between two wakings nothing but the table of generators moves -/
structure Rest (s s' : Shared) : Prop where
  os : s'.os = s.os
  heap : s'.heap = s.heap
  bare : AllBare s'.gens
/-- a truth is handed out; at stop the walk is over -/
def YB (a : Addr) (g : Nat) (stop : Bool) (Fs : Shared → Prop) : Protocol := fun _ _ v s1 kap =>
  ∃ b : Bool, v = .bool b ∧ AllBare s1.gens ∧ s1.heap.NoLimit ∧ s1.heap.IsGen a g ∧ (b = stop → Fs s1) ∧ (b = (!stop) → ∀ s', Rest s1 s' → kap (.send .none) s')
def RB (Ft : Shared → Prop) : GenEnd := fun _ _ r s1 => ((r = .ok (.ret .none) ∨ r = .ok .next) ∧ (Ft s1 ∧ AllBare s1.gens)) ∨ ∃ e, r = .error e ∧ False
section
variable {P : Program} {w : World} {A : Around} {R : Result → Shared → Prop} {a : Addr} {g : Nat} {Ft Fs : Shared → Prop}
/-- one waking -/
theorem next_bool {E : Value → Shared → Prop} {Q : Option Value → Shared → Prop} {stop : Bool} (hh : A.handled = none) (hd : A.depth < recursionLimit) {m : Nat} {s : Shared} (hg : s.heap.IsGen a g) (hl : s.heap.NoLimit)
    (h : ∃ gs, s.gens[g]? = some gs ∧ gs.Goes (model P w) A.in1 (RB Ft) (YB a g stop Fs) m (.send .none) (s.setGen g .running))
    (ht : ∀ s1 h', Ft s1 → AllBare s1.gens → (∀ b o, s1.heap.get? b = some o → h'.get? b = some o) → Q none { s1.setGen g .finished with heap := h' })
    (hs : ∀ s1 gs, Fs s1 → AllBare s1.gens → gs.bare = true → Q (some (.bool stop)) (s1.setGen g gs))
    (hn : ∀ s1, s1.heap.IsGen a g → s1.heap.NoLimit → ∀ m', m = m' + 1 → (∃ gs, s1.gens[g]? = some gs ∧ gs.Goes (model P w) A.in1 (RB Ft) (YB a g stop Fs) m' (.send .none) (s1.setGen g .running)) → Q (some (.bool (!stop))) s1) :
    wpAny (model P w) A (pyNext (.ref a)) Q E s := by
  obtain ⟨gs, e, go⟩ := h
  have lt : g + 1 ≤ s.gens.size := (Array.getElem?_eq_some_iff.mp e).1
  refine wpAny_gsz lt (next_genG (F := fun _ _ s1 => Ft s1 ∧ AllBare s1.gens) (Er := fun _ _ => False) (Y := YB a g stop Fs) hh hl hd hg e go (fun v s1 gs' bare y => ?_) (fun s1 f h' k _ => ht s1 h' f.1 f.2 k) fun _ _ z => z.elim)
  intro big
  obtain ⟨b, rfl, b1, l1, g1, f1, k1⟩ := y
  have sz : (s1.setGen g gs').gens.size = s1.gens.size := setGen_size ..
  by_cases c : b = stop
  · rw [c]
    exact hs s1 gs' (f1 c) b1 bare
  · have c2 : b = !stop := by cases b <;> cases stop <;> simp_all
    have k2 := k1 c2
    rw [c2]
    cases m with
    | zero => exact (k2 s1 ⟨rfl, rfl, b1⟩).elim
    | succ m => exact hn (s1.setGen g gs') g1 l1 m rfl ⟨gs', setGen_at (by omega), k2 _ ⟨rfl, rfl, allBare_setGen (allBare_setGen b1 bare) rfl⟩⟩
theorem all_loop (hh : A.handled = none) (hd : A.depth < recursionLimit)
    (ht : ∀ s1 h', Ft s1 → AllBare s1.gens → (∀ b o, s1.heap.get? b = some o → h'.get? b = some o) → R (.ok (.ret (.bool true))) { s1.setGen g .finished with heap := h' })
    (hs : ∀ s1 gs, Fs s1 → AllBare s1.gens → gs.bare = true → R (.ok (.ret (.bool false))) (s1.setGen g gs)) :
    ∀ (m : Nat) (s : Shared), s.heap.IsGen a g → s.heap.NoLimit → (∃ gs, s.gens[g]? = some gs ∧ gs.Goes (model P w) A.in1.in1 (RB Ft) (YB a g false Fs) m (.send .none) (s.setGen g .running)) →
      codeAny (model P w) A (.builtin "all.loop" ⟨[.ref a], []⟩) R s := by
  intro m
  induction m with
  | zero =>
    intro s hg hl h
    refine codeAny_builtin F.entry_all_loop ?_
    rw [Around.under_plainId F.plain_all_loop _]
    show wpAny _ A.in1 (pyNext (.ref a) >>= _) _ _ s
    refine wpAny_bind (next_bool (A := A.in1) hh hd hg hl h (fun s1 h' f b k => ?_) (fun s1 gs f b c => ?_) fun s1 _ _ m' e => by cases e)
    · exact wpAny_bind (wpAny_rule (wpAny_pure (ht s1 h' f b k)))
    · refine wpAny_bind (wpAny_holding (wpAny_truthy_bool ?_))
      exact wpAny_bind (wpAny_letGo (wpAny_bind (wpAny_rule (wpAny_pure (hs s1 gs f b c)))))
  | succ m ih =>
    intro s hg hl h
    refine codeAny_builtin F.entry_all_loop ?_
    rw [Around.under_plainId F.plain_all_loop _]
    show wpAny _ A.in1 (pyNext (.ref a) >>= _) _ _ s
    refine wpAny_bind (next_bool (A := A.in1) hh hd hg hl h (fun s1 h' f b k => ?_) (fun s1 gs f b c => ?_) fun s1 g1 l1 m' e h1 => ?_)
    · exact wpAny_bind (wpAny_rule (wpAny_pure (ht s1 h' f b k)))
    · refine wpAny_bind (wpAny_holding (wpAny_truthy_bool ?_))
      exact wpAny_bind (wpAny_letGo (wpAny_bind (wpAny_rule (wpAny_pure (hs s1 gs f b c)))))
    · cases e
      refine wpAny_bind (wpAny_holding (wpAny_truthy_bool ?_))
      exact wpAny_bind (wpAny_letGo (wpAny_pure ⟨plainId_quiet F.plain_all_loop _, ih s1 g1 l1 h1⟩))
theorem any_loop (hh : A.handled = none) (hd : A.depth < recursionLimit)
    (ht : ∀ s1 h', Ft s1 → AllBare s1.gens → (∀ b o, s1.heap.get? b = some o → h'.get? b = some o) → R (.ok (.ret (.bool false))) { s1.setGen g .finished with heap := h' })
    (hs : ∀ s1 gs, Fs s1 → AllBare s1.gens → gs.bare = true → R (.ok (.ret (.bool true))) (s1.setGen g gs)) :
    ∀ (m : Nat) (s : Shared), s.heap.IsGen a g → s.heap.NoLimit → (∃ gs, s.gens[g]? = some gs ∧ gs.Goes (model P w) A.in1.in1 (RB Ft) (YB a g true Fs) m (.send .none) (s.setGen g .running)) →
      codeAny (model P w) A (.builtin "any.loop" ⟨[.ref a], []⟩) R s := by
  intro m
  induction m with
  | zero =>
    intro s hg hl h
    refine codeAny_builtin F.entry_any_loop ?_
    rw [Around.under_plainId F.plain_any_loop _]
    show wpAny _ A.in1 (pyNext (.ref a) >>= _) _ _ s
    refine wpAny_bind (next_bool (A := A.in1) hh hd hg hl h (fun s1 h' f b k => ?_) (fun s1 gs f b c => ?_) fun s1 _ _ m' e => by cases e)
    · exact wpAny_bind (wpAny_rule (wpAny_pure (ht s1 h' f b k)))
    · refine wpAny_bind (wpAny_holding (wpAny_truthy_bool ?_))
      exact wpAny_bind (wpAny_letGo (wpAny_bind (wpAny_rule (wpAny_pure (hs s1 gs f b c)))))
  | succ m ih =>
    intro s hg hl h
    refine codeAny_builtin F.entry_any_loop ?_
    rw [Around.under_plainId F.plain_any_loop _]
    show wpAny _ A.in1 (pyNext (.ref a) >>= _) _ _ s
    refine wpAny_bind (next_bool (A := A.in1) hh hd hg hl h (fun s1 h' f b k => ?_) (fun s1 gs f b c => ?_) fun s1 g1 l1 m' e h1 => ?_)
    · exact wpAny_bind (wpAny_rule (wpAny_pure (ht s1 h' f b k)))
    · refine wpAny_bind (wpAny_holding (wpAny_truthy_bool ?_))
      exact wpAny_bind (wpAny_letGo (wpAny_bind (wpAny_rule (wpAny_pure (hs s1 gs f b c)))))
    · cases e
      refine wpAny_bind (wpAny_holding (wpAny_truthy_bool ?_))
      exact wpAny_bind (wpAny_letGo (wpAny_pure ⟨plainId_quiet F.plain_any_loop _, ih s1 g1 l1 h1⟩))
end
end GE

namespace GE
open PySem PySem.Spec PyProof.Rows L2 GenW
/-- the context of a generator expression's own frame -/
abbrev gcx (X : Cx) (s : Shared) (H : Hp) (scope : Scope) (cenv : Env) (fp : List Addr) (pn : List (Addr × Obj)) (B : Around) : Cx :=
  { X with A := B, s_0 := s, H_0 := H, env := cenv, outer := X.stack, stack := cenv :: X.stack, ex := fp, fn := fun x => scope.names.lookup x == some .cell, pn := pn, xe := fun _ _ => False }
section
variable {X : Cx} {pins : List (Addr × Obj)} {σ : L2.St} {H : Hp} {s : Shared}
theorem gen_start {scope : Scope} {own : List (Str × Nat)} {fp : List Addr} {code it : Value} {h' : Heap} {go : Obj} {B : Around} {gs : GenState} {tk : Nat} (I : Inv X pins σ H s) (ok : BlkOk X.N X.env.scope scope own) (hN : X.N.Nodup) (hcell : ∀ y ∈ scope.names, y.2 ≠ .cell)
    (hfp : ∀ b ∈ fp, FpOk X pins H b ∧ b < s.heap.objs.size) (hB : B.handled = none) (hfr : B.frames = some (genEnv scope (cloFrom X.env.cells scope.names []) s.heap.objs.size code builtinsNs X.env :: X.stack))
    (hC : h'.Ns s.heap.objs.size (fun y => if y = ".0" then some it else none)) (hs : ∀ b o, s.heap.get? b = some o → h'.get? b = some o) (hz : s.heap.objs.size < h'.objs.size) (hgo : ∀ v, go.data ≠ .cell v) (hgp : (h'.push go).get? h'.objs.size = some go) (hb : gs.bare = true) :
    Inv (gcx X s H scope (genEnv scope (cloFrom X.env.cells scope.names []) s.heap.objs.size code builtinsNs X.env) fp [(h'.objs.size, go)] B) [] (wipe σ (own.map (·.2))) H { s with gens := s.gens.push gs, toks := tk, heap := h'.push go } := by
  have hfree : ∀ y ∈ scope.names, y.2 = .free → ∃ c, X.env.cells.lookup y.1 = some c := fun y hy e => (ok.free y hy e).elim (fun k => I.ok.has _ (.inl k)) fun k => I.ok.has _ (.inr k)
  generalize hcl : cloFrom X.env.cells scope.names [] = cl
  rw [hcl] at hfr
  have cm : ∀ {y c}, cl.lookup y = some c → X.env.cells.lookup y = some c := fun {y c} h => by
    have m := PySem.mem_of_lookup h
    rw [← hcl] at m
    rcases cloFrom_mem m with z | ⟨z, rfl⟩
    · cases z
    · obtain ⟨c, e⟩ := hfree _ z rfl
      rw [e]
      rfl
  have ch : ∀ {y}, (y, NameKind.free) ∈ scope.names → ∃ c, cl.lookup y = some c := fun {y} m => by
    have z := cloFrom_has (cells := X.env.cells) (acc := []) m
    rw [hcl] at z
    exact mem_lookup z
  have e0 := I.env0
  have kp : ∀ b o, s.heap.get? b = some o → (h'.push go).get? b = some o := fun b o e => Heap.get?_push_of_some _ (hs b o e)
  have nostk : ∀ b, b ≠ X.env.locals → b ∉ X.fs → b ∉ frs X.stack := fun b n1 n2 m => by
    rcases List.mem_cons.mp (I.stkSub b m) with z | z
    · exact n1 z
    · exact n2 z
  have okG : (gcx X s H scope (genEnv scope cl s.heap.objs.size code builtinsNs X.env) fp [(h'.objs.size, go)] B).Ok := by
    refine ⟨I.ok.mod, ok.kind, I.ok.glob, rfl, Nat.le_refl _, fun x y c e1 e2 => I.ok.inj x y c (cm e1) (cm e2), fun x k => ?_, fun x c k _ => ?_, fun _ => hB, hfr, .inr ⟨rfl, rfl⟩, fun b m => ⟨Nat.ne_of_lt (hfp b m).2, fun x c e => (hfp b m).1.2.2.2.2.1 x c (cm e)⟩,
      I.bs, e0.bsz, fun b o e m => ?_, fun b m => nostk b (hfp b m).1.2.1 (hfp b m).1.2.2.1, e0.funs, e0.frf⟩
    · rcases k with k | k
      · exact absurd rfl (hcell _ (PySem.mem_of_lookup (show scope.names.lookup x = some .cell from k)))
      · exact ch (PySem.mem_of_lookup (show scope.names.lookup x = some .free from k))
    · have k : (scope.names.lookup x == some NameKind.cell) = true := k
      exact absurd rfl (hcell _ (PySem.mem_of_lookup (eq_of_beq k)))
    · rcases (hfp b m).1.2.2.2.1 with z | z
      · exact I.ok.noex b o e z
      · exact absurd (Nat.lt_of_lt_of_le (Heap.lt_size e) (Nat.le_trans I.ok.bsz z)) (Nat.lt_irrefl _)
  refine ⟨okG, rfl, AllBare.push I.bare hb, Un.kept kp, ⟨_, hC.push go, fun i x v e1 e2 e3 => ?_⟩, fun x c e => ?_, I.hok.fresh (Nat.le_refl _), fun x c e => I.freeC x c (cm e), fun p hp => ?_, I.hok.kept kp, by rw [wipe_length]; exact I.len⟩
  · obtain ⟨e2, hne⟩ := wipe_some e2
    have own : scope.names.lookup x = some .free := by
      have no : ∀ k, scope.names.lookup x = some k → k = .local ∨ k = .cell → False := fun k hk z => by
        rcases ok.own _ (PySem.mem_of_lookup hk) z with m | m
        · obtain ⟨p, hp, hpx⟩ := List.mem_map.mp m
          have q := ok.ix p hp
          rw [show p.1 = x from hpx] at q
          exact hne (List.mem_map.mpr ⟨p, hp, nodup_ix hN q e1⟩)
        · exact m (List.mem_of_getElem? e1)
      have e3 : Vis scope x := e3
      rcases e3 with k | k | k
      · exact (no _ k (.inl rfl)).elim
      · exact (no _ k (.inr rfl)).elim
      · exact k
    obtain ⟨c, hc⟩ := ch (PySem.mem_of_lookup own)
    obtain ⟨m, _, hl⟩ := I.loc
    have vis : Vis X.env.scope x := (ok.free _ (PySem.mem_of_lookup own) rfl).elim (fun k => .inr (.inl k)) fun k => .inr (.inr k)
    obtain ⟨u, r, q⟩ := hl i x v e1 e2 vis
    refine ⟨u, r, .inr ⟨.inr own, c, hc, ?_⟩⟩
    rcases q with ⟨k, _⟩ | ⟨_, c', e', z⟩
    · have k : X.env.scope.names.lookup x = some .local := k
      rcases ok.free _ (PySem.mem_of_lookup own) rfl with j | j
      · rw [show X.env.scope.names.lookup x = some .cell from j] at k
        cases k
      · rw [show X.env.scope.names.lookup x = some .free from j] at k
        cases k
    · rw [cm hc] at e'
      cases e'
      exact z.keeps kp
  · obtain ⟨v, z⟩ := I.cell x c (cm e)
    exact ⟨v, z.keeps kp⟩
  · rcases List.mem_append.mp hp with z | z
    · rw [List.mem_singleton.mp z]
      have y : s.heap.objs.size ≤ h'.objs.size := Nat.le_of_lt hz
      exact ⟨hgp, I.hok.fresh y, Nat.ne_of_gt hz, nostk _ (Nat.ne_of_gt (Nat.lt_of_lt_of_le I.lt y)) (I.nofs y), hgo⟩
    · cases z
end
end GE

namespace GE
open PySem PySem.Spec PyProof.Rows L2 GenW
theorem rest_inv {X : Cx} {pins : List (Addr × Obj)} {σ : L2.St} {H : Hp} {s s' : Shared} (I : Inv X pins σ H s) (r : Rest s s') : Inv X pins σ H s' := by
  obtain ⟨r1, r2, r3⟩ := r
  exact ⟨I.ok, r1.trans I.os, r3, by rw [r2]; exact I.base, by rw [r2]; exact I.loc, by rw [r2]; exact I.cell, I.free, I.freeC, by rw [r2]; exact I.pin, by rw [r2]; exact I.hok, I.len⟩
section
variable {X : Cx} {s0 : Shared} {H0 : Hp} {scope : Scope} {cenv : Env} {fp : List Addr} {a : Addr} {go : Obj} {Ar : Around} {g : Nat}
/-- what the reading of the loop asks -/
def Turns (J : It) (gt : TG) (te : TE) (σ : L2.St) (vs : List Nat) (stop : Bool) (QT QF : Hp → Prop) (W : Nat → Nat → Hp → Prop) : Prop := ∀ i m H, W i m H →
  (J.stop i H ∧ QT H) ∨ (J.go i H ∧ ∃ Nx : Hp → Prop, (∀ H', Nx H' → ∃ m', m' < m ∧ W (i + 1) m' H') ∧ ∀ x H', J.yld i H x H' → gt x (wipe σ vs) H' fun σ2 H2 => wipe σ2 vs = wipe σ vs ∧ te σ2 H2 fun y H3 => ∃ b : Bool, y = .bl b ∧ (b = stop → QF H3) ∧ (b = (!stop) → Nx H3))
theorem gen_loop {elt tg iter : Expr} {pos : Pos} {it : Addr} {tn : Nat → Heap → Prop} {J : It} {gt : TG} {te : TE} {σ : L2.St} {vs : List Nat} {stop : Bool} {QT QF : Hp → Prop} {W : Nat → Nat → Hp → Prop} (T : Turn X.prog X.w X.K tg J fp it tn) (hc : X.calm = true)
    (pg : PG (gcx X s0 H0 scope cenv fp [(a, go)] (Ar.deeper cenv)) tg gt) (pe : PE (gcx X s0 H0 scope cenv fp [(a, go)] (Ar.deeper cenv)) elt te) (hco : cenv.scope.isCoroutine = false) (ha : ∀ b ∈ fp, a ≠ b) (hg : ∀ h : Heap, h.get? a = some go → h.IsGen a g) (tu : Turns J gt te σ vs stop QT QF W) :
    ∀ (m i n : Nat) (s₀ s : Shared) (H : Hp), m + 1 ≤ n → Inv (gcx X s0 H0 scope cenv fp [(a, go)] (Ar.deeper cenv)) [] (wipe σ vs) H s → tn i s.heap → (∀ b ∈ fp, H b = none) → W i m H →
      Seg (model X.prog X.w) Ar (RB fun s1 => ∃ H', Inv (gcx X s0 H0 scope cenv fp [(a, go)] (Ar.deeper cenv)) [] (wipe σ vs) H' s1 ∧ QT H') (YB a g stop fun s1 => ∃ H', Inv (gcx X s0 H0 scope cenv fp [(a, go)] (Ar.deeper cenv)) [] (wipe σ vs) H' s1 ∧ QF H') n s₀
        (.compLoop (.GeneratorExp elt [⟨tg, iter, [], 0⟩] scope pos) 0 (.ref it) .none cenv) ((model X.prog X.w).den (.compLoop (.GeneratorExp elt [⟨tg, iter, [], 0⟩] scope pos) 0 (.ref it) .none cenv)) [] s := by
  generalize hX : gcx X s0 H0 scope cenv fp [(a, go)] (Ar.deeper cenv) = Y at pg pe ⊢
  have yp : Y.prog = X.prog := by rw [← hX]
  have yw : Y.w = X.w := by rw [← hX]
  have yk : Y.K = X.K := by rw [← hX]
  have yc : Y.calm = true := by rw [← hX]; exact hc
  have ya : Y.A = Ar.deeper cenv := by rw [← hX]
  have ye : Y.env = cenv := by rw [← hX]
  have yx : Y.xe = fun _ _ => False := by rw [← hX]
  have yn : Y.pn = [(a, go)] := by rw [← hX]
  have yex : Y.ex = fp := by rw [← hX]
  have stat : ∀ {σ' : L2.St} {H' : Hp} {s' : Shared}, Inv Y [] σ' H' s' → (∀ b ∈ fp, H' b = none) → ∀ b ∈ fp, FpOk Y [] H' b := fun {σ' H' s'} I' hn b hb => by
    have m : b ∈ Y.ex := by rw [yex]; exact hb
    refine ⟨hn b hb, (I'.ok.exf b m).1, I'.ok.exfs b m, .inl m, (I'.ok.exf b m).2, fun p hp => ?_⟩
    rw [yn] at hp
    rcases List.mem_append.mp hp with z | z
    · rw [List.mem_singleton.mp z]
      exact ha b hb
    · cases z
  intro m
  induction m using Nat.strongRecOn with
  | ind m ih =>
    intro i n s₀ s H hn I st nf w
    show Seg _ Ar _ _ _ s₀ _ ((compTurn (.GeneratorExp elt [⟨tg, iter, [], 0⟩] scope pos) 0 (.ref it) .none cenv).onRaise (leaving cenv)) [] s
    rw [compTurn_gen, Sem.onRaise_eq_wrap]
    refine seg_bind_wrap (wpAny_standAt ?_)
    rcases tu i m H w with ⟨stp, qt⟩ | ⟨go', Nx, hNx, step⟩
    · refine seg_bind_wrap ?_
      rw [over_turn, ← ya]
      refine thnF (T.done Y yp yw yk yc i [] s _ H (fun _ _ => False) I (stat I nf) st stp) fun r s1 ⟨e, I1⟩ => ?_
      subst e
      exact seg_end (.ok .next) (.inl ⟨.inr rfl, ⟨H, I1, qt⟩, I1.bare⟩)
    · refine seg_bind_wrap ?_
      rw [over_turn, ← ya]
      refine thnF (T.item Y yp yw yk yc i [] s _ H (fun _ _ => False) I (stat I nf) st go') fun r s1 ⟨u, e, h1⟩ => ?_
      subst e
      refine seg_bind_wrap ?_
      rw [over_turn, ← ya]
      refine thnF h1 fun _ s2 ⟨x, H2, I2, r2, y2, st2, n2⟩ => ?_
      have I2' := I2.pinned (stat I2 n2) (T.obj _ _ st2)
      refine seg_bind_wrap ?_
      rw [over_turn, ← ya]
      have pgr := pg.run _ s2 _ H2 x u _ I2' r2 (step x H2 y2)
      rw [ye, yx, yp, yw] at pgr
      refine thnF pgr fun _ s3 ⟨σ3, H3, I3, hw3, q3⟩ => ?_
      refine seg_bind_wrap ?_
      rw [over_turn, ← ya]
      have ptr := (pts_nil (X := Y)).run _ s3 σ3 H3 (fun b H' => b = true ∧ H' = H3) I3 ⟨rfl, rfl⟩
      rw [ye, yx, yp, yw] at ptr
      refine thnF ptr fun b s4 ⟨H4, I4, eb, eH⟩ => ?_
      subst eb eH
      simp only [if_true]
      have hy : ∀ v, yieldOut cenv v = yieldValue v := fun v => by simp only [yieldOut, hco, Bool.false_eq_true, if_false]
      simp only [hy]
      rw [Sem.bind_eq_wrap', Sem.bind_eq_wrap', Sem.wrap_wrap, Sem.wrap_wrap]
      refine seg_wrap ?_
      rw [over_turn, ← ya]
      have per := pe.run _ s4 σ3 H4 _ I4 q3
      rw [ye, yx, yp, yw] at per
      refine thnF per fun v s5 ⟨y, H5, I5, r5, b, ey, qs, qn⟩ => ?_
      subst ey
      have ev : v = .bool b := r5
      subst ev
      obtain ⟨n', rfl⟩ : ∃ n', n = n' + 1 := ⟨n - 1, by omega⟩
      have keep : ∀ b ∈ fp, ∀ o, s2.heap.get? b = some o → s5.heap.get? b = some o ∧ H5 b = none := fun b hb o e => by
        have z := I5.pin (b, o) (List.mem_append_right _ (List.mem_append_right _ (mem_pinsAt hb e)))
        exact ⟨z.1, z.2.1⟩
      have hl : (wipe σ vs).length = σ3.length := by rw [← hw3, wipe_length]
      have I6 : Inv Y [] (wipe σ vs) H5 s5 := (I5.unpinned (pins := [])).weak hl fun j v e => by
        rw [← hw3] at e
        exact (wipe_some e).1
      have st5 : tn (i + 1) s5.heap := T.keep _ _ _ st2 fun b hb o e => (keep b hb o e).1
      have n5 : ∀ b ∈ fp, H5 b = none := fun b hb => by
        obtain ⟨o, e, _⟩ := T.obj _ _ st2 b hb
        exact (keep b hb o e).2
      have pin := (I6.pin (a, go) (List.mem_append_left _ (by rw [yn]; exact List.mem_singleton.mpr rfl))).1
      refine seg_at (seg_yield rfl rfl rfl ⟨b, rfl, I6.bare, I6.nolimit, hg _ pin, fun e => ⟨H5, I6, qs e⟩, fun e s6 r6 => ?_⟩)
      obtain ⟨m', lt, w'⟩ := hNx H5 (qn e)
      refine seg_again rfl (ih m' lt (i + 1) n' s6 s6 H5 (by omega) (rest_inv I6 r6) ?_ n5 w')
      rw [r6.heap]
      exact st5
end
end GE

namespace GE
open PySem PySem.Spec PyProof.Rows L2 GenW
/-- the generator expression's own names -/
structure GNames (scope : Scope) : Prop where
  co : scope.isCoroutine = false
  cell : ∀ y ∈ scope.names, y.2 ≠ .cell
  dot : scope.names.lookup (".0" : Str) = some NameKind.local
/-- all(..) with stop false, any(..) with stop true -/
def tGenB (T : Addr) (wi : TI) (gt : TG) (te : TE) (vs : List Nat) (stop : Bool) : TE := fun σ H Q => wi σ H fun J H1 => GxR.TabG H1 T ∧ ∀ H2, GxR.Tabbed T H1 H2 →
  ∃ W : Nat → Nat → Hp → Prop, (∃ m, W 0 m H2) ∧ Turns J gt te σ vs stop (fun H' => Q (.bl (!stop)) H') (fun H' => Q (.bl stop) H') W
section
variable {X : Cx} {pins : List (Addr × Obj)} {σ : L2.St} {H : Hp} {s : Shared}
theorem gen_leave {scope : Scope} {cenv : Env} {fp : List Addr} {pn : List (Addr × Obj)} {B : Around} {σ' : L2.St} {H' : Hp} {s' : Shared} (I : Inv X pins σ H s) (hfp : ∀ b ∈ fp, FpOk X pins H b) (J : Inv (gcx X s H scope cenv fp pn B) [] σ' H' s') : Inv X pins σ H' s' :=
  I.call' (ch := fp) J.os J.base J.hok J.bare fun b hb => ⟨(hfp b hb).2.2.2.1, (hfp b hb).2.1, (hfp b hb).2.2.2.2.1, (hfp b hb).2.2.2.2.2⟩
theorem inv_grown {s' : Shared} (I : Inv X pins σ H s) (o : s'.os = s.os) (b : AllBare s'.gens) (k : ∀ b o, s.heap.get? b = some o → s'.heap.get? b = some o) : Inv X pins σ H s' :=
  I.call' (ch := []) o (Un.kept k) (I.hok.kept k) b fun b z => by cases z
/-- the first waking -/
theorem gen_begin {s0 : Shared} {H0 : Hp} {scope : Scope} {cenv : Env} {fp : List Addr} {a : Addr} {go : Obj} {Ar : Around} {g : Nat} {elt tg iter : Expr} {pos : Pos} {it : Addr} {tn : Nat → Heap → Prop} {J : It} {gt : TG} {te : TE} {σ : L2.St} {vs : List Nat} {stop : Bool} {QT QF : Hp → Prop} {W : Nat → Nat → Hp → Prop}
    (T : Turn X.prog X.w X.K tg J fp it tn) (hc : X.calm = true) (pg : PG (gcx X s0 H0 scope cenv fp [(a, go)] (Ar.deeper cenv)) tg gt) (pe : PE (gcx X s0 H0 scope cenv fp [(a, go)] (Ar.deeper cenv)) elt te) (hco : cenv.scope.isCoroutine = false) (ha : ∀ b ∈ fp, a ≠ b) (hg : ∀ h : Heap, h.get? a = some go → h.IsGen a g)
    (tu : Turns J gt te σ vs stop QT QF W) (m n : Nat) (s₀ s : Shared) (H : Hp) (hn : m + 1 ≤ n) (I : Inv (gcx X s0 H0 scope cenv fp [(a, go)] (Ar.deeper cenv)) [] (wipe σ vs) H s) (st : tn 0 s.heap) (nf : ∀ b ∈ fp, H b = none) (w : W 0 m H) :
    Seg (model X.prog X.w) Ar (RB fun s1 => ∃ H', Inv (gcx X s0 H0 scope cenv fp [(a, go)] (Ar.deeper cenv)) [] (wipe σ vs) H' s1 ∧ QT H') (YB a g stop fun s1 => ∃ H', Inv (gcx X s0 H0 scope cenv fp [(a, go)] (Ar.deeper cenv)) [] (wipe σ vs) H' s1 ∧ QF H') n s₀
      (.compStart (.GeneratorExp elt [⟨tg, iter, [], 0⟩] scope pos) 0 (.ref it) .none cenv) ((model X.prog X.w).den (.compStart (.GeneratorExp elt [⟨tg, iter, [], 0⟩] scope pos) 0 (.ref it) .none cenv)) [] s := by
  have loop := gen_loop (iter := iter) (pos := pos) T hc pg pe hco ha hg tu m 0 n s₀ s H hn I st nf w
  show Seg _ Ar _ _ _ s₀ _ ((compStart (.GeneratorExp elt [⟨tg, iter, [], 0⟩] scope pos) 0 (.ref it) .none cenv).onRaise (leaving cenv)) [] s
  unfold compStart
  rw [Sem.onRaise_eq_wrap]
  show Seg _ Ar _ _ _ s₀ _ ((ask >>= _).wrap _ _ _ _) [] s
  refine seg_bind_wrap (wpAny_askSetting ?_)
  split
  · exact seg_again rfl loop
  · first
      | exact seg_bind_wrap (wpAny_rule (seg_bind_wrap (wpAny_standAt (seg_bind_wrap (T.self _ 0 s _ _ st (seg_again rfl loop))))))
      | (refine seg_bind_wrap (wpAny_rule ?_); show Seg _ Ar _ _ _ s₀ _ ((standAt iter.pos >>= _).wrap _ _ _ _) [] s; exact seg_bind_wrap (wpAny_standAt (seg_bind_wrap (T.self _ 0 s _ _ st (seg_again rfl loop)))))
/-- from the code object on: the generator stands ready -/
theorem gen_made {T c : Addr} {elt tg iter : Expr} {scope : Scope} {own : List (Str × Nat)} {gpos : Pos} {wi : TI} {gt : TG} {te : TE} {k : Nat} {stop : Bool} {Q : VK} {W' : Value → Shared → Prop}
    (hr : Room (k + 3) X.A) (hc : X.calm = true) (hN : X.N.Nodup) (TB : GxR.TabB X.base X.mg c T) (hcode : X.env.code = .ref c) (ok : BlkOk X.N X.env.scope scope own) (S : GNames scope) (hi : PI X tg iter wi)
    (hgt : ∀ (s : Shared) (H : Hp) (cl : List (Str × Addr)) (C : Addr) (code : Value) (fp : List Addr) (pn : List (Addr × Obj)) (B : Around), PG (gcx X s H scope (genEnv scope cl C code builtinsNs X.env) fp pn B) tg gt)
    (hel : ∀ (s : Shared) (H : Hp) (cl : List (Str × Addr)) (C : Addr) (code : Value) (fp : List Addr) (pn : List (Addr × Obj)) (B : Around), Room k B → PE (gcx X s H scope (genEnv scope cl C code builtinsNs X.env) fp pn B) elt te)
    (hs : ∀ v, genFold iter X.env v = pure v) (I : Inv X pins σ H s) (h : tGenB T wi gt te (own.map (·.2)) stop σ H Q)
    (hW : ∀ (a : Addr) (g n : Nat) (s5 : Shared) (Ft Fs : Shared → Prop), s5.heap.IsGen a g → s5.heap.NoLimit → (∃ gs, s5.gens[g]? = some gs ∧ gs.Goes (model X.prog X.w) X.A.in1.in1 (RB Ft) (YB a g stop Fs) n (.send .none) (s5.setGen g .running)) →
      (∀ s1, Ft s1 → ∃ H', Inv X pins σ H' s1 ∧ Q (.bl (!stop)) H') → (∀ s1, Fs s1 → ∃ H', Inv X pins σ H' s1 ∧ Q (.bl stop) H') → W' (.ref a) s5) :
    wpAny (model X.prog X.w) X.A (eval (.GeneratorExp elt [⟨tg, iter, [], 0⟩] scope gpos) X.env) W' X.xe s := by
  have hfree : ∀ y ∈ scope.names, y.2 = .free → ∃ c, X.env.cells.lookup y.1 = some c := fun y hy e => (ok.free y hy e).elim (fun k => I.ok.has _ (.inl k)) fun k => I.ok.has _ (.inr k)
  refine wpAny_GeneratorExp_make S.co (closure_ok hfree) S.cell S.dot ok.kind hr.depth (thn (hi.run pins s σ H _ I h) fun xv s1 h1 => thn h1 fun itv s2 h2 => ?_) hs
  obtain ⟨it, fp, tn, J, H2, rfl, I2, T2, st2, f2, ⟨ps, eT, okT⟩, q⟩ := h2
  have tab2 : s2.heap.get? T = some { cls := .none, data := .fields ps } := I2.hok T _ eT
  have cod2 : PySem.W.CodeHd s2.heap c T := TB.code.keeps fun b u e => I2.bk b u e
  refine ⟨I2.nolimit, ?_⟩
  suffices go : ∀ (cv : Value) (h3 : Heap) (tk3 : Nat) (ps3 : Array Value), Heap.ExtBut T s2.heap h3 → s2.heap.objs.size ≤ h3.objs.size → h3.get? T = some { cls := .none, data := .fields ps3 } → (∃ more, ps3 = ps ++ more) → TriplesOk ps3.toList →
      wpAny (model X.prog X.w) X.A (builtinsFor X.env.globals X.env.builtins) (fun bi s4 => ∀ h', h'.Ns s4.heap.objs.size (fun y => if y = ".0" then some (.ref it) else none) → Heap.SameBut s4.heap.objs.size (s4.heap.push { cls := .type "frame", data := .dict #[] }) h' →
        W' (.ref h'.objs.size) { s4 with
          gens := s4.gens.push (.fresh (.compStart (.GeneratorExp elt [⟨tg, iter, [], 0⟩] scope gpos) 0 (.ref it) .none (genEnv scope (cloFrom X.env.cells scope.names []) s4.heap.objs.size cv bi X.env))),
          toks := s4.toks + 1 + 1 + 1,
          heap := h'.push { cls := .type "generator", data := .fields #[.int s4.gens.size 0, .str "<genexpr>" (s4.toks + 1), .str (X.env.qual ++ "<genexpr>") (s4.toks + 1 + 1)] } }) X.xe { s2 with heap := h3, toks := tk3 } by
    cases found : codeAmong gpos ps.toList with
    | some cv => exact wpAny_genexprCode_hit hcode (cod2.code tab2 okT) found (go cv _ s2.toks ps (Heap.ExtBut.refl _ _) (Nat.le_refl _) tab2 ⟨#[], by simp⟩ okT)
    | none =>
      refine wpAny_genexprCodeX hcode (cod2.code tab2 okT) (cod2.tab tab2) found ?_
      intro c' h3 tk3 ext le1 lt1 isC _ tabT _
      have ok3 : TriplesOk (ps ++ #[rawInt gpos.line, rawInt gpos.col, .ref c']).toList := by
        obtain ⟨_, _, _, _, _, _, _, _, _, _, _, _, _, _, _, _, _, _, _, r, _⟩ := isC
        exact r
      exact go _ h3 tk3 _ ext (Nat.le_trans le1 (Nat.le_of_lt lt1)) tabT.2 ⟨_, rfl⟩ ok3
  rintro cv h3 tk3 ps3 ext hsz tab3 ⟨more, rfl⟩ ok3
  obtain ⟨bm, ob4, b1, b2, b3, b4, b5, b6, b7, b8⟩ := TB.bm
  have keep3 : ∀ b u, b ≠ T → s2.heap.get? b = some u → h3.get? b = some u := fun b u nb e => ext b u nb e
  have glob3 : h3.Ns X.env.globals X.mg := by
    rw [I2.ok.glob]
    exact (I2.mod.glob.keeps I2.bk).extBut ext TB.gP
  refine wpAny_builtinsFor (m := X.mg) glob3 b1 b2 (keep3 _ _ b4 (I2.bk _ _ b5)) b6 b7 b8 ?_
  intro h' hC hS
  have I3 : Inv X pins σ (upd H2 T (.tbl (ps ++ more))) { s2 with heap := h3, toks := tk3 } := GxR.inv_tab (more := more) (h' := h3) (g' := s2.gens) (d' := s2.drawn) (t' := tk3) I2 eT keep3 tab3 I2.bare
  have tb3 : GxR.Tabbed T H2 (upd H2 T (.tbl (ps ++ more))) := ⟨⟨_, upd_same, ok3⟩, fun b hb => upd_ne hb⟩
  obtain ⟨Wm, ⟨m0, w0⟩, tu⟩ := q _ tb3
  have nT : ∀ b ∈ fp, b ≠ T := fun b hb z => by
    have y := (f2 b hb).1
    rw [z, eT] at y
    cases y
  have f3 : ∀ b ∈ fp, FpOk X pins (upd H2 T (.tbl (ps ++ more))) b := fun b hb => ⟨by rw [upd_ne (nT b hb)]; exact (f2 b hb).1, (f2 b hb).2⟩
  have st3 : tn 0 h3 := T2.keep _ _ _ st2 fun b hb o e => keep3 b o (nT b hb) e
  have lt3 : ∀ b ∈ fp, b < h3.objs.size := fun b hb => by
    obtain ⟨o, e, _⟩ := T2.obj _ _ st3 b hb
    exact Heap.lt_size e
  generalize upd H2 T (.tbl (ps ++ more)) = H3 at I3 tb3 f3 w0
  generalize hs4 : ({ s2 with heap := h3, toks := tk3 } : Shared) = s4 at I3 hC hS ⊢
  have e4 : s4.heap = h3 := by rw [← hs4]
  rw [← e4] at st3 lt3
  have z' : h'.objs.size = s4.heap.objs.size + 1 := by rw [hS.1, Heap.size_push]
  have k4 : ∀ b o, s4.heap.get? b = some o → h'.get? b = some o := fun b o e => hS.extBut b o (Nat.ne_of_lt (Heap.lt_size e)) (Heap.get?_push_of_some _ e)
  have frB : (X.A.in1.in1.deeper (genEnv scope (cloFrom X.env.cells scope.names []) s4.heap.objs.size cv builtinsNs X.env)).frames = some (genEnv scope (cloFrom X.env.cells scope.names []) s4.heap.objs.size cv builtinsNs X.env :: X.stack) := Around.frames_deeper I3.ok.frames
  have rmB : Room k (X.A.in1.in1.deeper (genEnv scope (cloFrom X.env.cells scope.names []) s4.heap.objs.size cv builtinsNs X.env)) := (hr.in1.in1).deeper _
  have I5 := gen_start (scope := scope) (own := own) (fp := fp) (code := cv) (it := .ref it) (h' := h') (go := { cls := .type "generator", data := .fields #[.int s4.gens.size 0, .str "<genexpr>" (s4.toks + 1), .str (X.env.qual ++ "<genexpr>") (s4.toks + 1 + 1)] })
    (B := X.A.in1.in1.deeper (genEnv scope (cloFrom X.env.cells scope.names []) s4.heap.objs.size cv builtinsNs X.env)) (gs := .fresh (.compStart (.GeneratorExp elt [⟨tg, iter, [], 0⟩] scope gpos) 0 (.ref it) .none (genEnv scope (cloFrom X.env.cells scope.names []) s4.heap.objs.size cv builtinsNs X.env))) (tk := s4.toks + 1 + 1 + 1)
    I3 ok hN S.cell (fun b hb => ⟨f3 b hb, lt3 b hb⟩) rmB.hd frB hC k4 (by omega) (fun v z => by cases z) (Heap.get?_push_size _ rfl) rfl
  have hgen : ∀ h : Heap, h.get? h'.objs.size = some { cls := .type "generator", data := .fields #[.int s4.gens.size 0, .str "<genexpr>" (s4.toks + 1), .str (X.env.qual ++ "<genexpr>") (s4.toks + 1 + 1)] } → h.IsGen h'.objs.size s4.gens.size := fun h e => ⟨_, _, _, e, rfl, rfl, rfl⟩
  generalize ({ cls := .type "generator", data := .fields #[.int s4.gens.size 0, .str "<genexpr>" (s4.toks + 1), .str (X.env.qual ++ "<genexpr>") (s4.toks + 1 + 1)] } : Obj) = go at I5 hgen ⊢
  have pg := hgt s4 H3 (cloFrom X.env.cells scope.names []) s4.heap.objs.size cv fp [(h'.objs.size, go)] (X.A.in1.in1.deeper (genEnv scope (cloFrom X.env.cells scope.names []) s4.heap.objs.size cv builtinsNs X.env))
  have pe := hel s4 H3 (cloFrom X.env.cells scope.names []) s4.heap.objs.size cv fp [(h'.objs.size, go)] (X.A.in1.in1.deeper (genEnv scope (cloFrom X.env.cells scope.names []) s4.heap.objs.size cv builtinsNs X.env)) rmB
  have co : (genEnv scope (cloFrom X.env.cells scope.names []) s4.heap.objs.size cv builtinsNs X.env).scope.isCoroutine = false := S.co
  generalize genEnv scope (cloFrom X.env.cells scope.names []) s4.heap.objs.size cv builtinsNs X.env = cenv at I5 pg pe co ⊢
  have hfa : ∀ b ∈ fp, h'.objs.size ≠ b := fun b hb => Nat.ne_of_gt (Nat.lt_of_lt_of_le (lt3 b hb) (by omega))
  have nf : ∀ b ∈ fp, H3 b = none := fun b hb => (f3 b hb).1
  refine hW h'.objs.size s4.gens.size (m0 + 1) _ (fun s1 => ∃ H', Inv (gcx X s4 H3 scope cenv fp [(h'.objs.size, go)] (X.A.in1.in1.deeper cenv)) [] (wipe σ (own.map (·.2))) H' s1 ∧ Q (.bl (!stop)) H')
    (fun s1 => ∃ H', Inv (gcx X s4 H3 scope cenv fp [(h'.objs.size, go)] (X.A.in1.in1.deeper cenv)) [] (wipe σ (own.map (·.2))) H' s1 ∧ Q (.bl stop) H')
    (hgen _ (I5.pin (h'.objs.size, go) (List.mem_append_left _ (List.mem_singleton.mpr rfl))).1) I5.nolimit ⟨_, Array.getElem?_push_size .., rfl, ?_⟩ (fun s1 ⟨H', J', q'⟩ => ⟨H', gen_leave I3 f3 J', q'⟩) fun s1 ⟨H', J', q'⟩ => ⟨H', gen_leave I3 f3 J', q'⟩
  refine gen_begin T2 hc pg pe co hfa hgen tu m0 (m0 + 1) _ _ H3 (Nat.le_refl _) (rest_inv I5 ⟨rfl, rfl, allBare_setGen I5.bare rfl⟩) ?_ nf w0
  exact T2.keep _ _ _ st3 fun b hb o e => Heap.get?_push_of_some _ (k4 b o e)
/-- all(..) -/
theorem pe_allG {T c : Addr} {elt tg iter : Expr} {scope : Scope} {own : List (Str × Nat)} {p pos gpos : Pos} {wi : TI} {gt : TG} {te : TE} {k : Nat}
    (hr : Room (k + 3) X.A) (hc : X.calm = true) (hN : X.N.Nodup) (hg : Gl X "all") (hm : X.mg "all" = none) (TB : GxR.TabB X.base X.mg c T) (hcode : X.env.code = .ref c) (ok : BlkOk X.N X.env.scope scope own) (S : GNames scope) (hi : PI X tg iter wi)
    (hgt : ∀ (s : Shared) (H : Hp) (cl : List (Str × Addr)) (C : Addr) (code : Value) (fp : List Addr) (pn : List (Addr × Obj)) (B : Around), PG (gcx X s H scope (genEnv scope cl C code builtinsNs X.env) fp pn B) tg gt)
    (hel : ∀ (s : Shared) (H : Hp) (cl : List (Str × Addr)) (C : Addr) (code : Value) (fp : List Addr) (pn : List (Addr × Obj)) (B : Around), Room k B → PE (gcx X s H scope (genEnv scope cl C code builtinsNs X.env) fp pn B) elt te)
    (hs : ∀ v, genFold iter X.env v = pure v := by intro _; rfl)
    (he : starEach [.GeneratorExp elt [⟨tg, iter, [], 0⟩] scope gpos] X.env = [(false, eval (.GeneratorExp elt [⟨tg, iter, [], 0⟩] scope gpos) X.env)] := by rfl) :
    PE X (.Call (.Name "all" p) [.GeneratorExp elt [⟨tg, iter, [], 0⟩] scope gpos] [] pos) (tGenB T wi gt te (own.map (·.2)) false) := by
  refine ⟨fun pins s σ H Q I h => ?_⟩
  refine wpAny_Call_Name_kw (ld_blt I hg hm (show bootBuiltins "all" = some (.builtin "all") by decide +kernel) ?_)
  refine PyProof.Rows.callWith_builtin1 ?_ he (by rfl)
  rw [he]
  refine Calls.spliced_cons (gen_made hr hc hN TB hcode ok S hi hgt hel hs I h fun a g n s5 Ft Fs isg lim goes ft fs => ?_)
  refine Calls.spliced_nil (call_function_tree F.kind_all F.plain_all F.entry_all (F.args_all1 _) ?_)
  unfold Builtin.«all»
  refine wpAny_bind (m := oneArg "all" _) (wpAny_pure (wpAny_bind (wpAny_pyIter_gen isg (wpAny_pure ⟨plainId_quiet F.plain_all_loop _, ?_⟩))))
  refine all_loop hr.hd hr.depth (fun s1 h' f b kp => ?_) (fun s1 gs f b c => ?_) n s5 isg lim goes
  · obtain ⟨H', J, q⟩ := ft s1 f
    exact ⟨.bl true, H', inv_grown J rfl (allBare_setGen b rfl) kp, rfl, q⟩
  · obtain ⟨H', J, q⟩ := fs s1 f
    exact ⟨.bl false, H', inv_grown J rfl (allBare_setGen b c) fun _ _ e => e, rfl, q⟩
/-- any(..) -/
theorem pe_anyG {T c : Addr} {elt tg iter : Expr} {scope : Scope} {own : List (Str × Nat)} {p pos gpos : Pos} {wi : TI} {gt : TG} {te : TE} {k : Nat}
    (hr : Room (k + 3) X.A) (hc : X.calm = true) (hN : X.N.Nodup) (hg : Gl X "any") (hm : X.mg "any" = none) (TB : GxR.TabB X.base X.mg c T) (hcode : X.env.code = .ref c) (ok : BlkOk X.N X.env.scope scope own) (S : GNames scope) (hi : PI X tg iter wi)
    (hgt : ∀ (s : Shared) (H : Hp) (cl : List (Str × Addr)) (C : Addr) (code : Value) (fp : List Addr) (pn : List (Addr × Obj)) (B : Around), PG (gcx X s H scope (genEnv scope cl C code builtinsNs X.env) fp pn B) tg gt)
    (hel : ∀ (s : Shared) (H : Hp) (cl : List (Str × Addr)) (C : Addr) (code : Value) (fp : List Addr) (pn : List (Addr × Obj)) (B : Around), Room k B → PE (gcx X s H scope (genEnv scope cl C code builtinsNs X.env) fp pn B) elt te)
    (hs : ∀ v, genFold iter X.env v = pure v := by intro _; rfl)
    (he : starEach [.GeneratorExp elt [⟨tg, iter, [], 0⟩] scope gpos] X.env = [(false, eval (.GeneratorExp elt [⟨tg, iter, [], 0⟩] scope gpos) X.env)] := by rfl) :
    PE X (.Call (.Name "any" p) [.GeneratorExp elt [⟨tg, iter, [], 0⟩] scope gpos] [] pos) (tGenB T wi gt te (own.map (·.2)) true) := by
  refine ⟨fun pins s σ H Q I h => ?_⟩
  refine wpAny_Call_Name_kw (ld_blt I hg hm (show bootBuiltins "any" = some (.builtin "any") by decide +kernel) ?_)
  refine PyProof.Rows.callWith_builtin1 ?_ he (by rfl)
  rw [he]
  refine Calls.spliced_cons (gen_made hr hc hN TB hcode ok S hi hgt hel hs I h fun a g n s5 Ft Fs isg lim goes ft fs => ?_)
  refine Calls.spliced_nil (call_function_tree F.kind_any F.plain_any F.entry_any (F.args_any1 _) ?_)
  unfold Builtin.«any»
  refine wpAny_bind (m := oneArg "any" _) (wpAny_pure (wpAny_bind (wpAny_pyIter_gen isg (wpAny_pure ⟨plainId_quiet F.plain_any_loop _, ?_⟩))))
  refine any_loop hr.hd hr.depth (fun s1 h' f b kp => ?_) (fun s1 gs f b c => ?_) n s5 isg lim goes
  · obtain ⟨H', J, q⟩ := ft s1 f
    exact ⟨.bl false, H', inv_grown J rfl (allBare_setGen b rfl) kp, rfl, q⟩
  · obtain ⟨H', J, q⟩ := fs s1 f
    exact ⟨.bl true, H', inv_grown J rfl (allBare_setGen b c) fun _ _ e => e, rfl, q⟩
end
end GE

namespace RT
open PySem PySem.Spec PyProof.Rows L2
/-! ### a def whose code is known -/
structure FunT (K : PySem.W.Frag) (x qual : Str) (st : Stmt) (f : Addr) (fd : FuncData) (c : Addr) : Prop where
  ex : ∃ (oc : Value) (od : Option Addr) (kV doc pm : Value) (an : Option Addr) (ct : Value) (osl : Array (Option Value)),
    fd = PySem.W.fnOf x qual (defArgs st) (defBody st) (defScope st) .none kV doc pm an (.ref c) ct ∧ K.lookup f = some ⟨oc, od, .func fd, osl⟩ ∧ PySem.W.codeIn K (.ref c) qual = true
  kp : PySem.W.keepIn K (.ref f) = true
theorem nofree2 {a b : Str × NameKind} (ha : a.2 ≠ .free) (hb : b.2 ≠ .free) : ∀ y ∈ [a, b], y.2 = .free → False := fun y hy e => by
  rcases List.mem_cons.mp hy with z | z
  · rw [z] at e
    exact absurd e ha
  · rw [List.mem_singleton.mp z] at e
    exact absurd e hb
theorem nofree3 {a b c : Str × NameKind} (ha : a.2 ≠ .free) (hb : b.2 ≠ .free) (hc : c.2 ≠ .free) : ∀ y ∈ [a, b, c], y.2 = .free → False := fun y hy e => by
  rcases List.mem_cons.mp hy with z | z
  · rw [z] at e
    exact absurd e ha
  · exact nofree2 hb hc y z e
theorem lt1 (a b : Nat) : ([a] < [b]) ↔ a < b := by
  constructor
  · intro h
    cases h with
    | rel h => exact h
    | cons h => cases h
  · exact fun h => List.Lex.rel h
theorem len_tl (z : Str) : z.length = z.cps.toList.length := by simp [Str.length]
theorem Kp.pot {H H' : Hp} {M : Addr → Prop} {pd po : Addr} {t : Nat} {ex : Ex} (P : Pot H pd po t ex) (k : Kp M H H') (h : ∀ b, M b → H b = none ∨ ∃ ps, H b = some (.tbl ps)) : Pot H' pd po t ex := by
  obtain ⟨s, _, _, e1⟩ := P.d
  obtain ⟨ns, _, _, e2⟩ := P.o
  refine P.keep k (fun z => ?_) (fun z => ?_)
  · rcases h _ z with q | ⟨ps, q⟩
    · rw [e1] at q
      cases q
    · rw [e1] at q
      cases q
  · rcases h _ z with q | ⟨ps, q⟩
    · rw [e2] at q
      cases q
    · rw [e2] at q
      cases q
theorem Pot.new {H : Hp} {pd po p : Addr} {t : Nat} {ex : Ex} {o : HO} (P : Pot H pd po t ex) (n : H p = none) : Pot (upd H p o) pd po t ex := P.keep (M := M0) (Kp.new n) (fun z => z) (fun z => z)
/-- a place that is tracked, neither the pot's dict nor its list -/
theorem off_pot {H : Hp} {pd po p : Addr} {t : Nat} {ex : Ex} (P : Pot H pd po t ex) (n : H p = none) : ¬ PM pd po p := fun z => by
  obtain ⟨s, _, _, e1⟩ := P.d
  obtain ⟨ns, _, _, e2⟩ := P.o
  rcases z with z | z
  · rw [z, e1] at n
    cases n
  · rw [z, e2] at n
    cases n
theorem tYes_ok {σ : L2.St} {H : Hp} {Q : Bool → Hp → Prop} (h : Q true H) : tYes σ H Q := h
theorem tabG_keep {H H' : Hp} {M : Addr → Prop} {T : Addr} (t : GxR.TabG H T) (k : Kp M H H') (h : ¬ M T) : GxR.TabG H' T := by
  obtain ⟨ps, e, r⟩ := t
  exact ⟨ps, k _ _ h e, r⟩
theorem tab_off {H : Hp} {pd po T : Addr} {t : Nat} {ex : Ex} (g : GxR.TabG H T) (P : Pot H pd po t ex) : ¬ PM pd po T := fun z => by
  obtain ⟨s, _, _, e1⟩ := P.d
  obtain ⟨ns, _, _, e2⟩ := P.o
  obtain ⟨ps, e, _⟩ := g
  rcases z with z | z
  · rw [z, e1] at e
    cases e
  · rw [z, e2] at e
    cases e
theorem tabbed_kp {H H' : Hp} {T : Addr} (t : GxR.Tabbed T H H') : Kp (fun b => b = T) H H' := fun b o h e => by rw [t.2 b h]; exact e
theorem off_tab {H : Hp} {T a : Addr} {o : HO} (t : GxR.TabG H T) (e : H a = some o) (n : ∀ ps, o ≠ .tbl ps) : a ≠ T := fun z => by
  obtain ⟨ps, e2, _⟩ := t
  rw [z, e2] at e
  exact n ps (Option.some.inj e).symm
theorem tab_lst {H H' : Hp} {T a : Addr} {xs : List V} (t : GxR.TabG H T) (tb : GxR.Tabbed T H H') (e : H a = some (.lst xs)) : H' a = some (.lst xs) := by
  rw [tb.2 a (off_tab t e fun _ z => by cases z)]
  exact e
theorem tabbed_refl {T : Addr} {H : Hp} (h : GxR.TabG H T) : GxR.Tabbed T H H := ⟨h, fun _ _ => rfl⟩
def signB (c : Nat) : Bool := if c = 10 then true else (!decide ([c] < (Str.ofString " ").cps.toList) && !decide ((Str.ofString "~").cps.toList < [c])) && !decide ((c : Int) = 37)
end RT

namespace RT
open PySem PySem.Spec PyProof.Rows L2
abbrev sSize : Stmt := topS 36
abbrev sSigns : Stmt := topS 37
abbrev sText : Stmt := topS 38
theorem scSize : FnScope ["_law_pot_here", "_law_few", "_law_most"] ["_law_pot_here", "_law_few", "_law_most"] (defScope sSize) := ⟨rfl, rfl, rfl, by decide +kernel, rfl, by decide +kernel, by decide +kernel⟩
theorem scSigns : FnScope ["_law_some"] [] (defScope sSigns) := ⟨rfl, rfl, rfl, by decide +kernel, rfl, by decide +kernel, by decide +kernel⟩
theorem scText : FnScope ["_law_pot_here", "_law_few", "_law_most", "_law_some", "_law_k"] ["_law_pot_here", "_law_few", "_law_most"] (defScope sText) := ⟨rfl, rfl, rfl, by decide +kernel, rfl, by decide +kernel, by decide +kernel⟩
theorem no_tup_pot {H : Hp} {pd po : Addr} {t : Nat} {ex : Ex} (P : Pot H pd po t ex) : ∀ a xs, PM pd po a → H a ≠ some (.tup xs) := fun a xs m e => by
  obtain ⟨s, _, _, e1⟩ := P.d
  obtain ⟨ns, _, _, e2⟩ := P.o
  rcases m with z | z
  · rw [z, e1] at e
    cases e
  · rw [z, e2] at e
    cases e
theorem Kp.put' {H : Hp} {p : Addr} {o : HO} : Kp (fun b => b = p) H (upd H p o) := Kp.put rfl
section
variable {P : Program} {w : World} {K : PySem.W.Frag} {mg : Str → Option Value} {base : Heap}
def spSize : Sp := fun vs H Q _ => ∃ (pd po : Addr) (t m : Nat) (ex : Ex) (a b : Int), vs = [.ref pd, .int a, .int b] ∧ Pot H pd po t ex ∧ t < 2 ^ 49 ∧ 0 ≤ a ∧ 0 ≤ b ∧ a ≤ m ∧ b ≤ m ∧ m ≤ 1000 ∧
  ∀ (d : Nat) (H' : Hp) (t' : Nat), t' ≤ t + 2 → d ≤ m → Pot H' pd po t' ex → Kp (PM pd po) H H' → Q (.int d) H'
theorem ok_size {f fn : Addr} {fd fdn : FuncData} {k : Nat} (F : Fun K "_law_size" "_law_size" sSize f fd) (GN : FnOk P w K mg base CX0 k fn fdn ["_law_pot_here", "_law_many"] spNext) (kn : PySem.W.keepIn K (.ref fn) = true) (bn : Binds K fdn ["_law_pot_here", "_law_many"] []) (gn : mg "_law_next" = some (.ref fn)) (mint : mg "int" = none) :
    FnOk P w K mg base CX0 (k + 1) f fd ["_law_pot_here", "_law_few", "_law_most"] spSize := by
  refine F.ok scSize (fun vs H Q E h => ?_) (fun cdv A outer s H vs Q E hr h => ?_)
  · obtain ⟨pd, po, t, m, ex, a, b, rfl, _⟩ := h
    rfl
  · obtain ⟨pd, po, t, m, ex, a, b, rfl, hP, ht, a0, b0, am, bm, hm, q⟩ := h
    have h49 : (2 : Nat) ^ 49 = 562949953421312 := by decide
    have h50 : (2 : Nat) ^ 50 = 1125899906842624 := by decide
    refine ⟨_, (pss_one (ps_ret (pe_call GN hr (by rfl) gn kn bn .nil pass0 (pa_cons (pv 0) (pa_cons (pe_op op_add (pe_ix ix_list (pe_lst (pa_cons (pv 1) (pa_cons (pv 2) pa_nil))) (pe_callTy call_int1 (by rfl) mint (by decide +kernel) (pa_cons (pe_cmpR op_eq (pe_call GN hr (by rfl) gn kn bn .nil pass0 (pa_cons (pv 0) (pa_cons pe_int pa_nil))) pe_int (nomark _)) pa_nil)) (fun _ _ => rfl)) pe_int) pa_nil))))), ?_⟩
    refine ⟨_, rfl, _, rfl, _, rfl, by show 2 ≤ sizeLine; decide, fun p np => ?_⟩
    have hP1 := hP.new (o := .lst [V.int a, V.int b]) np
    have hp := off_pot hP np
    refine ⟨_, rfl, pd, po, t, ex, 8, rfl, hP1, by omega, by decide, by decide, fun d H2 t2 ht2 d0 d1 hP2 k2 => ?_⟩
    have e2 := k2 p _ hp upd_same
    have kk : Kp (PM pd po) H H2 := (Kp.new np).trans k2
    refine ⟨rfl, .inr ⟨_, rfl, ?_⟩⟩
    have fin : ∀ c : Int, 0 ≤ c → c ≤ m → spNext ([.ref pd, .int (c + 1)] ++ []) H2 (fun v H' => Q v H') E0 := fun c c0 cm =>
      ⟨pd, po, t2, ex, c + 1, rfl, hP2, by omega, by omega, by omega, fun d3 H3 t3 ht3 e0 e1 hP3 k3 => by
        obtain ⟨n, rfl⟩ := Int.eq_ofNat_of_zero_le e0
        exact q n H3 t3 (by omega) (by omega) hP3 (kk.trans k3)⟩
    by_cases hz : V.int d = V.int 0
    · rw [decide_eq_true hz]
      exact ⟨p, _, 1, .int b, rfl, rfl, SqL.of e2, atI_nat (j := 1) rfl, b, 1, rfl, rfl, fin b b0 bm⟩
    · rw [decide_eq_false hz]
      exact ⟨p, _, 0, .int a, rfl, rfl, SqL.of e2, atI_nat (j := 0) rfl, a, 1, rfl, rfl, fin a a0 am⟩
def signsZ : Str := (" !\"#$&'()*+,-./0123456789:;<=>?@ABCDEFGHIJKLMNOPQRSTUVWXYZ[\\]^_`" : Str) ++ ("abcdefghijklmnopqrstuvwxyz{|}~\n" : Str)
theorem signsZ_ok : 1 ≤ signsZ.length ∧ signsZ.length ≤ 1000 ∧ ∀ c ∈ signsZ.cps.toList, signB c = true := by decide +kernel
theorem signsZ_len : signsZ.length = 95 := by decide +kernel
def sg (j : Nat) : Nat := (signsZ.cps.toList[(7 * j + 33) % 95]?).getD 0
theorem sg_nodup : ((List.range 8).map sg).Nodup := by decide +kernel
theorem sg_sign : ∀ j, j < 8 → signB (sg j) = true := by decide +kernel
def spSigns : Sp := fun vs H Q _ => vs = [] ∧ Q (.str signsZ) H
theorem ok_signs {f : Addr} {fd : FuncData} {k : Nat} (F : Fun K "_law_signs" "_law_signs" sSigns f fd) : FnOk P w K mg base CX0 (k + 1) f fd [] spSigns := by
  refine F.ok scSigns (fun vs H Q E h => ?_) (fun cdv A outer s H vs Q E hr h => ?_)
  · obtain ⟨rfl, _⟩ := h
    rfl
  · obtain ⟨rfl, q⟩ := h
    refine ⟨_, (pss_cons (ps_set (i := 0) scSigns.nd rfl (.inl rfl) pe_str)
      (pss_one (ps_ret (pe_op op_add_str (pv 0) pe_str)))), ?_⟩
    refine ⟨_, rfl, _, _, rfl, rfl, by decide +kernel, ?_⟩
    exact q
def Sign1 (v : V) : Prop := ∃ c : Nat, v = .str ⟨#[c]⟩ ∧ signB c = true
def spText : Sp := fun vs H Q _ => ∃ (pd po : Addr) (t m : Nat) (ex : Ex) (a b : Int), vs = [.ref pd, .int a, .int b] ∧ Pot H pd po t ex ∧ t < 2 ^ 48 ∧ 0 ≤ a ∧ 0 ≤ b ∧ a ≤ m ∧ b ≤ m ∧ m ≤ 500 ∧
  ∀ (cs : List Nat) (H' : Hp) (t' : Nat), t' ≤ t + 4 + m → 1 ≤ cs.length → cs.length ≤ 1 + m → (∀ c ∈ cs, signB c = true) → Pot H' pd po t' ex → Kp (PM pd po) H H' → Q (.str ⟨cs.toArray⟩) H'
theorem ok_text {f fn fk fz fs : Addr} {fd fdn fdk fdz fds : FuncData} {k : Nat} (F : Fun K "_law_text" "_law_text" sText f fd)
    (GN : FnOk P w K mg base CX0 k fn fdn ["_law_pot_here", "_law_many"] spNext) (kn : PySem.W.keepIn K (.ref fn) = true) (bn : Binds K fdn ["_law_pot_here", "_law_many"] []) (gn : mg "_law_next" = some (.ref fn))
    (GK : FnOk P w K mg base CX0 (k + 1) fk fdk ["_law_pot_here", "_law_some"] (spPick K)) (kk : PySem.W.keepIn K (.ref fk) = true) (bk : Binds K fdk ["_law_pot_here", "_law_some"] []) (gk : mg "_law_pick" = some (.ref fk))
    (GZ : FnOk P w K mg base CX0 (k + 1) fz fdz ["_law_pot_here", "_law_few", "_law_most"] spSize) (kz : PySem.W.keepIn K (.ref fz) = true) (bz : Binds K fdz ["_law_pot_here", "_law_few", "_law_most"] []) (gz : mg "_law_size" = some (.ref fz))
    (GS : FnOk P w K mg base CX0 k fs fds [] spSigns) (ks : PySem.W.keepIn K (.ref fs) = true) (bs : Binds K fds [] []) (gs : mg "_law_signs" = some (.ref fs)) (mr : mg "range" = none) :
    FnOk P w K mg base CX0 (k + 2) f fd ["_law_pot_here", "_law_few", "_law_most"] spText := by
  refine F.ok scText (fun vs H Q E h => ?_) (fun cdv A outer s H vs Q E hr h => ?_)
  · obtain ⟨pd, po, t, m, ex, a, b, rfl, _⟩ := h
    rfl
  · obtain ⟨pd, po, t, m, ex, a, b, rfl, hP, ht, a0, b0, am, bm, hm, q⟩ := h
    have h48 : (2 : Nat) ^ 48 = 281474976710656 := by decide
    have h49 : (2 : Nat) ^ 49 = 562949953421312 := by decide
    have h50 : (2 : Nat) ^ 50 = 1125899906842624 := by decide
    have hr0 := hr.mono (show k ≤ k + 1 by omega)
    refine ⟨_, (pss_cons (ps_set (i := 3) scText.nd rfl (.inr rfl) (pe_ix ix_list (pe_lst (pa_cons pe_str (pa_cons pe_str (pa_cons pe_str (pa_cons (pe_call0 GS hr0 (by rfl) gs ks bs .nil pass0) pa_nil))))) (pe_call GN hr0 (by rfl) gn kn bn .nil pass0 (pa_cons (pv 0) (pa_cons pe_int pa_nil))) (fun _ _ => rfl)))
      (pss_one (ps_ret (pe_join pe_str (pe_lc (own := [("_law_k", 4)]) (g := gName 4) (tt := tYes) rfl scText.nd (pi_range1 (by rfl) mr (pa_cons (pe_op op_add pe_int (pe_call GZ hr (by rfl) gz kz bz .nil pass0 (pa_cons (pv 0) (pa_cons (pv 1) (pa_cons (pv 2) pa_nil))))) pa_nil)) (blkOk_by (N := ["_law_pot_here", "_law_few", "_law_most", "_law_some", "_law_k"]) (sc := defScope sText) (by decide +kernel)) (fun _ _ _ _ _ => (pg_name (i := 4) scText.nd rfl (.inl rfl))) (fun _ _ _ _ _ => pts_nil) (fun _ _ _ _ _ => (pe_call GK hr (by rfl) gk kk bk .nil pass0 (pa_cons (pv 0) (pa_cons (pv 3) pa_nil))))))))), ?_⟩
    obtain ⟨zs1, zs2, zs3⟩ := signsZ_ok
    refine ⟨rfl, ?_⟩
    generalize signsZ = zs at zs1 zs2 zs3 ⊢
    refine ⟨by show 4 ≤ sizeLine; decide, fun p np => ?_⟩
    have hP1 := hP.new (o := .lst [V.str "ab", V.str "abc,;", V.str "0123456789", V.str zs]) np
    have hp := off_pot hP np
    refine ⟨_, rfl, pd, po, t, ex, 4, rfl, hP1, by omega, by decide, by decide, fun d H2 t2 ht2 d0 d1 hP2 k2 => ?_⟩
    obtain ⟨v, hv, hmem⟩ := at_some (xs := [V.str "ab", V.str "abc,;", V.str "0123456789", V.str zs]) d0 d1
    refine ⟨p, _, d, v, rfl, rfl, SqL.of (k2 p _ hp upd_same), hv, ?_⟩
    have k2' : Kp (PM pd po) H H2 := (Kp.new np).trans k2
    obtain ⟨z, rfl, z1, z2, hz⟩ : ∃ z : Str, v = .str z ∧ 1 ≤ z.length ∧ z.length ≤ 1000 ∧ ∀ c ∈ z.cps.toList, Sign1 (.str ⟨#[c]⟩) := by
      have wrap : ∀ z : Str, (∀ c ∈ z.cps.toList, signB c = true) → ∀ c ∈ z.cps.toList, Sign1 (.str ⟨#[c]⟩) := fun z h c hc => ⟨c, rfl, h c hc⟩
      simp only [List.mem_cons, List.not_mem_nil, or_false] at hmem
      rcases hmem with e | e | e | e
      · exact ⟨_, e, by decide, by decide, wrap _ (by decide)⟩
      · exact ⟨_, e, by decide, by decide, wrap _ (by decide)⟩
      · exact ⟨_, e, by decide, by decide, wrap _ (by decide)⟩
      · exact ⟨_, e, zs1, zs2, wrap _ zs3⟩
    refine ⟨⟨_, rfl⟩, _, rfl, _, rfl, _, rfl, pd, po, t2, m, ex, a, b, rfl, hP2, by omega, a0, b0, am, bm, by omega, fun d3 H3 t3 ht3 d3m hP3 k3 => ?_⟩
    have k3' : Kp (PM pd po) H H3 := k2'.trans k3
    refine ⟨_, _, rfl, rfl, 1 + (d3 : Int), rfl, by omega, by omega, fun D nD => ?_⟩
    have hD := off_pot hP3 nD
    refine lc_range (lo := 0) (n := (1 + (d3 : Int)).toNat) (fun i H4 => ∃ (t4 : Nat) (cs : List Nat), t4 ≤ t + 3 + i ∧ cs.length = i ∧ (∀ c ∈ cs, signB c = true) ∧ Pot H4 pd po t4 ex ∧ Kp (PM pd po) H H4 ∧ H4 D = some (.lst (cs.map fun c => V.str ⟨#[c]⟩))) ?_ ?_ ?_
    · exact ⟨t3, [], by omega, rfl, fun _ z => (nomatch z), hP3.new nD, k3'.trans (Kp.new nD), upd_same⟩
    · rintro i H4 hi ⟨t4, cs, ht4, hl, hc, hP4, k4, e4⟩
      refine ⟨rfl, tYes_ok (iteT ?_)⟩
      refine ⟨_, rfl, _, rfl, pd, po, t4, ex, _, Sign1, rfl, hP4, by omega, .inl ⟨z, rfl, z1, z2, hz⟩, fun v' H5 t5 ht5 ⟨c, ev, c1⟩ hP5 k5 => ?_⟩
      subst ev
      have e5 := k5 D _ hD e4
      refine ⟨_, e5, by rw [List.length_map]; exact small1000 (by omega), t5, cs ++ [c], by omega, by rw [List.length_append, hl]; rfl, ?_, ?_, ?_, ?_⟩
      · intro b hb
        rcases List.mem_append.mp hb with h | h
        · exact hc b h
        · rw [List.mem_singleton.mp h]
          exact c1
      · exact hP5.keep (M := fun b => b = D) (Kp.put rfl) (fun h => hD (.inl h.symm)) (fun h => hD (.inr h.symm))
      · intro b u hb e
        have nb : b ≠ D := fun h => by
          have q2 := k3' b u hb e
          rw [h, nD] at q2
          cases q2
        rw [upd_ne nb]
        exact k5 b u hb (k4 b u hb e)
      · rw [upd_same, List.map_append]
        rfl
    · rintro H4 ⟨t4, cs, ht4, hl, hc, hP4, k4, e4⟩
      refine ⟨_, D, cs.map fun c => (⟨#[c]⟩ : Str), rfl, rfl, .inl (SqL.of (by rw [e4, List.map_map]; rfl)), ?_, ?_⟩
      · rw [sum_ones]
        show cs.length + _ * 0 ≤ _
        omega
      · rw [join_signs]
        exact q cs H4 t4 (by omega) (by omega) (by omega) hc hP4 k4
end
end RT

set_option maxHeartbeats 4000000
/-! sorted(set(text)) -/
namespace RT
open PySem PySem.Spec PyProof.Rows L2 PySem.Froz
/-! ### the payload -/
section
variable {P : Program} {w : World} {A : Around} {E : Value → Shared → Prop} {s : Shared}
theorem addTx_ris (h : Int) (v : Value) (D : SD) (r : Ris D.2.2.place.toList) : Ris (addTx h v D).2.2.place.toList ∧ (addTx h v D).2.2.led = D.2.2.led := by
  have r1 := layNew_ris D.2.2 D.1 h v r
  have l1 := layNew_led D.2.2 D.1 h v
  have pl : ∀ t : SetTable, (if t.plain = true then { t with plain := false } else t).place = t.place ∧ (if t.plain = true then { t with plain := false } else t).led = t.led := fun t => by split <;> exact ⟨rfl, rfl⟩
  obtain ⟨p1, p2⟩ := pl (layNew D.2.2 D.1 h v).2.1
  unfold addTx tailTx
  by_cases c : (!(layNew D.2.2 D.1 h v).2.2.1 && (if (layNew D.2.2 D.1 h v).2.1.plain = true then { (layNew D.2.2 D.1 h v).2.1 with plain := false } else (layNew D.2.2 D.1 h v).2.1).tooFull) = true
  · rw [if_pos c]
    exact ⟨relayAll_ris _ _ _, (relayAll_led _ _ _).trans (p2.trans l1)⟩
  · rw [if_neg c]
    exact ⟨by show Ris (Array.toList (SetTable.place _)); rw [p1]; exact r1, p2.trans l1⟩
/-- a set of just the texts l -/
def TSet (P : Program) (w : World) (h : Heap) (a : Addr) (l : List Str) : Prop :=
  ∃ D : SD, h.get? a = some (sObj "set" D) ∧ TxOk P w D l ∧ l.Nodup ∧ Ris D.2.2.place.toList ∧ (w.params.followText "set-order" = true ∨ D.2.2.led = true)
theorem TSet.at {h h' : Heap} {a : Addr} {l : List Str} (t : TSet P w h a l) (k : ∀ o, h.get? a = some o → h'.get? a = some o) : TSet P w h' a l := by
  obtain ⟨D, ho, r⟩ := t
  exact ⟨D, k _ ho, r⟩
/-- a text that is there already -/
theorem again_x {a : Addr} {D : SD} {l : List Str} {k : Str} {u : Tok} {Q : Bool → Shared → Prop} (ho : s.heap.get? a = some (sObj "set" D)) (F : TxOk P w D l) (hk : k ∈ l) (hb : l.length < scanBound) (q : Q false s) :
    wpAny (model P w) A (setAddHashed a (.str k u) (hashStr w k)) Q E s := by
  obtain ⟨e, he, hp⟩ := (F.mem k).mp hk
  have few : D.1.size < scanBound := F.sz ▸ hb
  obtain ⟨j, hj⟩ : ∃ j, List.findIdx? (fun e => (PySem.strKind P w).is k e.2) D.1.toList = some j := by
    cases c : List.findIdx? (fun e => (PySem.strKind P w).is k e.2) D.1.toList with
    | some j => exact ⟨j, rfl⟩
    | none =>
      have z := List.findIdx?_eq_none_iff.mp c e he
      rw [hp] at z
      cases z
  unfold setAddHashed setAddHashedIn
  refine wpAny_holding ?_
  refine wpAny_bind (wpAny_setState_of ho (es := D.1) (ep := D.2.1) (t := D.2.2) rfl F.fit ?_)
  dsimp only
  rw [byScan_of (knd := PySem.strKind P w) rfl few F.el, if_pos rfl]
  unfold setAddByScan
  refine wpAny_bind (wpAny_bind (wpAny_rule (wpAny_bind (wpAny_setScan_of (is_str k u) ho (es := D.1) (ep := D.2.1) (t := D.2.2) rfl F.fit F.el ?_))))
  rw [hj]
  exact wpAny_pure (wpAny_pure q)
theorem tset_add {a : Addr} {l : List Str} {k : Str} {u : Tok} {Q : Bool → Shared → Prop} (t : TSet P w s.heap a l) (hb : l.length + 1 < scanBound)
    (q : ∀ (h' : Heap) (b : Bool), (∀ c o, c ≠ a → s.heap.get? c = some o → h'.get? c = some o) → TSet P w h' a (if k ∈ l then l else k :: l) → Q b { s with heap := h' }) :
    wpAny (model P w) A (setAddHashed a (.str k u) (hashStr w k)) Q E s := by
  obtain ⟨D, ho, F, nd, r, ld⟩ := t
  by_cases hk : k ∈ l
  · rw [if_pos hk] at q
    exact again_x ho F hk (by omega) (q s.heap false (fun _ _ _ e => e) ⟨D, ho, F, nd, r, ld⟩)
  · rw [if_neg hk] at q
    refine add_x ho F hk hb (q _ true (fun c o n e => ?_) ?_)
    · rw [Heap.get?_update_other _ _ (Ne.symm n)]
      exact e
    · obtain ⟨r1, r2⟩ := addTx_ris (hashStr w k) (.str k u) D r
      exact ⟨_, get_upd _ ho rfl, add_ok u F, List.nodup_cons.mpr ⟨hk, nd⟩, r1, ld.imp id fun z => r2.trans z⟩
/-! ### set(text) -/
/-- the members met by the first i signs -/
def metN (cs : List Nat) : List Str → List Str
  | l => cs.foldl (fun l c => if (⟨#[c]⟩ : Str) ∈ l then l else ⟨#[c]⟩ :: l) l
theorem metN_len (cs : List Nat) : ∀ l : List Str, (metN cs l).length ≤ l.length + cs.length := by
  induction cs with
  | nil => exact fun l => Nat.le_refl _
  | cons c r ih =>
    intro l
    have h := ih (if (⟨#[c]⟩ : Str) ∈ l then l else ⟨#[c]⟩ :: l)
    have z : (if (⟨#[c]⟩ : Str) ∈ l then l else ⟨#[c]⟩ :: l).length ≤ l.length + 1 := by split <;> simp
    rw [List.length_cons]
    exact Nat.le_trans h (by omega)
theorem metN_mem (cs : List Nat) : ∀ (l : List Str) (k : Str), k ∈ metN cs l ↔ k ∈ l ∨ ∃ c ∈ cs, k = ⟨#[c]⟩ := by
  induction cs with
  | nil => exact fun l k => ⟨.inl, fun h => h.elim id fun ⟨c, z, _⟩ => nomatch z⟩
  | cons c r ih =>
    intro l k
    refine (ih (if (⟨#[c]⟩ : Str) ∈ l then l else ⟨#[c]⟩ :: l) k).trans ?_
    have z : k ∈ (if (⟨#[c]⟩ : Str) ∈ l then l else ⟨#[c]⟩ :: l) ↔ k ∈ l ∨ k = ⟨#[c]⟩ := by
      split
      · rename_i h
        exact ⟨.inl, fun q => q.elim id fun e => e ▸ h⟩
      · rw [List.mem_cons]
        exact Or.comm
    rw [z]
    constructor
    · rintro ((h | h) | ⟨d, h, e⟩)
      · exact .inl h
      · exact .inr ⟨c, List.mem_cons_self .., h⟩
      · exact .inr ⟨d, List.mem_cons_of_mem _ h, e⟩
    · rintro (h | ⟨d, h, e⟩)
      · exact .inl (.inl h)
      · rcases List.mem_cons.mp h with q | q
        · exact .inl (.inr (q ▸ e))
        · exact .inr ⟨d, q, e⟩
/-- the signs from the i-th on, one by one -/
theorem text_in {I S : Addr} {fp wr : List Addr} {z : Str} {St : Nat → Heap → Prop} {R : Result → Shared → Prop} (W : Walks P w A.in1 I fp wr z.cps.size (SignAt z) St) (hS : S ∉ fp) (hn : z.cps.size + 1 < scanBound) :
    ∀ (cs : List Nat) (i : Nat) (l : List Str) (s : Shared), z.cps.toList.drop i = cs → i ≤ z.cps.size → St i s.heap → TSet P w s.heap S l → l.length ≤ i →
      (∀ s' : Shared, s'.gens = s.gens → s'.drawn = s.drawn → s'.os = s.os → (∀ b o, b ≠ S → b ∉ wr → s.heap.get? b = some o → s'.heap.get? b = some o) → TSet P w s'.heap S (metN cs l) → R (.ok (.ret .none)) s') →
      codeAny (model P w) A (.builtin "set.update.loop" ⟨[.ref S, .ref I], []⟩) R s := by
  have off : S ∉ wr := fun m => hS (W.sub _ m)
  have WS := W.toS
  intro cs
  induction cs with
  | nil =>
    intro i l s hd hi hst hT _ hR
    have e : i = z.cps.size := by
      have q := congrArg List.length hd
      rw [List.length_drop, Array.length_toList] at q
      simp only [List.length_nil] at q
      omega
    subst e
    refine codeAny_builtin PyProof.Rows.F.entry_set_update_loop ?_
    rw [Around.under_plainId PyProof.Rows.F.plain_set_update_loop _]
    show wpAny _ A.in1 (pyNext (.ref I) >>= _) _ _ _
    refine wpAny_bind (WS.done _ _ _ hst fun s' m => ?_)
    exact wpAny_pure (hR s' m.gens m.drawn m.os (fun b o _ nw e => m.heap b o nw e) (hT.at fun o e => m.heap S o off e))
  | cons c r ih =>
    intro i l s hd hi hst hT hl hR
    have hlt : i < z.cps.size := by
      have q := congrArg List.length hd
      rw [List.length_drop, Array.length_toList, List.length_cons] at q
      omega
    obtain ⟨hc, hd2⟩ := at_of hd
    refine codeAny_builtin PyProof.Rows.F.entry_set_update_loop ?_
    rw [Around.under_plainId PyProof.Rows.F.plain_set_update_loop _]
    show wpAny _ A.in1 (pyNext (.ref I) >>= _) _ _ _
    refine wpAny_bind (WS.item i _ _ _ hlt hst fun v s1 hv hst1 m => ?_)
    obtain ⟨c', u, hc', rfl⟩ := hv
    rw [hc] at hc'
    cases hc'
    have hT1 : TSet P w s1.heap S l := hT.at fun o e => m.heap S o off e
    show wpAny _ A.in1 (holding [Value.str ⟨#[c]⟩ u] (setAdd S (.str ⟨#[c]⟩ u)) >>= _) _ _ _
    unfold setAdd
    refine wpAny_bind (wpAny_holding (wpAny_holding (wpAny_bind ((PySem.strKind P w).pyHash (k := ⟨#[c]⟩) (is_str _ _) ?_))))
    refine tset_add (s := { s1 with toks := s1.toks + 1 }) hT1 (by omega) fun h' b hk hT2 => ?_
    refine wpAny_pure ⟨plainId_quiet PyProof.Rows.F.plain_set_update_loop _, ih (i + 1) _ _ hd2 hlt (WS.frame _ s1 h' _ hst1 (Nat.le_succ _) fun b hb o e => hk b o (fun q => hS (q ▸ hb)) e) hT2 ?_ fun s2 g2 d2 o2 k2 hT3 => ?_⟩
    · show (if (⟨#[c]⟩ : Str) ∈ l then l else ⟨#[c]⟩ :: l).length ≤ i + 1
      split
      · omega
      · rw [List.length_cons]
        omega
    · exact hR s2 (g2.trans m.gens) (d2.trans m.drawn) (o2.trans m.os) (fun b o nS nw e => k2 b o nS nw (hk b o nS (m.heap b o nw e))) hT3
/-- the new set -/
abbrev bare (w : World) : Obj := sObj "set" (#[], 0, .fresh 0 0 (!w.params.followText "set-order"))
theorem bare_ok {h : Heap} {a : Addr} (e : h.get? a = some (bare w)) : TSet P w h a [] :=
  ⟨_, e, TxOk.nil rfl, List.nodup_nil, List.Pairwise.nil, by
    show _ ∨ (!w.params.followText "set-order") = true
    cases w.params.followText "set-order" <;> simp⟩
theorem set_text {z : Str} {u : Tok} {Q : Value → Shared → Prop} (hh : A.handled = none) (hz : z.cps.size + 1 < scanBound)
    (q : ∀ (h' : Heap) (tk : Nat), TSet P w h' s.heap.objs.size (metN z.cps.toList []) → (∀ b o, s.heap.get? b = some o → h'.get? b = some o) → Q (.ref s.heap.objs.size) { s with heap := h', toks := tk }) :
    wpAny (model P w) A (call (.type "set") [.str z u]) Q E s := by
  obtain ⟨c, tl, mro⟩ := PySem.F.called_set.mro
  have mk := PySem.F.called_set.made
  have sb := PySem.F.called_set.sub
  refine wpAny_call (codeAny_of_tree ?_)
  show wpAny _ _ (callAny (.type "set") _) _ _ _
  refine wpAny_pure ⟨Code.quiet_builtin _ (by decide +kernel), codeAny_builtin PySem.F.entry_type_call ?_⟩
  rw [Around.under_plain (weight_type_call_type "set" [.str z u] []) rfl]
  have nt := PySem.F.called_set.notType
  have cc := PySem.F.called_set.canCreate
  have tc := PySem.F.typeCall_set_1 (.str z u)
  repeat (any_goals (first | assumption | wp_step))
  refine codeAny_mono (code_set_led1 (.str z u) (E := E) (Q₁ := fun v t => v = .ref s.heap.objs.size ∧ t = { s with heap := s.heap.push (bare w) }) ⟨rfl, rfl⟩) fun r t hr => ?_
  cases r with
  | error e => exact hr
  | ok fl =>
    cases fl with
    | ret obj =>
      obtain ⟨rfl, rfl⟩ := hr
      have at0 : (s.heap.push (bare w)).get? s.heap.objs.size = some (bare w) := Heap.get?_push_size _ rfl
      have ty : Shared.TypeIs { s with heap := s.heap.push (bare w) } (.ref s.heap.objs.size) "set" := ⟨_, at0, rfl⟩
      have il := PySem.F.called_set.init.lookup
      have ib := PySem.F.called_set.init.bind (.ref s.heap.objs.size)
      repeat (any_goals (first | assumption | wp_step))
      refine codeAny_mono (codeAny_call_builtin (R := wants (fun v t2 => v = .none ∧ ∃ (h' : Heap) (tk : Nat), t2 = { s with heap := h', toks := tk } ∧ TSet P w h' s.heap.objs.size (metN z.cps.toList []) ∧
        ∀ b o, s.heap.get? b = some o → h'.get? b = some o) E) PySem.F.called_set.init.plain PySem.F.entry_set_init (check_set_init_1 ty ?_)) fun r2 t2 hr2 => ?_
      · have s1 := PySem.F.sub_str_set
        have s2 := PySem.F.sub_str_frozenset
        have nd : (Value.type "str" == Value.type "dict") = false := by decide
        unfold Builtin.«set.__init__» noKeywords Builtin.Frozenset.updateFrom
        generalize hPI : pyIter = PI
        wp_walk
        subst hPI
        have nS : s.heap.objs.size ∉ [(s.heap.push (bare w)).objs.size] := fun m => by
          rw [List.mem_singleton, Heap.size_push] at m
          omega
        refine wpAny_pyIter_str fun o St W st0 => ?_
        refine wpAny_bind (wpAny_runValue ?_)
        refine text_in (W _ (by simp [hh])) nS hz z.cps.toList 0 [] _ rfl (Nat.zero_le _) st0 (bare_ok (Heap.get?_push_of_some _ at0)) (Nat.le_refl _) fun s' g d os k t => ?_
        obtain ⟨h', g', d', tk', os'⟩ := s'
        cases g
        cases d
        cases os
        refine wpAny_pure ?_
        show wpAny _ _ (ret Value.none) _ _ _
        refine wpAny_pure ⟨rfl, h', tk', rfl, t, fun b o e => ?_⟩
        have lt := Heap.lt_size e
        refine k b o (Nat.ne_of_lt lt) (fun m => ?_) (Heap.get?_push_of_some _ (Heap.get?_push_of_some _ e))
        rw [List.mem_singleton, Heap.size_push] at m
        exact absurd (show s.heap.objs.size + 1 < s.heap.objs.size from m ▸ lt) (Nat.not_lt.mpr (Nat.le_succ _))
      · cases r2 with
        | error e => exact hr2
        | ok fl2 =>
          cases fl2 with
          | ret v =>
            obtain ⟨rfl, h', tk, rfl, t, k⟩ := hr2
            repeat (any_goals (first | assumption | wp_step))
            exact q h' tk t k
          | _ => exact hr2.elim
    | _ => exact hr.elim
end
end RT

set_option maxHeartbeats 4000000
namespace RT
open PySem PySem.Spec PyProof.Rows L2 PySem.Froz
theorem perm_in : ∀ {l ss : List Str}, l.Nodup → (∀ k ∈ l, k ∈ ss) → ss.length ≤ l.length → ss.Perm l
  | [], ss, _, _, h => by
    cases ss with
    | nil => exact .nil
    | cons a r => exact absurd h (Nat.not_succ_le_zero _)
  | k :: r, ss, nd, hi, h => by
    have hk := hi k (List.mem_cons_self ..)
    have nd2 := List.nodup_cons.mp nd
    refine (List.perm_cons_erase hk).trans (.cons k (perm_in nd2.2 (fun x hx => ?_) ?_))
    · exact (List.mem_erase_of_ne fun e => nd2.1 (by rw [← e]; exact hx)).mpr (hi x (List.mem_cons_of_mem _ hx))
    · rw [List.length_erase_of_mem hk]
      rw [List.length_cons] at h
      omega
section
variable {P : Program} {w : World} {A : Around} {E : Value → Shared → Prop} {s : Shared}
theorem txt_of : ∀ {out : List Value}, (∀ v ∈ out, ∃ k t, v = Value.str k t) → ∃ ss : List Str, StrsAre out ss
  | [], _ => ⟨[], .nil⟩
  | v :: r, h => by
    obtain ⟨k, t, rfl⟩ := h v (List.mem_cons_self ..)
    obtain ⟨ss, q⟩ := txt_of fun x hx => h x (List.mem_cons_of_mem _ hx)
    exact ⟨k :: ss, .cons k t q⟩
theorem txt_mem : ∀ {out : List Value} {ss : List Str}, StrsAre out ss → ∀ k : Str, (∃ t, Value.str k t ∈ out) → k ∈ ss
  | _, _, .nil, k, ⟨t, h⟩ => nomatch h
  | _, _, .cons y u q, k, ⟨t, h⟩ => by
    rcases List.mem_cons.mp h with e | e
    · cases e
      exact List.mem_cons_self ..
    · exact List.mem_cons_of_mem _ (txt_mem q k ⟨t, e⟩)
theorem str_is {k : Str} {v : Value} (h : (PySem.strKind P w).is k v = true) : ∃ t, v = .str k t := by
  cases v with
  | str y t =>
    have e : y = k := beq_iff_eq.mp h
    exact ⟨t, e ▸ rfl⟩
  | _ => cases h
theorem sort_tset {a : Addr} {l : List Str} {Q : Value → Shared → Prop} (T : TSet P w s.heap a l) (hh : A.handled = none) (h64 : l.length < 64)
    (q : ∀ (s' : Shared) (p : Addr) (out : Array Value) (c : Nat) (ys : List Str), (∀ b o, s.heap.get? b = some o → s'.heap.get? b = some o) → s'.gens = s.gens → s'.os = s.os → s.heap.objs.size ≤ p →
      s'.heap.get? p = some (seqObj "list" out c) → StrsAre out.toList ys → ys.Perm l → sortedS ys = true → Q (.ref p) s') : wpAny (model P w) A (call (.builtin "sorted") [.ref a]) Q E s := by
  obtain ⟨⟨es, ep, t⟩, ho, F, nd, r, ld⟩ := T
  have esz : es.size = l.length := F.sz
  have few : es.size < scanBound := by
    rw [esz]
    exact Nat.lt_trans h64 (by unfold scanBound; decide)
  refine Calls.call_function_entry kind_sorted plain_sorted entry_sorted (args_sorted1 _) ?_
  unfold Builtin.«sorted»
  refine wpAny_bind (m := checkCount "sorted" 1 1 _) (wpAny_pure ?_)
  refine wpAny_bind (collect_set (A := A.in1) hh ⟨_, ho, rfl, rfl⟩ F.fit few r ld fun s1 vs k1 big g1 o1 pm => ?_)
  have len : vs.length = l.length := by rw [pm.length_eq, List.length_map, Array.length_toList, esz]
  obtain ⟨ss, hS⟩ := txt_of (out := vs) fun v hv => by
    obtain ⟨e, he, ev⟩ := List.mem_map.mp (pm.mem_iff.mp hv)
    obtain ⟨⟨k, hk, _⟩, _⟩ := F.el e he
    obtain ⟨u, eu⟩ := str_is hk
    exact ⟨k, u, ev ▸ eu⟩
  have pl : ss.Perm l := perm_in nd (fun k hk => txt_mem hS k (by
    obtain ⟨e, he, z⟩ := (F.mem k).mp hk
    obtain ⟨u, eu⟩ := str_is z
    exact ⟨u, pm.mem_iff.mpr (List.mem_map.mpr ⟨e, he, eu⟩)⟩)) (by have z := (vals_of_strs hS).length; rw [List.length_map] at z; omega)
  refine wpAny_bind (wpAny_newList ?_ (by rw [len, sizeLine_eq]; omega))
  have at1 : (s1.heap.push (seqObj "list" vs.toArray 0)).get? s1.heap.objs.size = some (seqObj "list" vs.toArray 0) := Heap.get?_push_size _ rfl
  refine wpAny_bind (wpAny_holding (wpAny_call_entry slot_list_sort ⟨_, at1, rfl⟩ entry_list_sort ?_ (args_list_sort _)))
  refine list_sort_treeK strKind_oneLt at1 hS.keysOf (fun v₁ v₂ rest e => keyKind_strs (ss := ss) (by rw [← e]; exact hS)) (by omega) fun st' a1 a2 => ⟨_, rfl, ?_⟩
  obtain ⟨ys, b1, b2, b3⟩ := sorted_out_str hS a1 a2
  obtain ⟨c, hc⟩ := sortedHeap_at (vs := vs) (out := (arrOf st').map (·.2)) at1
  refine wpAny_pure ⟨_, rfl, q _ s1.heap.objs.size _ c ys (fun b u e => ?_) g1 o1 big hc b1 (b2.trans pl) b3⟩
  have e1 := k1 b u e
  have lt := Heap.lt_size e1
  show (sortedHeap (s1.heap.push (seqObj "list" vs.toArray 0)) s1.heap.objs.size vs _).get? b = some u
  rw [sortedHeap_old (Nat.ne_of_lt lt) (by rw [size_push']; exact Nat.lt_succ_of_lt lt)]
  exact Heap.get?_push_of_some _ e1
end
/-! ### as calls -/
def TSetO (P : Program) (w : World) (a : Addr) (l : List Str) : HO := .ext fun h => TSet P w h a l
section
variable {X : Cx}
def rSetTx (P : Program) (w : World) : List V → Hp → VK → Prop := fun xs H Q => ∃ z : Str, xs = [.str z] ∧ z.length < 4000 ∧ ∀ p, H p = none → Q (.ref p) (upd H p (TSetO P w p (metN z.cps.toList [])))
theorem cr_setTx (hc : X.calm = true) : CallR X (.type "set") (rSetTx X.prog X.w) := by
  intro pins s σ H xs us Q I r h
  obtain ⟨z, rfl, hz, q⟩ := h
  obtain ⟨u, rfl, ru⟩ := vals1 r
  obtain ⟨t, rfl⟩ := ru
  refine set_text (I.ok.hd hc) (by unfold scanBound; exact Nat.lt_of_le_of_lt hz (by decide)) fun h' tk T k => ?_
  refine ⟨.ref s.heap.objs.size, upd H s.heap.objs.size (TSetO X.prog X.w s.heap.objs.size (metN z.cps.toList [])), I.laid (t' := tk) k (Nat.le_refl _) ⟨T, ?_, fun h1 h2 p k2 => p.at k2⟩, rfl, q _ (I.hok.fresh (Nat.le_refl _))⟩
  obtain ⟨D, ho, _⟩ := T
  exact ⟨_, ho⟩
def rSortTx (P : Program) (w : World) : List V → Hp → VK → Prop := fun xs H Q => ∃ (a : Addr) (l : List Str), xs = [.ref a] ∧ H a = some (TSetO P w a l) ∧ l.length < 64 ∧
  ∀ (ys : List Str) (p : Addr), ys.Perm l → sortedS ys = true → H p = none → Q (.ref p) (upd H p (.lst (ys.map V.str)))
theorem cr_sortTx (hc : X.calm = true) : CallR X (.builtin "sorted") (rSortTx X.prog X.w) := by
  intro pins s σ H xs us Q I r h
  obtain ⟨a, l, rfl, ha, h64, q⟩ := h
  have T : TSet X.prog X.w s.heap a l := (I.hok a _ ha).1
  rw [Vals.ref1 r]
  refine sort_tset T (I.ok.hd hc) h64 fun s' p out c ys k g o hp e hS pl st => ?_
  have hn : H p = none := I.hok.fresh hp
  have few : (ys.map V.str).length ≤ sizeLine := by rw [List.length_map, pl.length_eq, sizeLine_eq]; omega
  exact ⟨.ref p, _, I.call' (ch := []) o (Un.laid k hp hn) (I.hok.laid (o := .lst (ys.map V.str)) k hp ⟨few, out.toList, c, vals_of_strs hS, e⟩) (g ▸ I.bare) (fun _ z => nomatch z), rfl, q ys p pl st hn⟩
end
end RT

namespace RT
open PySem PySem.Spec PyProof.Rows L2
abbrev sSet : Stmt := topS 39
abbrev sBit : Stmt := topS 42
theorem scSet : FnScope ["_law_pot_here"] ["_law_pot_here"] (defScope sSet) := ⟨rfl, rfl, rfl, by decide +kernel, rfl, by decide +kernel, by decide +kernel⟩
theorem scBit : FnScope ["_law_pot_here", "_law_few", "_law_most", "_law_text_here"] ["_law_pot_here", "_law_few", "_law_most"] (defScope sBit) := ⟨rfl, rfl, rfl, by decide +kernel, rfl, by decide +kernel, by decide +kernel⟩
/-! ### rising texts of signs -/
section
variable {P : Program} {w : World} {K : PySem.W.Frag} {mg : Str → Option Value} {base : Heap}
def spSet : Sp := fun vs H Q _ => ∃ (pd po : Addr) (t : Nat) (ex : Ex), vs = [.ref pd] ∧ Pot H pd po t ex ∧ t < 2 ^ 47 ∧
  ∀ (cs : List Nat) (H' : Hp) (t' : Nat), t' ≤ t + 24 → 1 ≤ cs.length → cs.length ≤ 21 → (∀ c ∈ cs, signB c = true) → cs.Nodup → sortedS (cs.map fun c => (⟨#[c]⟩ : Str)) = true → Pot H' pd po t' ex → Kp (PM pd po) H H' → Q (.str ⟨cs.toArray⟩) H'
theorem sing_inj {a b : Nat} (h : (⟨#[a]⟩ : Str) = ⟨#[b]⟩) : a = b := by
  have e : [a] = [b] := congrArg (fun z : Str => z.cps.toList) h
  exact (List.cons.inj e).1
theorem sings_of : ∀ {ys : List Str}, (∀ y ∈ ys, ∃ c, y = (⟨#[c]⟩ : Str)) → ∃ cs : List Nat, ys = cs.map fun c => (⟨#[c]⟩ : Str)
  | [], _ => ⟨[], rfl⟩
  | y :: r, h => by
    obtain ⟨c, rfl⟩ := h y (List.mem_cons_self ..)
    obtain ⟨cs, e⟩ := sings_of fun z hz => h z (List.mem_cons_of_mem _ hz)
    exact ⟨c :: cs, by rw [e]; rfl⟩
theorem metN_nodup (cs : List Nat) : ∀ l : List Str, l.Nodup → (metN cs l).Nodup := by
  induction cs with
  | nil => exact fun l h => h
  | cons c r ih =>
    intro l h
    refine ih _ ?_
    show (if (⟨#[c]⟩ : Str) ∈ l then l else ⟨#[c]⟩ :: l).Nodup
    split
    · exact h
    · rename_i n
      exact List.nodup_cons.mpr ⟨n, h⟩
theorem ok_set {f fx : Addr} {fd fdx : FuncData} {k : Nat} (F : Fun K "_law_set" "_law_set" sSet f fd)
    (GX : FnOk P w K mg base CX0 k fx fdx ["_law_pot_here", "_law_few", "_law_most"] spText) (kx : PySem.W.keepIn K (.ref fx) = true) (bx : Binds K fdx ["_law_pot_here", "_law_few", "_law_most"] []) (gx : mg "_law_text" = some (.ref fx))
    (mso : mg "sorted" = none) (mse : mg "set" = none) : FnOk P w K mg base CX0 (k + 1) f fd ["_law_pot_here"] spSet := by
  refine F.ok scSet (fun vs H Q E h => ?_) (fun cdv A outer s H vs Q E hr h => ?_)
  · obtain ⟨pd, po, t, ex, rfl, _⟩ := h
    rfl
  · obtain ⟨pd, po, t, ex, rfl, hP, ht, q⟩ := h
    have h47 : (2 : Nat) ^ 47 = 140737488355328 := by decide
    have h48 : (2 : Nat) ^ 48 = 281474976710656 := by decide
    refine ⟨_, (pss_one (ps_ret (pe_join pe_str (pe_callB (cr_sortTx (by rfl)) (by rfl) mso (by decide +kernel) (pa_cons (pe_callTy (cr_setTx (by rfl)) (by rfl) mse (by decide +kernel) (pa_cons (pe_call GX hr (by rfl) gx kx bx .nil pass0 (pa_cons (pv 0) (pa_cons pe_int (pa_cons pe_int pa_nil)))) pa_nil)) pa_nil))))), ?_⟩
    refine ⟨⟨_, rfl⟩, _, rfl, pd, po, t, 20, ex, 3, 20, rfl, hP, by omega, by decide, by decide, by decide, by decide, by decide, fun cs H2 t2 ht2 c1 c2 hc hP2 k2 => ?_⟩
    refine ⟨⟨cs.toArray⟩, rfl, by show cs.length < 4000; omega, fun p np => ?_⟩
    have lm := metN_len cs []
    have mm := metN_mem cs []
    have nm := metN_nodup cs [] List.nodup_nil
    refine ⟨p, metN cs [], rfl, upd_same, by simp only [List.length_nil] at lm; omega, fun ys p2 pl st np2 => ?_⟩
    obtain ⟨ds, rfl⟩ := sings_of (ys := ys) fun y hy => by
      rcases (mm y).mp (pl.mem_iff.mp hy) with z | ⟨c, _, e⟩
      · cases z
      · exact ⟨c, e⟩
    have k3 : Kp (PM pd po) H2 (upd (upd H2 p (TSetO P w p (metN cs []))) p2 (.lst ((ds.map fun c => (⟨#[c]⟩ : Str)).map V.str))) := (Kp.new np).trans (Kp.new np2)
    have hP3 := (hP2.new (o := TSetO P w p (metN cs [])) np).new (o := .lst ((ds.map fun c => (⟨#[c]⟩ : Str)).map V.str)) np2
    have ml : ∀ d : Nat, d ∈ ds ↔ d ∈ cs := fun d => by
      constructor
      · intro h
        rcases (mm _).mp (pl.mem_iff.mp (List.mem_map.mpr ⟨d, h, rfl⟩)) with z | ⟨c, hc, e⟩
        · cases z
        · rw [sing_inj e]
          exact hc
      · intro h
        obtain ⟨c, hc, e⟩ := List.mem_map.mp (pl.mem_iff.mpr ((mm (⟨#[d]⟩ : Str)).mpr (.inr ⟨d, h, rfl⟩)))
        rw [← sing_inj e]
        exact hc
    have ll : ds.length ≤ cs.length := by
      have z := pl.length_eq
      rw [List.length_map] at z
      simp only [List.length_nil] at lm
      omega
    have l1 : 1 ≤ ds.length := by
      cases cs with
      | nil => cases c1
      | cons c r => exact List.length_pos_of_mem ((ml c).mpr (List.mem_cons_self ..))
    have nd : ds.Nodup := by
      have z := pl.nodup_iff.mpr nm
      rw [List.nodup_iff_pairwise_ne, List.pairwise_map] at z
      rw [List.nodup_iff_pairwise_ne]
      exact z.imp fun h e => h (by rw [e])
    refine ⟨_, p2, ds.map fun c => (⟨#[c]⟩ : Str), rfl, rfl, .inl (SqL.of upd_same), ?_, ?_⟩
    · rw [sum_ones]
      show ds.length + _ * 0 ≤ _
      exact Nat.le_trans (by omega : ds.length + _ * 0 ≤ 1000) (by decide)
    · rw [join_signs]
      exact q ds _ t2 (by omega) l1 (by omega) (fun c h => hc c ((ml c).mp h)) nd st hP3 (k2.trans k3)
/-- a pot with room, told, signs -/
def spBit : Sp := fun vs H Q _ => ∃ (pd po : Addr) (t m : Nat) (r o g a b : Int), vs = [.ref pd, .int a, .int b] ∧ Pot H pd po t (some (r, o, g)) ∧ t < 2 ^ 47 ∧ 0 ≤ a ∧ 0 ≤ b ∧ a ≤ m ∧ b ≤ m ∧ m ≤ 500 ∧
  ∀ (cs : List Nat) (H' : Hp) (t' : Nat) (g' : Int), t' ≤ t + 4 + m → g' ≤ g → g ≤ g' + 1 + m → 1 ≤ cs.length → cs.length ≤ 1 + m → (∀ c ∈ cs, signB c = true) → Pot H' pd po t' (some (r, o, g')) → Kp (PM pd po) H H' → Q (.str ⟨cs.toArray⟩) H'
theorem Pot.signs {H : Hp} {pd po : Addr} {t : Nat} {r o g g' : Int} (P : Pot H pd po t (some (r, o, g))) : ∃ s : Int, H pd = some (potD po s t (some (r, o, g))) ∧ Pot (upd H pd (potD po s t (some (r, o, g')))) pd po t (some (r, o, g')) := by
  obtain ⟨s, ns, E⟩ := P.e
  exact ⟨s, E.d, ⟨s, E.s0, E.s1, upd_same⟩, ns, E.len, E.nn, by rw [upd_ne E.ne.symm]; exact E.o⟩
theorem cutS_to {cs : List Nat} {m : Int} (h : 1 ≤ m) : cutS ⟨cs.toArray⟩ none (some m) = ⟨(cs.take m.toNat).toArray⟩ := by
  obtain ⟨n, rfl⟩ := Int.eq_ofNat_of_zero_le (Int.le_trans (by decide) h)
  have el : (⟨cs.toArray⟩ : Str).length = cs.length := by simp [Str.length]
  unfold cutS
  rw [HT.sIx_none, el, show HT.sIx cs.length cs.length (some (n : Int)) = min n cs.length from HT.sIx_nat cs.length cs.length n, List.drop_zero, Nat.sub_zero, Int.toNat_natCast]
  show Str.mk (cs.take (min n cs.length)).toArray = _
  congr 2
  by_cases q : n ≤ cs.length
  · rw [Nat.min_eq_left q]
  · rw [Nat.min_eq_right (by omega), List.take_length, List.take_of_length_le (by omega)]
theorem ok_bit {f fx : Addr} {fd fdx : FuncData} {k : Nat} (F : Fun K "_law_bit" "_law_bit" sBit f fd)
    (GX : FnOk P w K mg base CX0 k fx fdx ["_law_pot_here", "_law_few", "_law_most"] spText) (kx : PySem.W.keepIn K (.ref fx) = true) (bx : Binds K fdx ["_law_pot_here", "_law_few", "_law_most"] []) (gx : mg "_law_text" = some (.ref fx))
    (mmax : mg "max" = none) (ml : mg "len" = none) : FnOk P w K mg base CX0 (k + 1) f fd ["_law_pot_here", "_law_few", "_law_most"] spBit := by
  refine F.ok scBit (fun vs H Q E h => ?_) (fun cdv A outer s H vs Q E hr h => ?_)
  · obtain ⟨pd, po, t, m, r, o, g, a, b, rfl, _⟩ := h
    rfl
  · obtain ⟨pd, po, t, m, r, o, g, a, b, rfl, hP, ht, a0, b0, am, bm, hm, q⟩ := h
    have h47 : (2 : Nat) ^ 47 = 140737488355328 := by decide
    have h48 : (2 : Nat) ^ 48 = 281474976710656 := by decide
    refine ⟨_, (pss_cons (ps_set (i := 3) scBit.nd rfl (.inl rfl) (pe_slice sl_str (pe_call GX hr (by rfl) gx kx bx .nil pass0 (pa_cons (pv 0) (pa_cons (pv 1) (pa_cons (pv 2) pa_nil)))) po_none (po_some (pe_callB (call_max2 (by rfl)) (by rfl) mmax (by decide +kernel) (pa_cons pe_int (pa_cons (pe_dget (hu_of hr) (pv 0) pe_str (fun _ _ => rfl)) pa_nil))))))
      (pss_cons (ps_dput (hu_of hr) (pv 0) pe_str (pe_op op_sub (pe_dget (hu_of hr) (pv 0) pe_str (fun _ _ => rfl)) (pe_callB call_len_str (by rfl) ml PySem.boot_len (pa_cons (pv 3) pa_nil))) rfl)
      (pss_one (ps_ret (pv 3))))), ?_⟩
    refine ⟨_, rfl, _, rfl, _, rfl, pd, po, t, m, some (r, o, g), a, b, rfl, hP, by omega, a0, b0, am, bm, hm, fun cs H2 t2 ht2 c1 c2 hc hP2 k2 => ?_⟩
    obtain ⟨s2, e2, _⟩ := hP2.signs (g' := 0)
    refine ⟨_, rfl, pd, _, rfl, DGet.k (k := .inr "signs") e2, 1, g, rfl, _, rfl, _, rfl, ?_⟩
    have el : (⟨cs.toArray⟩ : Str).length = cs.length := by simp [Str.length]
    refine ⟨by rw [el]; exact Nat.le_of_lt (small1000 (by omega)), ?_⟩
    have hw : (1 : Int) ≤ (if g > 1 then g else 1) := by split <;> omega
    rw [cutS_to hw]
    generalize hn : (if g > 1 then g else 1).toNat = n
    have n1 : 1 ≤ n := by omega
    have l1 : 1 ≤ (cs.take n).length := by
      rw [List.length_take]
      omega
    have l2 : (cs.take n).length ≤ cs.length := List.length_take_le' _ _
    have el2 : (⟨(cs.take n).toArray⟩ : Str).length = (cs.take n).length := by simp [Str.length]
    refine ⟨_, rfl, pd, _, rfl, DGet.k (k := .inr "signs") e2, _, rfl, _, rfl, by rw [el2]; exact Nat.le_of_lt (small1000 (by omega)), ?_⟩
    refine ⟨_, _, rfl, rfl, _, rfl, pd, _, rfl, DPut.k (k := .inr "signs") e2 (by rw [sizeLine_eq]; show 6 < 16777216; decide), _, rfl, ?_⟩
    obtain ⟨s3, e3, hP3⟩ := hP2.signs (g' := g - ((⟨(cs.take n).toArray⟩ : Str).length : Nat))
    rw [e2] at e3
    cases e3
    refine q (cs.take n) _ t2 (g - ((⟨(cs.take n).toArray⟩ : Str).length : Nat)) ht2 (by omega) (by omega) l1 (by omega) (fun c h => hc c (List.mem_of_mem_take h)) hP3 (k2.trans (Kp.put (.inl rfl)))
end
end RT

/-! names, as letters -/
namespace RT
def ltr (i : Nat) : Nat := 97 + i % 26
def Az (c : Nat) : Prop := 97 ≤ c ∧ c ≤ 122
instance (c : Nat) : Decidable (Az c) := inferInstanceAs (Decidable (_ ∧ _))
theorem ltr_az (i : Nat) : Az (ltr i) := by
  unfold ltr Az
  omega
def nmL (way : Nat) (stem : List Nat) (a f k : Nat) : List Nat :=
  if way = 0 then stem.take a ++ ([ltr (f + 5 * k)] ++ stem.drop a)
  else if way = 1 then List.replicate (1 + (f + 3 * k) % 8) (ltr (f + 5 * k))
  else List.replicate (1 + k % 8) (ltr f) ++ List.replicate (if 7 < k then 1 else 0) (ltr (f + 1 + k / 8))
theorem ltr5 {f k j : Nat} (hk : k < 12) (hj : j < 12) (h : ltr (f + 5 * k) = ltr (f + 5 * j)) : k = j := by
  unfold ltr at h
  omega
theorem rep_cons {c : Nat} {n : Nat} : List.replicate (1 + n) c = c :: List.replicate n c := by rw [Nat.add_comm, List.replicate_succ]
theorem nm_inj {way : Nat} {stem : List Nat} {a f k j : Nat} (hk : k < 12) (hj : j < 12) (h : nmL way stem a f k = nmL way stem a f j) : k = j := by
  unfold nmL at h
  by_cases w0 : way = 0
  · rw [if_pos w0, if_pos w0] at h
    have e := List.append_cancel_left h
    exact ltr5 hk hj (List.cons.inj e).1
  · rw [if_neg w0, if_neg w0] at h
    by_cases w1 : way = 1
    · rw [if_pos w1, if_pos w1, rep_cons, rep_cons] at h
      exact ltr5 hk hj (List.cons.inj h).1
    · rw [if_neg w1, if_neg w1] at h
      have l := congrArg List.length h
      simp only [List.length_append, List.length_replicate] at l
      have c1 := congrArg (List.count (ltr f)) h
      have ne1 : ltr (f + 1 + 1) ≠ ltr f := by unfold ltr; omega
      have ne0 : ltr (f + 1 + 0) ≠ ltr f := by unfold ltr; omega
      have ct : ∀ i, i < 12 → List.count (ltr f) (List.replicate (1 + i % 8) (ltr f) ++ List.replicate (if 7 < i then 1 else 0) (ltr (f + 1 + i / 8))) = 1 + i % 8 := fun i hi => by
        rw [List.count_append, List.count_replicate_self, List.count_replicate]
        by_cases q : 7 < i
        · have e : i / 8 = 1 := by omega
          rw [if_pos q, e, if_neg (by simpa using ne1), Nat.add_zero]
        · rw [if_neg q]
          split <;> rfl
      rw [ct k hk, ct j hj] at c1
      by_cases q : 7 < k <;> by_cases q2 : 7 < j <;> simp only [q, q2, if_true, if_false] at l <;> omega
theorem nm_ok {way : Nat} {stem : List Nat} {a f k : Nat} (hk : k < 12) (hs : stem.length ≤ 6) (hz : ∀ c ∈ stem, Az c) : 1 ≤ (nmL way stem a f k).length ∧ (nmL way stem a f k).length ≤ 8 ∧ ∀ c ∈ nmL way stem a f k, Az c := by
  unfold nmL
  by_cases w0 : way = 0
  · rw [if_pos w0]
    refine ⟨?_, ?_, fun c h => ?_⟩
    · simp only [List.length_append, List.length_cons, List.length_nil]
      omega
    · simp only [List.length_append, List.length_cons, List.length_nil, List.length_take, List.length_drop]
      omega
    · rcases List.mem_append.mp h with h | h
      · exact hz c (List.mem_of_mem_take h)
      · rcases List.mem_append.mp h with h | h
        · rw [List.mem_singleton.mp h]
          exact ltr_az _
        · exact hz c (List.mem_of_mem_drop h)
  · rw [if_neg w0]
    by_cases w1 : way = 1
    · rw [if_pos w1]
      refine ⟨?_, ?_, fun c h => ?_⟩
      · rw [List.length_replicate]
        omega
      · rw [List.length_replicate]
        omega
      · rw [(List.mem_replicate.mp h).2]
        exact ltr_az _
    · rw [if_neg w1]
      refine ⟨?_, ?_, fun c h => ?_⟩
      · simp only [List.length_append, List.length_replicate]
        omega
      · simp only [List.length_append, List.length_replicate]
        split <;> omega
      · rcases List.mem_append.mp h with h | h <;> (rw [(List.mem_replicate.mp h).2]; exact ltr_az _)
end RT

namespace RT
open PySem PySem.Spec PyProof.Rows L2
abbrev sNames : Stmt := topS 41
theorem scNames : FnScope ["_law_pot_here", "_law_many", "_law_letters", "_law_first", "_law_way", "_law_stem", "_law_at", "_law_found", "_law_k", "_law_letter", "_law_word"] ["_law_pot_here", "_law_many"] (defScope sNames) := ⟨rfl, rfl, rfl, by decide +kernel, rfl, by decide +kernel, by decide +kernel⟩
theorem fold_app (xs : List (Array Nat)) : ∀ acc : Array Nat, (xs.foldl (· ++ ·) acc).toList = acc.toList ++ (xs.map (·.toList)).flatten := by
  induction xs with
  | nil => intro acc; simp
  | cons x r ih =>
    intro acc
    rw [List.foldl_cons, ih, List.map_cons, List.flatten_cons, Array.toList_append, List.append_assoc]
theorem mul_sing {c : Nat} {n : Int} (h0 : 0 ≤ n) : Txt.mul ⟨#[c]⟩ n = ⟨(List.replicate n.toNat c).toArray⟩ := by
  obtain ⟨k, rfl⟩ := Int.eq_ofNat_of_zero_le h0
  refine TL.ext_tl ?_
  show (Txt.mul ⟨#[c]⟩ (k : Int)).cps.toList = List.replicate k c
  unfold Txt.mul
  by_cases z : (k : Int) < 1
  · rw [if_pos z]
    have e : k = 0 := by omega
    rw [e]
    rfl
  · rw [if_neg z]
    by_cases q : ((k : Int) == 1 || (⟨#[c]⟩ : Str).length == 0) = true
    · rw [if_pos q]
      have e : k = 1 := by
        rcases Bool.or_eq_true_iff.mp q with q | q
        · have := eq_of_beq q
          omega
        · cases q
      rw [e]
      rfl
    · rw [if_neg q]
      show Array.toList _ = _
      rw [fold_app, List.map_replicate]
      show [] ++ (List.replicate k [c]).flatten = _
      rw [List.nil_append]
      clear z q h0
      induction k with
      | zero => rfl
      | succ k ih =>
        rw [List.replicate_succ, List.flatten_cons, ih, List.replicate_succ]
        rfl
theorem mulOk_small {x : Str} {n : Int} (h0 : 0 ≤ n) (h1 : n ≤ 1000) (hx : x.length ≤ 1000) : MulOk x n := by
  refine ⟨?_, fun a b => ?_, fun a b => ?_⟩
  · rw [decide_eq_false (by omega), decide_eq_false (by omega)]
    rfl
  · have h : (1000 : Int) ≤ (2 ^ 63 - 1) / n := (Int.le_ediv_iff_mul_le (by omega)).mpr (by omega)
    omega
  · have h : x.length * n.toNat ≤ 1000 * 1000 := Nat.mul_le_mul hx (by omega)
    have e : (1000000 : Nat) ≤ sizeLine := by decide
    unfold Builtin.Str.tooLong
    exact decide_eq_false (by omega)
section
variable {X : Cx}
theorem op_mul_str : OpR X (binaryOp .Mult) (fun x y H Q => ∃ (z : Str) (n : Int), x = .str z ∧ y = .int n ∧ MulOk z n ∧ Q (.str (Txt.mul z n)) H) := by
  intro pins s σ H x y v u Q I rx ry h
  obtain ⟨z, n, rfl, rfl, hm, q⟩ := h
  obtain ⟨t, rfl⟩ := rx
  obtain ⟨t', rfl⟩ := ry
  exact PySem.SB.mul hm fun t' k => ⟨.str _, H, I.tok _, ⟨_, rfl⟩, q⟩
end
def lets : Str := "abcdefghijklmnopqrstuvwxyz"
theorem let_at {i : Nat} (h : i < 26) : atI lets.cps.toList (i : Int) = some (ltr i) := by
  refine atI_nat ?_
  have e : lets.cps.toList = (List.range 26).map fun i => 97 + i := by decide
  rw [e, List.getElem?_map, List.getElem?_range h]
  show some (97 + i) = some (97 + i % 26)
  rw [Nat.mod_eq_of_lt h]
section
variable {P : Program} {w : World} {K : PySem.W.Frag} {mg : Str → Option Value} {base : Heap}
/-- names, unlike and rising -/
def Names (zs : List Str) : Prop := zs.Nodup ∧ sortedS zs = true ∧ ∀ z ∈ zs, 1 ≤ z.length ∧ z.length ≤ 8 ∧ ∀ c ∈ z.cps.toList, Az c
theorem app_s (xs ys : List Nat) : (⟨xs.toArray⟩ : Str) ++ ⟨ys.toArray⟩ = ⟨(xs ++ ys).toArray⟩ := by
  show Str.mk (xs.toArray ++ ys.toArray) = _
  rw [List.append_toArray]
theorem cut_hi (cs : List Nat) (n : Nat) : cutS ⟨cs.toArray⟩ none (some (n : Int)) = ⟨(cs.take n).toArray⟩ := by
  have el : (⟨cs.toArray⟩ : Str).length = cs.length := by simp [Str.length]
  unfold cutS
  rw [HT.sIx_none, el, show HT.sIx cs.length cs.length (some (n : Int)) = min n cs.length from HT.sIx_nat cs.length cs.length n, List.drop_zero, Nat.sub_zero]
  show Str.mk (cs.take (min n cs.length)).toArray = _
  by_cases q : n ≤ cs.length
  · rw [Nat.min_eq_left q]
  · rw [Nat.min_eq_right (by omega), List.take_length, List.take_of_length_le (by omega)]
theorem cut_lo (cs : List Nat) (n : Nat) : cutS ⟨cs.toArray⟩ (some (n : Int)) none = ⟨(cs.drop n).toArray⟩ := by
  have el : (⟨cs.toArray⟩ : Str).length = cs.length := by simp [Str.length]
  unfold cutS
  rw [HT.sIx_none, el, show HT.sIx cs.length 0 (some (n : Int)) = min n cs.length from HT.sIx_nat cs.length 0 n]
  show Str.mk (List.take (cs.length - min n cs.length) (cs.drop (min n cs.length))).toArray = _
  by_cases q : n ≤ cs.length
  · rw [Nat.min_eq_left q, List.take_of_length_le (by rw [List.length_drop]; omega)]
  · rw [Nat.min_eq_right (by omega), List.drop_of_length_le (Nat.le_refl _), List.drop_of_length_le (by omega), List.take_nil]
/-- the names so far -/
def nmS (wy a f : Nat) (cs : List Nat) (i : Nat) : List Str := (List.range i).map fun k => (⟨(nmL wy cs a f k).toArray⟩ : Str)
def NmInv (H : Hp) (pd po L : Addr) (t : Nat) (ex : Ex) (m f wy a : Nat) (cs : List Nat) (i : Nat) (σ : L2.St) (H6 : Hp) : Prop :=
  ∃ y8 y9 y10 : Option V, σ = [some (.ref pd), some (.int m), some (.str lets), some (.int f), some (.int wy), some (.str ⟨cs.toArray⟩), some (.int a), some (.ref L), y8, y9, y10] ∧
    Pot H6 pd po t ex ∧ Kp (PM pd po) H H6 ∧ H6 L = some (.lst ((nmS wy a f cs i).map V.str))
theorem NmInv.step {H H6 : Hp} {pd po L : Addr} {t m f wy a i : Nat} {ex : Ex} {cs z : List Nat} {y8 y9 y10 : Option V} (hL : ¬ PM pd po L) (hLH : H L = none) (hP : Pot H6 pd po t ex) (k : Kp (PM pd po) H H6) (e : H6 L = some (.lst ((nmS wy a f cs i).map V.str)))
    (hz : z = nmL wy cs a f i) : NmInv H pd po L t ex m f wy a cs (i + 1) [some (.ref pd), some (.int m), some (.str lets), some (.int f), some (.int wy), some (.str ⟨cs.toArray⟩), some (.int a), some (.ref L), y8, y9, y10] (upd H6 L (.lst ((nmS wy a f cs i).map V.str ++ [.str ⟨z.toArray⟩]))) := by
  refine ⟨y8, y9, y10, rfl, hP.keep (M := fun b => b = L) (Kp.put rfl) (fun h => hL (.inl h.symm)) (fun h => hL (.inr h.symm)), fun b u hb e2 => ?_, ?_⟩
  · have nb : b ≠ L := fun h => by
      rw [h, hLH] at e2
      cases e2
    rw [upd_ne nb]
    exact k b u hb e2
  · unfold nmS
    rw [upd_same, List.range_succ, List.map_append, List.map_append, hz]
    rfl
theorem nmS_len (wy a f : Nat) (cs : List Nat) (i : Nat) : (nmS wy a f cs i).length = i := by
  unfold nmS
  rw [List.length_map, List.length_range]
theorem nmS_nodup {wy a f : Nat} {cs : List Nat} {i : Nat} (hi : i ≤ 12) : (nmS wy a f cs i).Nodup := by
  unfold nmS
  rw [List.nodup_iff_pairwise_ne, List.pairwise_map]
  refine List.pairwise_lt_range.imp_of_mem fun {k j} h1 h2 lt e => ?_
  have h1 := List.mem_range.mp h1
  have h2 := List.mem_range.mp h2
  have e2 : nmL wy cs a f k = nmL wy cs a f j := congrArg (fun z : Str => z.cps.toList) e
  have := nm_inj (by omega) (by omega) e2
  omega
def spNames : Sp := fun vs H Q _ => ∃ (pd po : Addr) (t m : Nat) (ex : Ex), vs = [.ref pd, .int m] ∧ Pot H pd po t ex ∧ t < 2 ^ 47 ∧ 1 ≤ m ∧ m ≤ 12 ∧
  ∀ (zs : List Str) (l : Addr) (H' : Hp) (t' : Nat), t' ≤ t + 20 → zs.length = m → Names zs → H l = none → H' l = some (.lst (zs.map V.str)) → ¬ PM pd po l → Pot H' pd po t' ex → Kp (PM pd po) H H' → Q (.ref l) H'
theorem ok_names {f fn fk : Addr} {fd fdn fdk : FuncData} {k : Nat} (F : Fun K "_law_names" "_law_names" sNames f fd)
    (GN : FnOk P w K mg base CX0 1 fn fdn ["_law_pot_here", "_law_many"] spNext) (kn : PySem.W.keepIn K (.ref fn) = true) (bn : Binds K fdn ["_law_pot_here", "_law_many"] []) (gn : mg "_law_next" = some (.ref fn))
    (GK : FnOk P w K mg base CX0 2 fk fdk ["_law_pot_here", "_law_some"] (spPick K)) (kk : PySem.W.keepIn K (.ref fk) = true) (bk : Binds K fdk ["_law_pot_here", "_law_some"] []) (gk : mg "_law_pick" = some (.ref fk))
    (mr : mg "range" = none) (ml : mg "len" = none) (mso : mg "sorted" = none) (mint : mg "int" = none) : FnOk P w K mg base CX0 3 f fd ["_law_pot_here", "_law_many"] spNames := by
  refine F.ok scNames (fun vs H Q E h => ?_) (fun cdv A outer s H vs Q E hr h => ?_)
  · obtain ⟨pd, po, t, m, ex, rfl, _⟩ := h
    rfl
  · obtain ⟨pd, po, t, m, ex, rfl, hP, ht, m1, m2, q⟩ := h
    have h47 : (2 : Nat) ^ 47 = 140737488355328 := by decide
    have h50 : (2 : Nat) ^ 50 = 1125899906842624 := by decide
    have hrN := hr.mono (show 1 ≤ 2 by decide)
    refine ⟨_, (pss_cons (ps_set (i := 2) scNames.nd rfl (.inr rfl) pe_str)
      (pss_cons (ps_set (i := 3) scNames.nd rfl (.inl rfl) (pe_call GN hrN (by rfl) gn kn bn .nil pass0 (pa_cons (pv 0) (pa_cons pe_int pa_nil))))
      (pss_cons (ps_set (i := 4) scNames.nd rfl (.inl rfl) (pe_call GN hrN (by rfl) gn kn bn .nil pass0 (pa_cons (pv 0) (pa_cons pe_int pa_nil))))
      (pss_cons (ps_set (i := 5) scNames.nd rfl (.inl rfl) (pe_join pe_str (pe_lc (own := [("_law_k", 8)]) (g := gName 8) (tt := tYes) rfl scNames.nd (pi_range1 (by rfl) mr (pa_cons (pe_call GN hrN (by rfl) gn kn bn .nil pass0 (pa_cons (pv 0) (pa_cons pe_int pa_nil))) pa_nil)) (blkOk_by (N := ["_law_pot_here", "_law_many", "_law_letters", "_law_first", "_law_way", "_law_stem", "_law_at", "_law_found", "_law_k", "_law_letter", "_law_word"]) (sc := defScope sNames) (by decide +kernel)) (fun _ _ _ _ _ => (pg_name (i := 8) scNames.nd rfl (.inl rfl))) (fun _ _ _ _ _ => pts_nil) (fun _ _ _ _ _ => (pe_call GK hr (by rfl) gk kk bk .nil pass0 (pa_cons (pv 0) (pa_cons (pv 2) pa_nil)))))))
      (pss_cons (ps_set (i := 6) scNames.nd rfl (.inl rfl) (pe_call GN hrN (by rfl) gn kn bn .nil pass0 (pa_cons (pv 0) (pa_cons (pe_op op_add (pe_callB call_len_str (by rfl) ml PySem.boot_len (pa_cons (pv 5) pa_nil)) pe_int) pa_nil))))
      (pss_cons (ps_set (i := 7) scNames.nd rfl (.inl rfl) (pe_lst pa_nil))
      (pss_cons (ps_for PassesOwn.never rfl (pi_range1 (by rfl) mr (pa_cons (pv 1) pa_nil)) (pg_name (i := 8) scNames.nd rfl (.inl rfl)) (pss_cons (ps_set (i := 9) scNames.nd rfl (.inl rfl) (pe_ix ix_str (pv 2) (pe_op op_mod (pe_op op_add (pv 3) (pe_op op_mulW pe_int (pv 8))) pe_int) (fun _ _ => rfl)))
      (pss_one (ps_if (pt_cmpR op_eq (pv 4) pe_int (nomark _)) (pss_one (ps_expr (pe_bm PySem.F.plainAttrs_list PySem.F.slot_list_append PySem.F.type_list_append mt_append (pv 7) (pa_cons (pe_op op_add_str (pe_op op_add_str (pe_slice sl_str (pv 5) po_none (po_some (pv 6))) (pv 9)) (pe_slice sl_str (pv 5) (po_some (pv 6)) po_none)) pa_nil)))) (pss_one (ps_if (pt_cmpR op_eq (pv 4) pe_int (nomark _)) (pss_one (ps_expr (pe_bm PySem.F.plainAttrs_list PySem.F.slot_list_append PySem.F.type_list_append mt_append (pv 7) (pa_cons (pe_op op_mul_str (pv 9) (pe_op op_add pe_int (pe_op op_mod (pe_op op_add (pv 3) (pe_op op_mulW pe_int (pv 8))) pe_int))) pa_nil)))) (pss_cons (ps_set (i := 10) scNames.nd rfl (.inl rfl) (pe_op op_mul_str (pe_ix ix_str (pv 2) (pv 3) (fun _ _ => rfl)) (pe_op op_add pe_int (pe_op op_mod (pv 8) pe_int))))
      (pss_one (ps_expr (pe_bm PySem.F.plainAttrs_list PySem.F.slot_list_append PySem.F.type_list_append mt_append (pv 7) (pa_cons (pe_op op_add_str (pv 10) (pe_op op_mul_str (pe_ix ix_str (pv 2) (pe_op op_mod (pe_op op_add (pe_op op_add (pv 3) pe_int) (pe_op op_fdiv (pv 8) pe_int)) pe_int) (fun _ _ => rfl)) (pe_callTy call_int1 (by rfl) mint (by decide +kernel) (pa_cons (pe_cmpR op_gt (pv 8) pe_int (nomark _)) pa_nil)))) pa_nil)))))))))))
      (pss_one (ps_ret (pe_callB cr_sortedS (by rfl) mso (by decide +kernel) (pa_cons (pv 7) pa_nil))))))))))), ?_⟩
    refine ⟨_, rfl, pd, po, t, ex, 26, rfl, hP, by omega, by decide, by decide, fun d1 H1 t1 ht1 d10 d11 hP1 k1 => ?_⟩
    obtain ⟨f0, rfl⟩ := Int.eq_ofNat_of_zero_le d10
    refine ⟨_, rfl, pd, po, t1, ex, 3, rfl, hP1, by omega, by decide, by decide, fun d2 H2 t2 ht2 d20 d21 hP2 k2 => ?_⟩
    obtain ⟨wy, rfl⟩ := Int.eq_ofNat_of_zero_le d20
    have k12 : Kp (PM pd po) H H2 := k1.trans k2
    refine ⟨⟨_, rfl⟩, _, rfl, pd, po, t2, ex, 7, rfl, hP2, by omega, by decide, by decide, fun d3 H3 t3 ht3 d30 d31 hP3 k3 => ?_⟩
    have k13 : Kp (PM pd po) H H3 := k12.trans k3
    refine ⟨_, rfl, by omega, by omega, fun D nD => ?_⟩
    have hD := off_pot hP3 nD
    have hlz : ∀ c ∈ lets.cps.toList, ∃ c', V.str ⟨#[c]⟩ = .str ⟨#[c']⟩ ∧ Az c' := fun c h => ⟨c, rfl, (show ∀ c ∈ lets.cps.toList, Az c by decide) c h⟩
    refine lc_range (lo := 0) (n := d3.toNat) (fun i H4 => ∃ (t4 : Nat) (cs : List Nat), t4 ≤ t + 3 + i ∧ cs.length = i ∧ (∀ c ∈ cs, Az c) ∧ Pot H4 pd po t4 ex ∧ Kp (PM pd po) H H4 ∧ H4 D = some (.lst (cs.map fun c => V.str ⟨#[c]⟩))) ?_ ?_ ?_
    · exact ⟨t3, [], by omega, rfl, fun _ z => (nomatch z), hP3.new nD, k13.trans (Kp.new nD), upd_same⟩
    · rintro i H4 hi ⟨t4, cs, ht4, hl, hc, hP4, k4, e4⟩
      refine ⟨rfl, tYes_ok (iteT ?_)⟩
      refine ⟨_, rfl, _, rfl, pd, po, t4, ex, _, (fun v => ∃ c, v = .str ⟨#[c]⟩ ∧ Az c), rfl, hP4, by omega, .inl ⟨lets, rfl, by decide, by decide, hlz⟩, fun v' H5 t5 ht5 ⟨c, ev, c1⟩ hP5 k5 => ?_⟩
      subst ev
      have e5 := k5 D _ hD e4
      refine ⟨_, e5, by rw [List.length_map]; exact small1000 (by omega), t5, cs ++ [c], by omega, by rw [List.length_append, hl]; rfl, ?_, ?_, ?_, ?_⟩
      · intro b hb
        rcases List.mem_append.mp hb with h | h
        · exact hc b h
        · rw [List.mem_singleton.mp h]
          exact c1
      · exact hP5.keep (M := fun b => b = D) (Kp.put rfl) (fun h => hD (.inl h.symm)) (fun h => hD (.inr h.symm))
      · intro b u hb e
        have nb : b ≠ D := fun h => by
          have q2 := k13 b u hb e
          rw [h, nD] at q2
          cases q2
        rw [upd_ne nb]
        exact k5 b u hb (k4 b u hb e)
      · rw [upd_same, List.map_append]
        rfl
    · rintro H4 ⟨t4, cs, ht4, hl, hc, hP4, k4, e4⟩
      refine ⟨_, D, cs.map fun c => (⟨#[c]⟩ : Str), rfl, rfl, .inl (SqL.of (by rw [e4, List.map_map]; rfl)), ?_, ?_⟩
      · rw [sum_ones]
        show cs.length + _ * 0 ≤ _
        exact Nat.le_trans (by omega : cs.length + _ * 0 ≤ 1000) (by decide)
      · rw [join_signs]
        have el : (⟨cs.toArray⟩ : Str).length = cs.length := by simp [Str.length]
        refine ⟨_, rfl, _, rfl, _, rfl, by rw [el]; exact Nat.le_of_lt (small1000 (by omega)), _, _, rfl, rfl, pd, po, t4, ex, _, rfl, hP4, by omega, by omega, by omega, fun d5 H5 t5 ht5 d50 d51 hP5 k5 => ?_⟩
        obtain ⟨at0, rfl⟩ := Int.eq_ofNat_of_zero_le d50
        have k15 : Kp (PM pd po) H H5 := k4.trans k5
        refine ⟨Nat.zero_le _, fun L nL => ?_⟩
        have hL := off_pot hP5 nL
        have hLH : H L = none := by
          cases z : H L with
          | none => rfl
          | some u =>
            have q2 := k15 L u hL z
            rw [nL] at q2
            cases q2
        refine ⟨_, rfl, m, rfl, by omega, by omega, for_range (lo := 0) (n := m) (NmInv H pd po L t5 ex m f0 wy at0 cs) ?_ ?_ ?_⟩
        · exact ⟨none, none, none, rfl, hP5.new nL, k15.trans (Kp.new nL), upd_same⟩
        · rintro i σ H6 hi ⟨y8, y9, y10, rfl, hP6, k6, e6⟩
          rw [show (0 : Int) + (i : Int) = (i : Int) from Int.zero_add _]
          have w5 : (5 : Int).natAbs < 2 ^ 64 := by decide
          have w3 : (3 : Int).natAbs < 2 ^ 64 := by decide
          have wi : ((i : Int)).natAbs < 2 ^ 64 := by
            show _ < 18446744073709551616
            omega
          have m26 : ((f0 : Int) + 5 * (i : Int)) % 26 = (((f0 + 5 * i) % 26 : Nat) : Int) := by omega
          have room : ((nmS wy at0 f0 cs i).map V.str).length < sizeLine := by
            rw [List.length_map, nmS_len, sizeLine_eq]
            omega
          refine ⟨_, rfl, _, rfl, _, rfl, _, _, rfl, rfl, wide_mul w5 wi (by decide) (by decide) (by decide), _, _, rfl, rfl, _, _, rfl, rfl, (by show (0 : Int) < 26; decide), lets, _, ltr (f0 + 5 * i), rfl, rfl, by decide, ?_, ?_⟩
          · show atI lets.cps.toList (((f0 : Int) + 5 * (i : Int)) % 26) = _
            rw [m26, let_at (by omega)]
            unfold ltr
            rw [Nat.mod_mod]
          refine ⟨_, rfl, rfl, _, rfl, ite2 (fun c0 => ?_) (fun c0 => ?_)⟩
          · refine ⟨_, rfl, .inl ⟨rfl, _, SqL.of e6⟩, _, rfl, _, rfl, _, rfl, _, rfl, by rw [el]; exact Nat.le_of_lt (small1000 (by omega)), ?_⟩
            rw [cut_hi]
            have lt1 : (cs.take at0).length ≤ 6 := by
              rw [List.length_take]
              omega
            have ld1 : (cs.drop at0).length ≤ 6 := by
              rw [List.length_drop]
              omega
            have sz : ∀ (xs ys : List Nat), xs.length ≤ 20 → ys.length ≤ 20 → (⟨xs.toArray⟩ : Str).length + (⟨ys.toArray⟩ : Str).length ≤ sizeLine := fun xs ys h1 h2 => by
              rw [show (⟨xs.toArray⟩ : Str).length = xs.length by simp [Str.length], show (⟨ys.toArray⟩ : Str).length = ys.length by simp [Str.length], sizeLine_eq]
              omega
            refine ⟨_, rfl, _, _, rfl, rfl, sz _ [_] (by omega) (by show 1 ≤ 20; decide), ?_⟩
            refine ⟨_, rfl, _, rfl, _, rfl, _, rfl, by rw [el]; exact Nat.le_of_lt (small1000 (by omega)), ?_⟩
            rw [cut_lo]
            have wy0 : wy = 0 := by
              have z : V.int (wy : Int) = V.int 0 := of_decide_eq_true c0
              injection z with z
              omega
            refine ⟨_, _, rfl, rfl, ?_, L, _, _, rfl, rfl, e6, room, ?_⟩
            · rw [show (⟨#[ltr (f0 + 5 * i)]⟩ : Str) = ⟨[ltr (f0 + 5 * i)].toArray⟩ from rfl, app_s]
              exact sz _ _ (by rw [List.length_append]; simp only [List.length_cons, List.length_nil]; omega) (by omega)
            · rw [show (⟨#[ltr (f0 + 5 * i)]⟩ : Str) = ⟨[ltr (f0 + 5 * i)].toArray⟩ from rfl, app_s, app_s]
              refine NmInv.step hL hLH hP6 k6 e6 ?_
              unfold nmL
              rw [if_pos wy0, List.append_assoc]
          · refine ⟨_, rfl, rfl, _, rfl, ite2 (fun c1 => ?_) (fun c1 => ?_)⟩
            · have wy1 : wy = 1 := by
                have z : V.int (wy : Int) = V.int 1 := of_decide_eq_true c1
                injection z with z
                omega
              have m8 : (1 : Int) + ((f0 : Int) + 3 * (i : Int)) % 8 = ((1 + (f0 + 3 * i) % 8 : Nat) : Int) := by omega
              refine ⟨_, rfl, .inl ⟨rfl, _, SqL.of e6⟩, _, rfl, _, rfl, _, rfl, _, _, rfl, rfl, wide_mul w3 wi (by decide) (by decide) (by decide), _, _, rfl, rfl, _, _, rfl, rfl, (by show (0 : Int) < 8; decide), _, _, rfl, rfl, _, _, rfl, rfl, mulOk_small (by omega) (by omega) (by show 1 ≤ 1000; decide), L, _, _, rfl, rfl, e6, room, ?_⟩
              rw [m8, mul_sing (by omega), Int.toNat_natCast]
              refine NmInv.step hL hLH hP6 k6 e6 ?_
              unfold nmL
              rw [if_neg (by omega), if_pos wy1]
            · have n0 : wy ≠ 0 := fun z => by
                rw [z] at c0
                exact absurd c0 (by decide)
              have n1 : wy ≠ 1 := fun z => by
                rw [z] at c1
                exact absurd c1 (by decide)
              have m8 : (1 : Int) + (i : Int) % 8 = ((1 + i % 8 : Nat) : Int) := by omega
              refine ⟨_, rfl, _, rfl, lets, _, ltr f0, rfl, rfl, by decide, ?_, _, rfl, _, _, rfl, rfl, (by show (0 : Int) < 8; decide), _, _, rfl, rfl, _, _, rfl, rfl, mulOk_small (by omega) (by omega) (by show 1 ≤ 1000; decide), ?_⟩
              · exact let_at (by omega)
              rw [m8, mul_sing (by omega), Int.toNat_natCast]
              have m7 : ((f0 : Int) + 1 + (i : Int) / 8) % 26 = (((f0 + 1 + i / 8) % 26 : Nat) : Int) := by omega
              refine ⟨_, rfl, .inl ⟨rfl, _, SqL.of e6⟩, _, rfl, _, rfl, _, rfl, _, _, rfl, rfl, _, rfl, _, _, rfl, rfl, ⟨by decide, by decide⟩, _, _, rfl, rfl, _, _, rfl, rfl, (by show (0 : Int) < 26; decide), lets, _, ltr (f0 + 1 + i / 8), rfl, rfl, by decide, ?_, ?_⟩
              · show atI lets.cps.toList (((f0 : Int) + 1 + (i : Int) / 8) % 26) = _
                rw [m7, let_at (by omega)]
                unfold ltr
                rw [Nat.mod_mod]
              refine ⟨_, rfl, _, _, rfl, rfl, .inr ⟨_, rfl, ?_⟩⟩
              have e7 : (if decide ((7 : Int) < (i : Int)) = true then (1 : Int) else 0) = ((if 7 < i then 1 else 0 : Nat) : Int) := by
                by_cases q7 : 7 < i
                · rw [if_pos q7, if_pos (decide_eq_true (by omega))]
                  rfl
                · rw [if_neg q7, if_neg (by rw [decide_eq_true_eq]; omega)]
                  rfl
              have s7 : (if 7 < i then 1 else 0 : Nat) ≤ 1 := by split <;> omega
              rw [e7]
              refine ⟨_, _, rfl, rfl, mulOk_small (by omega) (by omega) (by show 1 ≤ 1000; decide), ?_⟩
              rw [mul_sing (by omega), Int.toNat_natCast]
              refine ⟨_, _, rfl, rfl, ?_, L, _, _, rfl, rfl, e6, room, ?_⟩
              · rw [show (⟨(List.replicate (1 + i % 8) (ltr f0)).toArray⟩ : Str).length = 1 + i % 8 by simp [Str.length], show (⟨(List.replicate (if 7 < i then 1 else 0) (ltr (f0 + 1 + i / 8))).toArray⟩ : Str).length = (if 7 < i then 1 else 0) by simp [Str.length], sizeLine_eq]
                omega
              · rw [app_s]
                refine NmInv.step hL hLH hP6 k6 e6 ?_
                unfold nmL
                rw [if_neg n0, if_neg n1]
        · rintro σ H6 ⟨y8, y9, y10, rfl, hP6, k6, e6⟩
          refine ⟨_, rfl, L, nmS wy at0 f0 cs m, rfl, SqL.of e6, by rw [nmS_len]; omega, fun ys p pl st np => ?_⟩
          have hp := off_pot hP6 np
          have hpH : H p = none := by
            cases z : H p with
            | none => rfl
            | some u =>
              have q2 := k6 p u hp z
              rw [np] at q2
              cases q2
          refine q ys p _ t5 (by omega) (by rw [pl.length_eq, nmS_len]) ⟨pl.nodup_iff.mpr (nmS_nodup m2), st, fun z hz => ?_⟩ hpH upd_same hp (hP6.new np) (k6.trans (Kp.new np))
          obtain ⟨j, hj, rfl⟩ := List.mem_map.mp (pl.mem_iff.mp hz)
          obtain ⟨o1, o2, o3⟩ := nm_ok (way := wy) (stem := cs) (a := at0) (f := f0) (k := j) (by have := List.mem_range.mp hj; omega) (by omega) hc
          have ez : (⟨(nmL wy cs at0 f0 j).toArray⟩ : Str).length = (nmL wy cs at0 f0 j).length := by simp [Str.length]
          rw [ez]
          exact ⟨o1, o2, o3⟩
end
end RT

/-! things that are drawn: texts, ints, None, tuples of such; forms as such things -/
namespace RT
open PySem PySem.Spec PyProof.Rows L2
inductive D where
  | str (z : Str)
  | int (i : Int)
  | non
  | tup (ds : List D)
mutual
inductive Rp (H : Hp) : V → D → Prop
  | str {z : Str} : z.length ≤ sizeLine → Rp H (.str z) (.str z)
  | int {i : Int} : Rp H (.int i) (.int i)
  | non : Rp H .non .non
  | tup {a : Addr} {vs : List V} {ds : List D} : H a = some (.tup vs) → Rps H vs ds → Rp H (.ref a) (.tup ds)
inductive Rps (H : Hp) : List V → List D → Prop
  | nil : Rps H [] []
  | cons {v : V} {d : D} {vs : List V} {ds : List D} : Rp H v d → Rps H vs ds → Rps H (v :: vs) (d :: ds)
end
mutual
theorem Rp.keep {H H' : Hp} {M : Addr → Prop} (k : Kp M H H') (h : ∀ a xs, M a → H a ≠ some (.tup xs)) : ∀ {v : V} {d : D}, Rp H v d → Rp H' v d
  | _, _, .str z => .str z
  | _, _, .int => .int
  | _, _, .non => .non
  | _, _, .tup e r => .tup (k _ _ (fun m => h _ _ m e) e) (Rps.keep k h r)
theorem Rps.keep {H H' : Hp} {M : Addr → Prop} (k : Kp M H H') (h : ∀ a xs, M a → H a ≠ some (.tup xs)) : ∀ {vs : List V} {ds : List D}, Rps H vs ds → Rps H' vs ds
  | _, _, .nil => .nil
  | _, _, .cons r t => .cons (r.keep k h) (Rps.keep k h t)
end
theorem Rps.len {H : Hp} : ∀ {vs : List V} {ds : List D}, Rps H vs ds → vs.length = ds.length
  | _, _, .nil => rfl
  | _, _, .cons _ t => by rw [List.length_cons, List.length_cons, Rps.len t]
theorem Rps.app {H : Hp} : ∀ {vs ws : List V} {ds es : List D}, Rps H vs ds → Rps H ws es → Rps H (vs ++ ws) (ds ++ es)
  | _, _, _, _, .nil, r => r
  | _, _, _, _, .cons q t, r => .cons q (Rps.app t r)
theorem Rps.get {H : Hp} : ∀ {vs : List V} {ds : List D}, Rps H vs ds → ∀ (i : Nat) (v : V), vs[i]? = some v → ∃ d, ds[i]? = some d ∧ Rp H v d
  | _, _, .nil, i, v, h => by simp at h
  | _, _, .cons q t, 0, v, h => by
    cases h
    exact ⟨_, rfl, q⟩
  | _, _, .cons q t, i + 1, v, h => Rps.get t i v (by simpa using h)
/-- forms -/
inductive Fo where
  | leaf (w : Str) (r : List D)
  | one (w : Str) (f : Fo) (r : List D)
  | row (fs : List Fo)
  | either (ns : List Str) (fs : List Fo)
  | again (f : Fo)
  | between (f g : Fo)
  | counted (z : Str) (f : Fo)
  | named (x : Str)
mutual
def Fo.enc : Fo → D
  | .leaf w r => .tup (.str w :: r)
  | .one w f r => .tup (.str w :: f.enc :: r)
  | .row fs => .tup [.str "row", .tup (Fo.encs fs)]
  | .either ns fs => .tup [.str "either", .tup (List.zipWith (fun n d => .tup [.str n, d]) ns (Fo.encs fs))]
  | .again f => .tup [.str "again", f.enc, .non]
  | .between f g => .tup [.str "again", f.enc, g.enc]
  | .counted z f => .tup [.str "counted", .str z, f.enc]
  | .named x => .tup [.str "named", .str x]
def Fo.encs : List Fo → List D
  | [] => []
  | f :: r => f.enc :: Fo.encs r
end
mutual
/-- well made, as far as names and shapes go -/
def Fo.ok (N : List Str) : Fo → Prop
  | .leaf w _ => w ∈ ([("text" : Str), "sign", "word", "number", "pick"] : List Str)
  | .one w f _ => w ∈ ([("skip" : Str), "spelt", "turned"] : List Str) ∧ f.ok N
  | .row fs => Fo.oks N fs
  | .either ns fs => ns.length = fs.length ∧ Fo.oks N fs
  | .again f => f.ok N
  | .between f g => f.ok N ∧ g.ok N
  | .counted _ f => f.ok N
  | .named x => x ∈ N
def Fo.oks (N : List Str) : List Fo → Prop
  | [] => True
  | f :: r => f.ok N ∧ Fo.oks N r
end
mutual
/-- how many forms stand in it, itself among them -/
def Fo.size : Fo → Nat
  | .leaf _ _ => 1
  | .one _ f _ => 1 + f.size
  | .row fs => 1 + Fo.sizes fs
  | .either _ fs => 1 + Fo.sizes fs
  | .again f => 1 + f.size
  | .between f g => 1 + f.size + g.size
  | .counted _ f => 1 + f.size
  | .named _ => 1
def Fo.sizes : List Fo → Nat
  | [] => 0
  | f :: r => f.size + Fo.sizes r
end
/-- those that stand in it -/
def Fo.inner : Fo → List Fo
  | .leaf _ _ => []
  | .one _ f _ => [f]
  | .row fs => fs
  | .either _ fs => fs
  | .again f => [f]
  | .between f g => [f, g]
  | .counted _ f => [f]
  | .named _ => []
theorem Fo.size_pos : ∀ f : Fo, 1 ≤ f.size
  | .leaf _ _ | .named _ => Nat.le_refl _
  | .one _ _ _ | .row _ | .either _ _ | .again _ | .counted _ _ => by simp only [Fo.size]; omega
  | .between _ _ => by simp only [Fo.size]; omega
theorem Fo.sizes_app : ∀ fs gs : List Fo, Fo.sizes (fs ++ gs) = Fo.sizes fs + Fo.sizes gs
  | [], gs => by simp [Fo.sizes]
  | f :: r, gs => by
    show f.size + Fo.sizes (r ++ gs) = f.size + Fo.sizes r + Fo.sizes gs
    rw [Fo.sizes_app r gs]
    omega
theorem Fo.oks_app {N : List Str} : ∀ fs gs : List Fo, Fo.oks N fs → Fo.oks N gs → Fo.oks N (fs ++ gs)
  | [], _, _, h => h
  | _ :: r, gs, h, k => ⟨h.1, Fo.oks_app r gs h.2 k⟩
theorem Fo.encs_app : ∀ fs gs : List Fo, Fo.encs (fs ++ gs) = Fo.encs fs ++ Fo.encs gs
  | [], _ => rfl
  | f :: r, gs => by
    show f.enc :: Fo.encs (r ++ gs) = f.enc :: (Fo.encs r ++ Fo.encs gs)
    rw [Fo.encs_app r gs]
theorem Fo.inner_size (f : Fo) : Fo.sizes f.inner + 1 = f.size := by
  cases f <;> simp only [Fo.inner, Fo.sizes, Fo.size] <;> omega
theorem Fo.inner_ok {N : List Str} (f : Fo) (h : f.ok N) : Fo.oks N f.inner := by
  cases f with
  | leaf w r => exact True.intro
  | one w f r => exact ⟨h.2, True.intro⟩
  | row fs => exact h
  | either ns fs => exact h.2
  | again f => exact ⟨h, True.intro⟩
  | between f g => exact ⟨h.1, h.2, True.intro⟩
  | counted z f => exact ⟨h, True.intro⟩
  | named x => exact True.intro
end RT

/-! forms well made -/
namespace RT
open PySem PySem.Spec PyProof.Rows L2
def SgnOk (z : Str) : Prop := ∀ c ∈ z.cps.toList, signB c = true
def TxtOk (z : Str) : Prop := 1 ≤ z.length ∧ SgnOk z
def SetOk (z : Str) : Prop := TxtOk z ∧ z.cps.toList.Nodup ∧ sortedS (z.cps.toList.map fun c => (⟨#[c]⟩ : Str)) = true
def NmOk (z : Str) : Prop := 1 ≤ z.length ∧ z.length ≤ 8 ∧ ∀ c ∈ z.cps.toList, Az c
mutual
def D.thing : D → Prop
  | .str z => SgnOk z
  | .int i => 0 ≤ i
  | .non => False
  | .tup ds => D.things ds
def D.things : List D → Prop
  | [] => True
  | d :: r => d.thing ∧ D.things r
end
mutual
def D.size : D → Nat
  | .tup ds => 1 + D.sizes ds
  | _ => 1
def D.sizes : List D → Nat
  | [] => 0
  | d :: r => d.size + D.sizes r
end
def D.plain : D → Prop
  | .str z => SgnOk z
  | .int i => 0 ≤ i
  | _ => False
def NoPre (a b : Str) : Prop := ¬ a.cps.toList <+: b.cps.toList
structure PickOk (ps : List (Str × D)) : Prop where
  ne : ps ≠ []
  few : ps.length ≤ 8
  ok : ∀ p ∈ ps, TxtOk p.1 ∧ p.2.plain
  pre : ps.Pairwise fun p q => NoPre p.1 q.1 ∧ NoPre q.1 p.1
  un : ps.Pairwise fun p q => p.2 ≠ q.2
def pickR (ps : List (Str × D)) : List D := [.tup (ps.map fun p => .tup [.str p.1, p.2])]
/-- a worth of one of the forms that stand turned here -/
def Wo : Fo → D → Prop
  | .leaf w r, d => (w = "number" ∧ ∃ i : Int, d = .int i) ∨ (w = "sign" ∧ ∃ (z : Str) (c : Nat), r = [.str z] ∧ c ∈ z.cps.toList ∧ d = .str ⟨#[c]⟩)
  | .either ns fs, d => (∃ n ∈ ns, d = .tup [.str n]) ∧ ∀ f ∈ fs, ∃ r, f = .leaf "text" r
  | .again f, d => f = .leaf "number" [] ∧ ∃ is : List Int, d = .tup (is.map .int)
  | _, _ => False
structure TurnOk (f : Fo) (prs : List (D × D)) : Prop where
  wo : ∀ p ∈ prs, Wo f p.1 ∧ Wo f p.2
  ne : prs ≠ []
  few : prs.length ≤ 6
  ok : ∀ p ∈ prs, p.1.thing ∧ p.2.thing ∧ p.1.size ≤ 20 ∧ p.2.size ≤ 20
  un : (prs.flatMap fun p => [p.1, p.2]).Pairwise (· ≠ ·)
def turnR (prs : List (D × D)) : List D := [.tup (prs.map fun p => .tup [p.1, p.2])]
/-- a sign, or a pick whose things are texts of one sign -/
def Fo.spells : Fo → Prop
  | .leaf w r => (w = "sign" ∧ ∃ z, r = [.str z]) ∨ (w = "pick" ∧ ∃ ps, r = pickR ps ∧ ∀ p ∈ ps, ∃ c : Nat, p.2 = .str ⟨#[c]⟩)
  | _ => False
def Fo.bare : Fo → Prop
  | .leaf w _ => w = "text"
  | .one w _ _ => w = "skip"
  | _ => False
mutual
def Fo.wf : Fo → Prop
  | .leaf w r => (w = "text" ∧ ∃ z, r = [.str z] ∧ TxtOk z) ∨ ((w = "sign" ∨ w = "word") ∧ ∃ z, r = [.str z] ∧ SetOk z) ∨ (w = "number" ∧ r = []) ∨ (w = "pick" ∧ ∃ ps, r = pickR ps ∧ PickOk ps)
  | .one w f r => f.wf ∧ ((w = "skip" ∧ r = []) ∨ (w = "spelt" ∧ r = [] ∧ f.spells) ∨ (w = "turned" ∧ ∃ prs, r = turnR prs ∧ TurnOk f prs))
  | .row fs => Fo.wfs fs
  | .either ns fs => ns ≠ [] ∧ ns.length ≤ 12 ∧ ns.Nodup ∧ (∀ n ∈ ns, NmOk n) ∧ Fo.wfs fs
  | .again f => f.wf
  | .between f g => f.wf ∧ g.wf ∧ g.bare
  | .counted z f => TxtOk z ∧ f.wf
  | .named x => NmOk x
def Fo.wfs : List Fo → Prop
  | [] => True
  | f :: r => f.wf ∧ Fo.wfs r
end
theorem Fo.wfs_app : ∀ fs gs : List Fo, Fo.wfs fs → Fo.wfs gs → Fo.wfs (fs ++ gs)
  | [], _, _, h => h
  | _ :: r, gs, h, k => ⟨h.1, Fo.wfs_app r gs h.2 k⟩
theorem Fo.wfs_repl {f : Fo} (h : f.wf) : ∀ n : Nat, Fo.wfs (List.replicate n f)
  | 0 => True.intro
  | n + 1 => ⟨h, Fo.wfs_repl h n⟩
theorem Fo.inner_wf (f : Fo) (h : f.wf) : Fo.wfs f.inner := by
  cases f with
  | leaf w r => exact True.intro
  | one w f r => exact ⟨h.1, True.intro⟩
  | row fs => exact h
  | either ns fs => exact h.2.2.2.2
  | again f => exact ⟨h, True.intro⟩
  | between f g => exact ⟨h.1, h.2.1, True.intro⟩
  | counted z f => exact ⟨h.2, True.intro⟩
  | named x => exact True.intro
theorem arr_tl (cs : List Nat) : (⟨cs.toArray⟩ : Str).cps.toList = cs := rfl
theorem len_arr (cs : List Nat) : (⟨cs.toArray⟩ : Str).length = cs.length := by simp [Str.length]
theorem txt_of_cs {cs : List Nat} (h1 : 1 ≤ cs.length) (h : ∀ c ∈ cs, signB c = true) : TxtOk ⟨cs.toArray⟩ := ⟨by rw [len_arr]; exact h1, h⟩
theorem set_of_cs {cs : List Nat} (h1 : 1 ≤ cs.length) (h : ∀ c ∈ cs, signB c = true) (nd : cs.Nodup) (so : sortedS (cs.map fun c => (⟨#[c]⟩ : Str)) = true) : SetOk ⟨cs.toArray⟩ := ⟨txt_of_cs h1 h, nd, so⟩
/-- texts that end with one sign that stands nowhere else in them: none begins another one -/
theorem no_pre {e : Nat} {a b : List Nat} (ha : e ∉ a) (hb : e ∉ b) (h : a ++ [e] <+: b ++ [e]) : a = b := by
  obtain ⟨t, ht⟩ := h
  induction a generalizing b with
  | nil =>
    cases b with
    | nil => rfl
    | cons x r =>
      cases ht
      exact absurd (List.mem_cons_self ..) hb
  | cons x r ih =>
    cases b with
    | nil =>
      have h2 : x = e := (List.cons.inj ht).1
      exact absurd (h2 ▸ List.mem_cons_self ..) ha
    | cons y q =>
      obtain ⟨h1, h2⟩ := List.cons.inj (show x :: (r ++ [e] ++ t) = y :: (q ++ [e]) from ht)
      rw [h1, ih (fun m => ha (List.mem_cons_of_mem _ m)) (fun m => hb (List.mem_cons_of_mem _ m)) h2]
end RT

namespace RT
open PySem PySem.Spec PyProof.Rows L2
abbrev sInner : Stmt := topS 16
theorem scInner : FnScope ["form", "word", "_", "inner"] ["form"] (defScope sInner) := ⟨rfl, rfl, rfl, by decide +kernel, rfl, by decide +kernel, by decide +kernel⟩
theorem iteF' {b : Bool} {A B : Prop} (e : b = false) (h : B) : if b = true then A else B := by
  rw [e]
  exact iteF h
theorem iteT' {b : Bool} {A B : Prop} (e : b = true) (h : A) : if b = true then A else B := by
  rw [if_pos e]
  exact h
theorem none_upd {H : Hp} {p l : Addr} {o : HO} (h : upd H p o l = none) : H l = none := by
  unfold upd at h
  split at h
  · cases h
  · exact h
theorem enc_ref {H : Hp} {v : V} {f : Fo} (r : Rp H v f.enc) : ∃ a, v = .ref a := by
  cases f <;> (cases r; exact ⟨_, rfl⟩)
theorem encs_map : ∀ fs : List Fo, Fo.encs fs = fs.map Fo.enc
  | [] => rfl
  | f :: r => by
    rw [List.map_cons, ← encs_map r]
    rfl
theorem encs_app (fs gs : List Fo) : Fo.encs (fs ++ gs) = Fo.encs fs ++ Fo.encs gs := Fo.encs_app fs gs
theorem sizes_len : ∀ fs : List Fo, fs.length ≤ Fo.sizes fs
  | [] => Nat.le_refl _
  | f :: r => by
    have h := sizes_len r
    have k := f.size_pos
    simp only [Fo.sizes, List.length_cons]
    omega
section
variable {P : Program} {w : World} {K : PySem.W.Frag} {mg : Str → Option Value} {base : Heap}
def spInner (N : List Str) : Sp := fun vs H Q _ => ∃ (v : V) (f : Fo), vs = [v] ∧ Rp H v f.enc ∧ f.ok N ∧ f.size ≤ 100000 ∧
  ∀ (us : List V) (l : Addr) (H' : Hp), H l = none → H' l = some (.lst us) → Rps H' us (Fo.encs f.inner) → Kp M0 H H' → Q (.ref l) H'
theorem ok_inner {N : List Str} {f : Addr} {fd : FuncData} {k : Nat} (F : Fun K "inner_forms" "inner_forms" sInner f fd) (mli : mg "list" = none) : FnOk P w K mg base CX0 (k + 1) f fd ["form"] (spInner N) := by
  refine F.ok scInner (fun vs H Q E h => ?_) (fun cdv A outer s H vs Q E hr h => ?_)
  · obtain ⟨v, f, rfl, _⟩ := h
    rfl
  · obtain ⟨v, fo, rfl, hR, hok, hsz, q⟩ := h
    refine ⟨_, (pss_cons (ps_set (i := 1) scInner.nd rfl (.inl rfl) (pe_ix ix_tup (pv 0) pe_int (fun _ _ => rfl)))
      (pss_cons (ps_if (pt_cmpR op_in_seq (pv 1) (pe_tup (pa_cons pe_str (pa_cons pe_str (pa_cons pe_str pa_nil)))) (by rfl)) (pss_one (ps_ret (pe_lst (pa_cons (pe_ix ix_tup (pv 0) pe_int (fun _ _ => rfl)) pa_nil)))) pss_nil)
      (pss_cons (ps_if (pt_cmpR op_eq (pv 1) pe_str (nomark _)) (pss_one (ps_ret (pe_callTy call_list_of (by rfl) mli (by decide +kernel) (pa_cons (pe_ix ix_tup (pv 0) pe_int (fun _ _ => rfl)) pa_nil)))) pss_nil)
      (pss_cons (ps_if (pt_cmpR op_eq (pv 1) pe_str (nomark _)) (pss_one (ps_ret (pe_lc (own := [("_", 2), ("inner", 3)]) (g := gTup K 2 (gCons (gName 2) (gCons (gName 3) gNil))) (tt := tYes) rfl scInner.nd (pi_tup (pe_ix ix_tup (pv 0) pe_int (fun _ _ => rfl))) (blkOk_by (N := ["form", "word", "_", "inner"]) (sc := defScope sInner) (by decide +kernel)) (fun _ _ _ _ _ => (pg_tup rfl (pgs_cons (pg_name (i := 2) scInner.nd rfl (.inl rfl)) (pgs_cons (pg_name (i := 3) scInner.nd rfl (.inl rfl)) pgs_nil)))) (fun _ _ _ _ _ => pts_nil) (fun _ _ _ _ _ => (pv 3))))) pss_nil)
      (pss_cons (ps_if (pt_cmpR op_eq (pv 1) pe_str (nomark _)) (pss_one (ps_ret (pe_ifExp (pt_cmpR op_isN (pe_ix ix_tup (pv 0) pe_int (fun _ _ => rfl)) pe_non (nomark _)) (pe_lst (pa_cons (pe_ix ix_tup (pv 0) pe_int (fun _ _ => rfl)) pa_nil)) (pe_lst (pa_cons (pe_ix ix_tup (pv 0) pe_int (fun _ _ => rfl)) (pa_cons (pe_ix ix_tup (pv 0) pe_int (fun _ _ => rfl)) pa_nil)))))) pss_nil)
      (pss_cons (ps_if (pt_cmpR op_eq (pv 1) pe_str (nomark _)) (pss_one (ps_ret (pe_lst (pa_cons (pe_ix ix_tup (pv 0) pe_int (fun _ _ => rfl)) pa_nil)))) pss_nil)
      (pss_one (ps_ret (pe_lst pa_nil))))))))), ?_⟩
    have noT : ∀ (H : Hp) (a : Addr) xs, M0 a → H a ≠ some (.tup xs) := fun _ _ _ z => z.elim
    have new : ∀ {H : Hp} {p : Addr} {o : HO} {v : V} {d : D}, H p = none → Rp H v d → Rp (upd H p o) v d := fun n r => r.keep (Kp.new (M := M0) n) (noT _)
    -- the word and the first test
    have go : ∀ (w : Str) (ds : List D), fo.enc = .tup (.str w :: ds) → ∃ (a : Addr) (us : List V), v = .ref a ∧ H a = some (.tup (.str w :: us)) ∧ Rps H us ds := fun w ds e => by
      rw [e] at hR
      cases hR with
      | tup e1 r =>
        cases r with
        | cons r1 r2 =>
          cases r1
          exact ⟨_, _, rfl, e1, r2⟩
    have nT : ∀ {p a : Addr} {o : HO} {us : List V}, H p = none → H a = some (.tup us) → upd H p o a = some (.tup us) := fun n e => by rw [upd_ne (ne_of_none e n)]; exact e
    have fin : ∀ {p l : Addr} {o : HO} (us : List V), H p = none → upd H p o l = none → Rps H us (Fo.encs fo.inner) → Q (.ref l) (upd (upd H p o) l (.lst us)) := fun us n1 n2 r =>
      q us _ _ (none_upd n2) upd_same ((r.keep (Kp.new (M := M0) n1) (noT _)).keep (Kp.new (M := M0) n2) (noT _)) ((Kp.new n1).trans (Kp.new n2))
    cases fo with
    | leaf w r =>
      obtain ⟨a, us, rfl, ea, ru⟩ := go w r rfl
      have five : w ∈ ([("text" : Str), "sign", "word", "number", "pick"] : List Str) := hok
      simp only [List.mem_cons, List.not_mem_nil, or_false] at five
      rcases five with rfl | rfl | rfl | rfl | rfl <;>
      · refine ⟨_, rfl, a, _, 0, .str _, rfl, rfl, SqT.of ea, atI_nat (j := 0) rfl, ?_⟩
        refine ⟨_, rfl, by show 3 ≤ sizeLine; decide, fun p np => ⟨p, _, rfl, .inr (SqT.of upd_same), rfl, rfl, _, rfl, iteF' (by decide) ?_⟩⟩
        refine ⟨_, rfl, rfl, _, rfl, iteF' (by decide) ?_⟩
        refine ⟨_, rfl, rfl, _, rfl, iteF' (by decide) ?_⟩
        refine ⟨_, rfl, rfl, _, rfl, iteF' (by decide) ?_⟩
        refine ⟨_, rfl, rfl, _, rfl, iteF' (by decide) ?_⟩
        exact ⟨Nat.zero_le _, fun l nl => fin [] np nl .nil⟩
    | named x =>
      obtain ⟨a, us, rfl, ea, ru⟩ := go "named" _ rfl
      refine ⟨_, rfl, a, _, 0, .str _, rfl, rfl, SqT.of ea, atI_nat (j := 0) rfl, ?_⟩
      refine ⟨_, rfl, by show 3 ≤ sizeLine; decide, fun p np => ⟨p, _, rfl, .inr (SqT.of upd_same), rfl, rfl, _, rfl, iteF' (by decide) ?_⟩⟩
      refine ⟨_, rfl, rfl, _, rfl, iteF' (by decide) ?_⟩
      refine ⟨_, rfl, rfl, _, rfl, iteF' (by decide) ?_⟩
      refine ⟨_, rfl, rfl, _, rfl, iteF' (by decide) ?_⟩
      refine ⟨_, rfl, rfl, _, rfl, iteF' (by decide) ?_⟩
      exact ⟨Nat.zero_le _, fun l nl => fin [] np nl .nil⟩
    | one w f r =>
      obtain ⟨a, us, rfl, ea, ru⟩ := go w _ rfl
      cases ru with
      | cons r1 r2 =>
        have three : w ∈ ([("skip" : Str), "spelt", "turned"] : List Str) := hok.1
        simp only [List.mem_cons, List.not_mem_nil, or_false] at three
        rcases three with rfl | rfl | rfl <;>
        · refine ⟨_, rfl, a, _, 0, .str _, rfl, rfl, SqT.of ea, atI_nat (j := 0) rfl, ?_⟩
          refine ⟨_, rfl, by show 3 ≤ sizeLine; decide, fun p np => ⟨p, _, rfl, .inr (SqT.of upd_same), rfl, rfl, _, rfl, iteT' (by decide) ?_⟩⟩
          exact ⟨_, rfl, a, _, 1, _, rfl, rfl, SqT.of (nT np ea), atI_nat (j := 1) rfl, by show 1 ≤ sizeLine; decide, fun l nl => fin [_] np nl (.cons r1 .nil)⟩
    | row fs =>
      obtain ⟨a, us, rfl, ea, ru⟩ := go "row" _ rfl
      cases ru with
      | cons r1 r2 =>
        cases r1 with
        | tup eb rs =>
          refine ⟨_, rfl, a, _, 0, .str _, rfl, rfl, SqT.of ea, atI_nat (j := 0) rfl, ?_⟩
          refine ⟨_, rfl, by show 3 ≤ sizeLine; decide, fun p np => ⟨p, _, rfl, .inr (SqT.of upd_same), rfl, rfl, _, rfl, iteF' (by decide) ?_⟩⟩
          refine ⟨_, rfl, rfl, _, rfl, iteT' (by decide) ?_⟩
          exact ⟨_, rfl, a, _, 1, _, rfl, rfl, SqT.of (nT np ea), atI_nat (j := 1) rfl, _, _, rfl, .inr (SqT.of (nT np eb)), fun l nl => fin _ np nl rs⟩
    | again f =>
      obtain ⟨a, us, rfl, ea, ru⟩ := go "again" _ rfl
      cases ru with
      | cons r1 r2 =>
        cases r2 with
        | cons r3 r4 =>
          cases r3
          refine ⟨_, rfl, a, _, 0, .str _, rfl, rfl, SqT.of ea, atI_nat (j := 0) rfl, ?_⟩
          refine ⟨_, rfl, by show 3 ≤ sizeLine; decide, fun p np => ⟨p, _, rfl, .inr (SqT.of upd_same), rfl, rfl, _, rfl, iteF' (by decide) ?_⟩⟩
          refine ⟨_, rfl, rfl, _, rfl, iteF' (by decide) ?_⟩
          refine ⟨_, rfl, rfl, _, rfl, iteF' (by decide) ?_⟩
          refine ⟨_, rfl, rfl, _, rfl, iteT' (by decide) ?_⟩
          refine ⟨_, rfl, a, _, 2, .non, rfl, rfl, SqT.of (nT np ea), atI_nat (j := 2) rfl, rfl, _, rfl, iteT' (by decide) ?_⟩
          exact ⟨_, rfl, a, _, 1, _, rfl, rfl, SqT.of (nT np ea), atI_nat (j := 1) rfl, by show 1 ≤ sizeLine; decide, fun l nl => fin [_] np nl (.cons r1 .nil)⟩
    | between f g =>
      obtain ⟨a, us, rfl, ea, ru⟩ := go "again" _ rfl
      cases ru with
      | cons r1 r2 =>
        cases r2 with
        | cons r3 r4 =>
          cases r4
          obtain ⟨c, rfl⟩ := enc_ref r3
          refine ⟨_, rfl, a, _, 0, .str _, rfl, rfl, SqT.of ea, atI_nat (j := 0) rfl, ?_⟩
          refine ⟨_, rfl, by show 3 ≤ sizeLine; decide, fun p np => ⟨p, _, rfl, .inr (SqT.of upd_same), rfl, rfl, _, rfl, iteF' (by decide) ?_⟩⟩
          refine ⟨_, rfl, rfl, _, rfl, iteF' (by decide) ?_⟩
          refine ⟨_, rfl, rfl, _, rfl, iteF' (by decide) ?_⟩
          refine ⟨_, rfl, rfl, _, rfl, iteT' (by decide) ?_⟩
          refine ⟨_, rfl, a, _, 2, .ref c, rfl, rfl, SqT.of (nT np ea), atI_nat (j := 2) rfl, rfl, _, rfl, iteF' (decide_eq_false fun z => by cases z) ?_⟩
          exact ⟨_, rfl, a, _, 1, _, rfl, rfl, SqT.of (nT np ea), atI_nat (j := 1) rfl, _, rfl, a, _, 2, _, rfl, rfl, SqT.of (nT np ea), atI_nat (j := 2) rfl, by show 2 ≤ sizeLine; decide, fun l nl => fin [_, _] np nl (.cons r1 (.cons r3 .nil))⟩
    | counted z f =>
      obtain ⟨a, us, rfl, ea, ru⟩ := go "counted" _ rfl
      cases ru with
      | cons r1 r2 =>
        cases r2 with
        | cons r3 r4 =>
          refine ⟨_, rfl, a, _, 0, .str _, rfl, rfl, SqT.of ea, atI_nat (j := 0) rfl, ?_⟩
          refine ⟨_, rfl, by show 3 ≤ sizeLine; decide, fun p np => ⟨p, _, rfl, .inr (SqT.of upd_same), rfl, rfl, _, rfl, iteF' (by decide) ?_⟩⟩
          refine ⟨_, rfl, rfl, _, rfl, iteF' (by decide) ?_⟩
          refine ⟨_, rfl, rfl, _, rfl, iteF' (by decide) ?_⟩
          refine ⟨_, rfl, rfl, _, rfl, iteF' (by decide) ?_⟩
          refine ⟨_, rfl, rfl, _, rfl, iteT' (by decide) ?_⟩
          exact ⟨_, rfl, a, _, 2, _, rfl, rfl, SqT.of (nT np ea), atI_nat (j := 2) rfl, by show 1 ≤ sizeLine; decide, fun l nl => fin [_] np nl (.cons r3 .nil)⟩
    | either ns fs =>
      obtain ⟨a, us, rfl, ea, ru⟩ := go "either" _ rfl
      cases ru with
      | cons r1 r2 =>
        cases r1 with
        | @tup b ws _ eb rs =>
          refine ⟨_, rfl, a, _, 0, .str _, rfl, rfl, SqT.of ea, atI_nat (j := 0) rfl, ?_⟩
          refine ⟨_, rfl, by show 3 ≤ sizeLine; decide, fun p np => ⟨p, _, rfl, .inr (SqT.of upd_same), rfl, rfl, _, rfl, iteF' (by decide) ?_⟩⟩
          refine ⟨_, rfl, rfl, _, rfl, iteF' (by decide) ?_⟩
          refine ⟨_, rfl, rfl, _, rfl, iteT' (by decide) ?_⟩
          refine ⟨_, rfl, a, _, 1, .ref b, rfl, rfl, SqT.of (nT np ea), atI_nat (j := 1) rfl, b, rfl, ⟨_, SqT.of (nT np eb)⟩, fun D nD => ?_⟩
          have hl : ns.length = fs.length := hok.1
          have lw : ws.length = fs.length := by
            rw [rs.len, List.length_zipWith, encs_map, List.length_map]
            omega
          refine lc_tup (xs := ws) (fun i H4 => Kp M0 (upd H p (.tup [.str "skip", .str "spelt", .str "turned"])) H4 ∧ ∃ acc, H4 D = some (.lst acc) ∧ acc.length = i ∧ Rps H4 acc (Fo.encs (fs.take i))) ?_ ?_ ?_ ?_
          · exact ⟨Kp.new nD, [], upd_same, rfl, by rw [List.take_zero]; exact .nil⟩
          · exact fun i H4 _ h => SqT.of (h.1 _ _ (fun z => z) (nT np eb))
          · rintro i x H4 hx ⟨k4, acc, e4, la, ra⟩
            obtain ⟨d, hd, rd⟩ := rs.get i x hx
            have hi : i < fs.length := by
              rw [← lw]
              exact (List.getElem?_eq_some_iff.mp hx).1
            have hn : ns[i]? = some ns[i] := List.getElem?_eq_getElem (by omega)
            have hf : fs[i]? = some fs[i] := List.getElem?_eq_getElem hi
            rw [List.getElem?_zipWith, hn, encs_map, List.getElem?_map, hf] at hd
            cases hd
            cases rd with
            | @tup c vs2 _ ec rc =>
              cases rc with
              | cons c1 c2 =>
                cases c2 with
                | cons c3 c4 =>
                  cases c4
                  refine ⟨c, _, rfl, SqT.of (k4 _ _ (fun z => z) (nT np ec)), rfl, _, _, rfl, _, _, rfl, rfl, rfl, tYes_ok (iteT ⟨_, rfl, acc, e4, ?_, ?_⟩)⟩
                  · have := Fo.inner_size (.either ns fs)
                    have hsz2 : (Fo.either ns fs).size ≤ 100000 := hsz
                    have lf := sizes_len fs
                    simp only [Fo.inner] at this
                    rw [la, sizeLine_eq]
                    omega
                  · refine ⟨fun b u n e => ?_, _, upd_same, by rw [List.length_append, la]; rfl, ?_⟩
                    · rw [upd_ne (ne_of_none e nD)]
                      exact k4 b u n e
                    · rw [List.take_add_one, hf, encs_app]
                      refine Rps.app (ra.keep (M := fun b => b = D) (Kp.put rfl) (fun a xs m e => ?_)) (.cons ?_ .nil)
                      · rw [m, e4] at e
                        cases e
                      · refine ((new np c3).keep k4 (noT _)).keep (M := fun b => b = D) (Kp.put rfl) (fun a xs m e => ?_)
                        rw [m, e4] at e
                        cases e
          · rintro H4 ⟨k4, acc, e4, la, ra⟩
            rw [lw, List.take_length] at ra
            exact q acc D H4 (none_upd nD) e4 ra ((Kp.new np).trans k4)
end
end RT

namespace RT
open PySem PySem.Spec PyProof.Rows L2
/-! ### tables -/
def Tabs (TT : List Addr) (H : Hp) : Prop := ∀ T ∈ TT, GxR.TabG H T
abbrev TM (TT : List Addr) : Addr → Prop := fun b => b ∈ TT
theorem Tabs.noT {TT : List Addr} {H : Hp} (t : Tabs TT H) : ∀ a xs, TM TT a → H a ≠ some (.tup xs) := fun a xs m e => by
  obtain ⟨ps, e1, _⟩ := t a m
  rw [e1] at e
  cases e
theorem Tabs.new {TT : List Addr} {H : Hp} (t : Tabs TT H) {p : Addr} {o : HO} (n : H p = none) : Tabs TT (upd H p o) := fun T m => by
  obtain ⟨ps, e1, r⟩ := t T m
  exact ⟨ps, by rw [upd_ne (ne_of_none e1 n)]; exact e1, r⟩
theorem Tabs.put {TT : List Addr} {H : Hp} (t : Tabs TT H) {p : Addr} {o u : HO} (e : H p = some u) (nt : ∀ ps, u ≠ .tbl ps) : Tabs TT (upd H p o) := fun T m => by
  obtain ⟨ps, e1, r⟩ := t T m
  refine ⟨ps, ?_, r⟩
  rw [upd_ne fun z => ?_]
  · exact e1
  · rw [z, e] at e1
    exact nt ps (Option.some.inj e1)
theorem Tabs.ed {TT : List Addr} {H H' : Hp} {T : Addr} (t : Tabs TT H) (h : GxR.Tabbed T H H') : Tabs TT H' := fun S m => by
  by_cases c : S = T
  · rw [c]
    exact h.1
  · obtain ⟨ps, e1, r⟩ := t S m
    exact ⟨ps, by rw [h.2 S c]; exact e1, r⟩
theorem Tabs.off {TT : List Addr} {H : Hp} {M : Addr → Prop} {H' : Hp} (t : Tabs TT H) (k : Kp M H H') (h : ∀ T ∈ TT, ¬ M T) : Tabs TT H' := fun T m => by
  obtain ⟨ps, e1, r⟩ := t T m
  exact ⟨ps, k T _ (h T m) e1, r⟩
theorem kp_tabbed {TT : List Addr} {H H' : Hp} {T : Addr} (m : T ∈ TT) (h : GxR.Tabbed T H H') : Kp (TM TT) H H' := fun b o nb e => by
  rw [h.2 b fun z => nb (by rw [z]; exact m)]
  exact e
theorem FunT.ok {P : Program} {w : World} {K : PySem.W.Frag} {mg : Str → Option Value} {base : Heap} {x qual : Str} {st : Stmt} {f c : Addr} {fd : FuncData} {N ps : List Str} {k : Nat} {sp : Sp} (F : FunT K x qual st f fd c) (S : FnScope N ps (defScope st)) (len : ∀ vs H Q E, sp vs H Q E → vs.length = ps.length)
    (hbody : ∀ (A : Around) (outer : List Env) (s : Shared) (H : Hp) (vs : List V) (Q : VK) (E : XK), Room k (A.deeper (envOfC qual (defScope st) s.heap.objs.size f (.ref c))) → sp vs H Q E →
      ∃ t, PSs (cxOf CX0 P w K mg base N qual (defScope st) f (.ref c) A outer s H E) (defBody st) t ∧ t { nx := fun _ H' => Q .non H', rt := Q } (start N vs) H) : FnOk P w K mg base CX0 (k + 1) f fd ps sp := by
  obtain ⟨oc, od, kV, doc, pm, an, ct, osl, rfl, lk, hcd⟩ := F.ex
  exact fn_of lk hcd S len hbody
/-- what an element's truth asks -/
def On (TT : List Addr) (H1 : Hp) (stop : Bool) (QF : Hp → Prop) : VK := fun y H3 => ∃ b : Bool, y = .bl b ∧ (b = stop → QF H3) ∧ (b = (!stop) → Kp (TM TT) H1 H3 ∧ Tabs TT H3)
theorem On.mk {TT : List Addr} {H1 H3 : Hp} {stop b : Bool} {QF : Hp → Prop} (e : b = !stop) (k : Kp (TM TT) H1 H3) (t : Tabs TT H3) : On TT H1 stop QF (.bl b) H3 := ⟨b, rfl, fun z => absurd (e.symm.trans z) (by cases stop <;> decide), fun _ => ⟨k, t⟩⟩
/-- all(..), any(..) that go to their end -/
theorem gen_onQ {TT : List Addr} {T : Addr} {J : It} {gt : TG} {te : TE} {σ : L2.St} {vs : List Nat} {stop : Bool} {H1 : Hp} {QT QF : Hp → Prop} (mT : T ∈ TT) (t0 : Tabs TT H1) (n : Nat) (q : ∀ H', Kp (TM TT) H1 H' → Tabs TT H' → QT H')
    (hg : ∀ i H', i < n → Kp (TM TT) H1 H' → J.go i H') (hd : ∀ H', Kp (TM TT) H1 H' → J.stop n H')
    (hs : ∀ i x H' H'', i < n → Kp (TM TT) H1 H' → Tabs TT H' → J.yld i H' x H'' → gt x (wipe σ vs) H'' fun σ2 H2 => wipe σ2 vs = wipe σ vs ∧ te σ2 H2 (On TT H1 stop QF)) :
    GxR.TabG H1 T ∧ ∀ H2, GxR.Tabbed T H1 H2 → ∃ W : Nat → Nat → Hp → Prop, (∃ m, W 0 m H2) ∧ GE.Turns J gt te σ vs stop QT QF W := by
  refine ⟨t0 T mT, fun H2 tb => ⟨fun i m H' => m = n - i ∧ i ≤ n ∧ Kp (TM TT) H1 H' ∧ Tabs TT H', ⟨n, by simp, Nat.zero_le _, kp_tabbed mT tb, t0.ed tb⟩, ?_⟩⟩
  rintro i m H' ⟨rfl, hi, k, t⟩
  by_cases lt : i < n
  · exact .inr ⟨hg i H' lt k, fun H' => Kp (TM TT) H1 H' ∧ Tabs TT H', fun H' p' => ⟨n - (i + 1), by omega, rfl, lt, p'⟩, fun x H'' y => hs i x H' H'' lt k t y⟩
  · have e : i = n := by omega
    subst e
    exact .inl ⟨hd H' k, q H' k t⟩
theorem gen_on {TT : List Addr} {T : Addr} {J : It} {gt : TG} {te : TE} {σ : L2.St} {vs : List Nat} {stop : Bool} {H1 : Hp} {Q : VK} (mT : T ∈ TT) (t0 : Tabs TT H1) (n : Nat) (q : ∀ H', Kp (TM TT) H1 H' → Tabs TT H' → Q (.bl (!stop)) H')
    (hg : ∀ i H', i < n → Kp (TM TT) H1 H' → J.go i H') (hd : ∀ H', Kp (TM TT) H1 H' → J.stop n H')
    (hs : ∀ i x H' H'', i < n → Kp (TM TT) H1 H' → Tabs TT H' → J.yld i H' x H'' → gt x (wipe σ vs) H'' fun σ2 H2 => wipe σ2 vs = wipe σ vs ∧ te σ2 H2 (On TT H1 stop fun H' => Q (.bl stop) H')) :
    GxR.TabG H1 T ∧ ∀ H2, GxR.Tabbed T H1 H2 → ∃ W : Nat → Nat → Hp → Prop, (∃ m, W 0 m H2) ∧ GE.Turns J gt te σ vs stop (fun H' => Q (.bl (!stop)) H') (fun H' => Q (.bl stop) H') W := gen_onQ mT t0 n q hg hd hs
abbrev sSg : Stmt := topS 2
abbrev sTx : Stmt := topS 3
theorem scSg : FnScope ["letter"] ["letter"] (defScope sSg) := ⟨rfl, rfl, rfl, by decide +kernel, rfl, by decide +kernel, by decide +kernel⟩
theorem scTx : FnScope ["x", "letter"] ["x"] (defScope sTx) := ⟨rfl, rfl, rfl, by decide +kernel, rfl, by decide +kernel, by decide +kernel⟩
section
variable {P : Program} {w : World} {K : PySem.W.Frag} {mg : Str → Option Value} {base : Heap}
def spSg : Sp := fun vs H Q _ => ∃ c : Nat, vs = [.str ⟨#[c]⟩] ∧ signB c = true ∧ Q (.bl true) H
theorem ok_sg {f : Addr} {fd : FuncData} {k : Nat} {tp : Tok} (F : Fun K "is_sign" "is_sign" sSg f fd) (mp : mg "_PERCENT" = some (.int 37 tp)) (mo : mg "ord" = none) : FnOk P w K mg base CX0 (k + 1) f fd ["letter"] spSg := by
  refine F.ok scSg (fun vs H Q E h => ?_) (fun cdv A outer s H vs Q E hr h => ?_)
  · obtain ⟨c, rfl, _⟩ := h
    rfl
  · obtain ⟨c, rfl, hs, q⟩ := h
    refine ⟨_, (pss_cons (ps_if (pt_cmpR op_eq (pv 0) pe_str (nomark _)) (pss_one (ps_ret pe_bl)) pss_nil)
      (pss_one (ps_ret (pe_and (pe_chain op_le_str op_le_str pe_str (pv 0) pe_str) (pe_one (pe_cmpR op_ne (pe_callB call_ord (by rfl) mo (by decide +kernel) (pa_cons (pv 0) pa_nil)) (pe_glob (v := .int 37) (by rfl) mp ⟨_, rfl⟩) (nomark _))))))), ?_⟩
    refine ⟨_, rfl, rfl, _, rfl, ite2 (fun h1 => q) (fun h1 => ?_)⟩
    have h10 : c ≠ 10 := fun e => h1 (by rw [e]; rfl)
    have hs2 : ((!decide ([c] < (Str.ofString " ").cps.toList) && !decide ((Str.ofString "~").cps.toList < [c])) && !decide ((c : Int) = 37)) = true := by
      have z := hs
      unfold signB at z
      rwa [if_neg h10] at z
    obtain ⟨h2, h3⟩ := Bool.and_eq_true_iff.mp hs2
    obtain ⟨h4, h5⟩ := Bool.and_eq_true_iff.mp h2
    refine ⟨_, rfl, _, _, rfl, rfl, _, rfl, iteT' h4 ⟨_, _, rfl, rfl, _, rfl, iteT' h5 ⟨_, rfl, _, rfl, rfl, rfl, ?_⟩⟩⟩
    have e : (!decide (V.int (c : Int) = V.int 37)) = true := by
      have ne : ¬ (c : Int) = 37 := by simpa using h3
      have ne2 : ¬ V.int (c : Int) = V.int 37 := fun z => ne (V.int.inj z)
      simp [ne2]
    show Q (.bl (!decide (V.int (c : Int) = V.int 37))) H
    rw [e]
    exact q
theorem chars_at {z : Str} {i : Nat} {v : V} {P : V → Prop} (h : (z.cps.toList.map fun c => V.str ⟨#[c]⟩)[i]? = some v) (g : ∀ c ∈ z.cps.toList, P (.str ⟨#[c]⟩)) : P v := by
  obtain ⟨c, hc, e⟩ := List.mem_map.mp (List.mem_of_getElem? h)
  rw [← e]
  exact g c hc
/-- a truth told by a call of the package: only tables may have changed -/
def Tell (TT : List Addr) (H : Hp) (Q : VK) (b : Bool) : Prop := Tabs TT H ∧ ∀ H', Kp (TM TT) H H' → Tabs TT H' → Q (.bl b) H'
theorem Tell.self {TT : List Addr} {H : Hp} {Q : VK} {b : Bool} (t : Tell TT H Q b) : Q (.bl b) H := t.2 H Kp.refl t.1
def spTx (TT : List Addr) : Sp := fun vs H Q _ => ∃ (v : V) (b : Bool), vs = [v] ∧ ((∃ z, v = .str z ∧ SgnOk z ∧ b = true) ∨ (∃ i : Int, v = .int i ∧ b = false)) ∧ Tell TT H Q b
theorem ok_tx {TT : List Addr} {T c f fs : Addr} {fd fds : FuncData} {k : Nat} (F : FunT K "is_text" "is_text" sTx f fd c) (hk : 3 ≤ k) (mT : T ∈ TT) (TB : GxR.TabB base mg c T) (GS : FnOk P w K mg base CX0 (k - 3) fs fds ["letter"] spSg) (ks : PySem.W.keepIn K (.ref fs) = true) (bs : Binds K fds ["letter"] []) (gs : mg "is_sign" = some (.ref fs))
    (mall : mg "all" = none) (mi : mg "isinstance" = none) (ms : mg "str" = none) : FnOk P w K mg base CX0 (k + 1) f fd ["x"] (spTx TT) := by
  obtain ⟨j, rfl⟩ : ∃ j, k = j + 3 := ⟨k - 3, by omega⟩
  refine F.ok scTx (fun vs H Q E h => ?_) (fun A outer s H vs Q E hr h => ?_)
  · obtain ⟨v, b, rfl, _⟩ := h
    rfl
  · obtain ⟨v, b, rfl, hv, t⟩ := h
    refine ⟨_, (pss_one (ps_ret (pe_and (pe_callB call_isi (by rfl) mi (by decide +kernel) (pa_cons (pv 0) (pa_cons (pe_bltn (v := .ty "str") (by rfl) ms (by decide +kernel) rfl) pa_nil))) (pe_one (GE.pe_allG (own := [("letter", 1)]) (gt := gName 1) hr rfl scTx.nd (by rfl) mall TB rfl (blkOk_by (N := ["x", "letter"]) (sc := defScope sTx) (by decide +kernel)) ⟨rfl, by decide +kernel, rfl⟩ (pi_str (pv 0)) (fun _ _ _ _ _ _ _ _ => (pg_name (i := 1) scTx.nd rfl (.inl rfl))) (fun _ _ _ _ _ _ _ _ hb => (pe_call GS hb (by rfl) gs ks bs .nil pass0 (pa_cons (pv 1) pa_nil)))))))), ?_⟩
    rcases hv with ⟨z, rfl, hz, rfl⟩ | ⟨i, rfl, rfl⟩
    · refine ⟨_, rfl, _, .ty "str", .type "str", .type "str", true, rfl, .ty _, .base (.str z), kit_ty (by decide +kernel), true, rfl, iteT ⟨_, rfl, z, rfl, ?_⟩⟩
      refine gen_on mT t.1 z.cps.size t.2 (fun i H' lt k => lt) (fun H' k => Nat.le_refl _) fun i x H' H'' lt k t' y => ?_
      obtain ⟨rfl, c, hc, rfl⟩ := y
      refine ⟨rfl, _, rfl, c, rfl, hz c ?_, On.mk rfl k t'⟩
      rw [← Array.getElem?_toList] at hc
      exact List.mem_of_getElem? hc
    · exact ⟨_, rfl, _, .ty "str", .type "int", .type "str", false, rfl, .ty _, .base (.int i), kit_ty (by decide +kernel), false, rfl, iteF t.self⟩
end
end RT

set_option maxHeartbeats 2000000
namespace RT
open PySem PySem.Spec PyProof.Rows L2

/-- xs.extend(t), t a tuple at any place -/
theorem extend_tuple (l b : Addr) (xs ys : Array Value) (n m : Nat) (dd : Option Addr) (sl : Array (Option Value)) (h0 : ¬(!xs.isEmpty && Builtin.List.listTooLong (xs.size + ys.size)) = true) (h1 : xs.size ≤ sizeLine) (h2 : xs.size + ys.size ≤ sizeLine + 1) :
    Meets (Builtin.«list.extend» ⟨[.ref l, .ref b], []⟩) (fun _ R s => s.heap.get? l = some { cls := .type "list", dict := none, data := .seq xs n, slots := #[] } ∧ s.heap.get? b = some { cls := .type "tuple", dict := dd, data := .seq ys m, slots := sl } ∧
      R (.ok (.ret Value.none)) { s with heap := s.heap.update l (Obj.mapSeq fun x => x ++ ys), toks := s.toks }) := by
  refine .of_wp fun prog w A R s h => ?_
  obtain ⟨hp, g, d, tk, os⟩ := s
  obtain ⟨hl, hb, h⟩ := h
  have f1 := PySem.AutoSeq1.idx_int
  have f2 := PySem.AutoSeq1.sub_tuple_tuple
  have f3 := PySem.AutoSeq1.sub_list_list
  have f4 := PySem.AutoSeq1.sub_tuple_list
  have f5 := PySem.AutoSeq1.sub_list_tuple
  have hz : (xs ++ ys).size ≤ sizeLine + 1 := by rw [Array.size_append]; exact h2
  wp_walk using (wpAny_updateSeq hl rfl (hz := h1) (_hz' := hz)), wpAny_loadPart' hl, wpAny_loadPart' hb
  exact ⟨_, rfl, h⟩
section
variable {X : Cx}
def rExtT : V → List V → Hp → VK → Prop := fun x vs H Q => ∃ l b xs zs, x = .ref l ∧ vs = [.ref b] ∧ H l = some (.lst xs) ∧ H b = some (.tup zs) ∧ xs.length + zs.length ≤ sizeLine ∧ Q .non (upd H l (.lst (xs ++ zs)))
theorem mt_extT : MtR X "list.extend" rExtT := by
  intro pins s σ H x vs v us Q I rx rv h
  obtain ⟨l, b, xs, zs, rfl, rfl, hH, hB, hz, q⟩ := h
  cases rx
  obtain ⟨u, rfl, ru⟩ := rv.one
  cases ru
  obtain ⟨z, its, n, r, hl, e⟩ := I.lstM hH
  obtain ⟨z2, its2, r2, ob, e2, c2, m, d2⟩ := (show ObjOk X.prog X.w H s.heap b (.tup zs) from I.hok b _ hB)
  obtain ⟨oc, od, dt, sl⟩ := ob
  simp only at c2 d2
  subst c2 d2
  have hsz : its.toArray.size + its2.toArray.size ≤ sizeLine := by
    rw [List.size_toArray, List.size_toArray]
    have := r.length
    have := r2.length
    omega
  have hlong : ¬ (!its.toArray.isEmpty && Builtin.List.listTooLong (its.toArray.size + its2.toArray.size)) = true := by
    rw [notLongL hsz, Bool.and_false]
    exact Bool.false_ne_true
  refine call_meets F.slot_list_extend ⟨_, e, rfl⟩ F.entry_list_extend (F.args_list_extend_2 _ _) (extend_tuple l b its.toArray its2.toArray n m od sl hlong (by omega) (by omega)) ⟨e, e2, ?_⟩
  refine ⟨.non, _, I.lset (its' := its ++ its2) hH e (by simp) (r.append r2) ?_, rfl, q⟩
  rw [List.length_append]
  exact hz
end
end RT

/-! list(zip(xs, ys)) -/
namespace RT
open PySem PySem.Spec PyProof.Rows L2
/-- where a zip of two lists stands; everything of it lies below lo -/
structure Zp where
  (z TI TO i1 i2 l1 l2 S lo : Addr)
  D : ZipApart z TI TO i1 i2 l1 l2
  low : z < lo ∧ TI < lo ∧ TO < lo ∧ i1 < lo ∧ i2 < lo ∧ l1 < lo ∧ l2 < lo ∧ S < lo
  Sz : S ≠ z
  STI : S ≠ TI
  STO : S ≠ TO
  Si1 : S ≠ i1
  Si2 : S ≠ i2
  Sl1 : S ≠ l1
  Sl2 : S ≠ l2
section
variable {P : Program} {w : World} {A : Around} {E : Value → Shared → Prop} {s : Shared} {xs ys : Array Value} (Z : Zp)
def Zp.St (xs ys : Array Value) (h : Heap) (i : Nat) : Prop :=
  IsPair h Z.TI (.ref Z.i1) (.ref Z.i2) ∧ h.IsListIter Z.i1 Z.l1 i ∧ h.IsListIter Z.i2 Z.l2 i ∧ h.IsList Z.l1 xs ∧ h.IsList Z.l2 ys ∧
    ((IsZip h Z.z Z.TI Z.TO .none ∧ ∃ a b, IsPair h Z.TO a b) ∨ ∃ (T : Addr) (f : Bool) (u : Obj), IsZipHeld h Z.z Z.TI Z.TO T f ∧ Z.lo ≤ T ∧ h.get? T = some u)
theorem Zp.St.keep {h h' : Heap} {i : Nat} (t : Z.St xs ys h i) (k : ∀ b o, b ≠ Z.S → h.get? b = some o → h'.get? b = some o) : Z.St xs ys h' i := by
  obtain ⟨a1, a2, a3, a4, a5, a6⟩ := t
  refine ⟨k _ _ Z.STI.symm a1, a2.at fun o e => k _ o Z.Si1.symm e, a3.at fun o e => k _ o Z.Si2.symm e, a4.at fun o e => k _ o Z.Sl1.symm e, a5.at fun o e => k _ o Z.Sl2.symm e, ?_⟩
  rcases a6 with ⟨b1, a, b, b2⟩ | ⟨T, f, u, b1, b2, b3⟩
  · exact .inl ⟨k _ _ Z.Sz.symm b1, a, b, k _ _ Z.STO.symm b2⟩
  · exact .inr ⟨T, f, u, k _ _ Z.Sz.symm b1, b2, k _ _ (Nat.ne_of_gt (Nat.lt_of_lt_of_le Z.low.2.2.2.2.2.2.2 b2)) b3⟩
theorem Zp.item {i : Nat} {x y : Value} {Q : Option Value → Shared → Prop} (t : Z.St xs ys s.heap i) (hlo : Z.lo ≤ s.heap.objs.size) (hx : xs[i]? = some x) (hy : ys[i]? = some y)
    (q : ∀ h', Z.St xs ys h' (i + 1) → IsPair h' s.heap.objs.size x y → h'.objs.size = s.heap.objs.size + 1 → (∀ b o, b ≠ Z.z → b ≠ Z.TO → b ≠ Z.i1 → b ≠ Z.i2 → s.heap.get? b = some o → h'.get? b = some o) → Q (some (.ref s.heap.objs.size)) { s with heap := h' }) :
    wpAny (model P w) A (pyNext (.ref Z.z)) Q E s := by
  obtain ⟨a1, a2, a3, a4, a5, a6⟩ := t
  have D := Z.D
  rcases a6 with ⟨b1, a, b, b2⟩ | ⟨T, f, u, b1, b2, b3⟩
  · refine wpAny_pyNext_zip_item D b1 a1 b2 a2 a3 a4 a5 hx hy fun h' c1 c2 c3 c4 c5 c6 k => q h' ⟨?_, c3, c4, ?_, ?_, .inr ⟨_, false, _, c1, hlo, c5⟩⟩ c5 c6 k
    · exact k _ _ D.TIz D.TITO D.TIi1 D.TIi2 a1
    · exact a4.at fun o e => k _ o D.l1z D.l1TO D.l1i1 D.l1i2 e
    · exact a5.at fun o e => k _ o D.l2z D.l2TO D.l2i1 D.l2i2 e
  · have hT : ∀ {c : Addr}, c < Z.lo → T ≠ c := fun h e => Nat.lt_irrefl _ (Nat.lt_of_lt_of_le (e ▸ h) b2)
    refine wpAny_pyNext_zip_item_held D b1 b3 a1 a2 a3 a4 a5 hx hy fun h' c1 c3 c4 c5 c6 k => q h' ⟨?_, c3, c4, ?_, ?_, .inr ⟨T, true, u, c1, b2, ?_⟩⟩ c5 c6 fun b o n1 _ n3 n4 e => k b o n1 n3 n4 e
    · exact k _ _ D.TIz D.TIi1 D.TIi2 a1
    · exact a4.at fun o e => k _ o D.l1z D.l1i1 D.l1i2 e
    · exact a5.at fun o e => k _ o D.l2z D.l2i1 D.l2i2 e
    · exact k _ _ (hT Z.low.1) (hT Z.low.2.2.2.1) (hT Z.low.2.2.2.2.1) b3
theorem Zp.stop {i : Nat} {Q : Option Value → Shared → Prop} (hh : A.handled = none) (t : Z.St xs ys s.heap i) (he : xs[i]? = none ∨ ys[i]? = none)
    (q : ∀ h', (∀ b o, b ≠ Z.z → b ≠ Z.TO → b ≠ Z.i1 → b ≠ Z.i2 → s.heap.get? b = some o → h'.get? b = some o) → Q none { s with heap := h' }) : wpAny (model P w) A (pyNext (.ref Z.z)) Q E s := by
  obtain ⟨a1, a2, a3, a4, a5, a6⟩ := t
  rcases a6 with ⟨b1, a, b, b2⟩ | ⟨T, f, u, b1, b2, b3⟩
  · exact wpAny_pyNext_zip_end hh Z.D b1 a1 b2 a2 a3 a4 a5 he fun h' k => q h' k
  · exact wpAny_pyNext_zip_end_held hh Z.D b1 b3 a1 a2 a3 a4 a5 he fun h' k => q h' fun b o n1 _ n3 n4 e => k b o n1 n3 n4 e
/-- the pairs that are laid -/
structure Laid (xs ys : Array Value) (lo : Addr) (h : Heap) (as : List Addr) : Prop where
  up : as.Pairwise (· < ·)
  big : ∀ a ∈ as, lo ≤ a
  at' : ∀ (j : Nat) (a : Addr), as[j]? = some a → ∃ x y, xs[j]? = some x ∧ ys[j]? = some y ∧ IsPair h a x y
theorem Laid.lt {lo : Addr} {h : Heap} {as : List Addr} (l : Laid xs ys lo h as) {a : Addr} (ha : a ∈ as) : a < h.objs.size := by
  obtain ⟨j, hj⟩ := List.mem_iff_getElem?.mp ha
  obtain ⟨_, _, _, _, e⟩ := l.at' j a hj
  exact Heap.lt_size e
theorem Laid.keep {lo : Addr} {h h' : Heap} {as : List Addr} (l : Laid xs ys lo h as) (k : ∀ b o, lo ≤ b → h.get? b = some o → h'.get? b = some o) : Laid xs ys lo h' as :=
  ⟨l.up, l.big, fun j a hj => by
    obtain ⟨x, y, h1, h2, h3⟩ := l.at' j a hj
    exact ⟨x, y, h1, h2, k _ _ (l.big a (List.mem_of_getElem? hj)) h3⟩⟩
theorem Laid.push {lo : Addr} {h : Heap} {as : List Addr} {x y : Value} {p : Addr} (l : Laid xs ys lo h as) (h1 : ∀ a ∈ as, a < p) (h2 : lo ≤ p) (hx : xs[as.length]? = some x) (hy : ys[as.length]? = some y) (e : IsPair h p x y) : Laid xs ys lo h (as ++ [p]) := by
  refine ⟨List.pairwise_append.mpr ⟨l.up, List.pairwise_singleton _ _, fun a ha b hb => ?_⟩, fun a ha => ?_, fun j a hj => ?_⟩
  · rw [List.mem_singleton.mp hb]
    exact h1 a ha
  · rcases List.mem_append.mp ha with ha | ha
    · exact l.big a ha
    · rw [List.mem_singleton.mp ha]
      exact h2
  · by_cases c : j < as.length
    · rw [List.getElem?_append_left c] at hj
      exact l.at' j a hj
    · rw [List.getElem?_append_right (by omega)] at hj
      have z : j - as.length = 0 := by
        have q := (List.getElem?_eq_some_iff.mp hj).1
        rw [List.length_singleton] at q
        omega
      rw [z] at hj
      cases hj
      have e2 : j = as.length := by omega
      exact ⟨x, y, by rw [e2]; exact hx, by rw [e2]; exact hy, e⟩
abbrev lstO (acc : Array Value) (c : Nat) : Obj := { cls := .type "list", dict := none, data := .seq acc c, slots := #[] }
theorem Zp.loop {R : Result → Shared → Prop} (hh : A.handled = none) (hn : min xs.size ys.size ≤ sizeLine) (res : Value) {g : Heap}
    (hR : ∀ (h' : Heap) (acc : Array Value) (c : Nat) (as : List Addr), (∀ b o, b ≠ Z.S → b ≠ Z.z → b ≠ Z.TO → b ≠ Z.i1 → b ≠ Z.i2 → g.get? b = some o → h'.get? b = some o) → h'.get? Z.S = some (lstO acc c) → as.length = min xs.size ys.size → Laid xs ys Z.lo h' as →
      acc.toList = as.map Value.ref → R (.ok (.ret res)) { s with heap := h' }) :
    ∀ (k i : Nat) (h : Heap) (c : Nat) (acc : Array Value) (as : List Addr), min xs.size ys.size - i = k → i ≤ min xs.size ys.size → Z.St xs ys h i → Z.lo ≤ h.objs.size → (∀ b o, b ≠ Z.S → b ≠ Z.z → b ≠ Z.TO → b ≠ Z.i1 → b ≠ Z.i2 → g.get? b = some o → h.get? b = some o) →
      h.get? Z.S = some (lstO acc c) → as.length = i → Laid xs ys Z.lo h as → acc.toList = as.map Value.ref → codeAny (model P w) A (.builtin "list.extend.loop" ⟨[.ref Z.S, .ref Z.z, res], []⟩) R { s with heap := h } := by
  obtain ⟨z1, z2, z3, z4, z5, z6, z7, z8⟩ := Z.low
  intro k
  induction k with
  | zero =>
    intro i h c acc as hk hi st hlo fr hS hl L ha
    refine codeAny_builtin PySem.F.entry_extend_loop ?_
    rw [Around.under_plainId PySem.F.plain_extend_loop _]
    show wpAny _ A.in1 (pyNext (.ref Z.z) >>= _) _ _ _
    refine wpAny_bind (Z.stop (s := { s with heap := h }) (A := A.in1) hh st ?_ fun h' k => ?_)
    · by_cases q : xs.size ≤ i
      · exact .inl (Array.getElem?_eq_none q)
      · exact .inr (Array.getElem?_eq_none (by omega))
    · refine wpAny_pure (hR h' acc c as (fun b o n1 n2 n3 n4 n5 e => k b o n2 n3 n4 n5 (fr b o n1 n2 n3 n4 n5 e)) (k _ _ Z.Sz Z.STO Z.Si1 Z.Si2 hS) (by omega) (L.keep fun b o hb e => ?_) ha)
      exact k b o (Nat.ne_of_gt (Nat.lt_of_lt_of_le z1 hb)) (Nat.ne_of_gt (Nat.lt_of_lt_of_le z3 hb)) (Nat.ne_of_gt (Nat.lt_of_lt_of_le z4 hb)) (Nat.ne_of_gt (Nat.lt_of_lt_of_le z5 hb)) e
  | succ k ih =>
    intro i h c acc as hk hi st hlo fr hS hl L ha
    have hx : i < xs.size := by omega
    have hy : i < ys.size := by omega
    have sz : acc.size = i := by rw [← Array.length_toList, ha, List.length_map, hl]
    refine codeAny_builtin PySem.F.entry_extend_loop ?_
    rw [Around.under_plainId PySem.F.plain_extend_loop _]
    show wpAny _ A.in1 (pyNext (.ref Z.z) >>= _) _ _ _
    refine wpAny_bind (Z.item (s := { s with heap := h }) (A := A.in1) st hlo (Array.getElem?_eq_getElem hx) (Array.getElem?_eq_getElem hy) fun h' st' new size k => ?_)
    have hS' := k _ _ Z.Sz Z.STO Z.Si1 Z.Si2 hS
    have oth : ∀ b o, b ≠ Z.S → h'.get? b = some o → (h'.update Z.S (Obj.mapSeq (·.push (Value.ref h.objs.size)))).get? b = some o := fun b o n e => (Heap.get?_update_other _ _ (Ne.symm n)).trans e
    have Slt : Z.S < h.objs.size := Nat.lt_of_lt_of_le z8 hlo
    show wpAny _ A.in1 (updateSeq Z.S (·.push (Value.ref h.objs.size)) >>= _) _ _ _
    refine wpAny_bind (wpAny_updateSeq hS' rfl (wpAny_pure ⟨plainId_quiet PySem.F.plain_extend_loop _, ?_⟩) (by rw [sz]; omega) (by show (acc.push _).size ≤ sizeLine + 1; rw [Array.size_push, sz]; omega))
    have far : ∀ {b : Addr}, Z.lo ≤ b → b ≠ Z.S := fun h e => Nat.lt_irrefl _ (Nat.lt_of_lt_of_le (e ▸ z8) h)
    have at1 : IsPair (h'.update Z.S (Obj.mapSeq (·.push (Value.ref h.objs.size)))) h.objs.size xs[i] ys[i] := oth _ _ (far hlo) new
    refine ih (i + 1) _ _ (acc.push (Value.ref h.objs.size)) (as ++ [h.objs.size]) (by omega) (by omega) (st'.keep Z oth) ?_ (fun b o n1 n2 n3 n4 n5 e => oth b o n1 (k b o n2 n3 n4 n5 (fr b o n1 n2 n3 n4 n5 e))) (Heap.get?_update_self _ hS' rfl) (by rw [List.length_append, hl]; rfl) ?_ (by rw [Array.toList_push, ha, List.map_append]; rfl)
    · exact Nat.le_trans hlo (Nat.le_of_lt (Heap.lt_size at1))
    · refine Laid.push (L.keep fun b o hb e => oth b o (far hb) ?_) (fun a m => L.lt m) hlo (by rw [hl]; exact Array.getElem?_eq_getElem hx) (by rw [hl]; exact Array.getElem?_eq_getElem hy) at1
      exact k b o (Nat.ne_of_gt (Nat.lt_of_lt_of_le z1 hb)) (Nat.ne_of_gt (Nat.lt_of_lt_of_le z3 hb)) (Nat.ne_of_gt (Nat.lt_of_lt_of_le z4 hb)) (Nat.ne_of_gt (Nat.lt_of_lt_of_le z5 hb)) e
end
end RT

namespace RT
open PySem PySem.Spec PyProof.Rows L2
theorem zip_no_len : typeLookup (.type "zip") "__len__" = pure none := by rw [typeLookup_type, builtinLookup_eq_fast]; kernel_rfl
theorem zip_no_hint : typeLookup (.type "zip") "__length_hint__" = pure none := by rw [typeLookup_type, builtinLookup_eq_fast]; kernel_rfl
section
variable {P : Program} {w : World} {A : Around} {E : Value → Shared → Prop} {s : Shared} {xs ys : Array Value} (Z : Zp)
theorem Zp.extend {R : Result → Shared → Prop} (hh : A.handled = none) (hn : min xs.size ys.size ≤ sizeLine) (res : Value) (c : Nat) (st : Z.St xs ys s.heap 0) (hlo : Z.lo ≤ s.heap.objs.size) (hS : s.heap.get? Z.S = some (lstO #[] c))
    (hf : ∃ f0, IsZip s.heap Z.z Z.TI Z.TO f0)
    (hR : ∀ (h' : Heap) (acc : Array Value) (c : Nat) (as : List Addr), (∀ b o, b ≠ Z.S → b ≠ Z.z → b ≠ Z.TO → b ≠ Z.i1 → b ≠ Z.i2 → s.heap.get? b = some o → h'.get? b = some o) → h'.get? Z.S = some (lstO acc c) → as.length = min xs.size ys.size → Laid xs ys Z.lo h' as →
      acc.toList = as.map Value.ref → R (.ok (.ret res)) { s with heap := h' }) :
    wpAny (model P w) A.in1 (Builtin.List.listExtendWith (.ref Z.S) (.ref Z.z) res)
      (fun fin t => match fin with | .done f => R (.ok f) t | .again c' => c'.quiet = true ∧ codeAny (model P w) A c' R t) (fun e t => R (.error e) t) s := by
  obtain ⟨f0, hz⟩ := hf
  have ty : s.TypeIs (.ref Z.z) "zip" := ⟨_, hz, rfl⟩
  unfold Builtin.List.listExtendWith
  refine wpAny_bind (wpAny_typeOf ty ?_)
  rw [if_neg (by
    rw [show Builtin.List.listSameRef (.ref Z.S) (.ref Z.z) = false by simp [Builtin.List.listSameRef, Z.Sz], show (Value.type "zip" == Value.type "list") = false by decide, show (Value.type "zip" == Value.type "tuple") = false by decide]
    simp)]
  refine wpAny_bind (wpAny_pyIter_zip hz ?_)
  refine wpAny_bind (wpAny_holding ?_)
  unfold Builtin.List.listLengthHint
  refine wpAny_bind (wpAny_specialOf ty zip_no_len ?_)
  show wpAny _ A.in1 (specialOf (Value.ref Z.z) (Str.ofString "__length_hint__") >>= _) _ _ _
  refine wpAny_bind (wpAny_specialOf ty zip_no_hint (wpAny_pure ?_))
  refine wpAny_bind (wpAny_rule (wpAny_bind ?_))
  show wpAny _ _ (updateSeq Z.S (·.push .none) >>= fun _ => updateSeq Z.S (·.pop)) _ _ _
  refine wpAny_bind (wpAny_updateSeq hS rfl ?_)
  have S2 := Heap.get?_update_self (Obj.mapSeq (·.push Value.none)) hS rfl
  refine wpAny_updateSeq (hz := by seq_fits) S2 rfl ?_
  have S3 := Heap.get?_update_self (Obj.mapSeq (·.pop)) S2 rfl
  have oth : ∀ b o, b ≠ Z.S → s.heap.get? b = some o → ((s.heap.update Z.S (Obj.mapSeq (·.push Value.none))).update Z.S (Obj.mapSeq (·.pop))).get? b = some o := fun b o n e => by
    rw [Heap.get?_update_other _ _ (Ne.symm n), Heap.get?_update_other _ _ (Ne.symm n)]
    exact e
  refine wpAny_pure ⟨plainId_quiet PySem.F.plain_extend_loop _, ?_⟩
  refine Z.loop (g := s.heap) hh hn res hR _ 0 _ _ _ [] rfl (Nat.zero_le _) (st.keep Z oth) ?_ (fun b o n _ _ _ _ e => oth b o n e) S3 rfl ⟨List.Pairwise.nil, (fun _ h => nomatch h), fun j a hj => by simp at hj⟩ rfl
  rw [Heap.size_update, Heap.size_update]
  exact hlo
theorem Zp.init {R : Result → Shared → Prop} (hh : A.handled = none) (hn : min xs.size ys.size ≤ sizeLine) (st : Z.St xs ys s.heap 0) (hlo : Z.lo ≤ s.heap.objs.size) (hS : s.heap.get? Z.S = some (lstO #[] 0))
    (hf : ∃ f0, IsZip s.heap Z.z Z.TI Z.TO f0)
    (hR : ∀ (h' : Heap) (acc : Array Value) (c : Nat) (as : List Addr), (∀ b o, b ≠ Z.S → b ≠ Z.z → b ≠ Z.TO → b ≠ Z.i1 → b ≠ Z.i2 → s.heap.get? b = some o → h'.get? b = some o) → h'.get? Z.S = some (lstO acc c) → as.length = min xs.size ys.size → Laid xs ys Z.lo h' as →
      acc.toList = as.map Value.ref → R (.ok (.ret .none)) { s with heap := h' }) :
    wpAny (model P w) A.in1 (Builtin.«list.__init__» ⟨[.ref Z.S, .ref Z.z], []⟩)
      (fun fin t => match fin with | .done f => R (.ok f) t | .again c' => c'.quiet = true ∧ codeAny (model P w) A c' R t) (fun e t => R (.error e) t) s := by
  show wpAny _ _ (Builtin.List.listItems (.ref Z.S) >>= fun old => Builtin.List.listUpdate (.ref Z.S) (fun _ => #[]) >>= fun _ => letGo old.toList.reverse >>= fun _ => Builtin.List.listExtendWith (.ref Z.S) (.ref Z.z) .none) _ _ s
  unfold Builtin.List.listItems
  refine wpAny_bind (wpAny_bind (wpAny_seqItems hS rfl (wpAny_pure ?_)))
  show wpAny _ _ (updateSeq Z.S (fun _ => #[]) >>= _) _ _ s
  refine wpAny_bind (wpAny_updateSeq hS rfl ?_)
  have S2 := Heap.get?_update_self (Obj.mapSeq (fun _ => (#[] : Array Value))) hS rfl
  have oth : ∀ b o, b ≠ Z.S → s.heap.get? b = some o → (s.heap.update Z.S (Obj.mapSeq (fun _ => (#[] : Array Value)))).get? b = some o := fun b o n e => by
    rw [Heap.get?_update_other _ _ (Ne.symm n)]
    exact e
  refine wpAny_bind (wpAny_letGo ?_)
  refine Z.extend (s := { s with heap := s.heap.update Z.S (Obj.mapSeq (fun _ => (#[] : Array Value))) }) hh hn .none _ (st.keep Z oth) (by rw [Heap.size_update]; exact hlo) S2 (hf.imp fun f e => oth _ _ Z.Sz.symm e) fun h' acc c as k a1 a2 a3 a4 => ?_
  exact hR h' acc c as (fun b o n1 n2 n3 n4 n5 e => k b o n1 n2 n3 n4 n5 (oth b o n1 e)) a1 a2 a3 a4
end
end RT

namespace RT
open PySem PySem.Spec PyProof.Rows L2
section
variable {P : Program} {w : World} {A : Around} {E : Value → Shared → Prop} {s : Shared} {xs ys : Array Value}
/-- list(zip(xs, ys)), from the two lists on -/
theorem list_zip {l1 l2 : Addr} {Q : Value → Shared → Prop} (hh : A.handled = none) (hn : min xs.size ys.size ≤ sizeLine) (h1 : s.heap.IsList l1 xs) (h2 : s.heap.IsList l2 ys)
    (q : ∀ (h' : Heap) (S : Addr) (acc : Array Value) (c : Nat) (as : List Addr), (∀ b o, s.heap.get? b = some o → h'.get? b = some o) → s.heap.objs.size ≤ S → S < s.heap.objs.size + 6 → h'.get? S = some (lstO acc c) → as.length = min xs.size ys.size →
      Laid xs ys (s.heap.objs.size + 6) h' as → acc.toList = as.map Value.ref → Q (.ref S) { s with heap := h' }) :
    wpAny (model P w) A (call (.type "zip") [.ref l1, .ref l2]) (fun v t => wpAny (model P w) A (call (.type "list") [v]) Q E t) E s := by
  obtain ⟨o1, e1, _⟩ := id h1
  obtain ⟨o2, e2, _⟩ := id h2
  have b1 : l1 < s.heap.objs.size := Heap.lt_size e1
  have b2 : l2 < s.heap.objs.size := Heap.lt_size e2
  refine call_zip_2 h1 h2 fun h' hz hTI hTO hi1 hi2 hsz hk => ?_
  refine callType_codes (Q₁ := fun v t => v = .ref h'.objs.size ∧ t = { s with heap := h'.push (lstO #[] 0) }) PySem.F.called_list (PySem.F.typeCall_list_1 _) PySem.F.entry_list_init (code_list_new _ ⟨rfl, rfl⟩) fun v t ht => ?_
  obtain ⟨rfl, rfl⟩ := ht
  have at0 : (h'.push (lstO #[] 0)).get? h'.objs.size = some (lstO #[] 0) := Heap.get?_push_size _ rfl
  have up : ∀ b o, h'.get? b = some o → (h'.push (lstO #[] 0)).get? b = some o := fun b o e => Heap.get?_push_of_some _ e
  refine ⟨⟨_, at0, rfl⟩, PySem.F.args_list_init_2 _ _, ?_⟩
  have nS : ∀ c, c < s.heap.objs.size + 5 → h'.objs.size ≠ c := fun c hc => by
    rw [hsz]
    omega
  have lw : s.heap.objs.size + 4 < s.heap.objs.size + 6 ∧ s.heap.objs.size + 2 < s.heap.objs.size + 6 ∧ s.heap.objs.size + 3 < s.heap.objs.size + 6 ∧ s.heap.objs.size < s.heap.objs.size + 6 ∧ s.heap.objs.size + 1 < s.heap.objs.size + 6 ∧ l1 < s.heap.objs.size + 6 ∧ l2 < s.heap.objs.size + 6 ∧ h'.objs.size < s.heap.objs.size + 6 :=
    ⟨by omega, by omega, by omega, by omega, by omega, Nat.lt_of_lt_of_le b1 (Nat.le_add_right _ 6), Nat.lt_of_lt_of_le b2 (Nat.le_add_right _ 6), by rw [hsz]; omega⟩
  let Z : Zp := ⟨s.heap.objs.size + 4, s.heap.objs.size + 2, s.heap.objs.size + 3, s.heap.objs.size, s.heap.objs.size + 1, l1, l2, h'.objs.size, s.heap.objs.size + 6, PySem.W.ktu_apart s.heap.objs.size l1 l2 b1 b2, lw, nS _ (by omega), nS _ (by omega), nS _ (by omega), nS _ (by omega), nS _ (by omega), nS _ (Nat.lt_of_lt_of_le b1 (Nat.le_add_right _ 5)), nS _ (Nat.lt_of_lt_of_le b2 (Nat.le_add_right _ 5))⟩
  refine Z.init (xs := xs) (ys := ys) (s := { s with heap := h'.push (lstO #[] 0) }) (A := A.in1) hh hn ⟨up _ _ hTI, hi1.at fun o e => up _ o e, hi2.at fun o e => up _ o e, (h1.at fun o e => hk _ o e).at fun o e => up _ o e, (h2.at fun o e => hk _ o e).at fun o e => up _ o e, .inl ⟨up _ _ hz, _, _, up _ _ hTO⟩⟩ ?_ at0 ⟨_, up _ _ hz⟩ fun h'' acc c as k a1 a2 a3 a4 => ?_
  · show s.heap.objs.size + 6 ≤ (h'.push (lstO #[] 0)).objs.size
    rw [Heap.size_push, hsz]
    exact Nat.le_refl _
  · refine ⟨rfl, q h'' h'.objs.size acc c as (fun b o e => ?_) (by rw [hsz]; exact Nat.le_add_right _ 5) (by rw [hsz]; exact Nat.lt_succ_self _) a1 a2 a3 a4⟩
    have ne : ∀ k, b ≠ s.heap.objs.size + k := fun k z => Nat.lt_irrefl _ (Nat.lt_of_lt_of_le (show s.heap.objs.size + k < s.heap.objs.size from z ▸ Heap.lt_size e) (Nat.le_add_right _ k))
    exact k b o (show b ≠ h'.objs.size from hsz ▸ ne 5) (ne 4) (ne 3) (ne 0) (ne 1) (up b o (hk b o e))
end
end RT

namespace RT
open PySem PySem.Spec PyProof.Rows L2
theorem vals_refs : ∀ as : List Addr, Vals (as.map V.ref) (as.map Value.ref)
  | [] => .nil
  | a :: r => .cons rfl (vals_refs r)
theorem vals_at : ∀ {xs : List V} {us : List Value}, Vals xs us → ∀ (j : Nat) (u : Value), us[j]? = some u → ∃ x, xs[j]? = some x ∧ RelV x u
  | _, _, .nil, j, u, h => by simp at h
  | _, _, .cons r t, 0, u, h => by
    cases h
    exact ⟨_, rfl, r⟩
  | _, _, .cons r t, j + 1, u, h => vals_at t j u (by simpa using h)
section
variable {X : Cx}
def tLZ (K : PySem.W.Frag) (ta : TA) : TE := fun σ H Q => ta σ H fun vs H1 => ∃ (a b : Addr) (xs ys : List V), vs = [.ref a, .ref b] ∧ SqL K H1 a xs ∧ SqL K H1 b ys ∧
  ∀ (H2 : Hp) (l : Addr) (ps : List Addr), Kp M0 H1 H2 → H1 l = none → H2 l = some (.lst (ps.map V.ref)) → ps.length = min xs.length ys.length →
    (∀ (j : Nat) (p : Addr), ps[j]? = some p → ∃ x y, xs[j]? = some x ∧ ys[j]? = some y ∧ H2 p = some (.tup [x, y])) → Q (.ref l) H2
theorem pe_listZip {e e2 : Expr} {ta : TA} {p p2 q pos : Pos} (hc : X.calm = true) (hg : Gl X "list") (hm : X.mg "list" = none) (hg2 : Gl X "zip") (hm2 : X.mg "zip" = none) (ha : PA X [e, e2] ta)
    (hs : starEach [e, e2] X.env = (false, eval e X.env) :: starEach [e2] X.env := by rfl) (hpl : (backTo q (starEach [e2] X.env)).any (·.1) = false := by rfl)
    (na : starEach [(.Call (.Name "zip" p2) [e, e2] [] q : Expr)] X.env = (false, eval (.Call (.Name "zip" p2) [e, e2] [] q) X.env) :: starEach [] X.env := by rfl) :
    PE X (.Call (.Name "list" p) [.Call (.Name "zip" p2) [e, e2] [] q] [] pos) (tLZ X.K ta) := by
  refine ⟨fun pins s σ H Q I h => ?_⟩
  refine Call_ (ld_blt I hg hm boot_list ?_)
  refine PyProof.Rows.callWith_type1 (PyProof.Rows.args_cons ?_ na) na rfl
  refine Call_ (ld_blt I hg2 hm2 PyProof.Rows.boot_zip (PyProof.Rows.callWith_type1 (thn (ha.run q pins s σ H _ I h) fun us s1 ⟨vs, H1, I1, r1, q1⟩ => ?_) hs hpl))
  obtain ⟨a, b, xs, ys, rfl, hx, hy, q1⟩ := q1
  obtain ⟨u1, u2, rfl, ra, rb⟩ := vals2 r1
  cases ra
  cases rb
  obtain ⟨ix, vx, px, zx⟩ := I1.list hx
  obtain ⟨iy, vy, py, zy⟩ := I1.list hy
  have lx : ix.toArray.size = xs.length := by rw [List.size_toArray, vx.length]
  have ly : iy.toArray.size = ys.length := by rw [List.size_toArray, vy.length]
  refine wpAny_mono (list_zip (Q := EP X pins σ Q) (I1.ok.hd hc) (by rw [lx]; exact Nat.le_trans (Nat.min_le_left ..) zx) px.isList py.isList fun h' S acc c as k b1 b2 e1 e2 L e3 => ?_) (fun v t z => PyProof.Rows.args_nil z) (fun _ _ z => z)
  have hS : H1 S = none := I1.hok.fresh b1
  have big : ∀ a ∈ as, s1.heap.objs.size ≤ a ∧ a ≠ S := fun a m => by
    have z := L.big a m
    exact ⟨Nat.le_trans (Nat.le_add_right _ 6) z, fun e => Nat.lt_irrefl _ (Nat.lt_of_lt_of_le b2 (e ▸ z))⟩
  have len : as.length ≤ sizeLine := by
    rw [e2, lx]
    exact Nat.le_trans (Nat.min_le_left ..) zx
  have J : Inv X pins σ (upd H1 S (.lst (as.map V.ref))) { s1 with heap := h' } :=
    I1.laid (t' := s1.toks) k b1 ⟨by rw [List.length_map]; exact len, acc.toList, c, by rw [e3]; exact vals_refs as, e1⟩
  have nd : as.Nodup := L.up.imp fun h => Nat.ne_of_lt h
  obtain ⟨H2, J2, g2, t2⟩ := L2.DX.takeT (tk := s1.toks) (P := fun p vs => ∃ (j : Nat) (x y : V), as[j]? = some p ∧ xs[j]? = some x ∧ ys[j]? = some y ∧ vs = [x, y]) I1 as _ J nd fun p m => by
    obtain ⟨j, hj⟩ := List.mem_iff_getElem?.mp m
    obtain ⟨vx', vy', f1, f2, f3⟩ := L.at' j p hj
    obtain ⟨x, g1, rx⟩ := vals_at vx j vx' (by simpa using f1)
    obtain ⟨y, g2, ry⟩ := vals_at vy j vy' (by simpa using f2)
    refine ⟨(big p m).1, by rw [upd_ne (big p m).2]; exact I1.hok.fresh (big p m).1, [x, y], ⟨j, x, y, hj, g1, g2, rfl⟩, fun H2 => ⟨by rw [sizeLine_eq]; show 2 ≤ _; omega, [vx', vy'], .cons rx (.cons ry .nil), _, f3, rfl, _, rfl⟩⟩
  refine ⟨.ref S, H2, J2, rfl, q1 H2 S as (fun b o _ e => g2 b o (by rw [upd_ne (ne_of_none e hS)]; exact e)) hS (g2 _ _ upd_same) (by rw [e2, lx, ly]) fun j p hj => ?_⟩
  obtain ⟨vs, ⟨j', x, y, h1, h2, h3, rfl⟩, h5⟩ := t2 p (List.mem_of_getElem? hj)
  have ej : j' = j := by
    obtain ⟨l1, m1⟩ := List.getElem?_eq_some_iff.mp h1
    obtain ⟨l2, m2⟩ := List.getElem?_eq_some_iff.mp hj
    have up := List.pairwise_iff_getElem.mp L.up
    rcases Nat.lt_trichotomy j' j with h | h | h
    · have z := up j' j l1 l2 h
      rw [m1, m2] at z
      exact absurd z (Nat.lt_irrefl _)
    · exact h
    · have z := up j j' l2 l1 h
      rw [m1, m2] at z
      exact absurd z (Nat.lt_irrefl _)
  subst ej
  exact ⟨x, y, h2, h3, h5⟩
end
end RT

/-! frames, once more; forms that are drawn -/
namespace RT
open PySem PySem.Spec PyProof.Rows L2
theorem none_back {M : Addr → Prop} {H H1 : Hp} {p : Addr} (k : Kp M H H1) (hp : ¬ M p) (n : H1 p = none) : H p = none := by
  cases z : H p with
  | none => rfl
  | some u =>
    have q := k p u hp z
    rw [n] at q
    cases q
theorem Kp.own {M : Addr → Prop} {H H1 : Hp} {p : Addr} {o : HO} (k : Kp M H H1) (n : H p = none) : Kp M H (upd H1 p o) := fun b u hb e => by
  rw [upd_ne (ne_of_none e n)]
  exact k b u hb e
theorem Pot.off {H : Hp} {pd po p : Addr} {t : Nat} {ex : Ex} {o : HO} (P : Pot H pd po t ex) (h : ¬ PM pd po p) : Pot (upd H p o) pd po t ex :=
  P.keep (M := fun b => b = p) (Kp.put rfl) (fun e => h (.inl e.symm)) (fun e => h (.inr e.symm))
theorem Pot.noT {H : Hp} {pd po : Addr} {t : Nat} {ex : Ex} (P : Pot H pd po t ex) : ∀ a xs, PM pd po a → H a ≠ some (.tup xs) := no_tup_pot P
theorem noT0 {H : Hp} : ∀ (a : Addr) xs, M0 a → H a ≠ some (.tup xs) := fun _ _ z => z.elim
/-- over a list, numbered -/
theorem lc_enum {K : PySem.W.Frag} {a : Addr} {xs : List V} {g : TG} {tt : TT} {te : TE} {vs : List Nat} {σ : L2.St} {H1 : Hp} {D : Addr} {Qd : Hp → Prop} (Pv : Nat → Hp → Prop) (h0 : Pv 0 (upd H1 D (.lst []))) (hl : ∀ i H, i ≤ xs.length → Pv i H → SqL K H a xs)
    (hs : ∀ i x H T, xs[i]? = some x → Pv i H → H T = none → g (.ref T) (wipe σ vs) (upd H T (.tup [.int (i : Nat), x])) fun σ2 H2 => wipe σ2 vs = wipe σ vs ∧ tt σ2 H2 fun b H3 =>
      if b = true then te σ2 H3 fun y H4 => ∃ acc, H4 D = some (.lst acc) ∧ acc.length < sizeLine ∧ Pv (i + 1) (upd H4 D (.lst (acc ++ [y]))) else Pv (i + 1) H3) (hd : ∀ H, Pv xs.length H → Qd H) :
    ∃ W : Nat → Nat → Hp → Prop, (∃ m, W 0 m (upd H1 D (.lst []))) ∧ ∀ i m H, W i m H →
      ((Ite K a).stop i H ∧ Qd H) ∨ ((Ite K a).go i H ∧ ∃ Nx : Hp → Prop, (∀ H', Nx H' → ∃ m', m' < m ∧ W (i + 1) m' H') ∧ ∀ x H', (Ite K a).yld i H x H' → g x (wipe σ vs) H' fun σ2 H2 => wipe σ2 vs = wipe σ vs ∧ tt σ2 H2 fun b H3 =>
        if b = true then te σ2 H3 fun y H4 => ∃ acc, H4 D = some (.lst acc) ∧ acc.length < sizeLine ∧ Nx (upd H4 D (.lst (acc ++ [y]))) else Nx H3) := by
  refine ⟨fun i m H => m = xs.length - i ∧ i ≤ xs.length ∧ Pv i H, ⟨xs.length, by simp, Nat.zero_le _, h0⟩, ?_⟩
  rintro i m H ⟨rfl, hi, p⟩
  have q := hl i H hi p
  by_cases hlt : i < xs.length
  · refine .inr ⟨⟨xs, xs[i], q, by simp [hlt]⟩, Pv (i + 1), fun H' p' => ⟨xs.length - (i + 1), by omega, rfl, hlt, p'⟩, fun x H' y => ?_⟩
    obtain ⟨T, x', rfl, nT, rfl, y⟩ := y
    exact hs i x' H T (y xs q) p nT
  · have e : i = xs.length := by omega
    subst e
    exact .inl ⟨⟨xs, q, Nat.le_refl _⟩, hd H p⟩
theorem putK_new {kvs : List (Key × V)} {k : Key} {v : V} (h : ∀ p ∈ kvs, p.1 ≠ k) : putK kvs k v = kvs ++ [(k, v)] := by
  unfold putK
  rw [if_neg]
  intro z
  obtain ⟨p, hp, e⟩ := List.any_eq_true.mp z
  exact h p hp (of_decide_eq_true e)
/-- a dict of names, each with True -/
def metK (ms : List Str) : List (Key × V) := ms.map fun x => ((.inr x : Key), .bl true)
theorem metK_get (ms : List Str) (x : Str) : (valV (metK ms) (.inr x)).isSome = decide (x ∈ ms) := by
  induction ms with
  | nil => simp [metK, valV_nil]
  | cons m r ih =>
    by_cases e : m = x
    · subst e
      show (valV (((.inr m : Key), V.bl true) :: metK r) (.inr m)).isSome = _
      rw [valV_pos rfl]
      simp
    · show (valV (((.inr m : Key), V.bl true) :: metK r) (.inr x)).isSome = _
      rw [valV_neg (fun z => e (Sum.inr.inj z)), ih]
      have e2 : x ≠ m := fun z => e z.symm
      simp [e2]
theorem metK_put {ms : List Str} {x : Str} (h : x ∉ ms) : putK (metK ms) (.inr x) (.bl true) = metK (ms ++ [x]) := by
  rw [putK_new]
  · unfold metK
    rw [List.map_append]
    rfl
  · intro p hp e
    obtain ⟨m, hm, rfl⟩ := List.mem_map.mp hp
    exact h (Sum.inr.inj e ▸ hm)
theorem metK_putIn {ms : List Str} {x : Str} (h : x ∈ ms) : putK (metK ms) (.inr x) (.bl true) = metK ms := by
  unfold putK
  rw [if_pos]
  · unfold metK
    rw [List.map_map]
    refine List.map_congr_left fun a _ => ?_
    show (if (Sum.inr a : Key) = .inr x then ((Sum.inr a : Key), V.bl true) else (Sum.inr a, V.bl true)) = _
    split <;> rfl
  · rw [List.any_eq_true]
    exact ⟨(.inr x, .bl true), List.mem_map.mpr ⟨x, h, rfl⟩, decide_eq_true rfl⟩
theorem metK_some (ms : List Str) (x : Str) (nd : ms.Nodup) : ∃ ns : List Str, putK (metK ms) (.inr x) (.bl true) = metK ns ∧ ns.length ≤ ms.length + 1 ∧ 1 ≤ ns.length ∧ ns.Nodup ∧ ∀ z ∈ ns, z ∈ ms ∨ z = x := by
  by_cases h : x ∈ ms
  · exact ⟨ms, metK_putIn h, Nat.le_succ _, List.length_pos_of_mem h, nd, fun z hz => .inl hz⟩
  · refine ⟨ms ++ [x], metK_put h, by rw [List.length_append]; exact Nat.le_refl _, by rw [List.length_append]; exact Nat.le_add_left .., ?_, fun z hz => (List.mem_append.mp hz).imp id List.mem_singleton.mp⟩
    rw [List.nodup_append]
    exact ⟨nd, by simp, fun a ha c hc e => h ((List.mem_singleton.mp hc) ▸ e ▸ ha)⟩
/-- a text or a number, whatever the heap -/
def Sm (v : V) : Prop := (∃ z : Str, v = .str z ∧ z.length ≤ 1000) ∨ ∃ i : Int, v = .int i
theorem Sm.rp {H : Hp} {v : V} (h : Sm v) : ∃ d, Rp H v d := by
  rcases h with ⟨z, rfl, l⟩ | ⟨i, rfl⟩
  · exact ⟨_, .str (Nat.le_of_lt (small1000 l))⟩
  · exact ⟨_, .int⟩
theorem Rps.pairs {H : Hp} : ∀ {ps : List Addr} {zs : List Str} {vs : List V} {ds : List D}, Rps H vs ds → zs.length = vs.length → ps.length = zs.length → (∀ z ∈ zs, z.length ≤ sizeLine) → (∀ (j : Nat) (p : Addr), ps[j]? = some p → ∃ x y, (zs.map V.str)[j]? = some x ∧ vs[j]? = some y ∧ H p = some (.tup [x, y])) → Rps H (ps.map V.ref) ((zs.zip ds).map fun p => .tup [.str p.1, p.2])
  | [], [], _, _, _, _, _, _, _ => .nil
  | p :: ps, z :: zs, v :: vs, d :: ds, .cons r t, l1, l2, hz, h => by
    obtain ⟨x, y, e1, e2, e3⟩ := h 0 p rfl
    cases e1
    cases e2
    exact .cons (.tup e3 (.cons (.str (hz z (List.mem_cons_self ..))) (.cons r .nil))) (Rps.pairs t (by simpa using l1) (by simpa using l2) (fun z hz1 => hz z (List.mem_cons_of_mem _ hz1)) fun j p hj => by
      have q := h (j + 1) p (by simpa using hj)
      simpa using q)
  | [], _ :: _, _, _, _, _, l, _, _ => by cases l
  | _ :: _, [], _, _, _, _, l, _, _ => by cases l
  | _ :: _, _ :: _, [], _, _, l, _, _, _ => by cases l

/-- room, told, signs of the pot: got and put -/
theorem Pot.x {H : Hp} {pd po : Addr} {t : Nat} {r o g : Int} (P : Pot H pd po t (some (r, o, g))) :
    (DGet H pd (.str "room") (some (.int r)) ∧ DGet H pd (.str "told") (some (.int o)) ∧ DGet H pd (.str "signs") (some (.int g))) ∧
    (∀ r' : Int, ∃ H', DPut H pd (.str "room") (.int r') H' ∧ Pot H' pd po t (some (r', o, g)) ∧ Kp (PM pd po) H H') ∧
    (∀ o' : Int, ∃ H', DPut H pd (.str "told") (.int o') H' ∧ Pot H' pd po t (some (r, o', g)) ∧ Kp (PM pd po) H H') ∧
    (∀ g' : Int, ∃ H', DPut H pd (.str "signs") (.int g') H' ∧ Pot H' pd po t (some (r, o, g')) ∧ Kp (PM pd po) H H') := by
  obtain ⟨s, ns, E⟩ := P.e
  have room : (6 : Nat) < sizeLine := by decide
  have put : ∀ ex, Pot (upd H pd (potD po s t ex)) pd po t ex := fun ex => ⟨⟨s, E.s0, E.s1, upd_same⟩, ns, E.len, E.nn, by rw [upd_ne E.ne.symm]; exact E.o⟩
  refine ⟨⟨DGet.k (k := .inr "room") E.d, DGet.k (k := .inr "told") E.d, DGet.k (k := .inr "signs") E.d⟩, fun r' => ?_, fun o' => ?_, fun g' => ?_⟩
  · exact ⟨_, DPut.k (k := .inr "room") E.d room, put (some (r', o, g)), Kp.put (.inl rfl)⟩
  · exact ⟨_, DPut.k (k := .inr "told") E.d room, put (some (r, o', g)), Kp.put (.inl rfl)⟩
  · exact ⟨_, DPut.k (k := .inr "signs") E.d room, put (some (r, o, g')), Kp.put (.inl rfl)⟩
/-- .. put for the first time -/
theorem Pot.xs {H : Hp} {pd po : Addr} {t : Nat} (P : Pot H pd po t none) (r o g : Int) :
    ∃ H1 H2 H3, DPut H pd (.str "room") (.int r) H1 ∧ DPut H1 pd (.str "told") (.int o) H2 ∧ DPut H2 pd (.str "signs") (.int g) H3 ∧ Pot H3 pd po t (some (r, o, g)) ∧ Kp (PM pd po) H H1 ∧ Kp (PM pd po) H1 H2 ∧ Kp (PM pd po) H2 H3 := by
  obtain ⟨s, ns, E⟩ := P.e
  have room : ∀ n, n ≤ 6 → n < sizeLine := fun n h => by rw [sizeLine_eq]; omega
  refine ⟨_, _, _, DPut.k (k := .inr "room") E.d (room 3 (by decide)), DPut.k (k := .inr "told") upd_same (room 4 (by decide)), DPut.k (k := .inr "signs") upd_same (room 5 (by decide)), ⟨⟨s, E.s0, E.s1, upd_same⟩, ns, E.len, E.nn, ?_⟩, Kp.put (.inl rfl), Kp.put (.inl rfl), Kp.put (.inl rfl)⟩
  rw [upd_ne E.ne.symm, upd_ne E.ne.symm, upd_ne E.ne.symm]
  exact E.o
/-- what the words for forms tell: a form, ready made -/
def FormQ (N : List Str) (pd po : Addr) (t T B : Nat) (H : Hp) (Q : VK) : Prop := ∀ (v : V) (f : Fo) (H' : Hp) (t' : Nat) (r' o' g' : Int), t' ≤ t + T → Rp H' v f.enc → f.ok N → f.wf → f.size ≤ B → Pot H' pd po t' (some (r', o', g')) → Kp (PM pd po) H H' → Q v H'
theorem FormQ.leaf {N : List Str} {pd po : Addr} {t T B : Nat} {H H1 : Hp} {Q : VK} (q : FormQ N pd po t T B H Q) (hB : 1 ≤ B) {t1 : Nat} {r o g : Int} (ht : t1 ≤ t + T) {w : Str} (hw : w ∈ ([("text" : Str), "sign", "word", "number", "pick"] : List Str)) {vs : List V} {ds : List D} {p : Addr} (np : H1 p = none) (hr : Rps H1 vs ds) (hwf : (Fo.leaf w ds).wf) (hP : Pot H1 pd po t1 (some (r, o, g))) (k : Kp (PM pd po) H H1) :
    Q (.ref p) (upd H1 p (.tup (.str w :: vs))) := by
  have k1 : Kp M0 H1 (upd H1 p (.tup (.str w :: vs))) := Kp.new np
  refine q _ (.leaf w ds) _ t1 r o g ht (.tup (vs := .str w :: vs) upd_same (.cons (.str ?_) (hr.keep k1 noT0))) hw hwf hB (hP.new np) (k.trans (Kp.new np))
  simp only [List.mem_cons, List.not_mem_nil, or_false] at hw
  rcases hw with rfl | rfl | rfl | rfl | rfl <;> decide
theorem FormQ.one {N : List Str} {pd po : Addr} {t T B : Nat} {H H1 : Hp} {Q : VK} (q : FormQ N pd po t T B H Q) {t1 : Nat} {r o g : Int} (ht : t1 ≤ t + T) {w : Str} (hw : w ∈ ([("skip" : Str), "spelt", "turned"] : List Str)) {v : V} {f : Fo} {vs : List V} {ds : List D} {p : Addr} (np : H1 p = none) (hv : Rp H1 v f.enc) (hf : f.ok N) (hB : 1 + f.size ≤ B) (hr : Rps H1 vs ds) (hwf : (Fo.one w f ds).wf) (hP : Pot H1 pd po t1 (some (r, o, g))) (k : Kp (PM pd po) H H1) :
    Q (.ref p) (upd H1 p (.tup (.str w :: v :: vs))) := by
  have k1 : Kp M0 H1 (upd H1 p (.tup (.str w :: v :: vs))) := Kp.new np
  refine q _ (.one w f ds) _ t1 r o g ht (.tup (vs := .str w :: v :: vs) upd_same (.cons (.str ?_) (.cons (hv.keep k1 noT0) (hr.keep k1 noT0)))) ⟨hw, hf⟩ hwf hB (hP.new np) (k.trans (Kp.new np))
  simp only [List.mem_cons, List.not_mem_nil, or_false] at hw
  rcases hw with rfl | rfl | rfl <;> decide
theorem FormQ.then {N : List Str} {pd po : Addr} {t t1 T T1 B B1 : Nat} {H H1 : Hp} {Q : VK} (q : FormQ N pd po t T B H Q) (ht : t1 + T1 ≤ t + T) (hB : B1 ≤ B) (k : Kp (PM pd po) H H1) : FormQ N pd po t1 T1 B1 H1 Q :=
  fun v f H' t' r' o' g' h1 h2 h3 hw h4 h5 h6 => q v f H' t' r' o' g' (Nat.le_trans h1 ht) h2 h3 hw (Nat.le_trans h4 hB) h5 (k.trans h6)
end RT

/-! picks that are drawn are well made -/
namespace RT
open PySem PySem.Spec PyProof.Rows L2
abbrev abL : List Nat := ("abx " : Str).cps.toList
abbrev enL : List Nat := (".!)" : Str).cps.toList
/-- a pick's text: up to two of abx and blank, then the end -/
def Pt (e : Nat) (z : Str) : Prop := ∃ b : List Nat, z = ⟨(b ++ [e]).toArray⟩ ∧ b.length ≤ 2 ∧ ∀ c ∈ b, c ∈ abL
/-- the thing at k -/
def Th (k : Nat) (d : D) : Prop := d = .str ⟨#[sg k]⟩ ∨ d = .str ⟨#[sg k, 111, 110]⟩ ∨ d = .int (k : Nat) ∨ (d = .str "" ∧ k = 0)
theorem sg_inj : ∀ j, j < 8 → ∀ k, k < 8 → sg j = sg k → j = k := by decide +kernel
theorem th_un {j k : Nat} {d e : D} (hj : j < 8) (hk : k < 8) (n : j ≠ k) (a : Th j d) (b : Th k e) : d ≠ e := by
  intro q
  rcases a with rfl | rfl | rfl | ⟨rfl, rfl⟩ <;> rcases b with z | z | z | ⟨z, y⟩ <;> rw [z] at q
  · have h : [sg j] = [sg k] := congrArg (fun z : Str => z.cps.toList) (D.str.inj q)
    exact n (sg_inj j hj k hk (List.cons.inj h).1)
  · have h : [sg j] = [sg k, 111, 110] := congrArg (fun z : Str => z.cps.toList) (D.str.inj q)
    exact absurd (congrArg List.length h) (by simp)
  · cases q
  · have h : [sg j] = [] := congrArg (fun z : Str => z.cps.toList) (D.str.inj q)
    cases h
  · have h : [sg j, 111, 110] = [sg k] := congrArg (fun z : Str => z.cps.toList) (D.str.inj q)
    exact absurd (congrArg List.length h) (by simp)
  · have h : [sg j, 111, 110] = [sg k, 111, 110] := congrArg (fun z : Str => z.cps.toList) (D.str.inj q)
    exact n (sg_inj j hj k hk (List.cons.inj h).1)
  · cases q
  · have h : [sg j, 111, 110] = [] := congrArg (fun z : Str => z.cps.toList) (D.str.inj q)
    cases h
  · cases q
  · cases q
  · have h := D.int.inj q
    exact n (by omega)
  · cases q
  · have h : [] = [sg k] := congrArg (fun z : Str => z.cps.toList) (D.str.inj q)
    cases h
  · have h : [] = [sg k, 111, 110] := congrArg (fun z : Str => z.cps.toList) (D.str.inj q)
    cases h
  · cases q
  · exact n y.symm
theorem th_plain {k : Nat} {d : D} (hk : k < 8) (a : Th k d) : d.plain := by
  have s := sg_sign k hk
  rcases a with rfl | rfl | rfl | ⟨rfl, rfl⟩
  · intro c h
    rw [List.mem_singleton.mp (show c ∈ [sg k] from h)]
    exact s
  · intro c h
    have h : c ∈ [sg k, 111, 110] := h
    simp only [List.mem_cons, List.not_mem_nil, or_false] at h
    rcases h with rfl | rfl | rfl
    · exact s
    · decide
    · decide
  · show (0 : Int) ≤ k
    omega
  · intro c h
    cases h
theorem ab_sign : ∀ c ∈ abL, signB c = true := by decide
theorem en_sign : ∀ c ∈ enL, signB c = true := by decide
theorem en_ab : ∀ c ∈ enL, c ∉ abL := by decide
theorem pt_txt {e : Nat} {z : Str} (he : e ∈ enL) (h : Pt e z) : TxtOk z := by
  obtain ⟨b, rfl, _, hb⟩ := h
  refine txt_of_cs (by rw [List.length_append]; exact Nat.le_add_left ..) fun c hc => ?_
  rcases List.mem_append.mp hc with m | m
  · exact ab_sign c (hb c m)
  · rw [List.mem_singleton.mp m]
    exact en_sign e he
theorem pt_pre {e : Nat} {y z : Str} (he : e ∈ enL) (hy : Pt e y) (hz : Pt e z) (n : y ≠ z) : NoPre y z := by
  obtain ⟨b, rfl, _, hb⟩ := hy
  obtain ⟨c, rfl, _, hc⟩ := hz
  intro h
  have q : b = c := no_pre (fun m => en_ab e he (hb e m)) (fun m => en_ab e he (hc e m)) h
  exact n (by rw [q])
theorem pick_ok {zs : List Str} {ds : List D} {e : Nat} (he : e ∈ enL) (h1 : 1 ≤ zs.length) (h8 : zs.length ≤ 8) (nd : zs.Nodup) (hz : ∀ z ∈ zs, Pt e z) (hl : ds.length = zs.length) (hth : ∀ k d, ds[k]? = some d → Th k d) : PickOk (zs.zip ds) := by
  have len : (zs.zip ds).length = zs.length := by rw [List.length_zip, hl, Nat.min_self]
  have dth : ∀ (i : Nat) (h : i < ds.length), Th i ds[i] := fun i h => hth i _ (List.getElem?_eq_getElem h)
  refine ⟨fun z => by rw [z] at len; exact absurd h1 (by rw [← len]; decide), by rw [len]; exact h8, fun p hp => ?_, ?_, ?_⟩
  · obtain ⟨i, hi, e1⟩ := List.getElem_of_mem hp
    rw [List.getElem_zip] at e1
    rw [← e1]
    have hi2 : i < zs.length := by omega
    exact ⟨pt_txt he (hz _ (List.getElem_mem _)), th_plain (k := i) (by omega) (dth i (by omega))⟩
  · rw [List.pairwise_iff_getElem]
    intro i j hi hj lt
    rw [List.getElem_zip, List.getElem_zip]
    have ne : zs[i]'(by omega) ≠ zs[j]'(by omega) := List.pairwise_iff_getElem.mp (List.nodup_iff_pairwise_ne.mp nd) i j (by omega) (by omega) lt
    exact ⟨pt_pre he (hz _ (List.getElem_mem _)) (hz _ (List.getElem_mem _)) ne, pt_pre he (hz _ (List.getElem_mem _)) (hz _ (List.getElem_mem _)) ne.symm⟩
  · rw [List.pairwise_iff_getElem]
    intro i j hi hj lt
    rw [List.getElem_zip, List.getElem_zip]
    exact th_un (by omega) (by omega) (Nat.ne_of_lt lt) (dth i (by omega)) (dth j (by omega))
end RT

namespace RT
open PySem PySem.Spec PyProof.Rows L2
abbrev sPf : Stmt := topS 40
theorem scPf : FnScope ["_law_pot_here", "_law_short", "_law_texts", "_law_many", "_law_end", "_law_k", "_law_things", "_law_ways", "_law_j", "_law_one"] ["_law_pot_here", "_law_short"] (defScope sPf) := ⟨rfl, rfl, rfl, by decide +kernel, rfl, by decide +kernel, by decide +kernel⟩
theorem rps_signs {H : Hp} : ∀ cs : List Nat, Rps H (cs.map fun c => V.str ⟨#[c]⟩) (cs.map fun c => D.str ⟨#[c]⟩)
  | [] => .nil
  | c :: r => .cons (.str (by show 1 ≤ sizeLine; decide)) (rps_signs r)
/-- a text of one sign -/
def Chr1 (v : V) : Prop := ∃ c : Nat, v = .str ⟨#[c]⟩
section
variable {P : Program} {w : World} {K : PySem.W.Frag} {mg : Str → Option Value} {base : Heap}
def spPf : Sp := fun vs H Q _ => ∃ (pd po : Addr) (t : Nat) (ex : Ex) (b : Bool), vs = [.ref pd, .bl b] ∧ Pot H pd po t ex ∧ t < 2 ^ 46 ∧
  ∀ (l : Addr) (qs : List (Str × D)) (H' : Hp) (t' : Nat), t' ≤ t + 60 → PickOk qs → (b = true → ∀ p ∈ qs, ∃ c : Nat, p.2 = .str ⟨#[c]⟩) → Rp H' (.ref l) (.tup (.str "pick" :: pickR qs)) → Pot H' pd po t' ex → Kp (PM pd po) H H' → Q (.ref l) H'
theorem ok_pf {f fn fk fz fs : Addr} {fd fdn fdk fdz fds : FuncData} {k : Nat} (F : Fun K "_law_pick_form" "_law_pick_form" sPf f fd)
    (GN : FnOk P w K mg base CX0 k fn fdn ["_law_pot_here", "_law_many"] spNext) (kn : PySem.W.keepIn K (.ref fn) = true) (bn : Binds K fdn ["_law_pot_here", "_law_many"] []) (gn : mg "_law_next" = some (.ref fn))
    (GK : FnOk P w K mg base CX0 k fk fdk ["_law_pot_here", "_law_some"] (spPick K)) (kk : PySem.W.keepIn K (.ref fk) = true) (bk : Binds K fdk ["_law_pot_here", "_law_some"] []) (gk : mg "_law_pick" = some (.ref fk))
    (GZ : FnOk P w K mg base CX0 k fz fdz ["_law_pot_here", "_law_few", "_law_most"] spSize) (kz : PySem.W.keepIn K (.ref fz) = true) (bz : Binds K fdz ["_law_pot_here", "_law_few", "_law_most"] []) (gz : mg "_law_size" = some (.ref fz))
    (GS : FnOk P w K mg base CX0 k fs fds [] spSigns) (ks : PySem.W.keepIn K (.ref fs) = true) (bs : Binds K fds [] []) (gs : mg "_law_signs" = some (.ref fs))
    (mr : mg "range" = none) (ml : mg "len" = none) (mint : mg "int" = none) (mli : mg "list" = none) (mzi : mg "zip" = none) (mtu : mg "tuple" = none) (men : mg "enumerate" = none) :
    FnOk P w K mg base CX0 (k + 1) f fd ["_law_pot_here", "_law_short"] spPf := by
  refine F.ok scPf (fun vs H Q E h => ?_) (fun cdv A outer s H vs Q E hr h => ?_)
  · obtain ⟨pd, po, t, ex, b, rfl, _⟩ := h
    rfl
  · obtain ⟨pd, po, t, ex, b, rfl, hP, ht, q⟩ := h
    have h46 : (2 : Nat) ^ 46 = 70368744177664 := by decide
    have h49 : (2 : Nat) ^ 49 = 562949953421312 := by decide
    have h50 : (2 : Nat) ^ 50 = 1125899906842624 := by decide
    refine ⟨_, (pss_cons (ps_set (i := 2) scPf.nd rfl (.inl rfl) pe_dnewK)
      (pss_cons (ps_set (i := 3) scPf.nd rfl (.inl rfl) (pe_op op_add pe_int (pe_call GZ hr (by rfl) gz kz bz .nil pass0 (pa_cons (pv 0) (pa_cons pe_int (pa_cons pe_int pa_nil))))))
      (pss_cons (ps_set (i := 4) scPf.nd rfl (.inl rfl) (pe_call GK hr (by rfl) gk kk bk .nil pass0 (pa_cons (pv 0) (pa_cons pe_str pa_nil))))
      (pss_cons (ps_for PassesOwn.never rfl (pi_range1 (by rfl) mr (pa_cons (pv 3) pa_nil)) (pg_name (i := 5) scPf.nd rfl (.inl rfl)) (pss_one (ps_dput (hu_of hr) (pv 2) (pe_op op_add_str (pe_join pe_str (pe_lc (own := [("_law_j", 8)]) (g := gName 8) (tt := tYes) rfl scPf.nd (pi_range1 (by rfl) mr (pa_cons (pe_call GN hr (by rfl) gn kn bn .nil pass0 (pa_cons (pv 0) (pa_cons pe_int pa_nil))) pa_nil)) (blkOk_by (N := ["_law_pot_here", "_law_short", "_law_texts", "_law_many", "_law_end", "_law_k", "_law_things", "_law_ways", "_law_j", "_law_one"]) (sc := defScope sPf) (by decide +kernel)) (fun _ _ _ _ _ => (pg_name (i := 8) scPf.nd rfl (.inl rfl))) (fun _ _ _ _ _ => pts_nil) (fun _ _ _ _ _ => (pe_call GK hr (by rfl) gk kk bk .nil pass0 (pa_cons (pv 0) (pa_cons pe_str pa_nil)))))) (pv 4)) pe_bl rfl)))
      (pss_cons (ps_setLc (i := 6) (own := [("_law_k", 5)]) (g := gName 5) (tt := tYes) rfl scPf.nd rfl rfl rfl (pi_range1 (by rfl) mr (pa_cons (pe_callB call_lenD (by rfl) ml PySem.boot_len (pa_cons (pv 2) pa_nil)) pa_nil)) (blkOk_by (N := ["_law_pot_here", "_law_short", "_law_texts", "_law_many", "_law_end", "_law_k", "_law_things", "_law_ways", "_law_j", "_law_one"]) (sc := defScope sPf) (by decide +kernel)) (fun _ _ _ _ _ => (pg_name (i := 5) scPf.nd rfl (.inl rfl))) (fun _ _ _ _ _ => pts_nil) (fun _ _ _ _ _ => (pe_ix ix_str (pe_call0 GS hr (by rfl) gs ks bs .nil pass0) (pe_op op_mod (pe_op op_add (pe_op op_mulW pe_int (pv 5)) pe_int) pe_int) (fun _ _ => rfl))))
      (pss_cons (ps_if (pt_not (pt_val (pv 1))) (pss_cons (ps_set (i := 7) scPf.nd rfl (.inr rfl) (pe_lc (own := [("_law_k", 5)]) (g := gName 5) (tt := tYes) rfl scPf.nd (pi_range1 (by rfl) mr (pa_cons (pe_callB call_len_seq (by rfl) ml PySem.boot_len (pa_cons (pv 6) pa_nil)) pa_nil)) (blkOk_by (N := ["_law_pot_here", "_law_short", "_law_texts", "_law_many", "_law_end", "_law_k", "_law_things", "_law_ways", "_law_j", "_law_one"]) (sc := defScope sPf) (by decide +kernel)) (fun _ _ _ _ _ => (pg_name (i := 5) scPf.nd rfl (.inl rfl))) (fun _ _ _ _ _ => pts_nil) (fun _ _ _ _ _ => (pe_ix (show IxR _ (rIxL K) from ix_list) (pe_lst (pa_cons pe_int (pa_cons pe_int (pa_cons pe_int (pa_cons (pe_op op_mulW pe_int (pe_callTy call_int1 (by rfl) mint (by decide +kernel) (pa_cons (pe_cmpR op_eq (pv 5) pe_int (nomark _)) pa_nil))) pa_nil))))) (pe_call GN hr (by rfl) gn kn bn .nil pass0 (pa_cons (pv 0) (pa_cons pe_int pa_nil))) (fun _ _ => rfl)))))
      (pss_one (ps_setLc (i := 6) (own := [("_law_k", 5), ("_law_one", 9)]) (g := gTup K 2 (gCons (gName 5) (gCons (gName 9) gNil))) (tt := tYes) rfl scPf.nd rfl rfl rfl (pi_enum (by rfl) men (pa_cons (pv 6) pa_nil)) (blkOk_by (N := ["_law_pot_here", "_law_short", "_law_texts", "_law_many", "_law_end", "_law_k", "_law_things", "_law_ways", "_law_j", "_law_one"]) (sc := defScope sPf) (by decide +kernel)) (fun _ _ _ _ _ => (pg_tup rfl (pgs_cons (pg_name (i := 5) scPf.nd rfl (.inl rfl)) (pgs_cons (pg_name (i := 9) scPf.nd rfl (.inl rfl)) pgs_nil)))) (fun _ _ _ _ _ => pts_nil) (fun _ _ _ _ _ => (pe_ix (show IxR _ (rIxL K) from ix_list) (pe_lst (pa_cons (pv 9) (pa_cons (pe_op op_add_str (pv 9) pe_str) (pa_cons (pv 5) (pa_cons pe_str pa_nil))))) (pe_ix (show IxR _ (rIxL K) from ix_list) (pv 7) (pv 5) (fun _ _ => rfl)) (fun _ _ => rfl)))))) pss_nil)
      (pss_one (ps_ret (pe_tup (pa_cons pe_str (pa_cons (pe_callTy call_tuple_of (by rfl) mtu (by decide +kernel) (pa_cons (pe_listZip (by rfl) (by rfl) mli (by rfl) mzi (pa_cons (pe_callTy (call_listD (by rfl)) (by rfl) mli (by decide +kernel) (pa_cons (pv 2) pa_nil)) (pa_cons (pv 6) pa_nil))) pa_nil)) pa_nil))))))))))), ?_⟩
    intro dt ndt
    have hP1 := hP.new (o := .dK []) ndt
    have hdt := off_pot hP ndt
    have k1 : Kp (PM pd po) H (upd H dt (.dK [])) := Kp.new ndt
    have e1 : upd H dt (.dK []) dt = some (.dK (metK [])) := upd_same
    generalize upd H dt (.dK []) = H1 at hP1 k1 e1 ⊢
    refine ⟨_, rfl, pd, po, t, 7, ex, 3, 7, rfl, hP1, by omega, by decide, by decide, by decide, by decide, by decide, fun d2 H2 t2 ht2 d2m hP2 k2 => ?_⟩
    refine ⟨_, _, rfl, rfl, ?_⟩
    have e2 := k2 dt _ hdt e1
    refine ⟨_, rfl, pd, po, t2, ex, _, (fun v => ∃ c, v = .str ⟨#[c]⟩ ∧ c ∈ enL), rfl, hP2, by omega, .inl ⟨_, rfl, by decide, by decide, fun c h => ⟨c, rfl, h⟩⟩, fun v3 H3 t3 ht3 ⟨c3, ev3, hc3⟩ hP3 k3 => ?_⟩
    subst ev3
    have e3 := k3 dt _ hdt e2
    have k13 := (k1.trans k2).trans k3
    have fin : ∀ (σ : L2.St) (H9 : Hp) (t9 : Nat) (D9 : Addr) (zs : List Str) (vs : List V) (ds : List D), σ[0]? = some (some (.ref pd)) → σ[2]? = some (some (.ref dt)) → σ[6]? = some (some (.ref D9)) → t9 ≤ t + 60 → Pot H9 pd po t9 ex → Kp (PM pd po) H H9 → H9 dt = some (.dK (metK zs)) → zs.Nodup → 1 ≤ zs.length → zs.length ≤ 8 → (∀ z ∈ zs, Pt c3 z) → H9 D9 = some (.lst vs) → vs.length = zs.length → (∀ H', Rps H' vs ds) → (∀ k d, ds[k]? = some d → Th k d) → (b = true → ∀ d ∈ ds, ∃ c : Nat, d = .str ⟨#[c]⟩) →
        (tRet (tTup (tCons (tC (.str "pick")) (tCons (tCB (fun xs H Q => ∃ p ys, xs = [.ref p] ∧ ((SqL K H p ys ∧ ∀ l, H l = none → Q (.ref l) (upd H l (.tup ys))) ∨ (SqT K H p ys ∧ Q (.ref p) H))) (tCons (tLZ K (tCons (tCB (fun xs H Q => ∃ (a : Addr) (kvs : List (Key × V)), xs = [.ref a] ∧ Rd H a (.dK kvs) ∧ ∀ p, H p = none → Q (.ref p) (upd H p (.lst (kvs.map fun kv => kV kv.1)))) (tCons (tVar 2) tNil)) (tCons (tVar 6) tNil))) tNil)) tNil)))) { nx := fun _ H' => Q .non H', rt := Q } σ H9 := by
      intro σ H9 t9 D9 zs vs ds s0 s2 s6 ht9 hP9 k9 e9 nd z1 z8 hz eD lv hv hth hsh
      refine ⟨_, s2, dt, metK zs, rfl, .inl e9, fun p np => ?_⟩
      have nD9 : D9 ≠ p := ne_of_none eD np
      refine ⟨_, s6, p, D9, _, vs, rfl, SqL.of upd_same, SqL.of (by rw [upd_ne nD9]; exact eD), fun H10 l ps k10 nl el lp hp => ?_⟩
      refine ⟨l, ps.map V.ref, rfl, .inl ⟨SqL.of el, fun a na => ?_⟩⟩
      refine ⟨by show 2 ≤ sizeLine; decide, fun r nr => ?_⟩
      have k11 : Kp M0 H9 H10 := (Kp.new np).trans k10
      have em : (metK zs).map (fun kv => kV kv.1) = zs.map V.str := by
        unfold metK
        rw [List.map_map]
        rfl
      rw [em] at lp hp
      rw [List.length_map, lv, Nat.min_self] at lp
      have ld : ds.length = zs.length := by rw [← (hv H10).len, lv]
      have zl : ∀ z ∈ zs, z.length ≤ sizeLine := fun z h => by
        obtain ⟨b, rfl, hb, _⟩ := hz z h
        rw [len_arr, List.length_append]
        exact Nat.le_of_lt (small1000 (by simp only [List.length_singleton]; omega))
      have hds := Rps.pairs (hv H10) lv.symm lp zl hp
      have kA : Kp M0 H10 (upd (upd H10 a (.tup (ps.map V.ref))) r (.tup [.str "pick", .ref a])) := (Kp.new na).trans (Kp.new nr)
      refine q r (zs.zip ds) _ t9 ht9 (pick_ok hc3 z1 z8 nd hz ld hth) (fun hb p hp => hsh hb p.2 (List.of_mem_zip hp).2) (.tup (vs := [.str "pick", .ref a]) upd_same (.cons (.str (by decide)) (.cons (.tup (vs := ps.map V.ref) ?_ (hds.keep kA noT0)) .nil))) ?_ ?_
      · rw [upd_ne (ne_of_none upd_same nr)]
        exact upd_same
      · exact (hP9.keep k11 (fun z => z) (fun z => z)).keep kA (fun z => z) (fun z => z)
      · exact k9.trans ((k11.trans kA).mono fun b z => z.elim)
    -- the texts
    refine ⟨_, rfl, 1 + (d2 : Int), rfl, by omega, by omega, for_range (lo := 0) (n := (1 + (d2 : Int)).toNat) (fun i σ H4 => ∃ (y5 : Option V) (t4 : Nat) (zs : List Str), σ = [some (.ref pd), some (.bl b), some (.ref dt), some (.int (1 + (d2 : Int))), some (.str ⟨#[c3]⟩), y5, none, none, none, none] ∧ t4 ≤ t + 3 + 3 * i ∧ zs.length ≤ i ∧ (0 < i → 1 ≤ zs.length) ∧ zs.Nodup ∧ (∀ z ∈ zs, Pt c3 z) ∧ Pot H4 pd po t4 ex ∧ Kp (PM pd po) H H4 ∧ H4 dt = some (.dK (metK zs))) ?_ ?_ ?_⟩
    · exact ⟨none, t3, [], rfl, by omega, Nat.le_refl _, fun h => absurd h (Nat.lt_irrefl _), List.nodup_nil, (fun z h => nomatch h), hP3, k13, e3⟩
    · rintro i σ H4 hi ⟨y5, t4, zs, rfl, ht4, lz, l1z, ndz, hz, hP4, k4, e4⟩
      have hi8 : i < 8 := by omega
      refine ⟨_, rfl, ⟨_, rfl⟩, _, rfl, pd, po, t4, ex, 3, rfl, hP4, by omega, by decide, by decide, fun d5 H5 t5 ht5 d50 d51 hP5 k5 => ?_⟩
      have k5' := k4.trans k5
      have e5 := k5 dt _ hdt e4
      refine ⟨_, rfl, by omega, by omega, fun D nD => ?_⟩
      have hD := off_pot hP5 nD
      have nDH := none_back k5' hD nD
      have nDd : dt ≠ D := ne_of_none e5 nD
      refine lc_range (lo := 0) (n := d5.toNat) (fun j H6 => ∃ (t6 : Nat) (cs : List Nat), t6 ≤ t4 + 1 + j ∧ cs.length = j ∧ (∀ c ∈ cs, c ∈ abL) ∧ Pot H6 pd po t6 ex ∧ Kp (PM pd po) H H6 ∧ H6 dt = some (.dK (metK zs)) ∧ H6 D = some (.lst (cs.map fun c => V.str ⟨#[c]⟩))) ?_ ?_ ?_
      · exact ⟨t5, [], by omega, rfl, (fun c h => nomatch h), hP5.new nD, k5'.trans (Kp.new nD), by rw [upd_ne nDd]; exact e5, upd_same⟩
      · rintro j H6 hj ⟨t6, cs, ht6, hl, hab, hP6, k6, e6, eD⟩
        refine ⟨rfl, tYes_ok (iteT ?_)⟩
        refine ⟨_, rfl, pd, po, t6, ex, _, (fun v => ∃ c, v = .str ⟨#[c]⟩ ∧ c ∈ abL), rfl, hP6, by omega, .inl ⟨_, rfl, by decide, by decide, fun c h => ⟨c, rfl, h⟩⟩, fun v7 H7 t7 ht7 ⟨c, ev, hc⟩ hP7 k7 => ?_⟩
        subst ev
        refine ⟨_, k7 D _ hD eD, by rw [List.length_map]; exact small1000 (by omega), t7, cs ++ [c], by omega, by rw [List.length_append, hl]; rfl, (fun x h => (List.mem_append.mp h).elim (hab x) fun m => by rw [List.mem_singleton.mp m]; exact hc), hP7.off hD, (k6.trans k7).own nDH, by rw [upd_ne nDd]; exact k7 dt _ hdt e6, by rw [upd_same, List.map_append]; rfl⟩
      · rintro H6 ⟨t6, cs, ht6, hl, hab, hP6, k6, e6, eD⟩
        refine ⟨_, D, cs.map fun c => (⟨#[c]⟩ : Str), rfl, rfl, .inl (SqL.of (by rw [eD, List.map_map]; rfl)), ?_, ?_⟩
        · rw [sum_ones]
          show cs.length + _ * 0 ≤ _
          exact Nat.le_trans (by omega : cs.length + _ * 0 ≤ 1000) (by decide)
        rw [join_signs]
        have el : (⟨cs.toArray⟩ : Str).length = cs.length := by simp [Str.length]
        refine ⟨_, rfl, _, _, rfl, rfl, by rw [el, sizeLine_eq]; show cs.length + 1 ≤ _; omega, ?_⟩
        refine ⟨dt, _, rfl, DPut.k (k := .inr _) e6 (by unfold metK; rw [List.length_map, sizeLine_eq]; omega), ?_⟩
        have hx : Pt c3 ((⟨cs.toArray⟩ : Str) ++ (⟨#[c3]⟩ : Str)) := ⟨cs, by rw [show (⟨#[c3]⟩ : Str) = ⟨[c3].toArray⟩ from rfl, app_s], by omega, hab⟩
        generalize (⟨cs.toArray⟩ : Str) ++ (⟨#[c3]⟩ : Str) = x at hx ⊢
        obtain ⟨ns, ens, ln, l1n, ndn, hns⟩ := metK_some zs x ndz
        rw [ens]
        refine ⟨_, t6, ns, rfl, by omega, by omega, fun _ => l1n, ndn, fun z h => ?_, hP6.off hdt, k6.own ndt, upd_same⟩
        rcases hns z h with h | h
        · exact hz z h
        · rw [h]
          exact hx
    · rintro σ H4 ⟨y5, t4, zs, rfl, ht4, lz, l1z, ndz, hz, hP4, k4, e4⟩
      have z1 : 1 ≤ zs.length := l1z (by omega)
      have z8 : zs.length ≤ 8 := by omega
      -- the things
      refine ⟨_, rfl, dt, _, rfl, e4, _, rfl, by unfold metK; rw [List.length_map]; omega, by unfold metK; rw [List.length_map]; omega, fun D nD => ?_⟩
      have hD := off_pot hP4 nD
      have nDH := none_back k4 hD nD
      have nDd : dt ≠ D := ne_of_none e4 nD
      have lm : (metK zs).length = zs.length := by unfold metK; rw [List.length_map]
      rw [lm]
      refine lc_range (lo := 0) (n := (zs.length : Int).toNat) (fun j H6 => Pot H6 pd po t4 ex ∧ Kp (PM pd po) H H6 ∧ H6 dt = some (.dK (metK zs)) ∧ H6 D = some (.lst (((List.range j).map sg).map fun c => V.str ⟨#[c]⟩))) ?_ ?_ ?_
      · exact ⟨hP4.new nD, k4.trans (Kp.new nD), by rw [upd_ne nDd]; exact e4, upd_same⟩
      · rintro j H6 hj ⟨hP6, k6, e6, eD⟩
        have hj8 : j < 8 := by omega
        refine ⟨rfl, tYes_ok (iteT ?_)⟩
        rw [show (0 : Int) + (j : Int) = (j : Int) from Int.zero_add _]
        refine ⟨rfl, ?_⟩
        have w7 : (7 : Int).natAbs < 2 ^ 64 := by decide
        have wj : ((j : Int)).natAbs < 2 ^ 64 := by
          show _ < 18446744073709551616
          omega
        have hc : atI signsZ.cps.toList ((7 * (j : Int) + 33) % 95) = some (sg j) := by
          have lt : (7 * j + 33) % 95 < signsZ.cps.toList.length := by
            rw [← len_tl, signsZ_len]
            omega
          rw [show (7 * (j : Int) + 33) % 95 = (((7 * j + 33) % 95 : Nat) : Int) by omega]
          refine atI_nat ?_
          unfold sg
          rw [List.getElem?_eq_getElem lt]
          rfl
        refine ⟨_, rfl, _, _, rfl, rfl, wide_mul w7 wj (by decide) (by decide) (by decide), _, _, rfl, rfl, _, _, rfl, rfl, (by show (0 : Int) < 95; decide), signsZ, _, sg j, rfl, rfl, Nat.le_of_lt (small1000 signsZ_ok.2.1), hc, ?_⟩
        refine ⟨_, eD, by rw [List.length_map, List.length_map, List.length_range]; exact small1000 (by omega), hP6.off hD, k6.own nDH, by rw [upd_ne nDd]; exact e6, by rw [upd_same, List.range_succ, List.map_append, List.map_append]; rfl⟩
      · rintro H6 ⟨hP6, k6, e6, eD⟩
        obtain ⟨cs, ecs⟩ : ∃ cs, cs = (List.range (zs.length : Int).toNat).map sg := ⟨_, rfl⟩
        rw [← ecs] at eD
        have hl : cs.length = zs.length := by rw [ecs, List.length_map, List.length_range]; omega
        have csg : ∀ k c, cs[k]? = some c → c = sg k := fun k c h => by
          have lt := (List.getElem?_eq_some_iff.mp h).1
          rw [ecs, List.length_map, List.length_range] at lt
          rw [ecs, List.getElem?_map, List.getElem?_range lt] at h
          exact (Option.some.inj h).symm
        have hcs : cs.length ≤ 8 := by omega
        refine ⟨_, rfl, b, rfl, ?_⟩
        cases b with
        | true =>
          refine iteF ?_
          refine fin _ H6 t4 D zs _ (cs.map fun c => RT.D.str ⟨#[c]⟩) rfl rfl rfl (by omega) hP6 k6 e6 ndz z1 z8 hz eD (by rw [List.length_map, hl]) (fun H' => rps_signs cs) (fun k d h => ?_) fun _ d h => ?_
          · rw [List.getElem?_map] at h
            obtain ⟨c, hc, rfl⟩ := Option.map_eq_some_iff.mp h
            exact .inl (by rw [csg k c hc])
          · obtain ⟨c, _, rfl⟩ := List.mem_map.mp h
            exact ⟨c, rfl⟩
        | false =>
          refine iteT ?_
          refine ⟨_, rfl, D, _, rfl, .inl (SqL.of eD), _, rfl, by rw [List.length_map]; omega, by rw [List.length_map]; omega, fun W nW => ?_⟩
          have hW := off_pot hP6 nW
          have nWH := none_back k6 hW nW
          have nWd : dt ≠ W := ne_of_none e6 nW
          have nWD : D ≠ W := ne_of_none eD nW
          rw [List.length_map]
          refine lc_range (lo := 0) (n := (cs.length : Int).toNat) (fun j H7 => ∃ (t7 : Nat) (ws : List Int), t7 ≤ t4 + j ∧ ws.length = j ∧ (∀ (k : Nat) (w : Int), ws[k]? = some w → 0 ≤ w ∧ w < 4 ∧ (w = 3 → k = 0)) ∧ Pot H7 pd po t7 ex ∧ Kp (PM pd po) H H7 ∧ H7 dt = some (.dK (metK zs)) ∧ H7 D = some (.lst (cs.map fun c => V.str ⟨#[c]⟩)) ∧ H7 W = some (.lst (ws.map V.int))) ?_ ?_ ?_
          · exact ⟨t4, [], by omega, rfl, (fun k w h => by simp at h), hP6.new nW, k6.trans (Kp.new nW), by rw [upd_ne nWd]; exact e6, by rw [upd_ne nWD]; exact eD, upd_same⟩
          · rintro j H7 hj ⟨t7, ws, ht7, lw, hw, hP7, k7, e7, eD7, eW⟩
            refine ⟨rfl, tYes_ok (iteT ?_)⟩
            rw [show (0 : Int) + (j : Int) = (j : Int) from Int.zero_add _]
            have w3 : (3 : Int).natAbs < 2 ^ 64 := by decide
            have wb : ∀ b : Bool, ((if b = true then 1 else 0 : Int)).natAbs < 2 ^ 64 := fun b => by cases b <;> decide
            refine ⟨_, rfl, rfl, .inr ⟨_, rfl, ?_⟩⟩
            refine ⟨_, _, rfl, rfl, wide_mul w3 (wb _) (by decide) (by decide) (by decide), by show 4 ≤ sizeLine; decide, fun p np => ?_⟩
            have hp := off_pot hP7 np
            refine ⟨_, rfl, pd, po, t7, ex, 4, rfl, hP7.new np, by omega, by decide, by decide, fun d8 H8 t8 ht8 d80 d81 hP8 k8 => ?_⟩
            have e8 := k8 p _ hp upd_same
            have k78 : Kp (PM pd po) H7 H8 := (Kp.new np).trans k8
            obtain ⟨v, hv, hm⟩ := at_some d80 (show d8 < ([V.int 0, .int 1, .int 2, .int (3 * (if decide ((V.int (j : Int)) = .int 0) = true then 1 else 0))].length : Int) from d81)
            obtain ⟨w1, rfl, w10, w14, w13⟩ : ∃ w1 : Int, v = .int w1 ∧ 0 ≤ w1 ∧ w1 < 4 ∧ (w1 = 3 → j = 0) := by
              simp only [List.mem_cons, List.not_mem_nil, or_false] at hm
              rcases hm with e | e | e | e
              · exact ⟨_, e, by decide, by decide, fun z => absurd z (by decide)⟩
              · exact ⟨_, e, by decide, by decide, fun z => absurd z (by decide)⟩
              · exact ⟨_, e, by decide, by decide, fun z => absurd z (by decide)⟩
              · by_cases cj : V.int (j : Int) = .int 0
                · exact ⟨_, e, by rw [decide_eq_true cj]; decide, by rw [decide_eq_true cj]; decide, fun _ => by have := V.int.inj cj; omega⟩
                · exact ⟨_, e, by rw [decide_eq_false cj]; decide, by rw [decide_eq_false cj]; decide, fun z => by rw [decide_eq_false cj] at z; exact absurd z (by decide)⟩
            refine ⟨p, _, d8, _, rfl, rfl, SqL.of e8, hv, ?_⟩
            refine ⟨_, k78 W _ hW eW, by rw [List.length_map]; exact small1000 (by omega), t8, ws ++ [w1], by omega, by rw [List.length_append, lw]; rfl, ?_, hP8.off hW, (k7.trans k78).own nWH, by rw [upd_ne nWd]; exact k78 dt _ hdt e7, by rw [upd_ne nWD]; exact k78 D _ hD eD7, by rw [upd_same, List.map_append]; rfl⟩
            intro k w h
            by_cases c : k < ws.length
            · rw [List.getElem?_append_left c] at h
              exact hw k w h
            · rw [List.getElem?_append_right (by omega)] at h
              have z : k - ws.length = 0 := by
                have q := (List.getElem?_eq_some_iff.mp h).1
                rw [List.length_singleton] at q
                omega
              rw [z] at h
              cases h
              exact ⟨w10, w14, fun e => by have := w13 e; omega⟩
          · rintro H7 ⟨t7, ws, ht7, lw, hw, hP7, k7, e7, eD7, eW⟩
            refine ⟨_, rfl, D, _, rfl, SqL.of eD7, fun D2 n2 => ?_⟩
            have h2 := off_pot hP7 n2
            have n2H := none_back k7 h2 n2
            have n2d : dt ≠ D2 := ne_of_none e7 n2
            have n2D : D ≠ D2 := ne_of_none eD7 n2
            have n2W : W ≠ D2 := ne_of_none eW n2
            refine lc_enum (xs := cs.map fun c => V.str ⟨#[c]⟩) (fun j H8 => ∃ (vs : List V) (ds : List RT.D), vs.length = j ∧ (∀ H', Rps H' vs ds) ∧ (∀ k d, ds[k]? = some d → Th k d) ∧ Pot H8 pd po t7 ex ∧ Kp (PM pd po) H H8 ∧ H8 dt = some (.dK (metK zs)) ∧ H8 D = some (.lst (cs.map fun c => V.str ⟨#[c]⟩)) ∧ H8 W = some (.lst (ws.map V.int)) ∧ H8 D2 = some (.lst vs)) ?_ ?_ ?_ ?_
            · exact ⟨[], [], rfl, (fun _ => .nil), (fun k d h => by simp at h), hP7.new n2, k7.trans (Kp.new n2), by rw [upd_ne n2d]; exact e7, by rw [upd_ne n2D]; exact eD7, by rw [upd_ne n2W]; exact eW, upd_same⟩
            · rintro j H8 _ ⟨vs, ds, _, _, _, _, _, _, a, _, _⟩
              exact SqL.of a
            · rintro j x H8 T hx ⟨vs, ds, lv, hv, hth, hP8, k8, e8, eD8, eW8, e28⟩ nT
              rw [List.getElem?_map] at hx
              obtain ⟨c, hc, rfl⟩ := Option.map_eq_some_iff.mp hx
              have hjc : j < cs.length := (List.getElem?_eq_some_iff.mp hc).1
              have hj : j < ws.length := by omega
              have nTH : ∀ {a : Addr} {u : HO}, H8 a = some u → upd H8 T (.tup [.int (j : Nat), .str ⟨#[c]⟩]) a = some u := fun e => by rw [upd_ne (ne_of_none e nT)]; exact e
              refine ⟨T, _, rfl, SqT.of upd_same, rfl, _, _, rfl, _, _, rfl, rfl, rfl, tYes_ok (iteT ?_)⟩
              refine ⟨_, rfl, _, rfl, _, _, rfl, rfl, by rw [sizeLine_eq]; show 1 + 2 ≤ _; decide, _, rfl, by show 4 ≤ sizeLine; decide, fun p np => ?_⟩
              have npH : ∀ {a : Addr} {u : HO} {o : HO}, upd H8 T (.tup [.int (j : Nat), .str ⟨#[c]⟩]) a = some u → upd (upd H8 T (.tup [.int (j : Nat), .str ⟨#[c]⟩])) p o a = some u := fun e => by rw [upd_ne (ne_of_none e np)]; exact e
              refine ⟨_, rfl, _, rfl, W, _, j, .int ws[j], rfl, rfl, SqL.of (npH (nTH eW8)), atI_nat (by rw [List.getElem?_map, List.getElem?_eq_getElem hj]; rfl), ?_⟩
              obtain ⟨w0, w4, w3z⟩ := hw j ws[j] (List.getElem?_eq_getElem hj)
              obtain ⟨v, hv1, hm⟩ := at_some w0 (show ws[j] < ([V.str ⟨#[c]⟩, .str (⟨#[c]⟩ ++ ("on" : Str)), .int (j : Nat), .str ""].length : Int) from w4)
              refine ⟨p, _, ws[j], v, rfl, rfl, SqL.of upd_same, hv1, ?_⟩
              obtain ⟨d, hd, hr⟩ : ∃ d, Th j d ∧ ∀ H', Rp H' v d := by
                have ec := csg j c hc
                subst ec
                obtain ⟨n, en⟩ := Int.eq_ofNat_of_zero_le w0
                rw [en] at hv1 w4 w3z
                rcases (show n = 0 ∨ n = 1 ∨ n = 2 ∨ n = 3 by omega) with rfl | rfl | rfl | rfl
                · cases hv1
                  exact ⟨_, .inl rfl, fun _ => .str (by show 1 ≤ sizeLine; decide)⟩
                · cases hv1
                  exact ⟨_, .inr (.inl rfl), fun _ => .str (by show 3 ≤ sizeLine; decide)⟩
                · cases hv1
                  exact ⟨_, .inr (.inr (.inl rfl)), fun _ => .int⟩
                · cases hv1
                  exact ⟨_, .inr (.inr (.inr ⟨rfl, w3z rfl⟩)), fun _ => .str (by decide)⟩
              refine ⟨_, npH (nTH e28), by rw [lv]; exact small1000 (by omega), vs ++ [v], ds ++ [d], by rw [List.length_append, lv]; rfl, (fun H' => (hv H').app (.cons (hr H') .nil)), fun k e he => ?_, ((hP8.new nT).new np).off h2, ((k8.trans (Kp.new nT)).trans (Kp.new np)).own n2H, by rw [upd_ne n2d]; exact npH (nTH e8), by rw [upd_ne n2D]; exact npH (nTH eD8), by rw [upd_ne n2W]; exact npH (nTH eW8), upd_same⟩
              have ld : ds.length = j := by rw [← (hv H8).len, lv]
              by_cases c1 : k < ds.length
              · rw [List.getElem?_append_left c1] at he
                exact hth k e he
              · rw [List.getElem?_append_right (by omega)] at he
                have z : k - ds.length = 0 := by
                  have q := (List.getElem?_eq_some_iff.mp he).1
                  rw [List.length_singleton] at q
                  omega
                rw [z] at he
                cases he
                rw [show k = j by omega]
                exact hd
            · rintro H8 ⟨vs, ds, lv, hv, hth, hP8, k8, e8, eD8, eW8, e28⟩
              rw [List.length_map] at lv
              exact fin _ H8 t7 D2 zs _ ds rfl rfl rfl (by omega) hP8 k8 e8 ndz z1 z8 hz e28 (by rw [lv, hl]) hv hth (fun z => by cases z)
end
end RT

namespace RT
open PySem PySem.Spec PyProof.Rows L2
abbrev sPl : Stmt := topS 43
abbrev sBf : Stmt := topS 44
theorem scPl : FnScope ["_law_pot_here", "_law_way"] ["_law_pot_here"] (defScope sPl) := ⟨rfl, rfl, rfl, by decide +kernel, rfl, by decide +kernel, by decide +kernel⟩
theorem scBf : FnScope ["_law_pot_here"] ["_law_pot_here"] (defScope sBf) := ⟨rfl, rfl, rfl, by decide +kernel, rfl, by decide +kernel, by decide +kernel⟩
section
variable {P : Program} {w : World} {K : PySem.W.Frag} {mg : Str → Option Value} {base : Heap}
def spPl (N : List Str) : Sp := fun vs H Q _ => ∃ (pd po : Addr) (t : Nat) (r o g : Int), vs = [.ref pd] ∧ Pot H pd po t (some (r, o, g)) ∧ t < 2 ^ 45 ∧ FormQ N pd po t 120 2 H Q
theorem str_rp {H : Hp} {cs : List Nat} {n : Nat} (h : cs.length ≤ n) (h2 : n ≤ 1000) : Rp H (.str ⟨cs.toArray⟩) (.str ⟨cs.toArray⟩) := .str (by
  rw [show (⟨cs.toArray⟩ : Str).length = cs.length by simp [Str.length]]
  exact Nat.le_of_lt (small1000 (by omega)))
theorem ok_pl {N : List Str} {f fn fb fe ff : Addr} {fd fdn fdb fde fdf : FuncData} {k : Nat} (F : Fun K "_law_plain" "_law_plain" sPl f fd)
    (GN : FnOk P w K mg base CX0 k fn fdn ["_law_pot_here", "_law_many"] spNext) (kn : PySem.W.keepIn K (.ref fn) = true) (bn : Binds K fdn ["_law_pot_here", "_law_many"] []) (gn : mg "_law_next" = some (.ref fn))
    (GB : FnOk P w K mg base CX0 k fb fdb ["_law_pot_here", "_law_few", "_law_most"] spBit) (kb : PySem.W.keepIn K (.ref fb) = true) (bb : Binds K fdb ["_law_pot_here", "_law_few", "_law_most"] []) (gb : mg "_law_bit" = some (.ref fb))
    (GE : FnOk P w K mg base CX0 k fe fde ["_law_pot_here"] spSet) (ke : PySem.W.keepIn K (.ref fe) = true) (be : Binds K fde ["_law_pot_here"] []) (ge : mg "_law_set" = some (.ref fe))
    (GF : FnOk P w K mg base CX0 k ff fdf ["_law_pot_here", "_law_short"] spPf) (kf : PySem.W.keepIn K (.ref ff) = true) (bf : Binds K fdf ["_law_pot_here", "_law_short"] []) (gf : mg "_law_pick_form" = some (.ref ff)) (mint : mg "int" = none) :
    FnOk P w K mg base CX0 (k + 1) f fd ["_law_pot_here"] (spPl N) := by
  refine F.ok scPl (fun vs H Q E h => ?_) (fun cdv A outer s H vs Q E hr h => ?_)
  · obtain ⟨pd, po, t, r, o, g, rfl, _⟩ := h
    rfl
  · obtain ⟨pd, po, t, r, o, g, rfl, hP, ht, q⟩ := h
    have h45 : (2 : Nat) ^ 45 = 35184372088832 := by decide
    have h46 : (2 : Nat) ^ 46 = 70368744177664 := by decide
    have h47 : (2 : Nat) ^ 47 = 140737488355328 := by decide
    have h50 : (2 : Nat) ^ 50 = 1125899906842624 := by decide
    refine ⟨_, (pss_cons (ps_set (i := 1) scPl.nd rfl (.inl rfl) (pe_call GN hr (by rfl) gn kn bn .nil pass0 (pa_cons (pv 0) (pa_cons pe_int pa_nil))))
      (pss_cons (ps_dput (hu_of hr) (pv 0) pe_str (pe_op op_sub (pe_dget (hu_of hr) (pv 0) pe_str (fun _ _ => rfl)) (pe_callTy call_int1 (by rfl) mint (by decide +kernel) (pa_cons (pe_cmpR op_gt (pv 1) pe_int (nomark _)) pa_nil))) rfl)
      (pss_cons (ps_if (PW.pt (pw_or (pt_cmpR op_eq (pv 1) pe_int (nomark _)) (pw_or1 (PW.pt (pw_and (pt_cmpR op_lt (pe_dget (hu_of hr) (pv 0) pe_str (fun _ _ => rfl)) pe_int (nomark _)) (pw_and1 (pt_cmpR op_gt (pv 1) pe_int (nomark _)))))))) (pss_one (ps_ret (pe_tup (pa_cons pe_str pa_nil)))) pss_nil)
      (pss_cons (ps_if (pt_cmpR op_lt (pv 1) pe_int (nomark _)) (pss_one (ps_ret (pe_tup (pa_cons pe_str (pa_cons (pe_call GB hr (by rfl) gb kb bb .nil pass0 (pa_cons (pv 0) (pa_cons pe_int (pa_cons pe_int pa_nil)))) pa_nil))))) pss_nil)
      (pss_cons (ps_if (pt_cmpR op_lt (pv 1) pe_int (nomark _)) (pss_one (ps_ret (pe_tup (pa_cons (pe_ix ix_list (pe_lst (pa_cons pe_str (pa_cons pe_str pa_nil))) (pe_op op_sub (pv 1) pe_int) (fun _ _ => rfl)) (pa_cons (pe_call GE hr (by rfl) ge ke be .nil pass0 (pa_cons (pv 0) pa_nil)) pa_nil))))) pss_nil)
      (pss_cons (ps_if (PW.pt (pw_or (pt_cmpR op_eq (pv 1) pe_int (nomark _)) (pw_or1 (pt_cmpR op_lt (pe_dget (hu_of hr) (pv 0) pe_str (fun _ _ => rfl)) pe_int (nomark _))))) (pss_one (ps_ret (pe_call GF hr (by rfl) gf kf bf .nil pass0 (pa_cons (pv 0) (pa_cons pe_bl pa_nil))))) pss_nil)
      (pss_cons (ps_dput (hu_of hr) (pv 0) pe_str (pe_op op_sub (pe_dget (hu_of hr) (pv 0) pe_str (fun _ _ => rfl)) pe_int) rfl)
      (pss_one (ps_ret (pe_tup (pa_cons pe_str (pa_cons (pe_ix ix_list (pe_lst (pa_cons (pe_tup (pa_cons pe_str (pa_cons (pe_call GE hr (by rfl) ge ke be .nil pass0 (pa_cons (pv 0) pa_nil)) pa_nil))) (pa_cons (pe_call GF hr (by rfl) gf kf bf .nil pass0 (pa_cons (pv 0) (pa_cons pe_bl pa_nil))) pa_nil))) (pe_call GN hr (by rfl) gn kn bn .nil pass0 (pa_cons (pv 0) (pa_cons pe_int pa_nil))) (fun _ _ => rfl)) pa_nil)))))))))))), ?_⟩
    refine ⟨_, rfl, pd, po, t, _, 8, rfl, hP, by omega, by decide, by decide, fun d1 H1 t1 ht1 d10 d11 hP1 k1 => ?_⟩
    obtain ⟨⟨_, g1, _⟩, _, p1, _⟩ := hP1.x
    refine ⟨_, rfl, pd, _, rfl, g1, _, rfl, _, _, rfl, rfl, .inr ⟨_, rfl, ?_⟩⟩
    refine ⟨_, _, rfl, rfl, _, rfl, ?_⟩
    obtain ⟨H2, u2, hP2, k2⟩ := p1 (o - (if decide ((4 : Int) < d1) = true then 1 else 0))
    refine ⟨pd, H2, rfl, u2, ?_⟩
    have k12 := k1.trans k2
    obtain ⟨⟨a2, b2, _⟩, c2, _, _⟩ := hP2.x
    by_cases w0 : d1 = 0
    · subst w0
      refine ⟨_, rfl, rfl, _, rfl, iteT' (by decide) (iteT ⟨by show 1 ≤ sizeLine; decide, fun p np => ?_⟩)⟩
      exact q.leaf (by decide) (by omega) (w := "number") (by decide) np .nil (.inr (.inr (.inl ⟨rfl, rfl⟩))) hP2 k12
    have n0 : V.int d1 ≠ V.int 0 := fun e => w0 (V.int.inj e)
    by_cases w4 : 4 < d1
    · by_cases hd : (o - (if decide ((4 : Int) < d1) = true then 1 else 0)) < 0
      · refine ⟨_, rfl, rfl, _, rfl, iteF' (decide_eq_false n0) ⟨_, rfl, pd, _, rfl, b2, _, _, rfl, rfl, _, rfl, iteT' (decide_eq_true hd) ⟨_, rfl, _, _, rfl, rfl, _, rfl, iteT' (decide_eq_true w4) ⟨by show 1 ≤ sizeLine; decide, fun p np => ?_⟩⟩⟩⟩
        exact q.leaf (by decide) (by omega) (w := "number") (by decide) np .nil (.inr (.inr (.inl ⟨rfl, rfl⟩))) hP2 k12
      · refine ⟨_, rfl, rfl, _, rfl, iteF' (decide_eq_false n0) ⟨_, rfl, pd, _, rfl, b2, _, _, rfl, rfl, _, rfl, iteF' (decide_eq_false hd) (iteF ?_)⟩⟩
        refine ⟨_, rfl, _, _, rfl, rfl, _, rfl, iteF' (decide_eq_false (by omega)) ?_⟩
        refine ⟨_, rfl, _, _, rfl, rfl, _, rfl, iteF' (decide_eq_false (by omega)) ?_⟩
        have pk : ∀ (H3 : Hp), H3 = H2 → (tCall spPf [] E0 (tCons (tVar 0) (tCons (tC (.bl false)) tNil))) [some (.ref pd), some (.int d1)] H3 Q := by
          rintro H3 rfl
          exact ⟨_, rfl, pd, po, t1, _, false, rfl, hP2, by omega, fun l qs H3 t3 ht3 pk0 sh0 hr3 hP3 k3 => q _ (.leaf "pick" (pickR qs)) H3 t3 _ _ _ (by omega) hr3 (show ("pick" : Str) ∈ ([("text" : Str), "sign", "word", "number", "pick"] : List Str) by decide) (.inr (.inr (.inr ⟨rfl, qs, rfl, pk0⟩))) (by show 1 ≤ 2; decide) hP3 (k12.trans k3)⟩
        by_cases w5 : d1 = 5
        · refine ⟨_, rfl, rfl, _, rfl, iteT' (decide_eq_true (by rw [w5])) (iteT ?_)⟩
          exact pk H2 rfl
        have n5 : V.int d1 ≠ V.int 5 := fun e => w5 (V.int.inj e)
        by_cases hr1 : r < 1
        · refine ⟨_, rfl, rfl, _, rfl, iteF' (decide_eq_false n5) ⟨_, rfl, pd, _, rfl, a2, _, _, rfl, rfl, _, rfl, iteT' (decide_eq_true hr1) ?_⟩⟩
          exact pk H2 rfl
        refine ⟨_, rfl, rfl, _, rfl, iteF' (decide_eq_false n5) ⟨_, rfl, pd, _, rfl, a2, _, _, rfl, rfl, _, rfl, iteF' (decide_eq_false hr1) ?_⟩⟩
        obtain ⟨H3, u3, hP3, k3⟩ := c2 (r - 1)
        refine ⟨_, rfl, pd, _, rfl, a2, _, _, rfl, rfl, _, rfl, pd, H3, rfl, u3, ?_⟩
        refine ⟨_, rfl, pd, po, t1, _, rfl, hP3, by omega, fun cs H4 t4 ht4 l1 l2 hc hnd hso hP4 k4 => ⟨by show 2 ≤ sizeLine; decide, fun p1 n1 => ?_⟩⟩
        have r4 : Rp (upd H4 p1 (.tup [.str "sign", .str ⟨cs.toArray⟩])) (.ref p1) (Fo.leaf "sign" [.str ⟨cs.toArray⟩]).enc := .tup (vs := [.str "sign", .str ⟨cs.toArray⟩]) upd_same (.cons (.str (by decide)) (.cons (str_rp l2 (by decide)) .nil))
        refine ⟨_, rfl, pd, po, t4, _, true, rfl, hP4.new n1, by omega, fun l qs H5 t5 ht5 pk5 sh5 hr5 hP5 k5 => ⟨by show 2 ≤ sizeLine; decide, fun L nL => ?_⟩⟩
        have hL := off_pot hP5 nL
        refine ⟨_, rfl, pd, po, t5, _, 2, rfl, hP5.new nL, by omega, by decide, by decide, fun d6 H6 t6 ht6 d60 d61 hP6 k6 => ?_⟩
        obtain ⟨v, hv, hm⟩ := at_some d60 (show d6 < ([V.ref p1, .ref l].length : Int) from d61)
        refine ⟨L, _, d6, v, rfl, rfl, SqL.of (k6 L _ hL upd_same), hv, ⟨by show 2 ≤ sizeLine; decide, fun p np => ?_⟩⟩
        have kk6 : Kp (PM pd po) H5 H6 := (Kp.new nL).trans k6
        have kA := ((((k12.trans k3).trans k4).trans (Kp.new n1)).trans k5).trans kk6
        have rr4 := (r4.keep k5 (hP4.new n1).noT).keep kk6 hP5.noT
        have rr5 := hr5.keep kk6 hP5.noT
        simp only [List.mem_cons, List.not_mem_nil, or_false] at hm
        rcases hm with e | e
        · subst e
          exact q.one (by omega) (w := "spelt") (by decide) np rr4 (show ("sign" : Str) ∈ ([("text" : Str), "sign", "word", "number", "pick"] : List Str) by decide) (by show 2 ≤ 2; decide) .nil ⟨.inr (.inl ⟨.inl rfl, _, rfl, set_of_cs l1 hc hnd hso⟩), .inr (.inl ⟨rfl, rfl, .inl ⟨rfl, _, rfl⟩⟩)⟩ hP6 kA
        · subst e
          exact q.one (by omega) (w := "spelt") (by decide) np (f := .leaf "pick" (pickR qs)) rr5 (show ("pick" : Str) ∈ ([("text" : Str), "sign", "word", "number", "pick"] : List Str) by decide) (by show 2 ≤ 2; decide) .nil ⟨.inr (.inr (.inr ⟨rfl, qs, rfl, pk5⟩)), .inr (.inl ⟨rfl, rfl, .inr ⟨rfl, qs, rfl, sh5 rfl⟩⟩)⟩ hP6 kA
    · refine ⟨_, rfl, rfl, _, rfl, iteF' (decide_eq_false n0) ⟨_, rfl, pd, _, rfl, b2, _, _, rfl, rfl, _, rfl, ite2 (fun c => ⟨_, rfl, _, _, rfl, rfl, _, rfl, iteF' (decide_eq_false w4) ?_⟩) (fun c => iteF ?_)⟩⟩ <;>
      · by_cases w3 : d1 < 3
        · refine ⟨_, rfl, _, _, rfl, rfl, _, rfl, iteT' (decide_eq_true w3) ?_⟩
          refine ⟨_, rfl, pd, po, t1, 7, _, _, _, 2, 7, rfl, hP2, by omega, by decide, by decide, by decide, by decide, by decide, fun cs H3 t3 g3 ht3 hg1 hg2 l1 l2 hc hP3 k3 => ⟨by show 2 ≤ sizeLine; decide, fun p np => ?_⟩⟩
          exact q.leaf (by decide) (by omega) (w := "text") (by decide) np (.cons (str_rp l2 (by decide)) .nil) (.inl ⟨rfl, _, rfl, txt_of_cs l1 hc⟩) hP3 (k12.trans k3)
        · refine ⟨_, rfl, _, _, rfl, rfl, _, rfl, iteF' (decide_eq_false w3) ?_⟩
          refine ⟨_, rfl, _, _, rfl, rfl, _, rfl, iteT' (decide_eq_true (by omega)) ?_⟩
          refine ⟨by show 2 ≤ sizeLine; decide, fun L nL => ⟨_, rfl, _, _, rfl, rfl, ?_⟩⟩
          obtain ⟨v, hv, hm⟩ := at_some (xs := [V.str "sign", .str "word"]) (d := d1 - 3) (by omega) (by show d1 - 3 < 2; omega)
          refine ⟨L, _, d1 - 3, v, rfl, rfl, SqL.of upd_same, hv, ?_⟩
          refine ⟨_, rfl, pd, po, t1, _, rfl, hP2.new nL, by omega, fun cs H4 t4 ht4 l1 l2 hc hnd hso hP4 k4 => ⟨by show 2 ≤ sizeLine; decide, fun p np => ?_⟩⟩
          have kA := (k12.trans (Kp.new nL)).trans k4
          simp only [List.mem_cons, List.not_mem_nil, or_false] at hm
          rcases hm with e | e
          · subst e
            exact q.leaf (by decide) (by omega) (w := "sign") (by decide) np (.cons (str_rp l2 (by decide)) .nil) (.inr (.inl ⟨.inl rfl, _, rfl, set_of_cs l1 hc hnd hso⟩)) hP4 kA
          · subst e
            exact q.leaf (by decide) (by omega) (w := "word") (by decide) np (.cons (str_rp l2 (by decide)) .nil) (.inr (.inl ⟨.inr rfl, _, rfl, set_of_cs l1 hc hnd hso⟩)) hP4 kA
def spBf (N : List Str) : Sp := fun vs H Q _ => ∃ (pd po : Addr) (t : Nat) (r o g : Int), vs = [.ref pd] ∧ Pot H pd po t (some (r, o, g)) ∧ t < 2 ^ 44 ∧ (∀ (v : V) (f : Fo) (H' : Hp) (t' : Nat) (r' o' g' : Int), t' ≤ t + 130 → Rp H' v f.enc → f.ok N → f.wf → f.bare → f.size ≤ 3 → Pot H' pd po t' (some (r', o', g')) → Kp (PM pd po) H H' → Q v H')
theorem ok_bf {N : List Str} {f fn fb fp : Addr} {fd fdn fdb fdp : FuncData} {k : Nat} (F : Fun K "_law_bare_form" "_law_bare_form" sBf f fd)
    (GN : FnOk P w K mg base CX0 k fn fdn ["_law_pot_here", "_law_many"] spNext) (kn : PySem.W.keepIn K (.ref fn) = true) (bn : Binds K fdn ["_law_pot_here", "_law_many"] []) (gn : mg "_law_next" = some (.ref fn))
    (GB : FnOk P w K mg base CX0 k fb fdb ["_law_pot_here", "_law_few", "_law_most"] spBit) (kb : PySem.W.keepIn K (.ref fb) = true) (bb : Binds K fdb ["_law_pot_here", "_law_few", "_law_most"] []) (gb : mg "_law_bit" = some (.ref fb))
    (GP : FnOk P w K mg base CX0 k fp fdp ["_law_pot_here"] (spPl N)) (kp : PySem.W.keepIn K (.ref fp) = true) (bp : Binds K fdp ["_law_pot_here"] []) (gp : mg "_law_plain" = some (.ref fp)) :
    FnOk P w K mg base CX0 (k + 1) f fd ["_law_pot_here"] (spBf N) := by
  refine F.ok scBf (fun vs H Q E h => ?_) (fun cdv A outer s H vs Q E hr h => ?_)
  · obtain ⟨pd, po, t, r, o, g, rfl, _⟩ := h
    rfl
  · obtain ⟨pd, po, t, r, o, g, rfl, hP, ht, q⟩ := h
    have h44 : (2 : Nat) ^ 44 = 17592186044416 := by decide
    have h45 : (2 : Nat) ^ 45 = 35184372088832 := by decide
    have h47 : (2 : Nat) ^ 47 = 140737488355328 := by decide
    have h50 : (2 : Nat) ^ 50 = 1125899906842624 := by decide
    refine ⟨_, (pss_cons (ps_if (PW.pt (pw_or (pt_cmpR op_lt (pe_dget (hu_of hr) (pv 0) pe_str (fun _ _ => rfl)) pe_int (nomark _)) (pw_or1 (pt_cmpR op_eq (pe_call GN hr (by rfl) gn kn bn .nil pass0 (pa_cons (pv 0) (pa_cons pe_int pa_nil))) pe_int (nomark _))))) (pss_one (ps_ret (pe_tup (pa_cons pe_str (pa_cons (pe_call GB hr (by rfl) gb kb bb .nil pass0 (pa_cons (pv 0) (pa_cons pe_int (pa_cons pe_int pa_nil)))) pa_nil))))) pss_nil)
      (pss_cons (ps_dput (hu_of hr) (pv 0) pe_str (pe_op op_sub (pe_dget (hu_of hr) (pv 0) pe_str (fun _ _ => rfl)) pe_int) rfl)
      (pss_cons (ps_if (pt_cmpR op_eq (pe_call GN hr (by rfl) gn kn bn .nil pass0 (pa_cons (pv 0) (pa_cons pe_int pa_nil))) pe_int (nomark _)) (pss_one (ps_ret (pe_tup (pa_cons pe_str (pa_cons (pe_tup (pa_cons pe_str (pa_cons (pe_call GB hr (by rfl) gb kb bb .nil pass0 (pa_cons (pv 0) (pa_cons pe_int (pa_cons pe_int pa_nil)))) pa_nil))) pa_nil))))) pss_nil)
      (pss_one (ps_ret (pe_tup (pa_cons pe_str (pa_cons (pe_call GP hr (by rfl) gp kp bp .nil pass0 (pa_cons (pv 0) pa_nil)) pa_nil)))))))), ?_⟩
    obtain ⟨⟨a1, b1, _⟩, c1, _, _⟩ := hP.x
    have tx : ∀ (H1 : Hp) (t1 : Nat), t1 ≤ t + 1 → Pot H1 pd po t1 (some (r, o, g)) → Kp (PM pd po) H H1 → (tTup (tCons (tC (.str "text")) (tCons (tCall spBit [] E0 (tCons (tVar 0) (tCons (tC (.int 1)) (tCons (tC (.int 2)) tNil)))) tNil))) [some (.ref pd)] H1 Q := fun H1 t1 ht1 hP1 k1 => by
      refine ⟨_, rfl, pd, po, t1, 2, _, _, _, 1, 2, rfl, hP1, by omega, by decide, by decide, by decide, by decide, by decide, fun cs H3 t3 g3 ht3 hg1 hg2 l1 l2 hc hP3 k3 => ⟨by show 2 ≤ sizeLine; decide, fun p np => ?_⟩⟩
      exact q _ (.leaf "text" [.str ⟨cs.toArray⟩]) _ t3 _ _ _ (by omega) (.tup (vs := [.str "text", .str ⟨cs.toArray⟩]) upd_same (.cons (.str (by decide)) (.cons (str_rp l2 (by decide)) .nil))) (show ("text" : Str) ∈ ([("text" : Str), "sign", "word", "number", "pick"] : List Str) by decide) (.inl ⟨rfl, _, rfl, txt_of_cs l1 hc⟩) rfl (by show 1 ≤ 3; decide) (hP3.new np) ((k1.trans k3).trans (Kp.new np))
    refine ⟨_, rfl, pd, _, rfl, a1, _, _, rfl, rfl, _, rfl, ite2 (fun c => iteT (tx H t (by omega) hP Kp.refl)) (fun c => ?_)⟩
    refine ⟨_, rfl, pd, po, t, _, 2, rfl, hP, by omega, by decide, by decide, fun d1 H1 t1 ht1 d10 d11 hP1 k1 => ⟨rfl, _, rfl, ite2 (fun c => tx H1 t1 (by omega) hP1 k1) (fun c => ?_)⟩⟩
    obtain ⟨⟨a1, _, _⟩, c1, _, _⟩ := hP1.x
    obtain ⟨H2, u2, hP2, k2⟩ := c1 (r - 1)
    refine ⟨_, rfl, pd, _, rfl, a1, _, _, rfl, rfl, _, rfl, pd, H2, rfl, u2, ?_⟩
    have k12 := k1.trans k2
    refine ⟨_, rfl, pd, po, t1, _, 2, rfl, hP2, by omega, by decide, by decide, fun d3 H3 t3 ht3 d30 d31 hP3 k3 => ⟨rfl, _, rfl, ite2 (fun c => ?_) (fun c => ?_)⟩⟩
    · refine ⟨_, rfl, pd, po, t3, 2, _, _, _, 1, 2, rfl, hP3, by omega, by decide, by decide, by decide, by decide, by decide, fun cs H4 t4 g4 ht4 hg1 hg2 l1 l2 hc hP4 k4 => ⟨by show 2 ≤ sizeLine; decide, fun p1 n1 => ⟨by show 2 ≤ sizeLine; decide, fun p np => ?_⟩⟩⟩
      have kp : Kp M0 (upd H4 p1 (.tup [.str "text", .str ⟨cs.toArray⟩])) (upd (upd H4 p1 (.tup [.str "text", .str ⟨cs.toArray⟩])) p (.tup [.str "skip", .ref p1])) := Kp.new np
      exact q _ (.one "skip" (.leaf "text" [.str ⟨cs.toArray⟩]) []) _ t4 _ _ _ (by omega) (.tup (vs := [.str "skip", .ref p1]) upd_same (.cons (.str (by decide)) (.cons (.tup (vs := [.str "text", .str ⟨cs.toArray⟩]) (kp _ _ (fun z => z) upd_same) (.cons (.str (by decide)) (.cons (str_rp l2 (by decide)) .nil))) .nil))) ⟨by decide, (show ("text" : Str) ∈ ([("text" : Str), "sign", "word", "number", "pick"] : List Str) by decide)⟩ ⟨.inl ⟨rfl, _, rfl, txt_of_cs l1 hc⟩, .inl ⟨rfl, rfl⟩⟩ rfl (by show 2 ≤ 3; decide) ((hP4.new n1).new np) ((((k12.trans k3).trans k4).trans (Kp.new n1)).trans (Kp.new np))
    · refine ⟨_, rfl, pd, po, t3, _, _, _, rfl, hP3, by omega, fun v f H4 t4 r4 o4 g4 ht4 hr4 hf4 hw4 hs4 hP4 k4 => ⟨by show 2 ≤ sizeLine; decide, fun p np => ?_⟩⟩
      have kp : Kp M0 H4 (upd H4 p (.tup [.str "skip", v])) := Kp.new np
      exact q _ (.one "skip" f []) _ t4 _ _ _ (by omega) (.tup (vs := [.str "skip", v]) upd_same (.cons (.str (by decide)) (.cons (hr4.keep kp noT0) .nil))) ⟨by decide, hf4⟩ ⟨hw4, .inl ⟨rfl, rfl⟩⟩ rfl (by show 1 + f.size ≤ 3; omega) (hP4.new np) (((k12.trans k3).trans k4).trans (kp.mono fun b z => z.elim))
end
end RT

/-! t * k for any k from 0 -/
namespace RT
open PySem PySem.Spec PyProof.Rows L2
theorem tup_times0 (l : Addr) (its : Array Value) (n : Nat) (dd : Option Addr) (sl : Array (Option Value)) (u : Tok) (hi : its.isEmpty = false) :
    Meets (Builtin.«tuple.__mul__» ⟨[.ref l, .int 0 u], []⟩) (fun _ R s => s.heap.get? l = some { cls := .type "tuple", dict := dd, data := .seq its n, slots := sl } ∧
      R (.ok (.ret (Value.ref s.heap.objs.size))) { s with heap := s.heap.push { cls := Value.type "tuple", data := Data.seq #[] }, toks := s.toks }) :=
  .of_wp fun prog w A R s h => by
    obtain ⟨hp, g, d, tk, os⟩ := s
    obtain ⟨ho, h⟩ := h
    have f1 := AutoSeq1.idx_int
    wp_walk using wpAny_loadPart' ho
    exact ⟨_, rfl, h⟩
theorem tup_times1 (l : Addr) (its : Array Value) (n : Nat) (dd : Option Addr) (sl : Array (Option Value)) (u : Tok) :
    Meets (Builtin.«tuple.__mul__» ⟨[.ref l, .int 1 u], []⟩) (fun _ R s => s.heap.get? l = some { cls := .type "tuple", dict := dd, data := .seq its n, slots := sl } ∧ R (.ok (.ret (Value.ref l))) s) :=
  .of_wp fun prog w A R s h => by
    obtain ⟨hp, g, d, tk, os⟩ := s
    obtain ⟨ho, h⟩ := h
    have f1 := AutoSeq1.idx_int
    wp_walk using wpAny_loadPart' ho
    exact ⟨_, rfl, h⟩
section
variable {X : Cx}
def rTimes : R2 := fun x y H Q => ∃ (l : Addr) (k : Int) (xs : List V), x = .ref l ∧ y = .int k ∧ H l = some (.tup xs) ∧ xs ≠ [] ∧ 0 ≤ k ∧ k ≤ 1000 ∧ xs.length ≤ 1000 ∧
  ∀ (a : Addr) (H' : Hp), H' a = some (.tup (List.replicate k.toNat xs).flatten) → Kp M0 H H' → Q (.ref a) H'
theorem op_times : OpR X (binaryOp .Mult) rTimes := by
  intro pins s σ H x y v u Q I rx ry h
  obtain ⟨l, k, xs, rfl, rfl, hT, hne, h1, h2, hz, q⟩ := h
  by_cases big : 2 ≤ k
  · exact op_repT pins s σ H _ _ v u Q I rx ry ⟨l, k, xs, rfl, rfl, SqT.of hT, hne, big, h2, hz, fun p np => q p _ upd_same (Kp.new np)⟩
  cases rx
  obtain ⟨t, rfl⟩ := ry
  obtain ⟨its, r, ⟨⟨cls, dd, data, sl⟩, ho, hc, n, hd⟩, hs⟩ := I.tuple (SqT.of hT)
  cases hc
  cases hd
  have hi : its.toArray.isEmpty = false := by
    cases its with
    | nil =>
      cases xs with
      | nil => exact absurd rfl hne
      | cons a b => cases r
    | cons a b => rfl
  have tail : ∀ (W : Value → Shared → Prop) (E : Value → Shared → Prop), (wpAny (model X.prog X.w) X.A (call (.builtin "tuple.__mul__") [.ref l, .int k t]) W E s) → wpAny (model X.prog X.w) X.A (binaryOp .Mult (.ref l) (.int k t)) W E s := fun W E z =>
    wpAny_binaryOp_repeat_ref (T := "tuple") (U := "int") (by decide) ⟨_, ho, rfl⟩ (fun s' => typeIs_int s' k t) noFill_tuple_mul PySem.F.fills_int_mul PySem.F.slot_int_rmul repeat_tuple PySem.F.slot_int_index.lookup
      (call_meets PySem.F.slot_int_rmul (typeIs_int s k t) PySem.F.entry_int_rmul (PySem.F.args_int_rmul_2 _ _) (int_rmul_tuple k t l its.toArray n dd sl) ⟨ho, rfl, ⟨_, ho, rfl⟩, z⟩)
  refine tail _ _ ?_
  rcases (show k = 0 ∨ k = 1 by omega) with rfl | rfl
  · refine call_meets PySem.F.slot_tuple_mul ⟨_, ho, rfl⟩ PySem.F.entry_tuple_mul (PySem.F.args_tuple_mul_2 _ _) (tup_times0 l its.toArray n dd sl t hi) ⟨ho, ?_⟩
    exact ⟨.ref s.heap.objs.size, _, I.laid (t' := s.toks) (o := .tup []) (fun b ob e => Heap.get?_push_of_some _ e) (Nat.le_refl _) ⟨Nat.zero_le _, [], .nil, IsTup.new _ _⟩, rfl, q _ _ upd_same (Kp.new (I.hok.fresh (Nat.le_refl _)))⟩
  · refine call_meets PySem.F.slot_tuple_mul ⟨_, ho, rfl⟩ PySem.F.entry_tuple_mul (PySem.F.args_tuple_mul_2 _ _) (tup_times1 l its.toArray n dd sl t) ⟨ho, ?_⟩
    refine ⟨.ref l, H, I, rfl, q l H ?_ Kp.refl⟩
    show H l = some (.tup (List.replicate 1 xs).flatten)
    rw [hT]
    simp
end
end RT

/-! comprehensions that lay tuples of drawn things -/
namespace RT
open PySem PySem.Spec PyProof.Rows L2
theorem Rps.ints {H : Hp} : ∀ {vs : List V}, (∀ v ∈ vs, ∃ i : Int, v = .int i) → ∃ ds, Rps H vs ds
  | [], _ => ⟨[], .nil⟩
  | v :: r, h => by
    obtain ⟨i, rfl⟩ := h v (List.mem_cons_self ..)
    obtain ⟨ds, t⟩ := Rps.ints fun x hx => h x (List.mem_cons_of_mem _ hx)
    exact ⟨_, .cons .int t⟩
theorem lc_rps {K : PySem.W.Frag} {i : Nat} {te : TE} {vs : List Nat} {σ : L2.St} {H1 : Hp} {Da Db : Addr} {Qd : Hp → Prop} {xs : List V} (R : Nat → D → Prop) (hM : xs.length ≤ 100) (eD : H1 Da = some (.lst xs)) (nD : H1 Db = none) (hw : ∀ x, wipe ((wipe σ vs).set i (some x)) vs = wipe σ vs)
    (he : ∀ (j : Nat) (x : V) (H6 : Hp) (Q : VK), xs[j]? = some x → Kp M0 H1 H6 → (∀ y H7 d, R j d → Rp H7 y d → Kp M0 H6 H7 → Q y H7) → te ((wipe σ vs).set i (some x)) H6 Q)
    (hd : ∀ (H : Hp) (ws : List V) (ds : List D), Kp M0 H1 H → H Db = some (.lst ws) → Rps H ws ds → ds.length = xs.length → (∀ j d, ds[j]? = some d → R j d) → Qd H) :
    ∃ W : Nat → Nat → Hp → Prop, (∃ m, W 0 m (upd H1 Db (.lst []))) ∧ ∀ a m H, W a m H →
      ((Itl K Da).stop a H ∧ Qd H) ∨ ((Itl K Da).go a H ∧ ∃ Nx : Hp → Prop, (∀ H', Nx H' → ∃ m', m' < m ∧ W (a + 1) m' H') ∧ ∀ x H', (Itl K Da).yld a H x H' → (gName i) x (wipe σ vs) H' fun σ2 H2 => wipe σ2 vs = wipe σ vs ∧ tYes σ2 H2 fun b H3 =>
        if b = true then te σ2 H3 fun y H4 => ∃ acc, H4 Db = some (.lst acc) ∧ acc.length < sizeLine ∧ Nx (upd H4 Db (.lst (acc ++ [y]))) else Nx H3) := by
  have nab : Da ≠ Db := ne_of_none eD nD
  refine lc_list (xs := xs) (fun j H => Kp M0 H1 H ∧ ∃ (ws : List V) (ds : List D), H Db = some (.lst ws) ∧ Rps H ws ds ∧ ds.length = j ∧ ∀ j d, ds[j]? = some d → R j d) ?_ ?_ ?_ ?_
  · exact ⟨Kp.new nD, [], [], upd_same, .nil, rfl, fun j d e => by simp at e⟩
  · exact fun j H _ h => SqL.of (h.1 _ _ (fun z => z) eD)
  · rintro j x H hx ⟨k, ws, ds, eW, hr, hl, hR⟩
    have hj : j < xs.length := (List.getElem?_eq_some_iff.mp hx).1
    refine ⟨hw _, tYes_ok (iteT ?_)⟩
    refine he j x H _ hx k fun y H7 d hRd hy k7 => ?_
    have e7 := k7 Db _ (fun z => z) eW
    have lw := hr.len
    refine ⟨ws, e7, by rw [lw, hl]; exact small1000 (by omega), (k.trans k7).own nD, ws ++ [y], ds ++ [d], upd_same, ?_, by rw [List.length_append, hl]; rfl, fun a b h => ?_⟩
    · refine Rps.keep (M := fun b => b = Db) (Kp.put rfl) (fun a xs m e2 => ?_) ((hr.keep k7 noT0).app (.cons hy .nil))
      rw [m, e7] at e2
      cases e2
    · by_cases c : a < ds.length
      · rw [List.getElem?_append_left c] at h
        exact hR a b h
      · rw [List.getElem?_append_right (by omega)] at h
        have z : a - ds.length = 0 := by
          have q := (List.getElem?_eq_some_iff.mp h).1
          rw [List.length_singleton] at q
          omega
        rw [z] at h
        cases h
        rw [show a = j by omega]
        exact hRd
  · rintro H ⟨k, ws, ds, eW, hr, hl, hR⟩
    exact hd H ws ds k eW hr hl hR
/-- 0, 2, 4 .. -/
def twos (M : Nat) : List V := (List.range M).map fun k : Nat => V.int (2 * (k : Int))
theorem twos_len (M : Nat) : (twos M).length = M := by unfold twos; rw [List.length_map, List.length_range]
theorem twos_at {M j : Nat} {x : V} (h : (twos M)[j]? = some x) : x = .int (2 * (j : Int)) ∧ j < M := by
  have l : j < M := by
    have z := (List.getElem?_eq_some_iff.mp h).1
    rw [twos_len] at z
    exact z
  unfold twos at h
  rw [List.getElem?_map, List.getElem?_range l] at h
  exact ⟨(Option.some.inj h).symm, l⟩
theorem zip_repl (f : Fo) : ∀ (zs : List Str) (ds : List D), ds.length = zs.length → (∀ (j : Nat) (d : D), ds[j]? = some d → ∃ z, zs[j]? = some z ∧ d = .tup [.str z, f.enc]) → ds = List.zipWith (fun (n : Str) (d : D) => D.tup [.str n, d]) zs (Fo.encs (List.replicate zs.length f))
  | [], [], _, _ => rfl
  | z :: zs, d :: ds, l, h => by
    obtain ⟨z', e1, e2⟩ := h 0 d rfl
    cases e1
    have ih := zip_repl f zs ds (by simpa using l) fun j d hj => by
      obtain ⟨z, a, b⟩ := h (j + 1) d (by simpa using hj)
      exact ⟨z, by simpa using a, b⟩
    show d :: ds = D.tup [.str z, f.enc] :: List.zipWith _ zs (Fo.encs (List.replicate zs.length f))
    rw [← ih, e2]
  | [], _ :: _, l, _ => by cases l
  | _ :: _, [], l, _ => by cases l
theorem sizes_repl (f : Fo) : ∀ n : Nat, Fo.sizes (List.replicate n f) = n * f.size
  | 0 => by simp [Fo.sizes]
  | n + 1 => by
    rw [List.replicate_succ]
    simp only [Fo.sizes]
    rw [sizes_repl f n, Nat.succ_mul]
    omega
theorem oks_repl {N : List Str} {f : Fo} (h : f.ok N) : ∀ n : Nat, Fo.oks N (List.replicate n f)
  | 0 => True.intro
  | n + 1 => ⟨h, oks_repl h n⟩
end RT

/-! turned pairs that are drawn are well made -/
namespace RT
open PySem PySem.Spec PyProof.Rows L2
/-- pairs of things one behind another -/
def prsOf (M : Nat) (T : Nat → D) : List (D × D) := (List.range M).map fun j => (T (2 * j), T (2 * j + 1))
theorem prs_flat (M : Nat) (T : Nat → D) : ((prsOf M T).flatMap fun p => [p.1, p.2]) = (List.range (2 * M)).map T := by
  induction M with
  | zero => rfl
  | succ M ih =>
    unfold prsOf at ih ⊢
    rw [List.range_succ, List.map_append, List.flatMap_append, ih, show 2 * (M + 1) = 2 * M + 1 + 1 from rfl, List.range_succ, List.range_succ, List.map_append, List.map_append]
    simp
theorem turn_ok {f : Fo} {M : Nat} {T : Nat → D} (wo : ∀ k, k < 2 * M → Wo f (T k)) (h1 : 1 ≤ M) (h6 : M ≤ 6) (inj : ∀ j k, j < 2 * M → k < 2 * M → T j = T k → j = k) (ok : ∀ k, k < 2 * M → (T k).thing ∧ (T k).size ≤ 20) : TurnOk f (prsOf M T) := by
  have len : (prsOf M T).length = M := by unfold prsOf; rw [List.length_map, List.length_range]
  refine ⟨fun p hp => ?_, fun z => by rw [z] at len; exact absurd h1 (by rw [← len]; decide), by rw [len]; exact h6, fun p hp => ?_, ?_⟩
  · obtain ⟨j, hj, rfl⟩ := List.mem_map.mp hp
    have hj := List.mem_range.mp hj
    exact ⟨wo (2 * j) (by omega), wo (2 * j + 1) (by omega)⟩
  · obtain ⟨j, hj, rfl⟩ := List.mem_map.mp hp
    have hj := List.mem_range.mp hj
    exact ⟨(ok (2 * j) (by omega)).1, (ok (2 * j + 1) (by omega)).1, (ok (2 * j) (by omega)).2, (ok (2 * j + 1) (by omega)).2⟩
  · rw [prs_flat, List.pairwise_map]
    refine List.pairwise_lt_range.imp_of_mem fun {j k} a b lt e => ?_
    have := inj j k (List.mem_range.mp a) (List.mem_range.mp b) e
    omega
theorem ds_prs {M : Nat} {T : Nat → D} {ds : List D} (l : ds.length = M) (h : ∀ (j : Nat) (d : D), ds[j]? = some d → d = .tup [T (2 * j), T (2 * j + 1)]) : ds = (prsOf M T).map fun p => D.tup [p.1, p.2] := by
  refine List.ext_getElem? fun j => ?_
  unfold prsOf
  rw [List.map_map, List.getElem?_map]
  by_cases c : j < M
  · rw [List.getElem?_range c, List.getElem?_eq_getElem (by omega), h j _ (List.getElem?_eq_getElem (by omega))]
    rfl
  · rw [List.getElem?_eq_none (by omega), List.getElem?_eq_none (by rw [List.length_range]; omega)]
    rfl
theorem az_sign {c : Nat} (h : Az c) : signB c = true := (show ∀ c, c < 123 → 97 ≤ c → signB c = true by decide) c (Nat.lt_succ_of_le h.2) h.1
theorem rps_rep {H : Hp} (i : Int) : ∀ n : Nat, Rps H (List.replicate n [V.int i]).flatten (List.replicate n (.int i))
  | 0 => .nil
  | n + 1 => by
    rw [List.replicate_succ, List.replicate_succ, List.flatten_cons]
    exact .cons .int (rps_rep i n)
theorem things_rep {i : Int} (h : 0 ≤ i) : ∀ n : Nat, D.things (List.replicate n (.int i))
  | 0 => True.intro
  | n + 1 => ⟨h, things_rep h n⟩
theorem sizes_rep (i : Int) : ∀ n : Nat, D.sizes (List.replicate n (.int i)) = n
  | 0 => rfl
  | n + 1 => by
    rw [List.replicate_succ]
    show 1 + D.sizes (List.replicate n (.int i)) = n + 1
    rw [sizes_rep i n]
    omega
abbrev alZ : Str := "abcdefghijkl"
theorem al_at : ∀ k, k < 12 → alZ.cps.toList[k]? = some (97 + k) := by decide
theorem al_set : SetOk alZ := ⟨⟨by decide, by unfold SgnOk; decide⟩, by decide, by decide +kernel⟩
theorem nd_inj {zs : List Str} (nd : zs.Nodup) {j k : Nat} (hj : j < zs.length) (hk : k < zs.length) (e : zs[j] = zs[k]) : j = k := by
  have p := List.pairwise_iff_getElem.mp (List.nodup_iff_pairwise_ne.mp nd)
  rcases Nat.lt_trichotomy j k with h | h | h
  · exact absurd e (p j k hj hk h)
  · exact h
  · exact absurd e.symm (p k j hk hj h)
theorem semi_txt : TxtOk ";" := ⟨by decide, by unfold SgnOk; decide⟩
theorem nm_of {zs : List Str} (hz : Names zs) : ∀ n ∈ zs, NmOk n := fun n h => hz.2.2 n h
end RT

namespace RT
open PySem PySem.Spec PyProof.Rows L2
abbrev sTf : Stmt := topS 45
theorem scTf : FnScope ["_law_pot_here", "_law_way", "_law_many", "_law_first", "_law_cost", "_law_twos", "_law_names_here", "_law_inner", "_law_pairs", "_law_signs_here", "_law_k", "_law_name"] ["_law_pot_here"] (defScope sTf) := ⟨rfl, rfl, rfl, by decide +kernel, rfl, by decide +kernel, by decide +kernel⟩
theorem getD_mem {zs : List Str} {k : Nat} (h : k < zs.length) : (zs[k]?).getD "" ∈ zs := by
  rw [List.getElem?_eq_getElem h]
  exact List.getElem_mem h
section
variable {P : Program} {w : World} {K : PySem.W.Frag} {mg : Str → Option Value} {base : Heap}
def spTf (N : List Str) : Sp := fun vs H Q _ => ∃ (pd po : Addr) (t : Nat) (r o g : Int), vs = [.ref pd] ∧ Pot H pd po t (some (r, o, g)) ∧ t < 2 ^ 45 ∧ FormQ N pd po t 60 20 H Q
set_option maxHeartbeats 0 in
theorem ok_tf {N : List Str} {f fn fz fm : Addr} {fd fdn fdz fdm : FuncData} {k : Nat} (F : Fun K "_law_turned_form" "_law_turned_form" sTf f fd)
    (GN : FnOk P w K mg base CX0 k fn fdn ["_law_pot_here", "_law_many"] spNext) (kn : PySem.W.keepIn K (.ref fn) = true) (bn : Binds K fdn ["_law_pot_here", "_law_many"] []) (gn : mg "_law_next" = some (.ref fn))
    (GZ : FnOk P w K mg base CX0 k fz fdz ["_law_pot_here", "_law_few", "_law_most"] spSize) (kz : PySem.W.keepIn K (.ref fz) = true) (bz : Binds K fdz ["_law_pot_here", "_law_few", "_law_most"] []) (gz : mg "_law_size" = some (.ref fz))
    (GM : FnOk P w K mg base CX0 k fm fdm ["_law_pot_here", "_law_many"] spNames) (km : PySem.W.keepIn K (.ref fm) = true) (bm : Binds K fdm ["_law_pot_here", "_law_many"] []) (gm : mg "_law_names" = some (.ref fm))
    (mr : mg "range" = none) (mtu : mg "tuple" = none) : FnOk P w K mg base CX0 (k + 1) f fd ["_law_pot_here"] (spTf N) := by
  refine F.ok scTf (fun vs H Q E h => ?_) (fun cdv A outer s H vs Q E hr h => ?_)
  · obtain ⟨pd, po, t, r, o, g, rfl, _⟩ := h
    rfl
  · obtain ⟨pd, po, t, r, o, g, rfl, hP, ht, q⟩ := h
    have h45 : (2 : Nat) ^ 45 = 35184372088832 := by decide
    have h47 : (2 : Nat) ^ 47 = 140737488355328 := by decide
    have h49 : (2 : Nat) ^ 49 = 562949953421312 := by decide
    have h50 : (2 : Nat) ^ 50 = 1125899906842624 := by decide
    refine ⟨_, (pss_cons (ps_set (i := 1) scTf.nd rfl (.inl rfl) (pe_call GN hr (by rfl) gn kn bn .nil pass0 (pa_cons (pv 0) (pa_cons pe_int pa_nil))))
      (pss_cons (ps_set (i := 2) scTf.nd rfl (.inl rfl) (pe_op op_add pe_int (pe_call GZ hr (by rfl) gz kz bz .nil pass0 (pa_cons (pv 0) (pa_cons pe_int (pa_cons pe_int pa_nil))))))
      (pss_cons (ps_set (i := 3) scTf.nd rfl (.inr rfl) (pe_call GN hr (by rfl) gn kn bn .nil pass0 (pa_cons (pv 0) (pa_cons pe_int pa_nil))))
      (pss_cons (ps_set (i := 4) scTf.nd rfl (.inl rfl) (pe_ix (show IxR _ (rIxL K) from ix_list) (pe_lst (pa_cons pe_int (pa_cons (pe_op op_add (pe_op op_mulW pe_int (pv 2)) pe_int) (pa_cons pe_int (pa_cons pe_int pa_nil))))) (pv 1) (fun _ _ => rfl)))
      (pss_cons (ps_if (pt_cmpR op_lt (pe_dget (hu_of hr) (pv 0) pe_str (fun _ _ => rfl)) (pv 4) (nomark _)) (pss_one (ps_ret (pe_tup (pa_cons pe_str pa_nil)))) pss_nil)
      (pss_cons (ps_dput (hu_of hr) (pv 0) pe_str (pe_op op_sub (pe_dget (hu_of hr) (pv 0) pe_str (fun _ _ => rfl)) (pv 4)) rfl)
      (pss_cons (ps_setLc (i := 5) (own := [("_law_k", 10)]) (g := gName 10) (tt := tYes) rfl scTf.nd rfl rfl rfl (pi_range1 (by rfl) mr (pa_cons (pv 2) pa_nil)) (blkOk_by (N := ["_law_pot_here", "_law_way", "_law_many", "_law_first", "_law_cost", "_law_twos", "_law_names_here", "_law_inner", "_law_pairs", "_law_signs_here", "_law_k", "_law_name"]) (sc := defScope sTf) (by decide +kernel)) (fun _ _ _ _ _ => (pg_name (i := 10) scTf.nd rfl (.inl rfl))) (fun _ _ _ _ _ => pts_nil) (fun _ _ _ _ _ => (pe_op op_mulW pe_int (pv 10))))
      (pss_cons (ps_if (pt_cmpR op_eq (pv 1) pe_int (nomark _)) (pss_one (ps_ret (pe_tup (pa_cons pe_str (pa_cons (pe_tup (pa_cons pe_str pa_nil)) (pa_cons (pe_callTy call_tuple_of (by rfl) mtu (by decide +kernel) (pa_cons (pe_lc (own := [("_law_k", 10)]) (g := gName 10) (tt := tYes) rfl scTf.nd (pi_list (pv 5)) (blkOk_by (N := ["_law_pot_here", "_law_way", "_law_many", "_law_first", "_law_cost", "_law_twos", "_law_names_here", "_law_inner", "_law_pairs", "_law_signs_here", "_law_k", "_law_name"]) (sc := defScope sTf) (by decide +kernel)) (fun _ _ _ _ _ => (pg_name (i := 10) scTf.nd rfl (.inl rfl))) (fun _ _ _ _ _ => pts_nil) (fun _ _ _ _ _ => (pe_tup (pa_cons (pe_op op_add (pv 3) (pv 10)) (pa_cons (pe_op op_add (pe_op op_add (pv 3) (pv 10)) pe_int) pa_nil))))) pa_nil)) pa_nil)))))) pss_nil)
      (pss_cons (ps_if (pt_cmpR op_eq (pv 1) pe_int (nomark _)) (pss_cons (ps_set (i := 6) scTf.nd rfl (.inr rfl) (pe_call GM hr (by rfl) gm km bm .nil pass0 (pa_cons (pv 0) (pa_cons (pe_op op_mulW pe_int (pv 2)) pa_nil))))
      (pss_cons (ps_set (i := 7) scTf.nd rfl (.inl rfl) (pe_tup (pa_cons pe_str (pa_cons (pe_callTy call_tuple_of (by rfl) mtu (by decide +kernel) (pa_cons (pe_lc (own := [("_law_name", 11)]) (g := gName 11) (tt := tYes) rfl scTf.nd (pi_list (pv 6)) (blkOk_by (N := ["_law_pot_here", "_law_way", "_law_many", "_law_first", "_law_cost", "_law_twos", "_law_names_here", "_law_inner", "_law_pairs", "_law_signs_here", "_law_k", "_law_name"]) (sc := defScope sTf) (by decide +kernel)) (fun _ _ _ _ _ => (pg_name (i := 11) scTf.nd rfl (.inl rfl))) (fun _ _ _ _ _ => pts_nil) (fun _ _ _ _ _ => (pe_tup (pa_cons (pv 11) (pa_cons (pe_tup (pa_cons pe_str (pa_cons pe_str pa_nil))) pa_nil))))) pa_nil)) pa_nil))))
      (pss_one (ps_ret (pe_tup (pa_cons pe_str (pa_cons (pv 7) (pa_cons (pe_callTy call_tuple_of (by rfl) mtu (by decide +kernel) (pa_cons (pe_lc (own := [("_law_k", 10)]) (g := gName 10) (tt := tYes) rfl scTf.nd (pi_list (pv 5)) (blkOk_by (N := ["_law_pot_here", "_law_way", "_law_many", "_law_first", "_law_cost", "_law_twos", "_law_names_here", "_law_inner", "_law_pairs", "_law_signs_here", "_law_k", "_law_name"]) (sc := defScope sTf) (by decide +kernel)) (fun _ _ _ _ _ => (pg_name (i := 10) scTf.nd rfl (.inl rfl))) (fun _ _ _ _ _ => pts_nil) (fun _ _ _ _ _ => (pe_tup (pa_cons (pe_tup (pa_cons (pe_ix (show IxR _ (rIxL K) from ix_list) (pv 6) (pv 10) (fun _ _ => rfl)) pa_nil)) (pa_cons (pe_tup (pa_cons (pe_ix (show IxR _ (rIxL K) from ix_list) (pv 6) (pe_op op_add (pv 10) pe_int) (fun _ _ => rfl)) pa_nil)) pa_nil))))) pa_nil)) pa_nil)))))))) pss_nil)
      (pss_cons (ps_if (pt_cmpR op_eq (pv 1) pe_int (nomark _)) (pss_cons (ps_set (i := 8) scTf.nd rfl (.inl rfl) (pe_callTy call_tuple_of (by rfl) mtu (by decide +kernel) (pa_cons (pe_lc (own := [("_law_k", 10)]) (g := gName 10) (tt := tYes) rfl scTf.nd (pi_list (pv 5)) (blkOk_by (N := ["_law_pot_here", "_law_way", "_law_many", "_law_first", "_law_cost", "_law_twos", "_law_names_here", "_law_inner", "_law_pairs", "_law_signs_here", "_law_k", "_law_name"]) (sc := defScope sTf) (by decide +kernel)) (fun _ _ _ _ _ => (pg_name (i := 10) scTf.nd rfl (.inl rfl))) (fun _ _ _ _ _ => pts_nil) (fun _ _ _ _ _ => (pe_tup (pa_cons (pe_op op_times (pe_tup (pa_cons (pv 3) pa_nil)) (pv 10)) (pa_cons (pe_op op_times (pe_tup (pa_cons (pv 3) pa_nil)) (pe_op op_add (pv 10) pe_int)) pa_nil))))) pa_nil)))
      (pss_one (ps_ret (pe_tup (pa_cons pe_str (pa_cons (pe_tup (pa_cons pe_str (pa_cons (pe_tup (pa_cons pe_str pa_nil)) (pa_cons pe_non pa_nil)))) (pa_cons (pv 8) pa_nil))))))) pss_nil)
      (pss_cons (ps_set (i := 9) scTf.nd rfl (.inr rfl) pe_str)
      (pss_one (ps_ret (pe_tup (pa_cons pe_str (pa_cons (pe_tup (pa_cons pe_str (pa_cons (pv 9) pa_nil))) (pa_cons (pe_callTy call_tuple_of (by rfl) mtu (by decide +kernel) (pa_cons (pe_lc (own := [("_law_k", 10)]) (g := gName 10) (tt := tYes) rfl scTf.nd (pi_list (pv 5)) (blkOk_by (N := ["_law_pot_here", "_law_way", "_law_many", "_law_first", "_law_cost", "_law_twos", "_law_names_here", "_law_inner", "_law_pairs", "_law_signs_here", "_law_k", "_law_name"]) (sc := defScope sTf) (by decide +kernel)) (fun _ _ _ _ _ => (pg_name (i := 10) scTf.nd rfl (.inl rfl))) (fun _ _ _ _ _ => pts_nil) (fun _ _ _ _ _ => (pe_tup (pa_cons (pe_ix ix_str (pv 9) (pv 10) (fun _ _ => rfl)) (pa_cons (pe_ix ix_str (pv 9) (pe_op op_add (pv 10) pe_int) (fun _ _ => rfl)) pa_nil))))) pa_nil)) pa_nil))))))))))))))))), ?_⟩
    refine ⟨_, rfl, pd, po, t, _, 4, rfl, hP, by omega, by decide, by decide, fun wy H1 t1 ht1 wy0 wy1 hP1 k1 => ?_⟩
    refine ⟨_, rfl, pd, po, t1, 5, _, 1, 5, rfl, hP1, by omega, by decide, by decide, by decide, by decide, by decide, fun m H2 t2 ht2 hm hP2 k2 => ?_⟩
    refine ⟨_, _, rfl, rfl, ?_⟩
    refine ⟨_, rfl, pd, po, t2, _, 50, rfl, hP2, by omega, by decide, by decide, fun fi H3 t3 ht3 fi0 fi1 hP3 k3 => ?_⟩
    have k13 := (k1.trans k2).trans k3
    have w2 : (2 : Int).natAbs < 2 ^ 64 := by decide
    have wm : (1 + (m : Int)).natAbs < 2 ^ 64 := by
      show _ < 18446744073709551616
      omega
    refine ⟨_, rfl, _, _, rfl, rfl, wide_mul w2 wm (by decide) (by decide) (by decide), _, _, rfl, rfl, by show 4 ≤ sizeLine; decide, fun p4 n4 => ?_⟩
    obtain ⟨v, hv, hm4⟩ := at_some wy0 (show wy < ([V.int 1, .int (2 * (1 + (m : Int)) + 1), .int 2, .int 1].length : Int) from wy1)
    obtain ⟨co, rfl⟩ : ∃ co : Int, v = .int co := by
      simp only [List.mem_cons, List.not_mem_nil, or_false] at hm4
      rcases hm4 with e | e | e | e <;> exact ⟨_, e⟩
    refine ⟨_, rfl, p4, _, wy, _, rfl, rfl, SqL.of upd_same, hv, ?_⟩
    have hP4 := hP3.new (o := .lst [V.int 1, .int (2 * (1 + (m : Int)) + 1), .int 2, .int 1]) n4
    have k14 := k13.trans (Kp.new (o := .lst [V.int 1, .int (2 * (1 + (m : Int)) + 1), .int 2, .int 1]) n4)
    generalize upd H3 p4 (.lst [V.int 1, .int (2 * (1 + (m : Int)) + 1), .int 2, .int 1]) = H4 at hP4 k14 ⊢
    obtain ⟨⟨a4, _, _⟩, c4, _, _⟩ := hP4.x
    refine ⟨_, rfl, pd, _, rfl, a4, _, rfl, _, _, rfl, rfl, _, rfl, ite2 (fun c => ⟨by show 1 ≤ sizeLine; decide, fun p np => ?_⟩) (fun c => ?_)⟩
    · exact q.leaf (by decide) (by omega) (w := "number") (by decide) np .nil (.inr (.inr (.inl ⟨rfl, rfl⟩))) hP4 k14
    obtain ⟨H5, u5, hP5, k5⟩ := c4 (r - co)
    refine ⟨_, rfl, pd, _, rfl, a4, _, rfl, _, _, rfl, rfl, _, rfl, pd, H5, rfl, u5, ?_⟩
    have k15 := k14.trans k5
    refine ⟨_, rfl, 1 + (m : Int), rfl, by omega, by omega, fun Da nD => ?_⟩
    refine lc_range (lo := 0) (n := (1 + (m : Int)).toNat) (fun j H6 => Kp M0 H5 H6 ∧ H6 Da = some (.lst (twos j))) ?_ ?_ ?_
    · exact ⟨Kp.new nD, upd_same⟩
    · rintro j H6 hj ⟨k6, e6⟩
      refine ⟨rfl, tYes_ok (iteT ?_)⟩
      rw [show (0 : Int) + (j : Int) = (j : Int) from Int.zero_add _]
      have wj : ((j : Int)).natAbs < 2 ^ 64 := by
        show _ < 18446744073709551616
        omega
      refine ⟨_, rfl, _, _, rfl, rfl, wide_mul w2 wj (by decide) (by decide) (by decide), _, e6, by rw [twos_len]; exact small1000 (by omega), k6.own nD, ?_⟩
      unfold twos
      rw [upd_same, List.range_succ, List.map_append]
      rfl
    rintro H6 ⟨k6, e6⟩
    generalize hM : (1 + (m : Int)).toNat = M at e6
    have mM : 1 + (m : Int) = (M : Int) := by omega
    have M6 : M ≤ 6 := by omega
    have k16 : Kp (PM pd po) H H6 := k15.trans (k6.mono fun b z => z.elim)
    have hP6 : Pot H6 pd po t3 (some (r - co, o, g)) := hP5.keep k6 (fun z => z) (fun z => z)
    have tl : (twos M).length ≤ 100 := by rw [twos_len]; omega
    -- the end: the pairs are there
    have fin : ∀ {H7 : Hp} {v : V} {f : Fo} {t7 : Nat} {ws : List V} {ds : List D} {a p : Addr} (T : Nat → D), H7 a = none → upd H7 a (.tup ws) p = none → Kp (PM pd po) H H7 → Pot H7 pd po t7 (some (r - co, o, g)) → t7 ≤ t + 60 → Rp H7 v f.enc → f.ok N → f.wf → f.size ≤ 19 → Rps H7 ws ds → ds.length = (twos M).length → (∀ (j : Nat) (d : D), ds[j]? = some d → d = .tup [T (2 * j), T (2 * j + 1)]) → TurnOk f (prsOf M T) → Q (.ref p) (upd (upd H7 a (.tup ws)) p (.tup [.str "turned", v, .ref a])) := fun {H7 v f t7 ws ds a p} T na np k7 hP7 h7 hv hf hfw hs hw hl hd hT => by
      have ka : Kp M0 H7 (upd H7 a (.tup ws)) := Kp.new na
      have ed := ds_prs (M := M) (T := T) (by rw [hl, twos_len]) hd
      subst ed
      exact q.one h7 (w := "turned") (by decide) np (hv.keep ka noT0) hf (by omega) (vs := [.ref a]) (ds := turnR (prsOf M T)) (.cons (.tup upd_same (hw.keep ka noT0)) .nil) ⟨hfw, .inr (.inr ⟨rfl, prsOf M T, rfl, hT⟩)⟩ (hP7.new na) (k7.trans (ka.mono fun b z => z.elim))
    have M1 : 1 ≤ M := by omega
    have kk : ∀ {H7 H8 : Hp}, Kp M0 H7 H8 → Kp (PM pd po) H7 H8 := fun k => k.mono fun b z => z.elim
    have leafs : ∀ {w : Str}, w ∈ ([("text" : Str), "sign", "word", "number", "pick"] : List Str) → ∀ {r : List D}, (Fo.leaf w r).ok N := fun h => h
    by_cases v0 : wy = 0
    · subst v0
      refine ⟨_, rfl, rfl, _, rfl, iteT' (by decide) ?_⟩
      refine ⟨by show 1 ≤ sizeLine; decide, fun p1 n1 => ?_⟩
      have rv : Rp (upd H6 p1 (.tup [.str "number"])) (.ref p1) (Fo.leaf "number" []).enc := .tup (vs := [.str "number"]) upd_same (.cons (.str (by decide)) .nil)
      have k7 : Kp M0 H6 (upd H6 p1 (.tup [.str "number"])) := Kp.new n1
      have hP7 := hP6.new (o := .tup [V.str "number"]) n1
      have e7 := k7 _ _ (fun z => z) e6
      generalize upd H6 p1 (.tup [.str "number"]) = H7 at rv k7 hP7 e7 ⊢
      refine ⟨_, rfl, Da, rfl, ⟨_, SqL.of e7⟩, fun Db nb => lc_rps (xs := twos M) (fun j d => d = .tup [.int (fi + ((2 * j : Nat) : Int)), .int (fi + ((2 * j + 1 : Nat) : Int))]) tl e7 nb (fun _ => rfl) (fun j x H8 Q' hx k8 q8 => ?_) (fun H8 ws ds k8 e8 hr8 l8 d8 => ?_)⟩
      · obtain ⟨rfl, hj⟩ := twos_at hx
        refine ⟨_, rfl, _, rfl, _, _, rfl, rfl, _, rfl, _, rfl, _, _, rfl, rfl, _, _, rfl, rfl, by show 2 ≤ sizeLine; decide, fun p np => ?_⟩
        exact q8 _ _ _ rfl (.tup upd_same (.cons (by rw [show fi + ((2 * j : Nat) : Int) = fi + 2 * (j : Int) by omega]; exact .int) (.cons (by rw [show fi + ((2 * j + 1 : Nat) : Int) = fi + 2 * (j : Int) + 1 by omega]; exact .int) .nil))) (Kp.new np)
      · refine ⟨Db, ws, rfl, .inl ⟨SqL.of e8, fun a na => ⟨by show 3 ≤ sizeLine; decide, fun p np => ?_⟩⟩⟩
        exact fin (fun k => .int (fi + (k : Nat))) na np (k16.trans (kk (k7.trans k8))) ((hP7.keep k8 (fun z => z) (fun z => z))) (by omega) (rv.keep k8 noT0) (leafs (by decide)) (.inr (.inr (.inl ⟨rfl, rfl⟩))) (by show 1 ≤ 19; decide) hr8 l8 d8 (turn_ok (wo := fun k _ => .inl ⟨rfl, _, rfl⟩) M1 M6 (fun j k _ _ e => by have := D.int.inj e; omega) fun k _ => ⟨by show 0 ≤ fi + (k : Int); omega, by show 1 ≤ 20; decide⟩)
    have n0 : V.int wy ≠ V.int 0 := fun e => v0 (V.int.inj e)
    refine ⟨_, rfl, rfl, _, rfl, iteF' (decide_eq_false n0) ?_⟩
    by_cases v1 : wy = 1
    · subst v1
      refine ⟨_, rfl, rfl, _, rfl, iteT' (by decide) ?_⟩
      refine ⟨_, rfl, _, rfl, _, _, rfl, rfl, wide_mul w2 wm (by decide) (by decide) (by decide), pd, po, t3, 2 * M, _, by rw [mM]; rfl, hP6, by omega, by omega, by omega, fun zs l H7 t7 ht7 lz hz nl el nPM hP7 k7 => ?_⟩
      refine ⟨_, rfl, l, rfl, ⟨_, SqL.of el⟩, fun Db nb => lc_rps (xs := zs.map V.str) (fun j d => ∃ z, zs[j]? = some z ∧ d = .tup [.str z, (Fo.leaf "text" [.str ";"]).enc]) (by rw [List.length_map]; omega) el nb (fun _ => rfl) (fun j x H8 Q' hx k8 q8 => ?_) (fun H8 ws ds k8 e8 hr8 l8 hd8 => ?_)⟩
      · rw [List.getElem?_map] at hx
        obtain ⟨z, hz1, rfl⟩ := Option.map_eq_some_iff.mp hx
        have lz8 : z.length ≤ 1000 := Nat.le_trans (hz.2.2 z (List.mem_of_getElem? hz1)).2.1 (by decide)
        refine ⟨_, rfl, by show 2 ≤ sizeLine; decide, fun p1 n1 => ⟨by show 2 ≤ sizeLine; decide, fun p np => ?_⟩⟩
        refine q8 _ _ (.tup [.str z, (Fo.leaf "text" [.str ";"]).enc]) ⟨z, hz1, rfl⟩ (.tup (vs := [.str z, .ref p1]) upd_same (.cons (.str (Nat.le_of_lt (small1000 lz8))) (.cons (.tup (vs := [.str "text", .str ";"]) ?_ (.cons (.str (by decide)) (.cons (.str (by decide)) .nil))) .nil))) ((Kp.new n1).trans (Kp.new np))
        rw [upd_ne (ne_of_none upd_same np)]
        exact upd_same
      · rw [List.length_map] at l8
        refine ⟨Db, ws, rfl, .inl ⟨SqL.of e8, fun a na => ⟨by show 2 ≤ sizeLine; decide, fun p1 n1 => ?_⟩⟩⟩
        have ka : Kp M0 H8 (upd H8 a (.tup ws)) := Kp.new na
        have k9 : Kp M0 (upd H8 a (.tup ws)) (upd (upd H8 a (.tup ws)) p1 (.tup [.str "either", .ref a])) := Kp.new n1
        have ed := zip_repl (.leaf "text" [.str ";"]) zs ds l8 hd8
        have rv : Rp (upd (upd H8 a (.tup ws)) p1 (.tup [.str "either", .ref a])) (.ref p1) (Fo.either zs (List.replicate zs.length (.leaf "text" [.str ";"]))).enc := by
          refine .tup (vs := [.str "either", .ref a]) upd_same (.cons (.str (by decide)) (.cons (.tup (vs := ws) (k9 _ _ (fun z => z) upd_same) ?_) .nil))
          rw [← ed]
          exact hr8.keep (ka.trans k9) noT0
        have okv : (Fo.either zs (List.replicate zs.length (.leaf "text" [.str ";"]))).ok N := ⟨by rw [List.length_replicate], oks_repl (leafs (by decide)) _⟩
        have szv : (Fo.either zs (List.replicate zs.length (.leaf "text" [.str ";"]))).size ≤ 19 := by
          show 1 + Fo.sizes (List.replicate zs.length (.leaf "text" [.str ";"])) ≤ 19
          rw [sizes_repl]
          show 1 + zs.length * 1 ≤ 19
          omega
        have k79 : Kp M0 H7 (upd (upd H8 a (.tup ws)) p1 (.tup [.str "either", .ref a])) := k8.trans (ka.trans k9)
        have hP9 := hP7.keep k79 (fun z => z) (fun z => z)
        have el9 := k79 _ _ (fun z => z) el
        have hD : ¬ PM pd po Da := off_pot hP5 nD
        have eD9 := k79 _ _ (fun z => z) (k7 Da _ hD e6)
        have kH9 : Kp (PM pd po) H (upd (upd H8 a (.tup ws)) p1 (.tup [.str "either", .ref a])) := (k16.trans k7).trans (kk k79)
        generalize upd (upd H8 a (.tup ws)) p1 (.tup [.str "either", .ref a]) = H9 at rv hP9 el9 eD9 kH9 ⊢
        refine ⟨_, rfl, _, rfl, Da, rfl, ⟨_, SqL.of eD9⟩, fun Dc nc => lc_rps (xs := twos M) (fun j d => d = .tup [.tup [.str ((zs[2 * j]?).getD "")], .tup [.str ((zs[2 * j + 1]?).getD "")]]) tl eD9 nc (fun _ => rfl) (fun j x H10 Q' hx k10 q10 => ?_) (fun H10 ws ds k10 e10 hr10 l10 d10 => ?_)⟩
        · obtain ⟨rfl, hj⟩ := twos_at hx
          have h1 : 2 * j < zs.length := by omega
          have h2 : 2 * j + 1 < zs.length := by omega
          have lz8 : ∀ z ∈ zs, z.length ≤ sizeLine := fun z hz1 => Nat.le_of_lt (small1000 (Nat.le_trans (hz.2.2 z hz1).2.1 (by decide)))
          have el10 := k10 _ _ (fun z => z) el9
          refine ⟨_, rfl, _, rfl, l, _, _, .str zs[2 * j], rfl, rfl, SqL.of el10, ?_, by show 1 ≤ sizeLine; decide, fun p1 n1 => ?_⟩
          · exact atI_nat (j := 2 * j) (by rw [List.getElem?_map, List.getElem?_eq_getElem h1]; rfl)
          have el11 : upd H10 p1 (.tup [.str zs[2 * j]]) l = some (.lst (zs.map V.str)) := by rw [upd_ne (ne_of_none el10 n1)]; exact el10
          refine ⟨_, rfl, _, rfl, _, _, rfl, rfl, l, _, _, .str zs[2 * j + 1], rfl, rfl, SqL.of el11, ?_, by show 1 ≤ sizeLine; decide, fun p2 n2 => ⟨by show 2 ≤ sizeLine; decide, fun p np => ?_⟩⟩
          · exact atI_nat (j := 2 * j + 1) (by rw [List.getElem?_map, List.getElem?_eq_getElem h2]; rfl)
          refine q10 _ _ (.tup [.tup [.str zs[2 * j]], .tup [.str zs[2 * j + 1]]]) (by rw [List.getElem?_eq_getElem h1, List.getElem?_eq_getElem h2]; rfl) (.tup (vs := [.ref p1, .ref p2]) upd_same (.cons (.tup (vs := [.str zs[2 * j]]) ?_ (.cons (.str (lz8 _ (List.getElem_mem h1))) .nil)) (.cons (.tup (vs := [.str zs[2 * j + 1]]) ?_ (.cons (.str (lz8 _ (List.getElem_mem h2))) .nil)) .nil))) (((Kp.new n1).trans (Kp.new n2)).trans (Kp.new np))
          · rw [upd_ne (ne_of_none (show upd (upd H10 p1 (.tup [.str zs[2 * j]])) p2 (.tup [.str zs[2 * j + 1]]) p1 = some (.tup [.str zs[2 * j]]) by rw [upd_ne (ne_of_none upd_same n2)]; exact upd_same) np), upd_ne (ne_of_none upd_same n2)]
            exact upd_same
          · rw [upd_ne (ne_of_none upd_same np)]
            exact upd_same
        · refine ⟨Dc, ws, rfl, .inl ⟨SqL.of e10, fun a na => ⟨by show 3 ≤ sizeLine; decide, fun p np => ?_⟩⟩⟩
          have wfv : (Fo.either zs (List.replicate zs.length (.leaf "text" [.str ";"]))).wf := ⟨fun z => by rw [z] at lz; exact absurd lz (by simp only [List.length_nil]; omega), by omega, hz.1, nm_of hz, Fo.wfs_repl (f := .leaf "text" [.str ";"]) (.inl ⟨rfl, _, rfl, semi_txt⟩) _⟩
          exact fin (fun k => .tup [.str ((zs[k]?).getD "")]) na np (kH9.trans (kk k10)) (hP9.keep k10 (fun z => z) (fun z => z)) (by omega) (rv.keep k10 noT0) okv wfv szv hr10 l10 d10 (turn_ok (wo := fun k hk => ⟨⟨_, getD_mem (by omega), rfl⟩, fun f m => ⟨_, List.eq_of_mem_replicate m⟩⟩) M1 M6 (fun j k hj hk e => by
              rw [List.getElem?_eq_getElem (show j < zs.length by omega), List.getElem?_eq_getElem (show k < zs.length by omega)] at e
              have e2 : zs[j]'(by omega) = zs[k]'(by omega) := D.str.inj (List.cons.inj (D.tup.inj e)).1
              exact nd_inj hz.1 _ _ e2) fun k hk => by
              rw [List.getElem?_eq_getElem (show k < zs.length by omega)]
              exact ⟨⟨fun c hc => az_sign ((hz.2.2 _ (List.getElem_mem (show k < zs.length by omega))).2.2 c hc), True.intro⟩, by show 1 + (1 + 0) ≤ 20; decide⟩)
    have n1 : V.int wy ≠ V.int 1 := fun e => v1 (V.int.inj e)
    refine ⟨_, rfl, rfl, _, rfl, iteF' (decide_eq_false n1) ?_⟩
    by_cases v2 : wy = 2
    · subst v2
      refine ⟨_, rfl, rfl, _, rfl, iteT' (by decide) ?_⟩
      refine ⟨_, rfl, Da, rfl, ⟨_, SqL.of e6⟩, fun Db nb => lc_rps (xs := twos M) (fun j d => d = .tup [.tup (List.replicate (2 * j) (.int fi)), .tup (List.replicate (2 * j + 1) (.int fi))]) tl e6 nb (fun _ => rfl) (fun j x H8 Q' hx k8 q8 => ?_) (fun H8 ws ds k8 e8 hr8 l8 d8 => ?_)⟩
      · obtain ⟨rfl, hj⟩ := twos_at hx
        refine ⟨_, rfl, by show 1 ≤ sizeLine; decide, fun p1 n1 => ⟨_, rfl, p1, _, [.int fi], rfl, rfl, upd_same, by simp, by omega, by omega, by show 1 ≤ 1000; decide, fun a1 H9 e9 k9 => ?_⟩⟩
        refine ⟨_, rfl, by show 1 ≤ sizeLine; decide, fun p2 n2 => ⟨_, rfl, _, _, rfl, rfl, p2, _, [.int fi], rfl, rfl, upd_same, by simp, by omega, by omega, by show 1 ≤ 1000; decide, fun a2 H10 e10 k10 => ⟨by show 2 ≤ sizeLine; decide, fun p np => ?_⟩⟩⟩
        have kB : Kp M0 H9 (upd H10 p (.tup [.ref a1, .ref a2])) := ((Kp.new n2).trans k10).trans (Kp.new np)
        have r1 := rps_rep (H := upd H10 p (.tup [.ref a1, .ref a2])) fi (2 * j)
        have r2 := rps_rep (H := upd H10 p (.tup [.ref a1, .ref a2])) fi (2 * j + 1)
        rw [show (2 * (j : Int)).toNat = 2 * j by omega] at e9
        rw [show (2 * (j : Int) + 1).toNat = 2 * j + 1 by omega] at e10
        refine q8 _ _ _ rfl (.tup (vs := [.ref a1, .ref a2]) upd_same (.cons (.tup (kB _ _ (fun z => z) e9) r1) (.cons (.tup ?_ r2) .nil))) (((Kp.new n1).trans k9).trans kB)
        rw [upd_ne (ne_of_none e10 np)]
        exact e10
      · refine ⟨Db, ws, rfl, .inl ⟨SqL.of e8, fun a na => ?_⟩⟩
        have ka : Kp M0 H8 (upd H8 a (.tup ws)) := Kp.new na
        refine ⟨by show 1 ≤ sizeLine; decide, fun p1 n1 => ⟨by show 3 ≤ sizeLine; decide, fun p2 n2 => ⟨_, rfl, by show 3 ≤ sizeLine; decide, fun p np => ?_⟩⟩⟩
        have kb : Kp M0 (upd H8 a (.tup ws)) (upd (upd (upd H8 a (.tup ws)) p1 (.tup [.str "number"])) p2 (.tup [.str "again", .ref p1, .non])) := (Kp.new n1).trans (Kp.new n2)
        have rv : Rp (upd (upd (upd H8 a (.tup ws)) p1 (.tup [.str "number"])) p2 (.tup [.str "again", .ref p1, .non])) (.ref p2) (Fo.again (.leaf "number" [])).enc := by
          refine .tup (vs := [.str "again", .ref p1, .non]) upd_same (.cons (.str (by decide)) (.cons (.tup (vs := [.str "number"]) ?_ (.cons (.str (by decide)) .nil)) (.cons .non .nil)))
          rw [upd_ne (ne_of_none upd_same n2)]
          exact upd_same
        have ea := kb _ _ (fun z => z) (upd_same (H := H8) (a := a))
        have kH : Kp (PM pd po) H (upd (upd (upd H8 a (.tup ws)) p1 (.tup [.str "number"])) p2 (.tup [.str "again", .ref p1, .non])) := k16.trans (kk ((k8.trans ka).trans kb))
        have hP9 : Pot (upd (upd (upd H8 a (.tup ws)) p1 (.tup [.str "number"])) p2 (.tup [.str "again", .ref p1, .non])) pd po t3 (some (r - co, o, g)) := hP6.keep ((k8.trans ka).trans kb) (fun z => z) (fun z => z)
        have hr9 := hr8.keep (ka.trans kb) noT0
        generalize upd (upd (upd H8 a (.tup ws)) p1 (.tup [.str "number"])) p2 (.tup [.str "again", .ref p1, .non]) = H9 at rv ea kH hP9 hr9 np ⊢
        have ed := ds_prs (M := M) (T := fun k => .tup (List.replicate k (.int fi))) (by rw [l8, twos_len]) d8
        subst ed
        exact q.one (by omega) (w := "turned") (by decide) np rv (show ("number" : Str) ∈ _ by decide) (by show 1 + 2 ≤ 20; decide) (vs := [.ref a]) (ds := turnR (prsOf M fun k => .tup (List.replicate k (.int fi)))) (.cons (.tup ea hr9) .nil) ⟨.inr (.inr (.inl ⟨rfl, rfl⟩)), .inr (.inr ⟨rfl, _, rfl, turn_ok (wo := fun k _ => ⟨rfl, List.replicate k fi, by rw [List.map_replicate]⟩) M1 M6 (fun j k _ _ e => by
          have e2 := congrArg List.length (D.tup.inj e)
          rw [List.length_replicate, List.length_replicate] at e2
          exact e2) fun k hk => ⟨things_rep fi0 k, by show 1 + D.sizes (List.replicate k (.int fi)) ≤ 20; rw [sizes_rep]; omega⟩⟩)⟩ hP9 kH
    have n2 : V.int wy ≠ V.int 2 := fun e => v2 (V.int.inj e)
    refine ⟨_, rfl, rfl, _, rfl, iteF' (decide_eq_false n2) ?_⟩
    refine ⟨_, rfl, by show 2 ≤ sizeLine; decide, fun p1 n1 => ?_⟩
    have rv : Rp (upd H6 p1 (.tup [.str "sign", .str "abcdefghijkl"])) (.ref p1) (Fo.leaf "sign" [.str "abcdefghijkl"]).enc := .tup (vs := [.str "sign", .str "abcdefghijkl"]) upd_same (.cons (.str (by decide)) (.cons (.str (by decide)) .nil))
    have k7 : Kp M0 H6 (upd H6 p1 (.tup [.str "sign", .str "abcdefghijkl"])) := Kp.new n1
    have hP7 := hP6.new (o := .tup [V.str "sign", .str "abcdefghijkl"]) n1
    have e7 := k7 _ _ (fun z => z) e6
    generalize upd H6 p1 (.tup [.str "sign", .str "abcdefghijkl"]) = H7 at rv k7 hP7 e7 ⊢
    refine ⟨_, rfl, Da, rfl, ⟨_, SqL.of e7⟩, fun Db nb => lc_rps (xs := twos M) (fun j d => d = .tup [.str ⟨#[97 + 2 * j]⟩, .str ⟨#[97 + (2 * j + 1)]⟩]) tl e7 nb (fun _ => rfl) (fun j x H8 Q' hx k8 q8 => ?_) (fun H8 ws ds k8 e8 hr8 l8 d8 => ?_)⟩
    · obtain ⟨rfl, hj⟩ := twos_at hx
      have hc1 : atI alZ.cps.toList (2 * (j : Int)) = some (97 + 2 * j) := atI_nat (j := 2 * j) (al_at (2 * j) (by omega))
      have hc2 : atI alZ.cps.toList (2 * (j : Int) + 1) = some (97 + (2 * j + 1)) := atI_nat (j := 2 * j + 1) (al_at (2 * j + 1) (by omega))
      refine ⟨_, rfl, _, rfl, alZ, _, _, rfl, rfl, by decide, hc1, _, rfl, _, rfl, _, _, rfl, rfl, alZ, _, _, rfl, rfl, by decide, hc2, by show 2 ≤ sizeLine; decide, fun p np => ?_⟩
      exact q8 _ _ _ rfl (.tup upd_same (.cons (.str (by show 1 ≤ sizeLine; decide)) (.cons (.str (by show 1 ≤ sizeLine; decide)) .nil))) (Kp.new np)
    · refine ⟨Db, ws, rfl, .inl ⟨SqL.of e8, fun a na => ⟨by show 3 ≤ sizeLine; decide, fun p np => ?_⟩⟩⟩
      exact fin (fun k => .str ⟨#[97 + k]⟩) na np (k16.trans (kk (k7.trans k8))) ((hP7.keep k8 (fun z => z) (fun z => z))) (by omega) (rv.keep k8 noT0) (leafs (by decide)) (.inr (.inl ⟨.inl rfl, _, rfl, al_set⟩)) (by show 1 ≤ 19; decide) hr8 l8 d8 (turn_ok (wo := fun k hk => .inr ⟨rfl, _, _, rfl, List.mem_of_getElem? (al_at k (by omega)), rfl⟩) M1 M6 (fun j k _ _ e => by
        have e2 : [97 + j] = [97 + k] := congrArg (fun z : Str => z.cps.toList) (D.str.inj e)
        have := (List.cons.inj e2).1
        omega) fun k hk => ⟨fun c hc => az_sign (by rw [List.mem_singleton.mp (show c ∈ [97 + k] from hc)]; exact ⟨by omega, by omega⟩), by show 1 ≤ 20; decide⟩)
end
end RT

namespace RT
open PySem PySem.Spec PyProof.Rows L2
section
variable {X : Cx}
/-- xs != [], whatever stands in xs -/
def rNeNil : R2 := fun x y H Q => ∃ (l b : Addr) (xs : List V), x = .ref l ∧ y = .ref b ∧ H l = some (.lst xs) ∧ H b = some (.lst []) ∧ Q (.bl (!xs.isEmpty)) H
theorem op_neNil (hu : X.A.units + 64 < cLine) : OpR X (compareOp .NotEq) rNeNil := by
  intro pins s σ H x y v u Q I rx ry h
  obtain ⟨l, b, xs, rfl, rfl, hl, hb, q⟩ := h
  cases rx
  cases ry
  obtain ⟨ix, vx, px, _⟩ := I.list (SqL.of hl)
  obtain ⟨iy, vy, py, _⟩ := I.list (SqL.of hb)
  cases vy
  have room : X.A.units < cLine := Nat.lt_of_le_of_lt (Nat.le_add_right _ 64) hu
  cases vx with
  | nil => exact PySem.EqBoolInt.of_rcne (SeqAt.RcNeAt.lists (e := fun _ => true) px.isList py.isList rfl room fun j h1 => absurd h1 (Nat.not_lt_zero _)) ⟨.bl false, H, I, rfl, q⟩
  | cons r t => exact PySem.EqBoolInt.of_rcne (SeqAt.RcNeAt.lists_lengths px.isList py.isList rfl room) ⟨.bl true, H, I, rfl, q⟩
end
end RT

namespace RT
open PySem PySem.Spec PyProof.Rows L2
/-! forms so far -/
def FsAt (H : Hp) (Da : Addr) (N : List Str) (B : Nat) (ws : List V) (fs : List Fo) : Prop := H Da = some (.lst ws) ∧ Rps H ws (Fo.encs fs) ∧ Fo.oks N fs ∧ Fo.sizes fs ≤ fs.length * B ∧ Fo.wfs fs
theorem encs_len : ∀ fs : List Fo, (Fo.encs fs).length = fs.length
  | [] => rfl
  | f :: r => by
    show (f.enc :: Fo.encs r).length = _
    rw [List.length_cons, List.length_cons, encs_len r]
theorem FsAt.len {H : Hp} {Da : Addr} {N : List Str} {B : Nat} {ws : List V} {fs : List Fo} (h : FsAt H Da N B ws fs) : ws.length = fs.length := by rw [h.2.1.len, encs_len]
theorem FsAt.keep {H H7 : Hp} {Da : Addr} {N : List Str} {B : Nat} {ws : List V} {fs : List Fo} {M : Addr → Prop} (h : FsAt H Da N B ws fs) (k : Kp M H H7) (hT : ∀ a xs, M a → H a ≠ some (.tup xs)) (hD : ¬ M Da) : FsAt H7 Da N B ws fs :=
  ⟨k Da _ hD h.1, h.2.1.keep k hT, h.2.2⟩
theorem FsAt.push {H : Hp} {Da : Addr} {N : List Str} {B : Nat} {ws : List V} {fs : List Fo} {v : V} {f : Fo} (h : FsAt H Da N B ws fs) (hv : Rp H v f.enc) (hf : f.ok N) (hw : f.wf) (hs : f.size ≤ B) : FsAt (upd H Da (.lst (ws ++ [v]))) Da N B (ws ++ [v]) (fs ++ [f]) := by
  refine ⟨upd_same, ?_, Fo.oks_app _ _ h.2.2.1 ⟨hf, True.intro⟩, ?_, Fo.wfs_app _ _ h.2.2.2.2 ⟨hw, True.intro⟩⟩
  · rw [Fo.encs_app]
    refine Rps.keep (M := fun b => b = Da) (Kp.put rfl) (fun a xs m e => ?_) (h.2.1.app (.cons hv .nil))
    rw [m, h.1] at e
    cases e
  · rw [Fo.sizes_app, List.length_append]
    show Fo.sizes fs + (f.size + 0) ≤ (fs.length + 1) * B
    rw [Nat.succ_mul]
    have := h.2.2.2.1
    omega
theorem Rps.zipE {H : Hp} : ∀ {ps : List Addr} {zs : List Str} {ws : List V} {ds : List D}, Rps H ws ds → zs.length = ws.length → ps.length = zs.length → (∀ z ∈ zs, z.length ≤ sizeLine) → (∀ (j : Nat) (p : Addr), ps[j]? = some p → ∃ x y, (zs.map V.str)[j]? = some x ∧ ws[j]? = some y ∧ H p = some (.tup [x, y])) → Rps H (ps.map V.ref) (List.zipWith (fun (n : Str) (d : D) => D.tup [.str n, d]) zs ds)
  | [], [], _, _, _, _, _, _, _ => .nil
  | p :: ps, z :: zs, w :: ws, d :: ds, .cons r t, l1, l2, hz, h => by
    obtain ⟨x, y, e1, e2, e3⟩ := h 0 p rfl
    cases e1
    cases e2
    exact .cons (.tup e3 (.cons (.str (hz z (List.mem_cons_self ..))) (.cons r .nil))) (Rps.zipE t (by simpa using l1) (by simpa using l2) (fun z hz1 => hz z (List.mem_cons_of_mem _ hz1)) fun j p hj => by
      have q := h (j + 1) p (by simpa using hj)
      simpa using q)
  | [], _ :: _, _, _, _, _, l, _, _ => by cases l
  | _ :: _, [], _, _, _, _, l, _, _ => by cases l
  | _ :: _, _ :: _, [], _, _, l, _, _, _ => by cases l
theorem FormQ.row {N : List Str} {pd po : Addr} {t T B : Nat} {H H1 : Hp} {Q : VK} (q : FormQ N pd po t T B H Q) {t1 : Nat} {r o g : Int} (ht : t1 ≤ t + T) {fs : List Fo} {ws : List V} {a p : Addr} (na : H1 a = none) (np : upd H1 a (.tup ws) p = none) (hr : Rps H1 ws (Fo.encs fs)) (ok : Fo.oks N fs) (wf : Fo.wfs fs) (hB : 1 + Fo.sizes fs ≤ B) (hP : Pot H1 pd po t1 (some (r, o, g))) (k : Kp (PM pd po) H H1) :
    Q (.ref p) (upd (upd H1 a (.tup ws)) p (.tup [.str "row", .ref a])) := by
  have ka : Kp M0 (upd H1 a (.tup ws)) (upd (upd H1 a (.tup ws)) p (.tup [.str "row", .ref a])) := Kp.new np
  have kb : Kp M0 H1 (upd (upd H1 a (.tup ws)) p (.tup [.str "row", .ref a])) := (Kp.new na).trans ka
  exact q _ (.row fs) _ t1 r o g ht (.tup (vs := [.str "row", .ref a]) upd_same (.cons (.str (by decide)) (.cons (.tup (ka _ _ (fun z => z) upd_same) (hr.keep kb noT0)) .nil))) ok wf hB (hP.keep kb (fun z => z) (fun z => z)) (k.trans (kb.mono fun b z => z.elim))
theorem FormQ.either {N : List Str} {pd po : Addr} {t T B : Nat} {H H1 : Hp} {Q : VK} (q : FormQ N pd po t T B H Q) {t1 : Nat} {r o g : Int} (ht : t1 ≤ t + T) {zs : List Str} {fs : List Fo} {ws : List V} {a p : Addr} (na : H1 a = none) (np : upd H1 a (.tup ws) p = none) (hr : Rps H1 ws (List.zipWith (fun (n : Str) (d : D) => D.tup [.str n, d]) zs (Fo.encs fs))) (hl : zs.length = fs.length) (ok : Fo.oks N fs) (wf : (Fo.either zs fs).wf) (hB : 1 + Fo.sizes fs ≤ B) (hP : Pot H1 pd po t1 (some (r, o, g))) (k : Kp (PM pd po) H H1) :
    Q (.ref p) (upd (upd H1 a (.tup ws)) p (.tup [.str "either", .ref a])) := by
  have ka : Kp M0 (upd H1 a (.tup ws)) (upd (upd H1 a (.tup ws)) p (.tup [.str "either", .ref a])) := Kp.new np
  have kb : Kp M0 H1 (upd (upd H1 a (.tup ws)) p (.tup [.str "either", .ref a])) := (Kp.new na).trans ka
  exact q _ (.either zs fs) _ t1 r o g ht (.tup (vs := [.str "either", .ref a]) upd_same (.cons (.str (by decide)) (.cons (.tup (ka _ _ (fun z => z) upd_same) (hr.keep kb noT0)) .nil))) ⟨hl, ok⟩ wf hB (hP.keep kb (fun z => z) (fun z => z)) (k.trans (kb.mono fun b z => z.elim))
/-- turns and size of a form by its depth -/
def fT : Nat → Nat
  | 0 => 200
  | d + 1 => 8 * fT d + 200
def fB : Nat → Nat
  | 0 => 3
  | d + 1 => 8 * fB d + 21
theorem fT_ge (d : Nat) : 200 ≤ fT d := by
  cases d with
  | zero => exact Nat.le_refl _
  | succ d => exact Nat.le_add_left ..
theorem fB_ge (d : Nat) : 3 ≤ fB d := by
  cases d with
  | zero => exact Nat.le_refl _
  | succ d => exact Nat.le_trans (by decide) (Nat.le_add_left 21 _)
end RT

namespace RT
open PySem PySem.Spec PyProof.Rows L2
abbrev sFm : Stmt := topS 46
theorem scFm : FnScope ["_law_pot_here", "_law_names_here", "_law_leaves", "_law_deep", "_law_way", "_law_many", "_law_inner", "_law_some", "_law_k"] ["_law_pot_here", "_law_names_here", "_law_leaves", "_law_deep"] (defScope sFm) := ⟨rfl, rfl, rfl, by decide +kernel, rfl, by decide +kernel, by decide +kernel⟩
section
variable {P : Program} {w : World} {K : PySem.W.Frag} {mg : Str → Option Value} {base : Heap}
def spFm (N : List Str) (n : Nat) : Sp := fun vs H Q _ => ∃ (pd po : Addr) (t : Nat) (r o g : Int) (ln ll : Addr) (ls : List Str) (d : Nat), vs = [.ref pd, .ref ln, .ref ll, .int d] ∧ Pot H pd po t (some (r, o, g)) ∧ t + fT d < 2 ^ 44 ∧ d < n ∧
  H ln = some (.lst (N.map V.str)) ∧ H ll = some (.lst (ls.map V.str)) ∧ (∀ x ∈ ls, x ∈ N) ∧ ¬ PM pd po ln ∧ ¬ PM pd po ll ∧ (∀ x ∈ N, NmOk x) ∧ N.length ≤ 100 ∧ ls.length ≤ 100 ∧ FormQ N pd po t (fT d) (fB d) H Q
theorem none_fm {N : List Str} {f : Addr} {fd : FuncData} {k : Nat} : FnOk P w K mg base CX0 k f fd ["_law_pot_here", "_law_names_here", "_law_leaves", "_law_deep"] (spFm N 0) :=
  ⟨fun vs H Q E h => by obtain ⟨_, _, _, _, _, _, _, _, _, _, _, _, _, h, _⟩ := h; exact absurd h (Nat.not_lt_zero _), fun A outer s H args us vs Q E _ _ _ _ h => by obtain ⟨_, _, _, _, _, _, _, _, _, _, _, _, _, h, _⟩ := h; exact absurd h (Nat.not_lt_zero _)⟩
set_option maxHeartbeats 0 in
theorem ok_fm {N : List Str} {n : Nat} {f fn fz fm fp fbf ftf fb fk : Addr} {fd fdn fdz fdm fdp fdbf fdtf fdb fdk : FuncData} {k : Nat} (F : Fun K "_law_form" "_law_form" sFm f fd)
    (GN : FnOk P w K mg base CX0 k fn fdn ["_law_pot_here", "_law_many"] spNext) (kn : PySem.W.keepIn K (.ref fn) = true) (bn : Binds K fdn ["_law_pot_here", "_law_many"] []) (gn : mg "_law_next" = some (.ref fn))
    (GZ : FnOk P w K mg base CX0 k fz fdz ["_law_pot_here", "_law_few", "_law_most"] spSize) (kz : PySem.W.keepIn K (.ref fz) = true) (bz : Binds K fdz ["_law_pot_here", "_law_few", "_law_most"] []) (gz : mg "_law_size" = some (.ref fz))
    (GM : FnOk P w K mg base CX0 k fm fdm ["_law_pot_here", "_law_many"] spNames) (km : PySem.W.keepIn K (.ref fm) = true) (bm : Binds K fdm ["_law_pot_here", "_law_many"] []) (gm : mg "_law_names" = some (.ref fm))
    (GP : FnOk P w K mg base CX0 k fp fdp ["_law_pot_here"] (spPl N)) (kp : PySem.W.keepIn K (.ref fp) = true) (bp : Binds K fdp ["_law_pot_here"] []) (gp : mg "_law_plain" = some (.ref fp))
    (GBF : FnOk P w K mg base CX0 k fbf fdbf ["_law_pot_here"] (spBf N)) (kbf : PySem.W.keepIn K (.ref fbf) = true) (bbf : Binds K fdbf ["_law_pot_here"] []) (gbf : mg "_law_bare_form" = some (.ref fbf))
    (GTF : FnOk P w K mg base CX0 k ftf fdtf ["_law_pot_here"] (spTf N)) (ktf : PySem.W.keepIn K (.ref ftf) = true) (btf : Binds K fdtf ["_law_pot_here"] []) (gtf : mg "_law_turned_form" = some (.ref ftf))
    (GB : FnOk P w K mg base CX0 k fb fdb ["_law_pot_here", "_law_few", "_law_most"] spBit) (kb : PySem.W.keepIn K (.ref fb) = true) (bb : Binds K fdb ["_law_pot_here", "_law_few", "_law_most"] []) (gb : mg "_law_bit" = some (.ref fb))
    (GK : FnOk P w K mg base CX0 k fk fdk ["_law_pot_here", "_law_some"] (spPick K)) (kk : PySem.W.keepIn K (.ref fk) = true) (bk : Binds K fdk ["_law_pot_here", "_law_some"] []) (gk : mg "_law_pick" = some (.ref fk))
    (GR : FnOk P w K mg base CX0 k f fd ["_law_pot_here", "_law_names_here", "_law_leaves", "_law_deep"] (spFm N n)) (kr : PySem.W.keepIn K (.ref f) = true) (br : Binds K fd ["_law_pot_here", "_law_names_here", "_law_leaves", "_law_deep"] []) (gr : mg "_law_form" = some (.ref f))
    (mr : mg "range" = none) (mtu : mg "tuple" = none) (mmin : mg "min" = none) (ml : mg "len" = none) (mli : mg "list" = none) (mzi : mg "zip" = none) :
    FnOk P w K mg base CX0 (k + 1) f fd ["_law_pot_here", "_law_names_here", "_law_leaves", "_law_deep"] (spFm N (n + 1)) := by
  refine F.ok scFm (fun vs H Q E h => ?_) (fun cdv A outer s H vs Q E hr h => ?_)
  · obtain ⟨pd, po, t, r, o, g, ln, ll, ls, d, rfl, _⟩ := h
    rfl
  · obtain ⟨pd, po, t, r, o, g, ln, ll, ls, d, rfl, hP, ht, hd, eln, ell, hls, nln, nll, hNm, hNc, hlc, q⟩ := h
    have h44 : (2 : Nat) ^ 44 = 17592186044416 := by decide
    have h45 : (2 : Nat) ^ 45 = 35184372088832 := by decide
    have h47 : (2 : Nat) ^ 47 = 140737488355328 := by decide
    have h49 : (2 : Nat) ^ 49 = 562949953421312 := by decide
    have h50 : (2 : Nat) ^ 50 = 1125899906842624 := by decide
    have hNl : ∀ x ∈ N, x.length ≤ 1000 := fun x h => Nat.le_trans (hNm x h).2.1 (by decide)
    have fTd := fT_ge d
    have fBd := fB_ge d
    refine ⟨_, (pss_cons (ps_set (i := 4) scFm.nd rfl (.inl rfl) (pe_call GN hr (by rfl) gn kn bn .nil pass0 (pa_cons (pv 0) (pa_cons pe_int pa_nil))))
      (pss_cons (ps_if (PW.pt (pw_or (pt_cmpR op_eq (pv 3) pe_int (nomark _)) (pw_or (pt_cmpR op_lt (pv 4) pe_int (nomark _)) (pw_or1 (pt_cmpR op_lt (pe_dget (hu_of hr) (pv 0) pe_str (fun _ _ => rfl)) pe_int (nomark _)))))) (pss_one (ps_ret (pe_call GP hr (by rfl) gp kp bp .nil pass0 (pa_cons (pv 0) pa_nil)))) pss_nil)
      (pss_cons (ps_if (pt_cmpR op_lt (pv 4) pe_int (nomark _)) (pss_cons (ps_set (i := 5) scFm.nd rfl (.inl rfl) (pe_callB (call_min2 rfl) (by rfl) mmin (by decide +kernel) (pa_cons (pe_call GZ hr (by rfl) gz kz bz .nil pass0 (pa_cons (pv 0) (pa_cons pe_int (pa_cons pe_int pa_nil)))) (pa_cons (pe_dget (hu_of hr) (pv 0) pe_str (fun _ _ => rfl)) pa_nil))))
      (pss_cons (ps_dput (hu_of hr) (pv 0) pe_str (pe_op op_sub (pe_dget (hu_of hr) (pv 0) pe_str (fun _ _ => rfl)) (pv 5)) rfl)
      (pss_cons (ps_setLc (i := 6) (own := [("_law_k", 8)]) (g := gName 8) (tt := tYes) rfl scFm.nd rfl rfl rfl (pi_range1 (by rfl) mr (pa_cons (pv 5) pa_nil)) (blkOk_by (N := ["_law_pot_here", "_law_names_here", "_law_leaves", "_law_deep", "_law_way", "_law_many", "_law_inner", "_law_some", "_law_k"]) (sc := defScope sFm) (by decide +kernel)) (fun _ _ _ _ _ => (pg_name (i := 8) scFm.nd rfl (.inl rfl))) (fun _ _ _ _ _ => pts_nil) (fun _ _ _ _ _ => (pe_call GR hr (by rfl) gr kr br .nil pass0 (pa_cons (pv 0) (pa_cons (pv 1) (pa_cons (pv 2) (pa_cons (pe_op op_sub (pv 3) pe_int) pa_nil)))))))
      (pss_one (ps_ret (pe_tup (pa_cons pe_str (pa_cons (pe_callTy call_tuple_of (by rfl) mtu (by decide +kernel) (pa_cons (pv 6) pa_nil)) pa_nil)))))))) pss_nil)
      (pss_cons (ps_if (pt_cmpR op_lt (pv 4) pe_int (nomark _)) (pss_cons (ps_set (i := 7) scFm.nd rfl (.inl rfl) (pe_call GM hr (by rfl) gm km bm .nil pass0 (pa_cons (pv 0) (pa_cons (pe_op op_add pe_int (pe_callB (call_min2 rfl) (by rfl) mmin (by decide +kernel) (pa_cons (pe_call GZ hr (by rfl) gz kz bz .nil pass0 (pa_cons (pv 0) (pa_cons pe_int (pa_cons pe_int pa_nil)))) (pa_cons (pe_op op_sub (pe_dget (hu_of hr) (pv 0) pe_str (fun _ _ => rfl)) pe_int) pa_nil)))) pa_nil))))
      (pss_cons (ps_dput (hu_of hr) (pv 0) pe_str (pe_op op_sub (pe_dget (hu_of hr) (pv 0) pe_str (fun _ _ => rfl)) (pe_callB call_len_seq (by rfl) ml PySem.boot_len (pa_cons (pv 7) pa_nil))) rfl)
      (pss_cons (ps_set (i := 6) scFm.nd rfl (.inl rfl) (pe_lst (pa_cons (pe_call GR hr (by rfl) gr kr br .nil pass0 (pa_cons (pv 0) (pa_cons (pv 1) (pa_cons (pv 2) (pa_cons (pe_op op_sub (pv 3) pe_int) pa_nil))))) pa_nil)))
      (pss_cons (ps_for PassesOwn.never rfl (pi_range2 (by rfl) mr (pa_cons pe_int (pa_cons (pe_callB call_len_seq (by rfl) ml PySem.boot_len (pa_cons (pv 7) pa_nil)) pa_nil))) (pg_name (i := 8) scFm.nd rfl (.inl rfl)) (pss_one (ps_expr (pe_bm PySem.F.plainAttrs_list PySem.F.slot_list_append PySem.F.type_list_append mt_append (pv 6) (pa_cons (pe_call GR hr (by rfl) gr kr br .nil pass0 (pa_cons (pv 0) (pa_cons (pv 1) (pa_cons (pv 1) (pa_cons (pe_op op_sub (pv 3) pe_int) pa_nil))))) pa_nil)))))
      (pss_one (ps_ret (pe_tup (pa_cons pe_str (pa_cons (pe_callTy call_tuple_of (by rfl) mtu (by decide +kernel) (pa_cons (pe_listZip (by rfl) (by rfl) mli (by rfl) mzi (pa_cons (pv 7) (pa_cons (pv 6) pa_nil))) pa_nil)) pa_nil))))))))) pss_nil)
      (pss_cons (ps_if (pt_cmpR op_lt (pv 4) pe_int (nomark _)) (pss_cons (ps_dput (hu_of hr) (pv 0) pe_str (pe_op op_sub (pe_dget (hu_of hr) (pv 0) pe_str (fun _ _ => rfl)) pe_int) rfl)
      (pss_cons (ps_set (i := 6) scFm.nd rfl (.inl rfl) (pe_call GR hr (by rfl) gr kr br .nil pass0 (pa_cons (pv 0) (pa_cons (pv 1) (pa_cons (pv 1) (pa_cons (pe_op op_sub (pv 3) pe_int) pa_nil))))))
      (pss_cons (ps_if (pt_cmpR op_eq (pv 4) pe_int (nomark _)) (pss_one (ps_ret (pe_tup (pa_cons pe_str (pa_cons (pv 6) (pa_cons (pe_ix ix_list (pe_lst (pa_cons pe_non (pa_cons (pe_call GBF hr (by rfl) gbf kbf bbf .nil pass0 (pa_cons (pv 0) pa_nil)) pa_nil))) (pe_call GN hr (by rfl) gn kn bn .nil pass0 (pa_cons (pv 0) (pa_cons pe_int pa_nil))) (fun _ _ => rfl)) pa_nil)))))) pss_nil)
      (pss_one (ps_ret (pe_tup (pa_cons pe_str (pa_cons (pe_call GB hr (by rfl) gb kb bb .nil pass0 (pa_cons (pv 0) (pa_cons pe_int (pa_cons pe_int pa_nil)))) (pa_cons (pv 6) pa_nil))))))))) pss_nil)
      (pss_cons (ps_if (pt_cmpR op_eq (pv 4) pe_int (nomark _)) (pss_one (ps_ret (pe_call GTF hr (by rfl) gtf ktf btf .nil pass0 (pa_cons (pv 0) pa_nil)))) pss_nil)
      (pss_cons (ps_if (PW.pt (pw_and (pt_cmpR (op_neNil hr.units) (pv 2) (pe_lst pa_nil) (nomark _)) (pw_and1 (pt_cmpR op_gt (pe_dget (hu_of hr) (pv 0) pe_str (fun _ _ => rfl)) pe_int (nomark _))))) (pss_cons (ps_dput (hu_of hr) (pv 0) pe_str (pe_op op_sub (pe_dget (hu_of hr) (pv 0) pe_str (fun _ _ => rfl)) pe_int) rfl)
      (pss_one (ps_ret (pe_tup (pa_cons pe_str (pa_cons (pe_call GK hr (by rfl) gk kk bk .nil pass0 (pa_cons (pv 0) (pa_cons (pv 2) pa_nil))) pa_nil)))))) pss_nil)
      (pss_one (ps_ret (pe_call GBF hr (by rfl) gbf kbf bbf .nil pass0 (pa_cons (pv 0) pa_nil))))))))))), ?_⟩
    refine ⟨_, rfl, pd, po, t, _, 14, rfl, hP, by omega, by decide, by decide, fun wy H1 t1 ht1 wy0 wy1 hP1 k1 => ?_⟩
    obtain ⟨⟨a1, _, g1⟩, c1, _, s1⟩ := hP1.x
    have pl : ∀ (σ : L2.St), σ[0]? = some (some (.ref pd)) → (tCall (spPl N) [] E0 (tCons (tVar 0) tNil)) σ H1 Q := fun σ s0 =>
      ⟨_, s0, pd, po, t1, r, o, g, rfl, hP1, by omega, q.then (by omega) (by omega) k1⟩
    by_cases d0 : d = 0
    · subst d0
      exact ⟨_, rfl, rfl, _, rfl, iteT' (by decide) (iteT (pl _ rfl))⟩
    have nd0 : V.int (d : Int) ≠ V.int 0 := fun e => d0 (by
      have := V.int.inj e
      omega)
    by_cases w4 : wy < 4
    · exact ⟨_, rfl, rfl, _, rfl, iteF' (decide_eq_false nd0) ⟨_, rfl, _, _, rfl, rfl, _, rfl, iteT' (decide_eq_true w4) (iteT (pl _ rfl))⟩⟩
    by_cases r2 : r < 2
    · exact ⟨_, rfl, rfl, _, rfl, iteF' (decide_eq_false nd0) ⟨_, rfl, _, _, rfl, rfl, _, rfl, iteF' (decide_eq_false w4) ⟨_, rfl, pd, _, rfl, a1, _, _, rfl, rfl, _, rfl, iteT' (decide_eq_true r2) (pl _ rfl)⟩⟩⟩
    refine ⟨_, rfl, rfl, _, rfl, iteF' (decide_eq_false nd0) ⟨_, rfl, _, _, rfl, rfl, _, rfl, iteF' (decide_eq_false w4) ⟨_, rfl, pd, _, rfl, a1, _, _, rfl, rfl, _, rfl, iteF' (decide_eq_false r2) ?_⟩⟩⟩
    obtain ⟨e, rfl⟩ : ∃ e, d = e + 1 := ⟨d - 1, by omega⟩
    have de : (((e + 1 : Nat) : Int) - 1) = (e : Int) := by omega
    have hT1 : fT (e + 1) = 8 * fT e + 200 := rfl
    have hB1 : fB (e + 1) = 8 * fB e + 21 := rfl
    have fTe := fT_ge e
    have fBe := fB_ge e
    -- one form more
    have recu : ∀ (H6 : Hp) (t6 : Nat) (r6 o6 g6 : Int) (lv : Addr) (lvs : List Str) (Q6 : VK), Pot H6 pd po t6 (some (r6, o6, g6)) → Kp (PM pd po) H H6 → t6 + fT e < 2 ^ 44 → H lv = some (.lst (lvs.map V.str)) → ¬ PM pd po lv → (∀ x ∈ lvs, x ∈ N) → lvs.length ≤ 100 → FormQ N pd po t6 (fT e) (fB e) H6 Q6 →
        spFm N n ([.ref pd, .ref ln, .ref lv, .int (((e + 1 : Nat) : Int) - 1)] ++ []) H6 Q6 E0 := fun H6 t6 r6 o6 g6 lv lvs Q6 hP6 k6 ht6 elv nlv hlv llv q6 =>
      ⟨pd, po, t6, r6, o6, g6, ln, lv, lvs, e, by rw [de]; rfl, hP6, ht6, by omega, k6 ln _ nln eln, k6 lv _ nlv elv, hlv, nln, nlv, hNm, hNc, llv, q6⟩
    generalize fT (e + 1) = T1 at *
    generalize fB (e + 1) = B1 at *
    by_cases w7 : wy < 7
    · refine ⟨_, rfl, _, _, rfl, rfl, _, rfl, iteT' (decide_eq_true w7) ?_⟩
      refine ⟨_, rfl, pd, po, t1, 8, _, 3, 8, rfl, hP1, by omega, by decide, by decide, by decide, by decide, by decide, fun sz H2 t2 ht2 hsz hP2 k2 => ?_⟩
      obtain ⟨⟨a2, _, _⟩, c2, _, _⟩ := hP2.x
      refine ⟨_, rfl, pd, _, rfl, a2, _, _, rfl, ?_⟩
      generalize hmn : (if r < (sz : Int) then r else (sz : Int)) = mn
      have mn0 : 0 ≤ mn ∧ mn ≤ 8 := by
        rw [← hmn]
        split <;> omega
      obtain ⟨H3, u3, hP3, k3⟩ := c2 (r - mn)
      refine ⟨_, rfl, pd, _, rfl, a2, _, rfl, _, _, rfl, rfl, _, rfl, pd, H3, rfl, u3, ?_⟩
      have k13 := (k1.trans k2).trans k3
      refine ⟨_, rfl, mn, rfl, by omega, by omega, fun Da nD => ?_⟩
      have hD := off_pot hP3 nD
      have nDH := none_back k13 hD nD
      refine lc_range (lo := 0) (n := mn.toNat) (fun j H6 => ∃ (t6 : Nat) (r6 o6 g6 : Int) (ws : List V) (fs : List Fo), fs.length = j ∧ t6 ≤ t2 + j * fT e ∧ Pot H6 pd po t6 (some (r6, o6, g6)) ∧ Kp (PM pd po) H H6 ∧ FsAt H6 Da N (fB e) ws fs) ?_ ?_ ?_
      · exact ⟨t2, _, _, _, [], [], rfl, by omega, hP3.new nD, k13.trans (Kp.new nD), upd_same, .nil, True.intro, Nat.zero_le _, True.intro⟩
      · rintro j H6 hj ⟨t6, r6, o6, g6, ws, fs, lf, ht6, hP6, k6, hF⟩
        have j7 : j * fT e ≤ 7 * fT e := Nat.mul_le_mul_right _ (by omega)
        refine ⟨rfl, tYes_ok (iteT ?_)⟩
        refine ⟨_, rfl, _, rfl, _, rfl, _, rfl, _, _, rfl, rfl, recu H6 t6 r6 o6 g6 ll ls _ hP6 k6 (by omega) ell nll hls hlc fun v f H7 t7 r7 o7 g7 ht7 hv hf hw hs hP7 k7 => ?_⟩
        have hF7 := hF.keep k7 hP6.noT hD
        refine ⟨ws, hF7.1, by rw [hF7.len, lf]; exact small1000 (by omega), t7, r7, o7, g7, ws ++ [v], fs ++ [f], by rw [List.length_append, lf]; rfl, by rw [Nat.succ_mul]; omega, hP7.off hD, (k6.trans k7).own nDH, hF7.push hv hf hw hs⟩
      · rintro H6 ⟨t6, r6, o6, g6, ws, fs, lf, ht6, hP6, k6, hF⟩
        have j8 : mn.toNat * fT e ≤ 8 * fT e := Nat.mul_le_mul_right _ (by omega)
        have b8 : mn.toNat * fB e ≤ 8 * fB e := Nat.mul_le_mul_right _ (by omega)
        refine ⟨_, rfl, Da, ws, rfl, .inl ⟨SqL.of hF.1, fun a na => ⟨by show 2 ≤ sizeLine; decide, fun p np => ?_⟩⟩⟩
        have hs := hF.2.2.2.1
        rw [lf] at hs
        exact q.row (by omega) na np hF.2.1 hF.2.2.1 hF.2.2.2.2 (by omega) hP6 k6
    refine ⟨_, rfl, _, _, rfl, rfl, _, rfl, iteF' (decide_eq_false w7) ?_⟩
    by_cases w9 : wy < 9
    · refine ⟨_, rfl, _, _, rfl, rfl, _, rfl, iteT' (decide_eq_true w9) ?_⟩
      refine ⟨_, rfl, _, rfl, pd, po, t1, 7, _, 2, 7, rfl, hP1, by omega, by decide, by decide, by decide, by decide, by decide, fun sz H2 t2 ht2 hsz hP2 k2 => ?_⟩
      obtain ⟨⟨a2, _, _⟩, c2, _, _⟩ := hP2.x
      refine ⟨_, rfl, pd, _, rfl, a2, _, _, rfl, rfl, _, _, rfl, ?_⟩
      generalize hmn : (if r - 1 < (sz : Int) then r - 1 else (sz : Int)) = mn
      have mn0 : 0 ≤ 1 + mn ∧ 1 ≤ 1 + mn ∧ 1 + mn ≤ 8 := by
        rw [← hmn]
        split <;> omega
      obtain ⟨m, hm⟩ := Int.eq_ofNat_of_zero_le mn0.1
      refine ⟨_, _, rfl, rfl, pd, po, t2, m, _, (by show [V.ref pd, V.int (1 + mn)] = [V.ref pd, V.int (m : Int)]; rw [hm]), hP2, by omega, by omega, by omega, fun zs l H3 t3 ht3 lz hz nl el nPM hP3 k3 => ?_⟩
      obtain ⟨⟨a3, _, _⟩, c3, _, _⟩ := hP3.x
      obtain ⟨H4, u4, hP4, k4⟩ := c3 (r - ((zs.map V.str).length : Nat))
      refine ⟨_, rfl, pd, _, rfl, a3, _, rfl, l, _, rfl, .inl (SqL.of el), _, _, rfl, rfl, _, rfl, pd, H4, rfl, u4, ?_⟩
      have k14 := ((k1.trans k2).trans k3).trans k4
      have el4 := k4 l _ nPM el
      refine ⟨_, rfl, _, rfl, _, rfl, _, rfl, _, _, rfl, rfl, recu H4 t3 _ _ _ ll ls _ hP4 k14 (by omega) ell nll hls hlc fun v5 f5 H5 t5 r5 o5 g5 ht5 hv5 hf5 hw5 hs5 hP5 k5 => ⟨by show 1 ≤ sizeLine; decide, fun Da nD => ?_⟩⟩
      have hD := off_pot hP5 nD
      have k15 := k14.trans k5
      have nDH := none_back k15 hD nD
      have el5 := k5 l _ nPM el4
      have nDl : l ≠ Da := ne_of_none el5 nD
      have lzm : (zs.map V.str).length = m := by rw [List.length_map, lz]
      refine ⟨_, rfl, l, _, rfl, .inl (SqL.of (by rw [upd_ne nDl]; exact el5)), _, _, rfl, ⟨by decide, by decide, by omega, by omega⟩, ?_⟩
      rw [lzm]
      refine for_range (lo := 1) (n := ((m : Int) - 1).toNat) (fun i σ H6 => ∃ (y8 : Option V) (t6 : Nat) (r6 o6 g6 : Int) (ws : List V) (fs : List Fo), σ = [some (.ref pd), some (.ref ln), some (.ref ll), some (.int ((e + 1 : Nat) : Int)), some (.int wy), none, some (.ref Da), some (.ref l), y8] ∧ fs.length = 1 + i ∧ t6 ≤ t3 + (1 + i) * fT e ∧ Pot H6 pd po t6 (some (r6, o6, g6)) ∧ Kp (PM pd po) H H6 ∧ H6 l = some (.lst (zs.map V.str)) ∧ FsAt H6 Da N (fB e) ws fs) ?_ ?_ ?_
      · refine ⟨none, t5, _, _, _, [v5], [f5], rfl, rfl, by omega, hP5.new nD, k15.trans (Kp.new nD), by rw [upd_ne nDl]; exact el5, upd_same, .cons (hv5.keep (Kp.new (M := M0) nD) noT0) .nil, ⟨hf5, True.intro⟩, ?_, hw5, True.intro⟩
        show f5.size + 0 ≤ 1 * fB e
        omega
      · rintro i σ H6 hi ⟨y8, t6, r6, o6, g6, ws, fs, rfl, lf, ht6, hP6, k6, el6, hF⟩
        have j7 : (1 + i) * fT e ≤ 7 * fT e := Nat.mul_le_mul_right _ (by omega)
        refine ⟨_, rfl, .inl ⟨rfl, _, SqL.of hF.1⟩, _, rfl, _, rfl, _, rfl, _, rfl, _, _, rfl, rfl, recu H6 t6 r6 o6 g6 ln N _ hP6 k6 (by omega) eln nln (fun x h => h) hNc fun v f H7 t7 r7 o7 g7 ht7 hv hf hw hs hP7 k7 => ?_⟩
        have hF7 := hF.keep k7 hP6.noT hD
        refine ⟨Da, _, _, rfl, rfl, hF7.1, by rw [hF7.len, lf]; exact small1000 (by omega), ?_⟩
        refine ⟨_, t7, r7, o7, g7, ws ++ [v], fs ++ [f], rfl, by rw [List.length_append, lf]; rfl, by rw [show 1 + (i + 1) = (1 + i) + 1 from rfl, Nat.succ_mul]; omega, hP7.off hD, (k6.trans k7).own nDH, by rw [upd_ne nDl]; exact k7 l _ nPM el6, hF7.push hv hf hw hs⟩
      · rintro σ H6 ⟨y8, t6, r6, o6, g6, ws, fs, rfl, lf, ht6, hP6, k6, el6, hF⟩
        have j8 : (1 + ((m : Int) - 1).toNat) * fT e ≤ 8 * fT e := Nat.mul_le_mul_right _ (by omega)
        have b8 : (1 + ((m : Int) - 1).toNat) * fB e ≤ 8 * fB e := Nat.mul_le_mul_right _ (by omega)
        have hs := hF.2.2.2.1
        rw [lf] at hs
        have lzf : zs.length = fs.length := by omega
        refine ⟨_, rfl, _, rfl, l, Da, _, _, rfl, SqL.of el6, SqL.of hF.1, fun H7 L ps k7 nL eL lp hp => ⟨L, _, rfl, .inl ⟨SqL.of eL, fun a na => ⟨by show 2 ≤ sizeLine; decide, fun p np => ?_⟩⟩⟩⟩
        rw [List.length_map, hF.len, ← lzf, Nat.min_self] at lp
        refine q.either (by omega) na np (Rps.zipE (hF.2.1.keep k7 noT0) (by rw [hF.len, lzf]) lp (fun z h => Nat.le_of_lt (small1000 (Nat.le_trans (hz.2.2 z h).2.1 (by decide)))) hp) lzf hF.2.2.1 ⟨fun z => by rw [z] at lz; exact absurd lz (by simp only [List.length_nil]; omega), by omega, hz.1, nm_of hz, hF.2.2.2.2⟩ (by omega) (hP6.keep k7 (fun z => z) (fun z => z)) (k6.trans (k7.mono fun b z => z.elim))
    refine ⟨_, rfl, _, _, rfl, rfl, _, rfl, iteF' (decide_eq_false w9) ?_⟩
    have bfl : ∀ (H6 : Hp) (t6 : Nat) (r6 o6 g6 : Int) (Q6 : VK) (σ : L2.St), σ[0]? = some (some (.ref pd)) → Pot H6 pd po t6 (some (r6, o6, g6)) → t6 < 2 ^ 44 → (∀ (v : V) (f : Fo) (H' : Hp) (t' : Nat) (r' o' g' : Int), t' ≤ t6 + 130 → Rp H' v f.enc → f.ok N → f.wf → f.bare → f.size ≤ 3 → Pot H' pd po t' (some (r', o', g')) → Kp (PM pd po) H6 H' → Q6 v H') → (tCall (spBf N) [] E0 (tCons (tVar 0) tNil)) σ H6 Q6 := fun H6 t6 r6 o6 g6 Q6 σ s0 hP6 ht6 q6 =>
      ⟨_, s0, pd, po, t6, r6, o6, g6, rfl, hP6, ht6, q6⟩
    by_cases w11 : wy < 11
    · refine ⟨_, rfl, _, _, rfl, rfl, _, rfl, iteT' (decide_eq_true w11) ?_⟩
      obtain ⟨H2, u2, hP2, k2⟩ := c1 (r - 2)
      refine ⟨_, rfl, pd, _, rfl, a1, _, _, rfl, rfl, _, rfl, pd, H2, rfl, u2, ?_⟩
      have k12 := k1.trans k2
      refine ⟨_, rfl, _, rfl, _, rfl, _, rfl, _, _, rfl, rfl, recu H2 t1 _ _ _ ln N _ hP2 k12 (by omega) eln nln (fun x h => h) hNc fun v f H3 t3 r3 o3 g3 ht3 hv hf hw hs hP3 k3 => ?_⟩
      have k13 := k12.trans k3
      by_cases w99 : wy = 9
      · subst w99
        refine ⟨_, rfl, rfl, _, rfl, iteT' (by decide) ?_⟩
        refine ⟨_, rfl, ?_⟩
        refine bfl H3 t3 r3 o3 g3 _ _ rfl hP3 (by omega) fun u h H4 t4 r4 o4 g4 ht4 hu hh hhw hhb hsh hP4 k4 => ⟨by show 2 ≤ sizeLine; decide, fun L nL => ?_⟩
        have hL := off_pot hP4 nL
        refine ⟨_, rfl, pd, po, t4, _, 2, rfl, hP4.new nL, by omega, by decide, by decide, fun d5 H5 t5 ht5 d50 d51 hP5 k5 => ?_⟩
        obtain ⟨v5, hv5, hm⟩ := at_some d50 (show d5 < ([V.non, u].length : Int) from d51)
        refine ⟨L, _, d5, v5, rfl, rfl, SqL.of (k5 L _ hL upd_same), hv5, ⟨by show 3 ≤ sizeLine; decide, fun p np => ?_⟩⟩
        have k45 : Kp (PM pd po) H4 H5 := (Kp.new nL).trans k5
        have kp : Kp M0 H5 (upd H5 p (.tup [.str "again", v, v5])) := Kp.new np
        have rv := (((hv.keep k4 hP3.noT).keep k45 hP4.noT).keep kp noT0)
        have ru := (hu.keep k45 hP4.noT).keep kp noT0
        have kA : Kp (PM pd po) H (upd H5 p (.tup [.str "again", v, v5])) := ((k13.trans k4).trans k45).trans (kp.mono fun b z => z.elim)
        have hPA : Pot (upd H5 p (.tup [.str "again", v, v5])) pd po t5 (some (r4, o4, g4)) := hP5.new np
        simp only [List.mem_cons, List.not_mem_nil, or_false] at hm
        rcases hm with z | z
        · subst z
          exact q _ (.again f) _ t5 _ _ _ (by omega) (.tup (vs := [.str "again", v, .non]) upd_same (.cons (.str (by decide)) (.cons rv (.cons .non .nil)))) hf hw (by show 1 + f.size ≤ B1; omega) hPA kA
        · subst z
          exact q _ (.between f h) _ t5 _ _ _ (by omega) (.tup (vs := [.str "again", v, v5]) upd_same (.cons (.str (by decide)) (.cons rv (.cons ru .nil)))) ⟨hf, hh⟩ ⟨hw, hhw, hhb⟩ (by show 1 + f.size + h.size ≤ B1; omega) hPA kA
      · have n9 : V.int wy ≠ V.int 9 := fun e => w99 (V.int.inj e)
        refine ⟨_, rfl, rfl, _, rfl, iteF' (decide_eq_false n9) ?_⟩
        refine ⟨_, rfl, pd, po, t3, 2, _, _, _, 1, 2, rfl, hP3, by omega, by decide, by decide, by decide, by decide, by decide, fun cs H4 t4 g4 ht4 hg1 hg2 l1 l2 hc hP4 k4 => ⟨_, rfl, by show 3 ≤ sizeLine; decide, fun p np => ?_⟩⟩
        have kp : Kp M0 H4 (upd H4 p (.tup [.str "counted", .str ⟨cs.toArray⟩, v])) := Kp.new np
        exact q _ (.counted ⟨cs.toArray⟩ f) _ t4 _ _ _ (by omega) (.tup (vs := [.str "counted", .str ⟨cs.toArray⟩, v]) upd_same (.cons (.str (by decide)) (.cons (str_rp l2 (by decide)) (.cons ((hv.keep k4 hP3.noT).keep kp noT0) .nil)))) hf ⟨txt_of_cs l1 hc, hw⟩ (by show 1 + f.size ≤ B1; omega) (hP4.new np) ((k13.trans k4).trans (kp.mono fun b z => z.elim))
    refine ⟨_, rfl, _, _, rfl, rfl, _, rfl, iteF' (decide_eq_false w11) ?_⟩
    by_cases w12 : wy = 11
    · subst w12
      refine ⟨_, rfl, rfl, _, rfl, iteT' (by decide) ?_⟩
      exact ⟨_, rfl, pd, po, t1, r, o, g, rfl, hP1, by omega, q.then (by omega) (by omega) k1⟩
    have nw : V.int wy ≠ V.int 11 := fun e => w12 (V.int.inj e)
    refine ⟨_, rfl, rfl, _, rfl, iteF' (decide_eq_false nw) ?_⟩
    have ell1 := k1 ll _ nll ell
    refine ⟨_, rfl, Nat.zero_le _, fun b nb => ?_⟩
    have hb : ∀ {a : Addr} {u : HO}, H1 a = some u → upd H1 b (.lst []) a = some u := fun e => by rw [upd_ne (ne_of_none e nb)]; exact e
    have hP2 : Pot (upd H1 b (.lst [])) pd po t1 (some (r, o, g)) := hP1.new nb
    have ell2 := hb ell1
    have k2 : Kp (PM pd po) H (upd H1 b (.lst [])) := k1.trans (Kp.new nb)
    have eb2 : (upd H1 b (.lst [])) b = some (.lst []) := upd_same
    generalize upd H1 b (.lst []) = H2 at hP2 ell2 k2 eb2 ⊢
    obtain ⟨⟨_, _, g2⟩, _, _, s2⟩ := hP2.x
    refine ⟨ll, b, _, rfl, rfl, ell2, eb2, _, rfl, ?_⟩
    cases ls with
    | nil =>
      refine iteF (iteF ?_)
      exact bfl H2 t1 r o g Q _ rfl hP2 (by omega) (fun v f H' t' r' o' g' h1 h2 h3 h4 _ h5 h6 h7 => q v f H' t' r' o' g' (by omega) h2 h3 h4 (by omega) h6 (k2.trans h7))
    | cons x xs =>
      refine iteT ⟨_, rfl, pd, _, rfl, g2, _, _, rfl, rfl, _, rfl, ite2 (fun c => ?_) (fun c => ?_)⟩
      · obtain ⟨H3, u3, hP3, k3⟩ := s2 (g - 8)
        refine ⟨_, rfl, pd, _, rfl, g2, _, _, rfl, rfl, _, rfl, pd, H3, rfl, u3, ?_⟩
        refine ⟨_, rfl, _, rfl, pd, po, t1, _, .ref ll, (fun v => ∃ y ∈ N, v = .str y), rfl, hP3, by omega, .inr ⟨ll, _, rfl, k3 ll _ nll ell2, fun z => nll (.inr z), ?_, ?_, fun v hv => ?_⟩, fun v H4 t4 ht4 ⟨y, hy, ev⟩ hP4 k4 => ⟨by show 2 ≤ sizeLine; decide, fun p np => ?_⟩⟩
        · rw [List.length_map]
          exact Nat.le_add_left ..
        · rw [List.length_map]
          omega
        · obtain ⟨y, hy, rfl⟩ := List.mem_map.mp hv
          exact ⟨y, hls y hy, rfl⟩
        · subst ev
          exact q _ (.named y) _ t4 _ _ _ (by omega) (.tup (vs := [.str "named", .str y]) upd_same (.cons (.str (by decide)) (.cons (.str (Nat.le_of_lt (small1000 (hNl y hy)))) .nil))) hy (hNm y hy) (by show 1 ≤ B1; omega) (hP4.new np) (((k2.trans k3).trans k4).trans (Kp.new np))
      · exact bfl H2 t1 r o g Q _ rfl hP2 (by omega) (fun v f H' t' r' o' g' h1 h2 h3 h4 _ h5 h6 h7 => q v f H' t' r' o' g' (by omega) h2 h3 h4 (by omega) h6 (k2.trans h7))
end
end RT

namespace RT
open PySem PySem.Spec PyProof.Rows L2
abbrev sBo : Stmt := topS 47
abbrev sBk : Stmt := topS 48
theorem scBo : FnScope ["_law_pot_here", "_law_few", "_law_most", "_law_room", "_law_names_here", "_law_leaves", "_law_rows", "_law_name"] ["_law_pot_here", "_law_few", "_law_most", "_law_room"] (defScope sBo) := ⟨rfl, rfl, rfl, by decide +kernel, rfl, by decide +kernel, by decide +kernel⟩
theorem scBk : FnScope ["_law_pot_here"] ["_law_pot_here"] (defScope sBk) := ⟨rfl, rfl, rfl, by decide +kernel, rfl, by decide +kernel, by decide +kernel⟩
/-- one row, a pair of a name and a form -/
def RowAt (H : Hp) (p : Addr) (x : Str × Fo) : Prop := ∃ u, H p = some (.tup [.str x.1, u]) ∧ Rp H u x.2.enc
def RowsAt (H : Hp) (ps : List Addr) (bs : List (Str × Fo)) : Prop := ps.length = bs.length ∧ ∀ (i : Nat) (p : Addr) (x : Str × Fo), ps[i]? = some p → bs[i]? = some x → RowAt H p x
theorem RowAt.keep {H H' : Hp} {M : Addr → Prop} (k : Kp M H H') (h : ∀ a xs, M a → H a ≠ some (.tup xs)) {p : Addr} {x : Str × Fo} (r : RowAt H p x) : RowAt H' p x := by
  obtain ⟨u, e, r⟩ := r
  exact ⟨u, k _ _ (fun m => h _ _ m e) e, r.keep k h⟩
theorem RowsAt.keep {H H' : Hp} {M : Addr → Prop} (k : Kp M H H') (h : ∀ a xs, M a → H a ≠ some (.tup xs)) {ps : List Addr} {bs : List (Str × Fo)} (r : RowsAt H ps bs) : RowsAt H' ps bs :=
  ⟨r.1, fun i p x e1 e2 => (r.2 i p x e1 e2).keep k h⟩
theorem inV_strs (x : Str) : ∀ ks : List Str, inV (.str x) (ks.map V.str) = decide (x ∈ ks)
  | [] => by simp [inV]
  | k :: r => by
    have ih := inV_strs x r
    unfold inV at ih ⊢
    rw [List.map_cons, List.any_cons, ih]
    have e : eqV (.str k) (.str x) = decide (x = k) := by
      show (k == x) = _
      by_cases z : x = k
      · subst z
        simp
      · rw [decide_eq_false z]
        exact beq_eq_false_iff_ne.mpr fun y => z y.symm
    rw [e]
    simp
theorem flat_strs (ks : List Str) : (ks.map V.str).all flatV = true := by
  rw [List.all_eq_true]
  intro v hv
  obtain ⟨k, _, rfl⟩ := List.mem_map.mp hv
  rfl
theorem cutV_strs (zs : List Str) (lo hi : Option Int) : ∃ ls : List Str, cutV (zs.map V.str) lo hi = ls.map V.str ∧ (∀ x ∈ ls, x ∈ zs) ∧ ls.length ≤ zs.length := by
  unfold cutV
  refine ⟨(zs.drop (HT.sIx (zs.map V.str).length 0 lo)).take (HT.sIx (zs.map V.str).length (zs.map V.str).length hi - HT.sIx (zs.map V.str).length 0 lo), ?_, fun x h => List.mem_of_mem_drop (List.mem_of_mem_take h), ?_⟩
  · rw [List.map_take, List.map_drop]
  · rw [List.length_take, List.length_drop]
    omega
section
variable {P : Program} {w : World} {K : PySem.W.Frag} {mg : Str → Option Value} {base : Heap}
/-- one promise for all of a family -/
theorem FnOk.ex {α : Type} {k : Nat} {f : Addr} {fd : FuncData} {ps : List Str} {sp : α → Sp} (h0 : ∀ a, FnOk P w K mg base CX0 k f fd ps (sp a)) : FnOk P w K mg base CX0 k f fd ps (fun vs H Q E => ∃ a, sp a vs H Q E) :=
  ⟨fun vs H Q E ⟨a, h⟩ => (h0 a).len vs H Q E h, fun A outer s H args us vs Q E hr h1 h2 h3 ⟨a, h⟩ => (h0 a).run A outer s H args us vs Q E hr h1 h2 h3 h⟩
def spPlA : Sp := fun vs H Q E => ∃ N, spPl N vs H Q E
def spFmA : Sp := fun vs H Q E => ∃ N, spFm N 4 vs H Q E
theorem RowsAt.push {H : Hp} {ps : List Addr} {bs : List (Str × Fo)} {p : Addr} {x : Str × Fo} (h : RowsAt H ps bs) (r : RowAt H p x) : RowsAt H (ps ++ [p]) (bs ++ [x]) := by
  refine ⟨by rw [List.length_append, List.length_append, h.1]; rfl, fun i q y e1 e2 => ?_⟩
  by_cases c : i < ps.length
  · rw [List.getElem?_append_left c] at e1
    rw [List.getElem?_append_left (by rw [← h.1]; exact c)] at e2
    exact h.2 i q y e1 e2
  · have c2 : ¬ i < bs.length := by rw [← h.1]; exact c
    rw [List.getElem?_append_right (by omega)] at e1
    rw [List.getElem?_append_right (by omega)] at e2
    have z : i - ps.length = 0 := by
      have q := (List.getElem?_eq_some_iff.mp e1).1
      rw [List.length_singleton] at q
      omega
    have z2 : i - bs.length = 0 := by rw [← h.1]; exact z
    rw [z] at e1
    rw [z2] at e2
    cases e1
    cases e2
    exact r
def spBo : Sp := fun vs H Q _ => ∃ (pd po : Addr) (t : Nat) (ex : Ex), vs = [.ref pd, .int 4, .int 11, .int 70] ∧ Pot H pd po t ex ∧ t < 2 ^ 40 ∧
  ∀ (b rows : Addr) (s : Str) (ps : List Addr) (bs : List (Str × Fo)) (H' : Hp) (t' : Nat) (r o g : Int), t' ≤ t + 2000000 → H' b = some (.tup [.str s, .ref rows]) → H' rows = some (.tup (ps.map V.ref)) → RowsAt H' ps bs → bs.length ≤ 12 → (∀ x f, (x, f) ∈ bs → f.ok (bs.map (·.1)) ∧ f.wf ∧ f.size ≤ 4000) → Names (bs.map (·.1)) → s ∈ bs.map (·.1) → Pot H' pd po t' (some (r, o, g)) → Kp (PM pd po) H H' → Q (.ref b) H'
set_option maxHeartbeats 0 in
theorem ok_bo {f fz fm fp fr fk : Addr} {fd fdz fdm fdp fdr fdk : FuncData} {k : Nat} (F : Fun K "_law_book_of" "_law_book_of" sBo f fd)
    (GZ : FnOk P w K mg base CX0 k fz fdz ["_law_pot_here", "_law_few", "_law_most"] spSize) (kz : PySem.W.keepIn K (.ref fz) = true) (bz : Binds K fdz ["_law_pot_here", "_law_few", "_law_most"] []) (gz : mg "_law_size" = some (.ref fz))
    (GM : FnOk P w K mg base CX0 k fm fdm ["_law_pot_here", "_law_many"] spNames) (km : PySem.W.keepIn K (.ref fm) = true) (bm : Binds K fdm ["_law_pot_here", "_law_many"] []) (gm : mg "_law_names" = some (.ref fm))
    (GP : FnOk P w K mg base CX0 k fp fdp ["_law_pot_here"] spPlA) (kp : PySem.W.keepIn K (.ref fp) = true) (bp : Binds K fdp ["_law_pot_here"] []) (gp : mg "_law_plain" = some (.ref fp))
    (GR : FnOk P w K mg base CX0 k fr fdr ["_law_pot_here", "_law_names_here", "_law_leaves", "_law_deep"] spFmA) (kr : PySem.W.keepIn K (.ref fr) = true) (br : Binds K fdr ["_law_pot_here", "_law_names_here", "_law_leaves", "_law_deep"] []) (gr : mg "_law_form" = some (.ref fr))
    (GK : FnOk P w K mg base CX0 k fk fdk ["_law_pot_here", "_law_some"] (spPick K)) (kk : PySem.W.keepIn K (.ref fk) = true) (bk : Binds K fdk ["_law_pot_here", "_law_some"] []) (gk : mg "_law_pick" = some (.ref fk))
    (mtu : mg "tuple" = none) (ml : mg "len" = none) : FnOk P w K mg base CX0 (k + 1) f fd ["_law_pot_here", "_law_few", "_law_most", "_law_room"] spBo := by
  refine F.ok scBo (fun vs H Q E h => ?_) (fun cdv A outer s H vs Q E hr h => ?_)
  · obtain ⟨pd, po, t, ex, rfl, _⟩ := h
    rfl
  · obtain ⟨pd, po, t, ex, rfl, hP, ht, q⟩ := h
    have h40 : (2 : Nat) ^ 40 = 1099511627776 := by decide
    have h44 : (2 : Nat) ^ 44 = 17592186044416 := by decide
    have h45 : (2 : Nat) ^ 45 = 35184372088832 := by decide
    have h47 : (2 : Nat) ^ 47 = 140737488355328 := by decide
    have h49 : (2 : Nat) ^ 49 = 562949953421312 := by decide
    have h50 : (2 : Nat) ^ 50 = 1125899906842624 := by decide
    have hT3 : fT 3 = 117000 := by decide
    have hB3 : fB 3 = 3069 := by decide
    refine ⟨_, (pss_cons (ps_set (i := 4) scBo.nd rfl (.inl rfl) (pe_call GM hr (by rfl) gm km bm .nil pass0 (pa_cons (pv 0) (pa_cons (pe_op op_add pe_int (pe_call GZ hr (by rfl) gz kz bz .nil pass0 (pa_cons (pv 0) (pa_cons (pv 1) (pa_cons (pv 2) pa_nil))))) pa_nil))))
      (pss_cons (ps_dput (hu_of hr) (pv 0) pe_str (pe_op op_sub (pv 3) (pe_callB call_len_seq (by rfl) ml PySem.boot_len (pa_cons (pv 4) pa_nil))) rfl)
      (pss_cons (ps_asg (pe_tup (pa_cons (pe_op op_fdiv (pv 3) pe_int) (pa_cons pe_int pa_nil))) (pg_tup rfl (pgs_cons (pg_sub (pv 0) pe_str (set_dict (hu_of hr))) (pgs_cons (pg_sub (pv 0) pe_str (set_dict (hu_of hr))) pgs_nil))))
      (pss_cons (ps_set (i := 5) scBo.nd rfl (.inl rfl) (pe_slice sl_list (pv 4) (po_some (pe_op op_add pe_int (pe_op op_fdiv (pe_op op_mulW (pe_callB call_len_seq (by rfl) ml PySem.boot_len (pa_cons (pv 4) pa_nil)) pe_int) pe_int))) po_none))
      (pss_cons (ps_set (i := 6) scBo.nd rfl (.inl rfl) (pe_lst pa_nil))
      (pss_cons (ps_for PassesOwn.never rfl (pi_list (pv 4)) (pg_name (i := 7) scBo.nd rfl (.inl rfl)) (pss_one (ps_if (pt_cmpR op_in_seq (pv 7) (pv 5) (by rfl)) (pss_one (ps_expr (pe_bm PySem.F.plainAttrs_list PySem.F.slot_list_append PySem.F.type_list_append mt_append (pv 6) (pa_cons (pe_tup (pa_cons (pv 7) (pa_cons (pe_call GP hr (by rfl) gp kp bp .nil pass0 (pa_cons (pv 0) pa_nil)) pa_nil))) pa_nil)))) (pss_one (ps_expr (pe_bm PySem.F.plainAttrs_list PySem.F.slot_list_append PySem.F.type_list_append mt_append (pv 6) (pa_cons (pe_tup (pa_cons (pv 7) (pa_cons (pe_call GR hr (by rfl) gr kr br .nil pass0 (pa_cons (pv 0) (pa_cons (pv 4) (pa_cons (pv 5) (pa_cons pe_int pa_nil))))) pa_nil))) pa_nil)))))))
      (pss_one (ps_ret (pe_tup (pa_cons (pe_call GK hr (by rfl) gk kk bk .nil pass0 (pa_cons (pv 0) (pa_cons (pv 4) pa_nil))) (pa_cons (pe_callTy call_tuple_of (by rfl) mtu (by decide +kernel) (pa_cons (pv 6) pa_nil)) pa_nil))))))))))), ?_⟩
    refine ⟨_, rfl, _, rfl, _, rfl, _, rfl, pd, po, t, 11, _, 4, 11, rfl, hP, by omega, by decide, by decide, by decide, by decide, by decide, fun sz H1 t1 ht1 hsz hP1 k1 => ?_⟩
    refine ⟨_, _, rfl, rfl, pd, po, t1, 1 + sz, _, (by show [V.ref pd, V.int (1 + (sz : Int))] = [V.ref pd, V.int ((1 + sz : Nat) : Int)]; rw [show ((1 + sz : Nat) : Int) = 1 + (sz : Int) by omega]), hP1, by omega, by omega, by omega, fun zs l H2 t2 ht2 lz hz nl el nPM hP2 k2 => ?_⟩
    have k12 := k1.trans k2
    obtain ⟨s0, ns, E2⟩ := hP2.e
    have few0 : ∀ (l : List (Key × V)), l.length ≤ 8 → l.length < sizeLine := fun l h => by rw [sizeLine_eq]; omega
    have lb : ∀ l : List (Key × V), ((.inr "own", V.ref po) :: (.inr "seed", V.int s0) :: (.inr "turn", V.int (t2 : Nat)) :: exL ex : List (Key × V)).length ≤ 6 := fun _ => by
      have := exL_few ex
      simp only [List.length_cons]
      omega
    have few1 : ∀ (l : List (Key × V)) (k : Key) (v : V), l.length ≤ 6 → (putK l k v).length < sizeLine := fun l k v h => few0 _ (by have := length_putK l k v; omega)
    have few2 : ∀ (l : List (Key × V)) (k k2 : Key) (v v2 : V), l.length ≤ 6 → (putK (putK l k v) k2 v2).length < sizeLine := fun l k k2 v v2 h => few0 _ (by have := length_putK l k v; have := length_putK (putK l k v) k2 v2; omega)
    refine ⟨_, rfl, _, rfl, l, _, rfl, .inl (SqL.of el), _, _, rfl, rfl, _, rfl, pd, _, rfl, DPut.k (k := .inr "room") E2.d (few0 _ (Nat.le_trans (lb []) (by decide))), ?_⟩
    refine ⟨_, rfl, _, _, rfl, rfl, ⟨by decide, by decide⟩, by show 2 ≤ sizeLine; decide, fun p np => ?_⟩
    have pdp : pd ≠ p := fun z => by
      rw [← z, upd_same] at np
      cases np
    have edp : ∀ o : HO, upd (upd H2 pd o) p (.tup [V.int (70 / 7), .int 100]) pd = some o := fun o => by rw [upd_ne pdp, upd_same]
    refine ⟨p, _, rfl, SqT.of upd_same, rfl, _, _, rfl, _, rfl, pd, _, rfl, DPut.k (k := .inr "told") (edp _) (few1 _ _ _ (lb [])), _, _, rfl, _, rfl, pd, _, rfl, DPut.k (k := .inr "signs") upd_same (few2 _ _ _ _ _ (lb [])), rfl, ?_⟩
    have npo : po ≠ p := fun z => by
      have e := E2.o
      have e2 := none_upd np
      rw [z, e2] at e
      cases e
    have lz' : ((zs.map V.str).length : Int) = ((1 + sz : Nat) : Int) := by rw [List.length_map, lz]
    have kq : ∀ o1 o2 o3 : HO, Kp (PM pd po) H2 (upd (upd (upd (upd H2 pd o1) p (.tup [V.int (70 / 7), .int 100])) pd o2) pd o3) := fun o1 o2 o3 =>
      (((Kp.put (.inl rfl)).trans (Kp.new (by have := none_upd np; rw [upd_ne pdp.symm]; exact this))).trans (Kp.put (.inl rfl))).trans (Kp.put (.inl rfl))
    have hPq : ∀ o1 o2 : HO, ∀ r o g : Int, Pot (upd (upd (upd (upd H2 pd o1) p (.tup [V.int (70 / 7), .int 100])) pd o2) pd (potD po s0 t2 (some (r, o, g)))) pd po t2 (some (r, o, g)) := fun o1 o2 r o g => by
      refine ⟨⟨s0, E2.s0, E2.s1, upd_same⟩, ns, E2.len, E2.nn, ?_⟩
      rw [upd_ne E2.ne.symm, upd_ne E2.ne.symm, upd_ne npo, upd_ne E2.ne.symm]
      exact E2.o
    generalize hH3 : upd (upd (upd (upd H2 pd _) p _) pd _) pd _ = H3
    have k3 : Kp (PM pd po) H2 H3 := by
      rw [← hH3]
      exact kq _ _ _
    have hP3 : Pot H3 pd po t2 (some (70 - ((zs.map V.str).length : Nat), 70 / 7, 100)) := by
      rw [← hH3]
      rcases ex with _ | ⟨r0, o0, g0⟩
      · exact hPq _ _ _ _ _
      · exact hPq _ _ _ _ _
    clear hH3 hPq kq
    have k13 := k12.trans k3
    have el3 := k3 l _ nPM el
    have w2 : (2 : Int).natAbs < 2 ^ 64 := by decide
    have wl : (((zs.map V.str).length : Nat) : Int).natAbs < 2 ^ 64 := by
      show _ < 18446744073709551616
      omega
    refine ⟨_, rfl, _, rfl, l, _, rfl, .inl (SqL.of el3), _, _, rfl, rfl, wide_mul wl w2 (by decide) (by decide) (by decide), _, _, rfl, rfl, ⟨by omega, by decide⟩, _, _, rfl, rfl, _, rfl, l, _, rfl, SqL.of el3, fun ll nll0 => ?_⟩
    obtain ⟨ls, els, hls, hlc⟩ := cutV_strs zs (some (1 + ((zs.map V.str).length : Nat) * 2 / 3)) none
    have nll := off_pot hP3 nll0
    have nlll : l ≠ ll := ne_of_none el3 nll0
    have ell4 : upd H3 ll (.lst (cutV (zs.map V.str) (some (1 + ((zs.map V.str).length : Nat) * 2 / 3)) none)) ll = some (.lst (ls.map V.str)) := by rw [upd_same, els]
    have el4 : upd H3 ll (.lst (cutV (zs.map V.str) (some (1 + ((zs.map V.str).length : Nat) * 2 / 3)) none)) l = some (.lst (zs.map V.str)) := by rw [upd_ne nlll]; exact el3
    have hP4 := hP3.new (o := .lst (cutV (zs.map V.str) (some (1 + ((zs.map V.str).length : Nat) * 2 / 3)) none)) nll0
    have k14 : Kp (PM pd po) H (upd H3 ll (.lst (cutV (zs.map V.str) (some (1 + ((zs.map V.str).length : Nat) * 2 / 3)) none))) := k13.trans (Kp.new nll0)
    generalize upd H3 ll (.lst (cutV (zs.map V.str) (some (1 + ((zs.map V.str).length : Nat) * 2 / 3)) none)) = H4 at ell4 el4 hP4 k14 ⊢
    refine ⟨Nat.zero_le _, fun R nR => ?_⟩
    have hR := off_pot hP4 nR
    have nRH := none_back k14 hR nR
    have nlR : l ≠ R := ne_of_none el4 nR
    have nllR : ll ≠ R := ne_of_none ell4 nR
    have hNm : ∀ x ∈ zs, NmOk x := nm_of hz
    refine ⟨_, rfl, l, rfl, ⟨_, SqL.of (by rw [upd_ne nlR]; exact el4)⟩, for_list (xs := zs.map V.str) (fun i σ H6 => ∃ (y7 : Option V) (t6 : Nat) (r6 o6 g6 : Int) (ps : List Addr) (bs : List (Str × Fo)), σ = [some (.ref pd), some (.int 4), some (.int 11), some (.int 70), some (.ref l), some (.ref ll), some (.ref R), y7] ∧ t6 ≤ t2 + i * 118000 ∧ Pot H6 pd po t6 (some (r6, o6, g6)) ∧ Kp (PM pd po) H H6 ∧ H6 l = some (.lst (zs.map V.str)) ∧ H6 ll = some (.lst (ls.map V.str)) ∧ H6 R = some (.lst (ps.map V.ref)) ∧
      RowsAt H6 ps bs ∧ bs.map (·.1) = zs.take i ∧ i ≤ zs.length ∧ ∀ x f, (x, f) ∈ bs → f.ok zs ∧ f.wf ∧ f.size ≤ 4000) ?_ ?_ ?_ ?_⟩
    · exact ⟨none, t2, _, _, _, [], [], rfl, by omega, hP4.new nR, k14.trans (Kp.new nR), by rw [upd_ne nlR]; exact el4, by rw [upd_ne nllR]; exact ell4, upd_same, ⟨rfl, fun i p x e => by simp at e⟩, by rw [List.take_zero]; rfl, Nat.zero_le _, (fun x f h => nomatch h)⟩
    · rintro i σ H6 _ ⟨y7, t6, r6, o6, g6, ps, bs, rfl, ht6, hP6, k6, a, _⟩
      exact SqL.of a
    · rintro i v σ H6 hv ⟨y7, t6, r6, o6, g6, ps, bs, rfl, ht6, hP6, k6, el6, ell6, eR6, hrows, hnm, hi, hok⟩
      rw [List.getElem?_map] at hv
      obtain ⟨z, hzi, rfl⟩ := Option.map_eq_some_iff.mp hv
      have hil : i < zs.length := (List.getElem?_eq_some_iff.mp hzi).1
      have i12 : i * 118000 ≤ 11 * 118000 := Nat.mul_le_mul_right _ (by omega)
      have hzm : z ∈ zs := List.mem_of_getElem? hzi
      -- the row is put behind
      have fin : ∀ (u : V) (f : Fo) (H7 : Hp) (t7 : Nat) (r7 o7 g7 : Int), t7 ≤ t6 + 118000 → Rp H7 u f.enc → f.ok zs → f.wf → f.size ≤ 4000 → Pot H7 pd po t7 (some (r7, o7, g7)) → Kp (PM pd po) H6 H7 → ∀ p, H7 p = none →
          ∃ (a : Addr) (xs : List V) (y : V), V.ref R = .ref a ∧ [V.ref p] = [y] ∧ upd H7 p (.tup [.str z, u]) a = some (.lst xs) ∧ xs.length < sizeLine ∧ (fun σ H6 => ∃ (y7 : Option V) (t6 : Nat) (r6 o6 g6 : Int) (ps : List Addr) (bs : List (Str × Fo)), σ = [some (.ref pd), some (.int 4), some (.int 11), some (.int 70), some (.ref l), some (.ref ll), some (.ref R), y7] ∧ t6 ≤ t2 + (i + 1) * 118000 ∧ Pot H6 pd po t6 (some (r6, o6, g6)) ∧ Kp (PM pd po) H H6 ∧ H6 l = some (.lst (zs.map V.str)) ∧ H6 ll = some (.lst (ls.map V.str)) ∧ H6 R = some (.lst (ps.map V.ref)) ∧
            RowsAt H6 ps bs ∧ bs.map (·.1) = zs.take (i + 1) ∧ i + 1 ≤ zs.length ∧ ∀ x f, (x, f) ∈ bs → f.ok zs ∧ f.wf ∧ f.size ≤ 4000) [some (.ref pd), some (.int 4), some (.int 11), some (.int 70), some (.ref l), some (.ref ll), some (.ref R), some (.str z)] (upd (upd H7 p (.tup [.str z, u])) a (.lst (xs ++ [y]))) := by
        intro u f H7 t7 r7 o7 g7 ht7 hu hf hw hs hP7 k7 p np
        have eR7 := k7 R _ hR eR6
        have kp : Kp M0 H7 (upd H7 p (.tup [.str z, u])) := Kp.new np
        have npR : R ≠ p := ne_of_none eR7 np
        have lpb : ps.length = bs.length := hrows.1
        have lbi : bs.length = i := by
          have e := congrArg List.length hnm
          rw [List.length_map, List.length_take] at e
          omega
        refine ⟨R, _, _, rfl, rfl, kp _ _ (fun z => z) eR7, by rw [List.length_map, lpb, lbi]; exact small1000 (by omega), ?_⟩
        have kR : Kp (fun b => b = R) (upd H7 p (.tup [.str z, u])) (upd (upd H7 p (.tup [.str z, u])) R (.lst (ps.map V.ref ++ [.ref p]))) := Kp.put rfl
        have noR : ∀ a xs, a = R → upd H7 p (.tup [.str z, u]) a ≠ some (.tup xs) := fun a xs m e => by
          rw [m, kp _ _ (fun z => z) eR7] at e
          cases e
        have tt : t7 ≤ t2 + (i + 1) * 118000 := by
          rw [Nat.succ_mul]
          exact Nat.le_trans ht7 (by omega)
        refine ⟨_, t7, r7, o7, g7, ps ++ [p], bs ++ [(z, f)], rfl, tt, (hP7.new np).off hR, ((k6.trans k7).trans (Kp.new np)).own nRH, ?_, ?_, ?_, ?_, ?_, hil, ?_⟩
        · rw [upd_ne nlR]
          exact kp _ _ (fun z => z) (k7 l _ nPM el6)
        · rw [upd_ne nllR]
          exact kp _ _ (fun z => z) (k7 ll _ nll ell6)
        · rw [upd_same, List.map_append]
          rfl
        · refine (((hrows.keep k7 hP6.noT).keep kp noT0).keep kR noR).push ⟨u, ?_, (hu.keep kp noT0).keep kR noR⟩
          rw [upd_ne npR.symm]
          exact upd_same
        · rw [List.map_append, hnm, List.take_add_one, hzi]
          rfl
        · intro x f' h
          rcases List.mem_append.mp h with h | h
          · exact hok x f' h
          · cases List.mem_singleton.mp h
            exact ⟨hf, hw, hs⟩
      refine ⟨_, rfl, _, rfl, ll, _, rfl, .inl (SqL.of ell6), rfl, flat_strs ls, _, rfl, ite2 (fun c => ?_) (fun c => ?_)⟩
      · refine ⟨_, rfl, .inl ⟨rfl, _, SqL.of eR6⟩, _, rfl, _, rfl, zs, pd, po, t6, r6, o6, g6, rfl, hP6, by omega, fun u f H7 t7 r7 o7 g7 ht7 hu hf hw hs hP7 k7 => ⟨by show 2 ≤ sizeLine; decide, fun p np => ?_⟩⟩
        exact fin u f H7 t7 r7 o7 g7 (by omega) hu hf hw (by omega) hP7 k7 p np
      · refine ⟨_, rfl, .inl ⟨rfl, _, SqL.of eR6⟩, _, rfl, _, rfl, _, rfl, _, rfl, zs, pd, po, t6, r6, o6, g6, l, ll, ls, 3, rfl, hP6, by omega, by decide, el6, ell6, hls, nPM, nll, hNm, by omega, by omega, fun u f H7 t7 r7 o7 g7 ht7 hu hf hw hs hP7 k7 => ⟨by show 2 ≤ sizeLine; decide, fun p np => ?_⟩⟩
        exact fin u f H7 t7 r7 o7 g7 (by omega) hu hf hw (by omega) hP7 k7 p np
    · rintro σ H6 ⟨y7, t6, r6, o6, g6, ps, bs, rfl, ht6, hP6, k6, el6, ell6, eR6, hrows, hnm, hi, hok⟩
      rw [List.length_map, List.take_length] at *
      have i12 : zs.length * 118000 ≤ 12 * 118000 := Nat.mul_le_mul_right _ (by omega)
      refine ⟨_, rfl, _, rfl, pd, po, t6, _, .ref l, (fun v => ∃ y ∈ zs, v = .str y), rfl, hP6, by omega, .inr ⟨l, _, rfl, el6, fun z => nPM (.inr z), by rw [List.length_map]; omega, by rw [List.length_map]; omega, fun v hv => ?_⟩, fun v H7 t7 ht7 ⟨y, hy, ev⟩ hP7 k7 => ⟨_, rfl, R, _, rfl, .inl ⟨SqL.of (k7 R _ hR eR6), fun a na => ⟨by show 2 ≤ sizeLine; decide, fun p np => ?_⟩⟩⟩⟩
      · obtain ⟨y, hy, rfl⟩ := List.mem_map.mp hv
        exact ⟨y, hy, rfl⟩
      subst ev
      have ka : Kp M0 H7 (upd H7 a (.tup (ps.map V.ref))) := Kp.new na
      have kb : Kp M0 (upd H7 a (.tup (ps.map V.ref))) (upd (upd H7 a (.tup (ps.map V.ref))) p (.tup [.str y, .ref a])) := Kp.new np
      refine q p a y ps bs _ t7 _ _ _ (by omega) upd_same (kb _ _ (fun z => z) upd_same) (((hrows.keep k7 hP6.noT).keep ka noT0).keep kb noT0) ?_ (fun x f h => ?_) (by rw [hnm]; exact hz) (by rw [hnm]; exact hy) ((hP7.new na).new np) ((k6.trans k7).trans ((ka.trans kb).mono fun b z => z.elim))
      · have e := congrArg List.length hnm
        rw [List.length_map] at e
        omega
      · rw [hnm]
        exact hok x f h
def spBk : Sp := fun vs H Q _ => ∃ (pd po : Addr) (t : Nat) (ex : Ex), vs = [.ref pd] ∧ Pot H pd po t ex ∧ t < 2 ^ 40 ∧
  ∀ (b rows : Addr) (s : Str) (ps : List Addr) (bs : List (Str × Fo)) (H' : Hp) (t' : Nat) (r o g : Int), t' ≤ t + 2000000 → H' b = some (.tup [.str s, .ref rows]) → H' rows = some (.tup (ps.map V.ref)) → RowsAt H' ps bs → bs.length ≤ 12 → (∀ x f, (x, f) ∈ bs → f.ok (bs.map (·.1)) ∧ f.wf ∧ f.size ≤ 4000) → Names (bs.map (·.1)) → s ∈ bs.map (·.1) → Pot H' pd po t' (some (r, o, g)) → Kp (PM pd po) H H' → Q (.ref b) H'
theorem ok_bk {f fo : Addr} {fd fdo : FuncData} {k : Nat} (F : Fun K "_law_book" "_law_book" sBk f fd)
    (GO : FnOk P w K mg base CX0 k fo fdo ["_law_pot_here", "_law_few", "_law_most", "_law_room"] spBo) (ko : PySem.W.keepIn K (.ref fo) = true) (bo : Binds K fdo ["_law_pot_here", "_law_few", "_law_most", "_law_room"] []) (go : mg "_law_book_of" = some (.ref fo)) :
    FnOk P w K mg base CX0 (k + 1) f fd ["_law_pot_here"] spBk := by
  refine F.ok scBk (fun vs H Q E h => ?_) (fun cdv A outer s H vs Q E hr h => ?_)
  · obtain ⟨pd, po, t, ex, rfl, _⟩ := h
    rfl
  · obtain ⟨pd, po, t, ex, rfl, hP, ht, q⟩ := h
    refine ⟨_, (pss_one (ps_ret (pe_call GO hr (by rfl) go ko bo .nil pass0 (pa_cons (pv 0) (pa_cons pe_int (pa_cons pe_int (pa_cons pe_int pa_nil))))))), ?_⟩
    exact ⟨_, rfl, pd, po, t, ex, rfl, hP, ht, q⟩
end
end RT

namespace RT
open PySem PySem.Spec PyProof.Rows L2
theorem le_of_ltCps {a b : Str} (h : (!ltCps b.cps.toList a.cps.toList) = true) : a.cps.toList ≤ b.cps.toList := by
  rw [ltCps_eq] at h
  refine List.not_lt.mp fun z => ?_
  rw [decide_eq_true z] at h
  cases h
theorem rising_pw : ∀ (p : Str) (l : List Str), risingS p l = true → (p :: l).Pairwise (fun a b => a.cps.toList ≤ b.cps.toList)
  | p, [], _ => List.pairwise_singleton ..
  | p, x :: r, h => by
    obtain ⟨h1, h2⟩ := Bool.and_eq_true_iff.mp (show (!ltCps x.cps.toList p.cps.toList && risingS x r) = true from h)
    have ih := rising_pw x r h2
    have px := le_of_ltCps h1
    refine List.pairwise_cons.mpr ⟨fun b hb => ?_, ih⟩
    rcases List.mem_cons.mp hb with e | e
    · rw [e]
      exact px
    · exact List.le_trans px (List.rel_of_pairwise_cons ih e)
theorem sorted_pw {l : List Str} (h : sortedS l = true) : l.Pairwise (fun a b => a.cps.toList ≤ b.cps.toList) := by
  cases l with
  | nil => exact .nil
  | cons p r => exact rising_pw p r h
theorem same_sorted {xs ys : List Str} {R : Str → Prop} (sx : sortedS xs = true) (nx : xs.Nodup) (hx : ∀ x, x ∈ xs ↔ R x) (sy : sortedS ys = true) (ny : ys.Nodup) (hy : ∀ x, x ∈ ys ↔ R x) : xs = ys := by
  have p : xs.Perm ys := (List.perm_ext_iff_of_nodup nx ny).mpr fun a => (hx a).trans (hy a).symm
  refine List.Perm.eq_of_pairwise (fun a b _ _ h1 h2 => ?_) (sorted_pw sx) (sorted_pw sy) p
  exact TL.ext_tl (List.le_antisymm h1 h2)
end RT

namespace RT
open PySem PySem.Spec PyProof.Rows L2
abbrev sTo : Stmt := topS 4
abbrev sSe : Stmt := topS 5
abbrev sIn : Stmt := topS 6
abbrev sNu : Stmt := topS 7
abbrev sNm : Stmt := topS 13
theorem scTo : FnScope ["x"] ["x"] (defScope sTo) := ⟨rfl, rfl, rfl, by decide +kernel, rfl, by decide +kernel, by decide +kernel⟩
theorem scSe : FnScope ["x", "k"] ["x"] (defScope sSe) := ⟨rfl, rfl, rfl, by decide +kernel, rfl, by decide +kernel, by decide +kernel⟩
theorem scIn : FnScope ["x"] ["x"] (defScope sIn) := ⟨rfl, rfl, rfl, by decide +kernel, rfl, by decide +kernel, by decide +kernel⟩
theorem scNu : FnScope ["x"] ["x"] (defScope sNu) := ⟨rfl, rfl, rfl, by decide +kernel, rfl, by decide +kernel, by decide +kernel⟩
theorem scNm : FnScope ["x", "letter"] ["x"] (defScope sNm) := ⟨rfl, rfl, rfl, by decide +kernel, rfl, by decide +kernel, by decide +kernel⟩
theorem qT {Q : VK} {b : Bool} {H : Hp} (e : b = true) (q : Q (.bl true) H) : Q (.bl b) H := by
  rw [e]
  exact q
theorem set_up {z : Str} (h : SetOk z) {k a b : Nat} (ha : z.cps.toList[k]? = some a) (hb : z.cps.toList[k + 1]? = some b) : decide ([a] < [b]) = true := by
  have pw := List.pairwise_map.mp (sorted_pw h.2.2)
  have nd := h.2.1
  obtain ⟨ka, ea⟩ := List.getElem?_eq_some_iff.mp ha
  obtain ⟨kb, eb⟩ := List.getElem?_eq_some_iff.mp hb
  have p := List.pairwise_iff_getElem.mp pw k (k + 1) ka kb (Nat.lt_succ_self k)
  have n := List.pairwise_iff_getElem.mp nd k (k + 1) ka kb (Nat.lt_succ_self k)
  rw [ea, eb] at p n
  have nl : ¬ b < a := fun z => absurd (show ([b] : List Nat) < [a] from .rel z) (List.not_lt.mpr p)
  exact decide_eq_true (.rel (show a < b by omega))
section
variable {P : Program} {w : World} {K : PySem.W.Frag} {mg : Str → Option Value} {base : Heap}
def spTo (TT : List Addr) : Sp := fun vs H Q _ => ∃ z : Str, vs = [.str z] ∧ TxtOk z ∧ z.length ≤ sizeLine ∧ Tell TT H Q true
theorem ok_to {TT : List Addr} {f ft : Addr} {fd fdt : FuncData} {k : Nat} (F : Fun K "is_told" "is_told" sTo f fd) (GT : FnOk P w K mg base CX0 k ft fdt ["x"] (spTx TT)) (kt : PySem.W.keepIn K (.ref ft) = true) (bt : Binds K fdt ["x"] []) (gt : mg "is_text" = some (.ref ft))
    (ml : mg "len" = none) : FnOk P w K mg base CX0 (k + 1) f fd ["x"] (spTo TT) := by
  refine F.ok scTo (fun vs H Q E h => ?_) (fun cdv A outer s H vs Q E hr h => ?_)
  · obtain ⟨z, rfl, _⟩ := h
    rfl
  · obtain ⟨z, rfl, hz, hl, t⟩ := h
    refine ⟨_, (pss_one (ps_ret (pe_and (pe_call GT hr (by rfl) gt kt bt .nil pass0 (pa_cons (pv 0) pa_nil)) (pe_one (pe_cmpR op_gt (pe_callB call_len_str (by rfl) ml PySem.boot_len (pa_cons (pv 0) pa_nil)) pe_int (nomark _)))))), ?_⟩
    refine ⟨_, rfl, _, true, rfl, .inl ⟨z, rfl, hz.2, rfl⟩, t.1, fun H' k t' => ⟨true, rfl, iteT ⟨_, rfl, z, rfl, hl, _, _, rfl, rfl, ?_⟩⟩⟩
    exact qT (decide_eq_true (show (0 : Int) < z.length by have := hz.1; omega)) (t.2 H' k t')
def spSe (TT : List Addr) : Sp := fun vs H Q _ => ∃ z : Str, vs = [.str z] ∧ SetOk z ∧ z.length ≤ sizeLine ∧ Tell TT H Q true
theorem ok_se {TT : List Addr} {T c f ft : Addr} {fd fdt : FuncData} {k : Nat} (F : FunT K "is_set" "is_set" sSe f fd c) (hk : 3 ≤ k) (mT : T ∈ TT) (TB : GxR.TabB base mg c T) (GT : FnOk P w K mg base CX0 k ft fdt ["x"] (spTo TT)) (kt : PySem.W.keepIn K (.ref ft) = true) (bt : Binds K fdt ["x"] []) (gt : mg "is_told" = some (.ref ft))
    (ml : mg "len" = none) (mall : mg "all" = none) (mr : mg "range" = none) : FnOk P w K mg base CX0 (k + 1) f fd ["x"] (spSe TT) := by
  obtain ⟨j, rfl⟩ : ∃ j, k = j + 3 := ⟨k - 3, by omega⟩
  refine F.ok scSe (fun vs H Q E h => ?_) (fun A outer s H vs Q E hr h => ?_)
  · obtain ⟨z, rfl, _⟩ := h
    rfl
  · obtain ⟨z, rfl, hz, hl, t⟩ := h
    refine ⟨_, (pss_one (ps_ret (pe_and (pe_call GT hr (by rfl) gt kt bt .nil pass0 (pa_cons (pv 0) pa_nil)) (pe_one (GE.pe_allG (own := [("k", 1)]) (gt := gName 1) hr rfl scSe.nd (by rfl) mall TB rfl (blkOk_by (N := ["x", "k"]) (sc := defScope sSe) (by decide +kernel)) ⟨rfl, by decide +kernel, rfl⟩ (pi_range1 (by rfl) mr (pa_cons (pe_op op_sub (pe_callB call_len_str (by rfl) ml PySem.boot_len (pa_cons (pv 0) pa_nil)) pe_int) pa_nil)) (fun _ _ _ _ _ _ _ _ => (pg_name (i := 1) scSe.nd rfl (.inl rfl))) (fun _ _ _ _ _ _ _ _ _ => (pe_cmpR op_lt_str (pe_ix ix_str (pv 0) (pv 1) (fun _ _ => rfl)) (pe_ix ix_str (pv 0) (pe_op op_add (pv 1) pe_int) (fun _ _ => rfl)) (nomark _)))))))), ?_⟩
    have hn : z.cps.toList.length = z.length := by simp [Str.length]
    have hsl : sizeLine ≤ 2 ^ 61 := by decide
    have one := hz.1.1
    refine ⟨_, rfl, z, rfl, hz.1, hl, t.1, fun H' k t' => ⟨true, rfl, iteT ⟨_, rfl, z, rfl, hl, _, _, rfl, rfl, _, rfl, ?_, ?_, ?_⟩⟩⟩
    · omega
    · have : (2 : Int) ^ 61 < 2 ^ 62 := by decide
      have : ((2 ^ 61 : Nat) : Int) = (2 : Int) ^ 61 := by decide
      omega
    refine gen_on mT t' (z.length - 1) (fun H2 k2 t2 => t.2 H2 (k.trans k2) t2) (fun i H' lt k => ?_) (fun H' k => ?_) fun i x H' H'' lt k t' y => ?_
    · show i < _
      omega
    · show _ ≤ z.length - 1
      omega
    · obtain ⟨rfl, rfl⟩ := y
      have la : i < z.cps.toList.length := by omega
      have lb : i + 1 < z.cps.toList.length := by omega
      refine ⟨rfl, _, rfl, _, rfl, z, _, z.cps.toList[i], rfl, rfl, hl, ?_, _, rfl, _, rfl, _, _, rfl, rfl, z, _, z.cps.toList[i + 1], rfl, rfl, hl, ?_, _, _, rfl, rfl, On.mk ?_ k t'⟩
      · rw [show (0 : Int) + (i : Nat) = ((i : Nat) : Int) by omega]
        exact atI_nat (List.getElem?_eq_getElem la)
      · rw [show (0 : Int) + (i : Nat) + 1 = ((i + 1 : Nat) : Int) by omega]
        exact atI_nat (List.getElem?_eq_getElem lb)
      · exact set_up hz (List.getElem?_eq_getElem la) (List.getElem?_eq_getElem lb)
def spIn : Sp := fun vs H Q _ => ∃ i : Int, vs = [.int i] ∧ Q (.bl true) H
theorem ok_in {f : Addr} {fd : FuncData} {k : Nat} (F : Fun K "is_int" "is_int" sIn f fd) (mi : mg "isinstance" = none) (mint : mg "int" = none) (mbool : mg "bool" = none) : FnOk P w K mg base CX0 (k + 1) f fd ["x"] spIn := by
  refine F.ok scIn (fun vs H Q E h => ?_) (fun cdv A outer s H vs Q E hr h => ?_)
  · obtain ⟨z, rfl, _⟩ := h
    rfl
  · obtain ⟨i, rfl, q⟩ := h
    refine ⟨_, (pss_one (ps_ret (pe_and (pe_callB call_isi (by rfl) mi (by decide +kernel) (pa_cons (pv 0) (pa_cons (pe_bltn (v := .ty "int") (by rfl) mint (by decide +kernel) rfl) pa_nil))) (pe_one (pe_not (pe_callB call_isi (by rfl) mi (by decide +kernel) (pa_cons (pv 0) (pa_cons (pe_bltn (v := .ty "bool") (by rfl) mbool (by decide +kernel) rfl) pa_nil)))))))), ?_⟩
    exact ⟨_, rfl, _, .ty "int", .type "int", .type "int", true, rfl, .ty _, .base (.int i), kit_ty (by decide +kernel), true, rfl, iteT ⟨_, rfl, _, .ty "bool", .type "int", .type "bool", false, rfl, .ty _, .base (.int i), kit_ty (by decide +kernel), false, rfl, q⟩⟩
def spNu : Sp := fun vs H Q _ => ∃ i : Int, vs = [.int i] ∧ 0 ≤ i ∧ Q (.bl true) H
theorem ok_nu {f fi : Addr} {fd fdi : FuncData} {k : Nat} (F : Fun K "is_number" "is_number" sNu f fd) (GI : FnOk P w K mg base CX0 k fi fdi ["x"] spIn) (ki : PySem.W.keepIn K (.ref fi) = true) (bi : Binds K fdi ["x"] []) (gi : mg "is_int" = some (.ref fi)) : FnOk P w K mg base CX0 (k + 1) f fd ["x"] spNu := by
  refine F.ok scNu (fun vs H Q E h => ?_) (fun cdv A outer s H vs Q E hr h => ?_)
  · obtain ⟨z, rfl, _⟩ := h
    rfl
  · obtain ⟨i, rfl, h0, q⟩ := h
    refine ⟨_, (pss_one (ps_ret (pe_and (pe_call GI hr (by rfl) gi ki bi .nil pass0 (pa_cons (pv 0) pa_nil)) (pe_one (pe_cmpR op_ge (pv 0) pe_int (nomark _)))))), ?_⟩
    refine ⟨_, rfl, i, rfl, true, rfl, iteT ⟨_, rfl, _, _, rfl, rfl, ?_⟩⟩
    exact qT (decide_eq_true h0) q
def spNm (TT : List Addr) : Sp := fun vs H Q _ => ∃ z : Str, vs = [.str z] ∧ NmOk z ∧ Tell TT H Q true
theorem ok_nm {TT : List Addr} {T c f : Addr} {fd : FuncData} {k : Nat} (F : FunT K "is_name" "is_name" sNm f fd c) (hk : 3 ≤ k) (mT : T ∈ TT) (TB : GxR.TabB base mg c T) 
    (ml : mg "len" = none) (mall : mg "all" = none) (mi : mg "isinstance" = none) (ms : mg "str" = none) : FnOk P w K mg base CX0 (k + 1) f fd ["x"] (spNm TT) := by
  obtain ⟨j, rfl⟩ : ∃ j, k = j + 3 := ⟨k - 3, by omega⟩
  refine F.ok scNm (fun vs H Q E h => ?_) (fun A outer s H vs Q E hr h => ?_)
  · obtain ⟨z, rfl, _⟩ := h
    rfl
  · obtain ⟨z, rfl, hz, t⟩ := h
    refine ⟨_, (pss_one (ps_ret (pe_and (pe_callB call_isi (by rfl) mi (by decide +kernel) (pa_cons (pv 0) (pa_cons (pe_bltn (v := .ty "str") (by rfl) ms (by decide +kernel) rfl) pa_nil))) (pe_and (pe_chain op_le op_le pe_int (pe_callB call_len_str (by rfl) ml PySem.boot_len (pa_cons (pv 0) pa_nil)) pe_int) (pe_one (GE.pe_allG (own := [("letter", 1)]) (gt := gName 1) hr rfl scNm.nd (by rfl) mall TB rfl (blkOk_by (N := ["x", "letter"]) (sc := defScope sNm) (by decide +kernel)) ⟨rfl, by decide +kernel, rfl⟩ (pi_str (pv 0)) (fun _ _ _ _ _ _ _ _ => (pg_name (i := 1) scNm.nd rfl (.inl rfl))) (fun _ _ _ _ _ _ _ _ _ => (pe_chain op_le_str op_le_str pe_str (pv 1) pe_str)))))))), ?_⟩
    have h8 : 8 ≤ sizeLine := by decide
    have h1 := hz.1
    have h2 := hz.2.1
    have hl : z.length ≤ sizeLine := Nat.le_trans h2 h8
    refine ⟨_, rfl, _, .ty "str", .type "str", .type "str", true, rfl, .ty _, .base (.str z), kit_ty (by decide +kernel), true, rfl, iteT ?_⟩
    refine ⟨_, rfl, z, rfl, hl, _, _, rfl, rfl, _, rfl, iteT' (decide_eq_true (by omega)) ⟨_, _, rfl, rfl, _, rfl, iteT' (decide_eq_true (by omega)) ⟨_, rfl, z, rfl, ?_⟩⟩⟩
    refine gen_on mT t.1 z.cps.size t.2 (fun i H' lt k => lt) (fun H' k => Nat.le_refl _) fun i x H' H'' lt k t' y => ?_
    obtain ⟨rfl, c, hc, rfl⟩ := y
    rw [← Array.getElem?_toList] at hc
    have az := hz.2.2 c (List.mem_of_getElem? hc)
    refine ⟨rfl, _, rfl, _, _, rfl, rfl, _, rfl, iteT' ?_ ⟨_, _, rfl, rfl, On.mk ?_ k t'⟩⟩
    · have nl : ¬ ([c] : List Nat) < [97] := fun z => by
        have := (lt1 c 97).mp z
        have := az.1
        omega
      show (!decide (([c] : List Nat) < (Str.ofString "a").cps.toList)) = true
      rw [show (Str.ofString "a").cps.toList = [97] by decide +kernel, decide_eq_false nl]
      rfl
    · have nl : ¬ ([122] : List Nat) < [c] := fun z => by
        have := (lt1 122 c).mp z
        have := az.2
        omega
      show (!decide ((Str.ofString "z").cps.toList < ([c] : List Nat))) = true
      rw [show (Str.ofString "z").cps.toList = [122] by decide +kernel, decide_eq_false nl]
      rfl
end
end RT

namespace RT
open PySem PySem.Spec PyProof.Rows L2
abbrev sThing : Stmt := topS 14
abbrev sForm : Stmt := topS 15
theorem scThing : FnScope ["x", "todo", "part"] ["x"] (defScope sThing) := ⟨rfl, rfl, rfl, by decide +kernel, rfl, by decide +kernel, by decide +kernel⟩
theorem scForm : FnScope ["x", "todo", "part"] ["x"] (defScope sForm) := ⟨rfl, rfl, rfl, by decide +kernel, rfl, by decide +kernel, by decide +kernel⟩
theorem Rps.lastD {H : Hp} : ∀ {vs : List V} {ds : List RT.D}, Rps H vs ds → vs ≠ [] → ∃ (v : V) (d : RT.D) (es : List RT.D), vs[vs.length - 1]? = some v ∧ ds = es ++ [d] ∧ Rp H v d ∧ Rps H vs.dropLast es
  | _, _, .nil, h => absurd rfl h
  | _, _, @Rps.cons _ v d [] ds r t, _ => by
    cases t
    exact ⟨v, d, [], rfl, rfl, r, .nil⟩
  | _, _, @Rps.cons _ v d (u :: us) ds r t, _ => by
    obtain ⟨v', d', es, e1, e2, e3, e4⟩ := Rps.lastD t (fun z => by cases z)
    refine ⟨v', d', d :: es, ?_, by rw [e2]; rfl, e3, .cons r e4⟩
    rw [show (v :: u :: us).length - 1 = ((u :: us).length - 1) + 1 by simp]
    exact e1
theorem D.size_pos (d : RT.D) : 1 ≤ d.size := by
  cases d <;> simp only [D.size] <;> omega
theorem D.sizes_app : ∀ ds es : List RT.D, D.sizes (ds ++ es) = D.sizes ds + D.sizes es
  | [], es => by simp [D.sizes]
  | d :: r, es => by
    show d.size + D.sizes (r ++ es) = d.size + D.sizes r + D.sizes es
    rw [D.sizes_app r es]
    omega
theorem D.things_app : ∀ {ds es : List RT.D}, D.things ds → D.things es → D.things (ds ++ es)
  | [], _, _, h => h
  | _ :: _, _, h, k => ⟨h.1, D.things_app h.2 k⟩
theorem D.things_snd : ∀ {ds es : List RT.D}, D.things (ds ++ es) → D.things ds ∧ D.things es
  | [], _, h => ⟨True.intro, h⟩
  | _ :: _, _, h => ⟨⟨h.1, (D.things_snd h.2).1⟩, (D.things_snd h.2).2⟩
theorem D.len_sizes : ∀ ds : List RT.D, ds.length ≤ D.sizes ds
  | [] => Nat.le_refl _
  | d :: r => by
    have := D.len_sizes r
    have := d.size_pos
    simp only [D.sizes, List.length_cons]
    omega
theorem Fo.wfs_snd : ∀ {fs : List Fo} {f : Fo}, Fo.wfs (fs ++ [f]) → Fo.wfs fs ∧ f.wf
  | [], _, h => ⟨True.intro, h.1⟩
  | _ :: _, _, h => ⟨⟨h.1, (Fo.wfs_snd h.2).1⟩, (Fo.wfs_snd h.2).2⟩
theorem Fo.oks_snd {N : List Str} : ∀ {fs : List Fo} {f : Fo}, Fo.oks N (fs ++ [f]) → Fo.oks N fs ∧ f.ok N
  | [], _, h => ⟨True.intro, h.1⟩
  | _ :: _, _, h => ⟨⟨h.1, (Fo.oks_snd h.2).1⟩, (Fo.oks_snd h.2).2⟩
theorem Rps.last {H : Hp} {vs : List V} {fs : List Fo} (r : Rps H vs (Fo.encs fs)) (h : vs ≠ []) : ∃ (v : V) (f : Fo) (gs : List Fo), vs[vs.length - 1]? = some v ∧ fs = gs ++ [f] ∧ Rp H v f.enc ∧ Rps H vs.dropLast (Fo.encs gs) := by
  have l := r.len
  rw [encs_map, List.length_map] at l
  have hf : fs ≠ [] := fun z => by
    rw [z] at l
    exact h (List.eq_nil_of_length_eq_zero l)
  have e1 := List.dropLast_concat_getLast hf
  have e2 := List.dropLast_concat_getLast h
  have split : ∀ {as bs : List V} {cs ds : List D}, as.length = cs.length → Rps H (as ++ bs) (cs ++ ds) → Rps H as cs ∧ Rps H bs ds := fun {as} => by
    induction as with
    | nil =>
      intro bs cs ds e r
      cases cs with
      | nil => exact ⟨.nil, r⟩
      | cons c cs => cases e
    | cons a as ih =>
      intro bs cs ds e r
      cases cs with
      | nil => cases e
      | cons c cs =>
        cases r with
        | cons r1 r2 =>
          obtain ⟨h1, h2⟩ := ih (by simpa using e) r2
          exact ⟨.cons r1 h1, h2⟩
  rw [← e1, ← e2, encs_app] at r
  obtain ⟨r1, r2⟩ := split (by rw [encs_map, List.length_map, List.length_dropLast, List.length_dropLast, l]) r
  cases r2 with
  | cons r3 r4 => exact ⟨vs.getLast h, fs.getLast hf, fs.dropLast, by rw [← List.getLast?_eq_getElem?, List.getLast?_eq_some_getLast h], e1.symm, r3, r1⟩
abbrev ML (TT : List Addr) (l : Addr) : Addr → Prop := fun b => b = l ∨ b ∈ TT
theorem noTL {TT : List Addr} {H : Hp} {l : Addr} {vs : List V} (t : Tabs TT H) (e : H l = some (.lst vs)) : ∀ a xs, ML TT l a → H a ≠ some (.tup xs) := fun a xs m z => by
  rcases m with rfl | m
  · rw [e] at z
    cases z
  · exact t.noT a xs m z
theorem Kp.putL {TT : List Addr} {H H2 : Hp} {l : Addr} {o : HO} (k : Kp (TM TT) H H2) (n : H l = none) : Kp (TM TT) H (upd H2 l o) := fun b u nb e => by
  rw [upd_ne (ne_of_none e n)]
  exact k b u nb e
theorem Tabs.lst {TT : List Addr} {H H' : Hp} {l : Addr} {vs : List V} (t : Tabs TT H) (k : Kp (TM TT) H H') (e : H l = some (.lst vs)) : H' l = some (.lst vs) := k l _ (fun m => by
  obtain ⟨ps, e2, _⟩ := t l m
  rw [e] at e2
  cases e2) e
section
variable {P : Program} {w : World} {K : PySem.W.Frag} {mg : Str → Option Value} {base : Heap}
def spTh (TT : List Addr) : Sp := fun vs H Q _ => ∃ (v : V) (d : RT.D), vs = [v] ∧ Rp H v d ∧ d.thing ∧ d.size ≤ 100000 ∧ Tell TT H Q true
theorem ok_th {TT : List Addr} {f ft fb : Addr} {fd fdt fdb : FuncData} {k : Nat} (F : Fun K "is_thing" "is_thing" sThing f fd) (GT : FnOk P w K mg base CX0 k ft fdt ["x"] (spTx TT)) (kt : PySem.W.keepIn K (.ref ft) = true) (bt : Binds K fdt ["x"] []) (gt : mg "is_text" = some (.ref ft))
    (GB : FnOk P w K mg base CX0 k fb fdb ["x"] spNu) (kb : PySem.W.keepIn K (.ref fb) = true) (bb : Binds K fdb ["x"] []) (gb : mg "is_number" = some (.ref fb)) (mi : mg "isinstance" = none) (mtu : mg "tuple" = none) :
    FnOk P w K mg base CX0 (k + 1) f fd ["x"] (spTh TT) := by
  refine F.ok scThing (fun vs H Q E h => ?_) (fun cdv A outer s H vs Q E hr h => ?_)
  · obtain ⟨x, t, rfl, _⟩ := h
    rfl
  · obtain ⟨x, d, rfl, hR, hd, hsz, t⟩ := h
    have sline : (100000 : Nat) ≤ sizeLine := by decide
    refine ⟨_, (pss_cons (ps_set (i := 1) scThing.nd rfl (.inl rfl) (pe_lst (pa_cons (pv 0) pa_nil)))
      (pss_cons (ps_while PassesOwn.never (pt_truth (pv 1) (by intro _; rfl)) (pss_cons (ps_set (i := 2) scThing.nd rfl (.inl rfl) (pe_bm0 PySem.F.plainAttrs_list PySem.F.slot_list_pop PySem.F.type_list_pop mt_pop (pv 1)))
      (pss_one (ps_if (pt_val (pe_callB call_isi (by rfl) mi (by decide +kernel) (pa_cons (pv 2) (pa_cons (pe_bltn (v := .ty "tuple") (by rfl) mtu (by decide +kernel) rfl) pa_nil)))) (pss_one (ps_expr (pe_bm PySem.F.plainAttrs_list PySem.F.slot_list_extend PySem.F.type_list_extend mt_extT (pv 1) (pa_cons (pv 2) pa_nil)))) (pss_one (ps_if (PW.pt (pw_and (pt_not (pt_val (pe_call GT hr (by rfl) gt kt bt .nil pass0 (pa_cons (pv 2) pa_nil)))) (pw_and1 (pt_not (pt_val (pe_call GB hr (by rfl) gb kb bb .nil pass0 (pa_cons (pv 2) pa_nil))))))) (pss_one (ps_ret pe_bl)) pss_nil))))))
      (pss_one (ps_ret pe_bl)))), ?_⟩
    refine ⟨_, rfl, by show 1 ≤ sizeLine; decide, fun l nl => ?_⟩
    have new : ∀ {p : Addr} {o : HO}, H p = none → Rp (upd H p o) x d := fun n => hR.keep (Kp.new (M := M0) n) (fun _ _ z => z.elim)
    refine ⟨fun n σ H2 => ∃ (vs : List V) (ds : List RT.D) (y2 : Option V), σ = [some x, some (.ref l), y2] ∧ n = D.sizes ds ∧ H2 l = some (.lst vs) ∧ Rps H2 vs ds ∧ D.things ds ∧ D.sizes ds ≤ 100000 ∧ Tabs TT H2 ∧ Kp (TM TT) H H2,
      ⟨_, [x], [d], none, rfl, rfl, upd_same, .cons (new nl) .nil, ⟨hd, True.intro⟩, by simp only [D.sizes]; omega, t.1.new nl, Kp.new nl⟩, ?_⟩
    rintro n σ H2 ⟨vs, ds, y2, rfl, rfl, el, hR2, hd2, hs2, hT2, k2⟩
    by_cases hv : vs = []
    · subst hv
      refine ⟨_, rfl, false, .inl ⟨[], SqL.of el, rfl⟩, iteF ?_⟩
      exact t.2 H2 k2 hT2
    · refine ⟨_, rfl, true, .inl ⟨vs, SqL.of el, by cases vs with
        | nil => exact absurd rfl hv
        | cons => rfl⟩, iteT ?_⟩
      obtain ⟨v, u, us, ev, rfl, rv, rus⟩ := hR2.lastD hv
      rw [D.sizes_app] at hs2
      obtain ⟨hdu, hdv, _⟩ := D.things_snd hd2
      simp only [D.sizes, Nat.add_zero] at hs2
      refine ⟨fun σ' H' => ∃ (vs' : List V) (ds' : List RT.D) (y2 : Option V), σ' = [some x, some (.ref l), y2] ∧ D.sizes ds' < D.sizes (us ++ [u]) ∧ H' l = some (.lst vs') ∧ Rps H' vs' ds' ∧ D.things ds' ∧ D.sizes ds' ≤ 100000 ∧ Tabs TT H' ∧ Kp (TM TT) H H',
        fun σ' H' ⟨vs', ts', y, e1, e2, r⟩ => ⟨_, e2, vs', ts', y, e1, rfl, r⟩, ?_⟩
      have esz : D.sizes (us ++ [u]) = D.sizes us + u.size := by rw [D.sizes_app]; simp only [D.sizes, Nat.add_zero]
      rw [esz]
      refine ⟨_, rfl, .inl ⟨rfl, _, SqL.of el⟩, l, vs, v, rfl, rfl, el, ev, ?_⟩
      have k3 : Kp (TM TT) H (upd H2 l (.lst vs.dropLast)) := k2.putL nl
      have hT3 : Tabs TT (upd H2 l (.lst vs.dropLast)) := hT2.put el fun _ z => by cases z
      have e3 : upd H2 l (.lst vs.dropLast) l = some (.lst vs.dropLast) := upd_same
      have k23 : Kp (ML TT l) H2 (upd H2 l (.lst vs.dropLast)) := Kp.put (.inl rfl)
      have rv3 := rv.keep k23 (noTL hT2 el)
      have rus3 := rus.keep k23 (noTL hT2 el)
      generalize upd H2 l (.lst vs.dropLast) = H3 at k3 hT3 e3 rv3 rus3 ⊢
      have hup := u.size_pos
      have next : ∀ H4, Kp (TM TT) H3 H4 → Tabs TT H4 → ∃ (vs' : List V) (ts' : List RT.D) (y2 : Option V), [some x, some (V.ref l), some v] = [some x, some (.ref l), y2] ∧ D.sizes ts' < D.sizes us + u.size ∧ H4 l = some (.lst vs') ∧ Rps H4 vs' ts' ∧ D.things ts' ∧ D.sizes ts' ≤ 100000 ∧ Tabs TT H4 ∧ Kp (TM TT) H H4 :=
        fun H4 k4 t4 => ⟨_, us, _, rfl, by omega, hT3.lst k4 e3, rus3.keep k4 hT3.noT, hdu, by omega, t4, k3.trans k4⟩
      cases rv3 with
      | @tup a ws ts2 e r =>
        refine ⟨_, rfl, _, .ty "tuple", .type "tuple", .type "tuple", true, rfl, .ty _, .base (.tup e), kit_ty (by decide +kernel), true, rfl, iteT ?_⟩
        refine ⟨_, rfl, .inl ⟨rfl, _, SqL.of e3⟩, _, rfl, l, a, _, _, rfl, rfl, e3, e, ?_, ?_⟩
        · have h1 := (rus3.app r).len
          have h2 := D.len_sizes (us ++ ts2)
          rw [D.sizes_app] at h2
          rw [List.length_append] at h1
          simp only [D.size] at hs2
          omega
        · refine ⟨_, us ++ ts2, _, rfl, ?_, upd_same, (rus3.app r).keep (Kp.put (M := ML TT l) (.inl rfl)) (noTL hT3 e3), D.things_app hdu hdv, ?_, hT3.put e3 (fun _ z => by cases z), k3.putL nl⟩
          · rw [D.sizes_app]
            simp only [D.size]
            omega
          · rw [D.sizes_app]
            simp only [D.size] at hs2
            omega
      | @str z hl =>
        refine ⟨_, rfl, _, .ty "tuple", .type "str", .type "tuple", false, rfl, .ty _, .base (.str z), kit_ty (by decide +kernel), false, rfl, iteF ?_⟩
        exact ⟨_, rfl, _, true, rfl, .inl ⟨z, rfl, hdv, rfl⟩, hT3, fun H4 k4 t4 => ⟨true, rfl, iteF (iteF (next H4 k4 t4))⟩⟩
      | @int i =>
        refine ⟨_, rfl, _, .ty "tuple", .type "int", .type "tuple", false, rfl, .ty _, .base (.int i), kit_ty (by decide +kernel), false, rfl, iteF ?_⟩
        exact ⟨_, rfl, _, false, rfl, .inr ⟨i, rfl, rfl⟩, hT3, fun H4 k4 t4 => ⟨false, rfl, iteT ⟨_, rfl, i, rfl, hdv, true, rfl, iteF (next H4 k4 t4)⟩⟩⟩
      | non => exact hdv.elim
/-- a form well made: what _has_shape tells of it -/
def spHs (N : List Str) (TT : List Addr) : Sp := fun vs H Q _ => ∃ (v : V) (f : Fo), vs = [v] ∧ Rp H v f.enc ∧ f.wf ∧ f.ok N ∧ Tell TT H Q true
def spFo (N : List Str) (TT : List Addr) : Sp := fun vs H Q _ => ∃ (v : V) (f : Fo), vs = [v] ∧ Rp H v f.enc ∧ f.wf ∧ f.ok N ∧ f.size ≤ 100000 ∧ Tell TT H Q true
theorem ok_fo {N : List Str} {TT : List Addr} {f fh fi : Addr} {fd fdh fdi : FuncData} {k : Nat} (F : Fun K "is_form" "is_form" sForm f fd) (GH : FnOk P w K mg base CX0 k fh fdh ["x"] (spHs N TT)) (kh : PySem.W.keepIn K (.ref fh) = true) (bh : Binds K fdh ["x"] []) (gh : mg "_has_shape" = some (.ref fh))
    (GI : FnOk P w K mg base CX0 k fi fdi ["form"] (spInner N)) (ki : PySem.W.keepIn K (.ref fi) = true) (bi : Binds K fdi ["form"] []) (gi : mg "inner_forms" = some (.ref fi)) :
    FnOk P w K mg base CX0 (k + 1) f fd ["x"] (spFo N TT) := by
  refine F.ok scForm (fun vs H Q E h => ?_) (fun cdv A outer s H vs Q E hr h => ?_)
  · obtain ⟨x, t, rfl, _⟩ := h
    rfl
  · obtain ⟨x, d, rfl, hR, hd, hok, hsz, t⟩ := h
    have sline : (100000 : Nat) ≤ sizeLine := by decide
    refine ⟨_, (pss_cons (ps_set (i := 1) scForm.nd rfl (.inl rfl) (pe_lst (pa_cons (pv 0) pa_nil)))
      (pss_cons (ps_while PassesOwn.never (pt_truth (pv 1) (by intro _; rfl)) (pss_cons (ps_set (i := 2) scForm.nd rfl (.inl rfl) (pe_bm0 PySem.F.plainAttrs_list PySem.F.slot_list_pop PySem.F.type_list_pop mt_pop (pv 1)))
      (pss_cons (ps_if (pt_not (pt_val (pe_call GH hr (by rfl) gh kh bh .nil pass0 (pa_cons (pv 2) pa_nil)))) (pss_one (ps_ret pe_bl)) pss_nil)
      (pss_one (ps_expr (pe_bm PySem.F.plainAttrs_list PySem.F.slot_list_extend PySem.F.type_list_extend mt_extend (pv 1) (pa_cons (pe_call GI hr (by rfl) gi ki bi .nil pass0 (pa_cons (pv 2) pa_nil)) pa_nil)))))))
      (pss_one (ps_ret pe_bl)))), ?_⟩
    refine ⟨_, rfl, by show 1 ≤ sizeLine; decide, fun l nl => ?_⟩
    have new : ∀ {p : Addr} {o : HO}, H p = none → Rp (upd H p o) x d.enc := fun n => hR.keep (Kp.new (M := M0) n) (fun _ _ z => z.elim)
    refine ⟨fun n σ H2 => ∃ (vs : List V) (ds : List Fo) (y2 : Option V), σ = [some x, some (.ref l), y2] ∧ n = Fo.sizes ds ∧ H2 l = some (.lst vs) ∧ Rps H2 vs (Fo.encs ds) ∧ Fo.wfs ds ∧ Fo.oks N ds ∧ Fo.sizes ds ≤ 100000 ∧ Tabs TT H2 ∧ Kp (TM TT) H H2,
      ⟨_, [x], [d], none, rfl, rfl, upd_same, .cons (new nl) .nil, ⟨hd, True.intro⟩, ⟨hok, True.intro⟩, by simp only [Fo.sizes]; omega, t.1.new nl, Kp.new nl⟩, ?_⟩
    rintro n σ H2 ⟨vs, ds, y2, rfl, rfl, el, hR2, hd2, hk2, hs2, hT2, k2⟩
    by_cases hv : vs = []
    · subst hv
      refine ⟨_, rfl, false, .inl ⟨[], SqL.of el, rfl⟩, iteF ?_⟩
      exact t.2 H2 k2 hT2
    · refine ⟨_, rfl, true, .inl ⟨vs, SqL.of el, by cases vs with
        | nil => exact absurd rfl hv
        | cons => rfl⟩, iteT ?_⟩
      obtain ⟨v, u, us, ev, rfl, rv, rus⟩ := hR2.last hv
      rw [Fo.sizes_app] at hs2
      obtain ⟨hdu, hdv⟩ := Fo.wfs_snd hd2
      obtain ⟨hku, hkv⟩ := Fo.oks_snd hk2
      simp only [Fo.sizes, Nat.add_zero] at hs2
      refine ⟨fun σ' H' => ∃ (vs' : List V) (ds' : List Fo) (y2 : Option V), σ' = [some x, some (.ref l), y2] ∧ Fo.sizes ds' < Fo.sizes (us ++ [u]) ∧ H' l = some (.lst vs') ∧ Rps H' vs' (Fo.encs ds') ∧ Fo.wfs ds' ∧ Fo.oks N ds' ∧ Fo.sizes ds' ≤ 100000 ∧ Tabs TT H' ∧ Kp (TM TT) H H',
        fun σ' H' ⟨vs', ts', y, e1, e2, r⟩ => ⟨_, e2, vs', ts', y, e1, rfl, r⟩, ?_⟩
      have esz : Fo.sizes (us ++ [u]) = Fo.sizes us + u.size := by rw [Fo.sizes_app]; simp only [Fo.sizes, Nat.add_zero]
      rw [esz]
      refine ⟨_, rfl, .inl ⟨rfl, _, SqL.of el⟩, l, vs, v, rfl, rfl, el, ev, ?_⟩
      have k3 : Kp (TM TT) H (upd H2 l (.lst vs.dropLast)) := k2.putL nl
      have hT3 : Tabs TT (upd H2 l (.lst vs.dropLast)) := hT2.put el fun _ z => by cases z
      have e3 : upd H2 l (.lst vs.dropLast) l = some (.lst vs.dropLast) := upd_same
      have k23 : Kp (ML TT l) H2 (upd H2 l (.lst vs.dropLast)) := Kp.put (.inl rfl)
      have rv3 := rv.keep k23 (noTL hT2 el)
      have rus3 := rus.keep k23 (noTL hT2 el)
      generalize upd H2 l (.lst vs.dropLast) = H3 at k3 hT3 e3 rv3 rus3 ⊢
      refine ⟨_, rfl, v, u, rfl, rv3, hdv, hkv, hT3, fun H4 k4 t4 => ⟨true, rfl, iteF ?_⟩⟩
      have e4 := hT3.lst k4 e3
      have rv4 := rv3.keep k4 hT3.noT
      have rus4 := rus3.keep k4 hT3.noT
      have k04 := k3.trans k4
      have hin := Fo.inner_size u
      refine ⟨_, rfl, .inl ⟨rfl, _, SqL.of e4⟩, _, rfl, v, u, rfl, rv4, hkv, by omega, fun ws l2 H5 n5 e5 r5 k5 => ?_⟩
      have ne : l2 ≠ l := fun z => by
        rw [z, e4] at n5
        cases n5
      have e5l := k5 l _ (fun z => z) e4
      have t5 := t4.off k5 (fun _ _ z => z)
      have rus5 := rus4.keep k5 (fun _ _ z => z.elim)
      refine ⟨l, l2, _, ws, rfl, rfl, e5l, e5, ?_, ?_⟩
      · have h1 := (rus5.app r5).len
        rw [← encs_app, encs_map, List.length_map, List.length_append] at h1
        have h2 := sizes_len (us ++ u.inner)
        rw [Fo.sizes_app] at h2
        rw [List.length_append] at h1 h2
        omega
      · refine ⟨_, us ++ u.inner, _, rfl, ?_, upd_same, ?_, Fo.wfs_app _ _ hdu (u.inner_wf hdv), Fo.oks_app _ _ hku (u.inner_ok hkv), ?_, t5.put e5l (fun _ z => by cases z), (k04.trans (k5.mono fun _ z => z.elim)).putL nl⟩
        · rw [Fo.sizes_app]
          omega
        · rw [encs_app]
          exact (rus5.app r5).keep (Kp.put (M := ML TT l) (.inl rfl)) (noTL t5 e5l)
        · rw [Fo.sizes_app]
          omega
end
end RT

/-! d.get(k), d a dict of the written part -/
namespace RT
open PySem PySem.Spec PyProof.Rows L2
section
variable {X : Cx} {o e : Expr} {apos cpos : Pos} {td ty : TE} {d : Addr} {es : Array DictEntry} {n : Nat}
def tKGet (K : PySem.W.Frag) (d : Addr) (td ty : TE) : TE := fun σ H Q => td σ H fun x H1 => x = .ref d ∧ ty σ H1 fun y H2 => ∃ (z : Str) (u0 : Value) (v0 : V), y = .str z ∧ PySem.W.nsIn K d z = some (some u0) ∧ RelV v0 u0 ∧ Q v0 H2
theorem pe_kget1 (D : KDict X.K X.w d es n) (ho : PE X o td) (he : PE X e ty) (m : M1 X o "get" apos e cpos) : PE X (.Call (.Attribute o "get" apos) [e] [] cpos) (tKGet X.K d td ty) := by
  refine ⟨fun pins s σ H Q I h => ?_⟩
  refine wpAny_Call_method m.base m.few m.line PySem.F.plainAttrs_dict PySem.F.slot_dict_get PySem.F.type_dict_get (thn (ho.run pins s σ H _ I h) fun u s1 ⟨x, H1, I1, rx, ex, q1⟩ => ?_)
  subst ex
  obtain rfl : u = Value.ref d := rx
  refine ⟨kd_type D I1, fun b q => ?_, ?_⟩
  · cases q
    exact ⟨_, I1.kIn _ _ D.at_, rfl⟩
  rw [m.trees]
  refine Calls.callWith_builtin rfl (Calls.evalArgs_plain (Calls.spliced_cons (thn (he.run pins s1 σ H1 _ I1 q1) fun iv s2 ⟨y, H2, I2, ry, z, u0, v0, ey, en, r, q2⟩ => Calls.spliced_nil ?_)))
  subst ey
  obtain ⟨t, rfl⟩ := ry
  refine call_meetsIn PySem.F.slot_dict_get (kd_type D I2) PySem.F.entry_dict_get (PySem.F.args_dict_get_2 _ _) (meets_dict_get (PySem.strKind X.prog X.w) d (PySem.strKind_is X.prog X.w z t) D.low) ⟨_, PySem.W.mapOf_K (prog := X.prog) I2.kIn D.at_ D.lit, ?_⟩
  rw [PySem.W.find_K D.at_ en]
  exact ⟨v0, H2, I2.tok _, r, q2⟩
end
end RT
namespace RT
open PySem PySem.Spec PyProof.Rows L2
section
variable {X : Cx} {o i : Expr} {pos : Pos} {td ty : TE} {d : Addr} {es : Array DictEntry} {n : Nat}
/-- d[k] -/
theorem pe_kix (D : KDict X.K X.w d es n) (ho : PE X o td) (hi : PE X i ty) (hs : NoSl i) : PE X (.Subscript o i pos) (tKGet X.K d td ty) := by
  refine ⟨fun pins s σ H Q I h => ?_⟩
  refine subD_of PySem.F.slot_dict_getitem.lookup hs (thn (ho.run pins s σ H _ I h) fun u s1 ⟨x, H1, I1, rx, ex, q1⟩ => thn (hi.run pins s1 σ H1 _ I1 q1) fun iv s2 ⟨y, H2, I2, ry, z, u0, v0, ey, en, r, q2⟩ => ?_)
  subst ex ey
  obtain rfl : u = Value.ref d := rx
  obtain ⟨t, rfl⟩ := ry
  exact ⟨kd_type D I2, wpAny_getItem_of (PySem.strKind_is X.prog X.w z t) (PySem.W.mapOf_K (prog := X.prog) I2.kIn D.at_ D.lit) (PySem.W.find_K D.at_ en) ⟨v0, H2, I2.tok _, r, q2⟩⟩
end
end RT

/-! _has_shape -/
namespace RT
open PySem PySem.Spec PyProof.Rows L2
abbrev sHs : Stmt := topS 17
theorem scHs : FnScope ["x", "holds"] ["x"] (defScope sHs) := ⟨rfl, rfl, rfl, by decide +kernel, rfl, by decide +kernel, by decide +kernel⟩
def Fo.word : Fo → Str
  | .leaf w _ => w
  | .one w _ _ => w
  | .row _ => "row"
  | .either _ _ => "either"
  | .again _ => "again"
  | .between _ _ => "again"
  | .counted _ _ => "counted"
  | .named _ => "named"
def Fo.args : Fo → List RT.D
  | .leaf _ r => r
  | .one _ f r => f.enc :: r
  | .row fs => [.tup (Fo.encs fs)]
  | .either ns fs => [.tup (List.zipWith (fun n d => .tup [.str n, d]) ns (Fo.encs fs))]
  | .again f => [f.enc, .non]
  | .between f g => [f.enc, g.enc]
  | .counted z f => [.str z, f.enc]
  | .named x => [.str x]
theorem Fo.enc_eq (f : Fo) : f.enc = .tup (.str f.word :: f.args) := by
  cases f <;> rfl
def words : List (Str × Nat) := [("text", 2), ("skip", 2), ("sign", 2), ("word", 2), ("number", 1), ("pick", 2), ("spelt", 2), ("row", 2), ("either", 2), ("again", 3), ("counted", 3), ("turned", 3), ("named", 2)]
theorem wf_word (f : Fo) (h : f.wf) : (f.word, f.args.length + 1) ∈ words := by
  cases f with
  | leaf w r =>
    rcases h with ⟨rfl, z, rfl, _⟩ | ⟨h, z, rfl, _⟩ | ⟨rfl, rfl⟩ | ⟨rfl, ps, rfl, _⟩
    · exact .head _
    · rcases h with rfl | rfl <;> simp [words, Fo.word, Fo.args]
    · simp [words, Fo.word, Fo.args]
    · simp [words, Fo.word, Fo.args, pickR]
  | one w f r =>
    rcases h.2 with ⟨rfl, rfl⟩ | ⟨rfl, rfl, _⟩ | ⟨rfl, ps, rfl, _⟩ <;> simp [words, Fo.word, Fo.args, turnR]
  | row fs => simp [words, Fo.word, Fo.args]
  | either ns fs => simp [words, Fo.word, Fo.args]
  | again f => simp [words, Fo.word, Fo.args]
  | between f g => simp [words, Fo.word, Fo.args]
  | counted z f => simp [words, Fo.word, Fo.args]
  | named x => simp [words, Fo.word, Fo.args]
/-- where a form stands: its word ahead, the rest behind -/
theorem Rp.fo {H : Hp} {v : V} {f : Fo} (r : Rp H v f.enc) : ∃ (a : Addr) (us : List V), v = .ref a ∧ H a = some (.tup (.str f.word :: us)) ∧ Rps H us f.args := by
  rw [f.enc_eq] at r
  cases r with
  | tup e r =>
    cases r with
    | cons r1 r2 =>
      cases r1
      exact ⟨_, _, rfl, e, r2⟩
section
variable {P : Program} {w : World} {K : PySem.W.Frag} {mg : Str → Option Value} {base : Heap}
/-- what a function of _SHAPES promises of a form with the word -/
def spShp (N : List Str) (W : Fo → Prop) (TT : List Addr) : Sp := fun vs H Q _ => ∃ (v : V) (f : Fo), vs = [v] ∧ W f ∧ Rp H v f.enc ∧ f.wf ∧ f.ok N ∧ Tell TT H Q true
theorem ok_hs {N : List Str} {W : Fo → Prop} {TT : List Addr} {f L S : Addr} {fd : FuncData} {k nL nS : Nat} {eL eS : Array DictEntry} (F : Fun K "_has_shape" "_has_shape" sHs f fd) (mL : mg "LENGTHS" = some (.ref L)) (DL : KDict K w L eL nL) (hL : ∀ p ∈ words, ∃ t, PySem.W.nsIn K L p.1 = some (some (.int p.2 t)))
    (mS : mg "_SHAPES" = some (.ref S)) (DS : KDict K w S eS nS) (hS : ∀ f : Fo, W f → f.wf → ∃ g, PySem.W.nsIn K S f.word = some (some (.ref g)) ∧ PySem.W.keepIn K (.ref g) = true ∧ FnR P w K mg base CX0 k g (spShp N (fun f' => W f' ∧ f'.word = f.word) TT))
    (mi : mg "isinstance" = none) (mtu : mg "tuple" = none) (ms : mg "str" = none) (ml : mg "len" = none) : FnOk P w K mg base CX0 (k + 1) f fd ["x"] (spShp N W TT) := by
  refine F.ok scHs (fun vs H Q E h => ?_) (fun cdv A outer s H vs Q E hr h => ?_)
  · obtain ⟨z, f, rfl, _⟩ := h
    rfl
  · obtain ⟨v, f, rfl, hW, hR, wf, ok, t⟩ := h
    obtain ⟨g, eg, kh, FH⟩ := hS f hW wf
    obtain ⟨a, us, rfl, ea, ru⟩ := hR.fo
    obtain ⟨tl, el⟩ := hL _ (wf_word f wf)
    have ul := ru.len
    refine ⟨_, (pss_cons (ps_if (PW.pt (pw_or (pt_not (pt_val (pe_callB call_isi (by rfl) mi (by decide +kernel) (pa_cons (pv 0) (pa_cons (pe_bltn (v := .ty "tuple") (by rfl) mtu (by decide +kernel) rfl) pa_nil))))) (pw_or (pt_not (pt_truth (pv 0) (by intro _; rfl))) (pw_or1 (pt_not (pt_val (pe_callB call_isi (by rfl) mi (by decide +kernel) (pa_cons (pe_ix ix_tup (pv 0) pe_int (fun _ _ => rfl)) (pa_cons (pe_bltn (v := .ty "str") (by rfl) ms (by decide +kernel) rfl) pa_nil))))))))) (pss_one (ps_ret pe_bl)) pss_nil)
      (pss_cons (ps_if (pt_cmpR op_ne (pe_callB call_len_seq (by rfl) ml PySem.boot_len (pa_cons (pv 0) pa_nil)) (pe_kget1 DL (pe_glob (v := .ref L) (by rfl) mL rfl) (pe_ix ix_tup (pv 0) pe_int (fun _ _ => rfl)) ⟨rfl, rfl, rfl, rfl⟩) (nomark _)) (pss_one (ps_ret pe_bl)) pss_nil)
      (pss_cons (ps_set (i := 1) scHs.nd rfl (.inl rfl) (pe_kix DS (pe_glob (v := .ref S) (by rfl) mS rfl) (pe_ix ix_tup (pv 0) pe_int (fun _ _ => rfl)) (fun _ _ => rfl)))
      (pss_one (ps_ret (ItX.pe_callV (i := 1) FH hr kh pass0 rfl (.inl rfl) (pa_cons (pv 0) pa_nil))))))), ?_⟩
    refine ⟨_, rfl, _, .ty "tuple", .type "tuple", .type "tuple", true, rfl, .ty _, .base (.tup ea), kit_ty (by decide +kernel), true, rfl, iteF ?_⟩
    refine ⟨_, rfl, true, .inr (.inl ⟨_, SqT.of ea, rfl⟩), iteF ?_⟩
    refine ⟨_, rfl, a, _, 0, .str _, rfl, rfl, SqT.of ea, atI_nat (j := 0) rfl, _, .ty "str", .type "str", .type "str", true, rfl, .ty _, .base (.str _), kit_ty (by decide +kernel), true, rfl, iteF ?_⟩
    refine ⟨_, rfl, a, _, rfl, .inr (SqT.of ea), rfl, _, rfl, a, _, 0, .str _, rfl, rfl, SqT.of ea, atI_nat (j := 0) rfl, _, _, .int _, rfl, el, ⟨_, rfl⟩, rfl, _, rfl, iteF' ?_ ?_⟩
    · show (!decide (V.int ((V.str f.word :: us).length : Nat) = V.int ((f.args.length + 1 : Nat) : Int))) = false
      rw [List.length_cons, ul, decide_eq_true rfl]
      rfl
    exact ⟨rfl, _, rfl, a, _, 0, .str _, rfl, rfl, SqT.of ea, atI_nat (j := 0) rfl, _, _, .ref g, rfl, eg, rfl, rfl, _, rfl, _, f, rfl, ⟨hW, rfl⟩, hR, wf, ok, t⟩
end
end RT

/-! the shapes without loops -/
namespace RT
open PySem PySem.Spec PyProof.Rows L2
abbrev sAny : Stmt := topS 18
abbrev sTsh : Stmt := topS 19
abbrev sSsh : Stmt := topS 20
abbrev sRsh : Stmt := topS 23
abbrev sAsh : Stmt := topS 25
abbrev sNsh : Stmt := topS 27
theorem scAny : FnScope ["_"] ["_"] (defScope sAny) := ⟨rfl, rfl, rfl, by decide +kernel, rfl, by decide +kernel, by decide +kernel⟩
theorem scTsh : FnScope ["form"] ["form"] (defScope sTsh) := ⟨rfl, rfl, rfl, by decide +kernel, rfl, by decide +kernel, by decide +kernel⟩
theorem scSsh : FnScope ["form"] ["form"] (defScope sSsh) := ⟨rfl, rfl, rfl, by decide +kernel, rfl, by decide +kernel, by decide +kernel⟩
theorem scRsh : FnScope ["form"] ["form"] (defScope sRsh) := ⟨rfl, rfl, rfl, by decide +kernel, rfl, by decide +kernel, by decide +kernel⟩
theorem scAsh : FnScope ["form", "between"] ["form"] (defScope sAsh) := ⟨rfl, rfl, rfl, by decide +kernel, rfl, by decide +kernel, by decide +kernel⟩
theorem scNsh : FnScope ["form"] ["form"] (defScope sNsh) := ⟨rfl, rfl, rfl, by decide +kernel, rfl, by decide +kernel, by decide +kernel⟩
theorem wf_text {f : Fo} (h : f.wf) (e : f.word = "text" ∨ f.word = "counted") : ∃ z ds, f.args = .str z :: ds ∧ TxtOk z := by
  cases f with
  | leaf w r =>
    rcases h with ⟨rfl, z, rfl, hz⟩ | ⟨h, z, rfl, _⟩ | ⟨rfl, rfl⟩ | ⟨rfl, ps, rfl, _⟩
    · exact ⟨z, [], rfl, hz⟩
    · rcases h with rfl | rfl <;> ((try simp only [Fo.word] at e); exact absurd e (by decide))
    · ((try simp only [Fo.word] at e); exact absurd e (by decide))
    · ((try simp only [Fo.word] at e); exact absurd e (by decide))
  | one w f r => rcases h.2 with ⟨rfl, rfl⟩ | ⟨rfl, rfl, _⟩ | ⟨rfl, ps, rfl, _⟩ <;> ((try simp only [Fo.word] at e); exact absurd e (by decide))
  | counted z f => exact ⟨z, [f.enc], rfl, h.1⟩
  | _ => ((try simp only [Fo.word] at e); exact absurd e (by decide))
theorem wf_set {f : Fo} (h : f.wf) (e : f.word = "sign" ∨ f.word = "word") : ∃ z, f.args = [.str z] ∧ SetOk z := by
  cases f with
  | leaf w r =>
    rcases h with ⟨rfl, z, rfl, hz⟩ | ⟨h, z, rfl, hz⟩ | ⟨rfl, rfl⟩ | ⟨rfl, ps, rfl, _⟩
    · ((try simp only [Fo.word] at e); exact absurd e (by decide))
    · exact ⟨z, rfl, hz⟩
    · ((try simp only [Fo.word] at e); exact absurd e (by decide))
    · ((try simp only [Fo.word] at e); exact absurd e (by decide))
  | one w f r => rcases h.2 with ⟨rfl, rfl⟩ | ⟨rfl, rfl, _⟩ | ⟨rfl, ps, rfl, _⟩ <;> ((try simp only [Fo.word] at e); exact absurd e (by decide))
  | _ => ((try simp only [Fo.word] at e); exact absurd e (by decide))
theorem wf_row {f : Fo} (h : f.wf) (e : f.word = "row") : ∃ ds, f.args = [.tup ds] := by
  cases f with
  | leaf w r =>
    rcases h with ⟨rfl, z, rfl, hz⟩ | ⟨h, z, rfl, hz⟩ | ⟨rfl, rfl⟩ | ⟨rfl, ps, rfl, _⟩
    · ((try simp only [Fo.word] at e); exact absurd e (by decide))
    · rcases h with rfl | rfl <;> ((try simp only [Fo.word] at e); exact absurd e (by decide))
    · ((try simp only [Fo.word] at e); exact absurd e (by decide))
    · ((try simp only [Fo.word] at e); exact absurd e (by decide))
  | one w f r => rcases h.2 with ⟨rfl, rfl⟩ | ⟨rfl, rfl, _⟩ | ⟨rfl, ps, rfl, _⟩ <;> ((try simp only [Fo.word] at e); exact absurd e (by decide))
  | row fs => exact ⟨_, rfl⟩
  | _ => ((try simp only [Fo.word] at e); exact absurd e (by decide))
theorem wf_named {f : Fo} (h : f.wf) (e : f.word = "named") : ∃ z, f.args = [.str z] ∧ NmOk z := by
  cases f with
  | leaf w r =>
    rcases h with ⟨rfl, z, rfl, hz⟩ | ⟨h, z, rfl, hz⟩ | ⟨rfl, rfl⟩ | ⟨rfl, ps, rfl, _⟩
    · ((try simp only [Fo.word] at e); exact absurd e (by decide))
    · rcases h with rfl | rfl <;> ((try simp only [Fo.word] at e); exact absurd e (by decide))
    · ((try simp only [Fo.word] at e); exact absurd e (by decide))
    · ((try simp only [Fo.word] at e); exact absurd e (by decide))
  | one w f r => rcases h.2 with ⟨rfl, rfl⟩ | ⟨rfl, rfl, _⟩ | ⟨rfl, ps, rfl, _⟩ <;> ((try simp only [Fo.word] at e); exact absurd e (by decide))
  | named x => exact ⟨_, rfl, h⟩
  | _ => ((try simp only [Fo.word] at e); exact absurd e (by decide))
theorem wf_again {N : List Str} {f : Fo} (h : f.wf) (ok : f.ok N) (e : f.word = "again") : ∃ d, f.args = [d, .non] ∨ ∃ g : Fo, f.args = [d, g.enc] ∧ g.wf ∧ g.bare ∧ g.ok N := by
  cases f with
  | leaf w r =>
    rcases h with ⟨rfl, z, rfl, hz⟩ | ⟨h, z, rfl, hz⟩ | ⟨rfl, rfl⟩ | ⟨rfl, ps, rfl, _⟩
    · ((try simp only [Fo.word] at e); exact absurd e (by decide))
    · rcases h with rfl | rfl <;> ((try simp only [Fo.word] at e); exact absurd e (by decide))
    · ((try simp only [Fo.word] at e); exact absurd e (by decide))
    · ((try simp only [Fo.word] at e); exact absurd e (by decide))
  | one w f r => rcases h.2 with ⟨rfl, rfl⟩ | ⟨rfl, rfl, _⟩ | ⟨rfl, ps, rfl, _⟩ <;> ((try simp only [Fo.word] at e); exact absurd e (by decide))
  | again f => exact ⟨_, .inl rfl⟩
  | between f g => exact ⟨_, .inr ⟨g, rfl, h.2.1, h.2.2, ok.2⟩⟩
  | _ => ((try simp only [Fo.word] at e); exact absurd e (by decide))
theorem bare_word {f : Fo} (h : f.wf) : f.bare ↔ f.word = "text" ∨ f.word = "skip" := by
  cases f with
  | leaf w r =>
    show w = "text" ↔ w = "text" ∨ w = "skip"
    refine ⟨.inl, fun z => z.elim id fun e => ?_⟩
    rcases h with ⟨rfl, z, rfl, hz⟩ | ⟨h, z, rfl, hz⟩ | ⟨rfl, rfl⟩ | ⟨rfl, ps, rfl, _⟩
    · ((try simp only [Fo.word] at e); exact absurd e (by decide))
    · rcases h with rfl | rfl <;> ((try simp only [Fo.word] at e); exact absurd e (by decide))
    · ((try simp only [Fo.word] at e); exact absurd e (by decide))
    · ((try simp only [Fo.word] at e); exact absurd e (by decide))
  | one w f r =>
    show w = "skip" ↔ w = "text" ∨ w = "skip"
    refine ⟨.inr, fun z => z.elim (fun e => ?_) id⟩
    rcases h.2 with ⟨rfl, rfl⟩ | ⟨rfl, rfl, _⟩ | ⟨rfl, ps, rfl, _⟩ <;> ((try simp only [Fo.word] at e); exact absurd e (by decide))
  | _ =>
    refine ⟨fun z => z.elim, fun e => ?_⟩
    ((try simp only [Fo.word] at e); exact absurd e (by decide))
section
variable {P : Program} {w : World} {K : PySem.W.Frag} {mg : Str → Option Value} {base : Heap}
theorem ok_any {N : List Str} {W : Fo → Prop} {TT : List Addr} {f : Addr} {fd : FuncData} {k : Nat} (F : Fun K "_any_shape" "_any_shape" sAny f fd) : FnOk P w K mg base CX0 (k + 1) f fd ["_"] (spShp N W TT) := by
  refine F.ok scAny (fun vs H Q E h => ?_) (fun cdv A outer s H vs Q E hr h => ?_)
  · obtain ⟨z, f, rfl, _⟩ := h
    rfl
  · obtain ⟨v, f, rfl, hW, hR, wf, ok, t⟩ := h
    refine ⟨_, (pss_one (ps_ret pe_bl)), ?_⟩
    exact t.self
theorem ok_tsh {N : List Str} {TT : List Addr} {f ft : Addr} {fd fdt : FuncData} {k : Nat} (F : Fun K "_text_shape" "_text_shape" sTsh f fd) (GT : FnOk P w K mg base CX0 k ft fdt ["x"] (spTo TT)) (kt : PySem.W.keepIn K (.ref ft) = true) (bt : Binds K fdt ["x"] []) (gt : mg "is_told" = some (.ref ft)) :
    FnOk P w K mg base CX0 (k + 1) f fd ["form"] (spShp N (fun f => f.word = "text" ∨ f.word = "counted") TT) := by
  refine F.ok scTsh (fun vs H Q E h => ?_) (fun cdv A outer s H vs Q E hr h => ?_)
  · obtain ⟨z, f, rfl, _⟩ := h
    rfl
  · obtain ⟨v, f, rfl, hW, hR, wf, ok, t⟩ := h
    refine ⟨_, (pss_one (ps_ret (pe_call GT hr (by rfl) gt kt bt .nil pass0 (pa_cons (pe_ix ix_tup (pv 0) pe_int (fun _ _ => rfl)) pa_nil)))), ?_⟩
    obtain ⟨z, ds, ea, hz⟩ := wf_text wf hW
    obtain ⟨a, us, rfl, e, ru⟩ := hR.fo
    rw [ea] at ru
    cases ru with
    | cons r1 r2 =>
      cases r1 with
      | str hl => exact ⟨_, rfl, a, _, 1, .str z, rfl, rfl, SqT.of e, atI_nat (j := 1) rfl, z, rfl, hz, hl, t⟩
theorem ok_ssh {N : List Str} {TT : List Addr} {f ft : Addr} {fd fdt : FuncData} {k : Nat} (F : Fun K "_set_shape" "_set_shape" sSsh f fd) (GT : FnOk P w K mg base CX0 k ft fdt ["x"] (spSe TT)) (kt : PySem.W.keepIn K (.ref ft) = true) (bt : Binds K fdt ["x"] []) (gt : mg "is_set" = some (.ref ft)) :
    FnOk P w K mg base CX0 (k + 1) f fd ["form"] (spShp N (fun f => f.word = "sign" ∨ f.word = "word") TT) := by
  refine F.ok scSsh (fun vs H Q E h => ?_) (fun cdv A outer s H vs Q E hr h => ?_)
  · obtain ⟨z, f, rfl, _⟩ := h
    rfl
  · obtain ⟨v, f, rfl, hW, hR, wf, ok, t⟩ := h
    refine ⟨_, (pss_one (ps_ret (pe_call GT hr (by rfl) gt kt bt .nil pass0 (pa_cons (pe_ix ix_tup (pv 0) pe_int (fun _ _ => rfl)) pa_nil)))), ?_⟩
    obtain ⟨z, ea, hz⟩ := wf_set wf hW
    obtain ⟨a, us, rfl, e, ru⟩ := hR.fo
    rw [ea] at ru
    cases ru with
    | cons r1 r2 =>
      cases r1 with
      | str hl => exact ⟨_, rfl, a, _, 1, .str z, rfl, rfl, SqT.of e, atI_nat (j := 1) rfl, z, rfl, hz, hl, t⟩
theorem ok_nsh {N : List Str} {TT : List Addr} {f ft : Addr} {fd fdt : FuncData} {k : Nat} (F : Fun K "_named_shape" "_named_shape" sNsh f fd) (GT : FnOk P w K mg base CX0 k ft fdt ["x"] (spNm TT)) (kt : PySem.W.keepIn K (.ref ft) = true) (bt : Binds K fdt ["x"] []) (gt : mg "is_name" = some (.ref ft)) :
    FnOk P w K mg base CX0 (k + 1) f fd ["form"] (spShp N (fun f => f.word = "named") TT) := by
  refine F.ok scNsh (fun vs H Q E h => ?_) (fun cdv A outer s H vs Q E hr h => ?_)
  · obtain ⟨z, f, rfl, _⟩ := h
    rfl
  · obtain ⟨v, f, rfl, hW, hR, wf, ok, t⟩ := h
    refine ⟨_, (pss_one (ps_ret (pe_call GT hr (by rfl) gt kt bt .nil pass0 (pa_cons (pe_ix ix_tup (pv 0) pe_int (fun _ _ => rfl)) pa_nil)))), ?_⟩
    obtain ⟨z, ea, hz⟩ := wf_named wf hW
    obtain ⟨a, us, rfl, e, ru⟩ := hR.fo
    rw [ea] at ru
    cases ru with
    | cons r1 r2 =>
      cases r1 with
      | str hl => exact ⟨_, rfl, a, _, 1, .str z, rfl, rfl, SqT.of e, atI_nat (j := 1) rfl, z, rfl, hz, t⟩
theorem ok_rsh {N : List Str} {TT : List Addr} {f : Addr} {fd : FuncData} {k : Nat} (F : Fun K "_row_shape" "_row_shape" sRsh f fd) (mi : mg "isinstance" = none) (mtu : mg "tuple" = none) :
    FnOk P w K mg base CX0 (k + 1) f fd ["form"] (spShp N (fun f => f.word = "row") TT) := by
  refine F.ok scRsh (fun vs H Q E h => ?_) (fun cdv A outer s H vs Q E hr h => ?_)
  · obtain ⟨z, f, rfl, _⟩ := h
    rfl
  · obtain ⟨v, f, rfl, hW, hR, wf, ok, t⟩ := h
    refine ⟨_, (pss_one (ps_ret (pe_callB call_isi (by rfl) mi (by decide +kernel) (pa_cons (pe_ix ix_tup (pv 0) pe_int (fun _ _ => rfl)) (pa_cons (pe_bltn (v := .ty "tuple") (by rfl) mtu (by decide +kernel) rfl) pa_nil))))), ?_⟩
    obtain ⟨ds, ea⟩ := wf_row wf hW
    obtain ⟨a, us, rfl, e, ru⟩ := hR.fo
    rw [ea] at ru
    cases ru with
    | cons r1 r2 =>
      cases r1 with
      | tup eb rb => exact ⟨_, rfl, a, _, 1, .ref _, rfl, rfl, SqT.of e, atI_nat (j := 1) rfl, _, .ty "tuple", .type "tuple", .type "tuple", true, rfl, .ty _, .base (.tup eb), kit_ty (by decide +kernel), t.self⟩
/-- the tuple BARE of the written part -/
abbrev BareAt (K : PySem.W.Frag) (B : Addr) : Prop := ∀ H : Hp, SqT K H B [.str "text", .str "skip"]
theorem in_bare {K : PySem.W.Frag} {x : Str} {b : Bool} (e : b = (decide (x = "text" ∨ x = "skip"))) : inV (.str x) [.str "text", .str "skip"] = b := by
  have h := inV_strs x ["text", "skip"]
  rw [e]
  refine (show inV (.str x) [.str "text", .str "skip"] = decide (x ∈ (["text", "skip"] : List Str)) from h).trans ?_
  congr 1
  simp
theorem ok_ash {N : List Str} {TT : List Addr} {f ft B : Addr} {fd fdt : FuncData} {k : Nat} (F : Fun K "_again_shape" "_again_shape" sAsh f fd) (GT : FnOk P w K mg base CX0 k ft fdt ["x"] (spShp N Fo.bare TT)) (kt : PySem.W.keepIn K (.ref ft) = true) (bt : Binds K fdt ["x"] []) (gt : mg "_has_shape" = some (.ref ft))
    (mB : mg "BARE" = some (.ref B)) (hB : BareAt K B) : FnOk P w K mg base CX0 (k + 1) f fd ["form"] (spShp N (fun f => f.word = "again") TT) := by
  refine F.ok scAsh (fun vs H Q E h => ?_) (fun cdv A outer s H vs Q E hr h => ?_)
  · obtain ⟨z, f, rfl, _⟩ := h
    rfl
  · obtain ⟨v, f, rfl, hW, hR, wf, ok, t⟩ := h
    refine ⟨_, (pss_cons (ps_set (i := 1) scAsh.nd rfl (.inl rfl) (pe_ix ix_tup (pv 0) pe_int (fun _ _ => rfl)))
      (pss_one (ps_ret (pe_or (pe_cmpR op_isN (pv 1) pe_non (nomark _)) (pe_one (pe_and (pe_call GT hr (by rfl) gt kt bt .nil pass0 (pa_cons (pv 1) pa_nil)) (pe_one (pe_cmpR op_in_seq (pe_ix ix_tup (pv 1) pe_int (fun _ _ => rfl)) (pe_glob (v := .ref B) (by rfl) mB rfl) (by rfl))))))))), ?_⟩
    obtain ⟨d, h⟩ := wf_again wf ok hW
    obtain ⟨a, us, rfl, e, ru⟩ := hR.fo
    rcases h with ea | ⟨g, ea, hg, hgb, hgo⟩
    · rw [ea] at ru
      cases ru with
      | cons r1 r2 =>
        cases r2 with
        | cons r3 r4 =>
          cases r3
          refine ⟨_, rfl, a, _, 2, .non, rfl, rfl, SqT.of e, atI_nat (j := 2) rfl, ?_⟩
          refine ⟨_, rfl, rfl, _, rfl, iteT' (by decide) ?_⟩
          exact t.self
    · rw [ea] at ru
      cases ru with
      | cons r1 r2 =>
        cases r2 with
        | cons r3 r4 =>
          obtain ⟨b, us2, rfl, eb, rb⟩ := r3.fo
          refine ⟨_, rfl, a, _, 2, .ref b, rfl, rfl, SqT.of e, atI_nat (j := 2) rfl, ?_⟩
          refine ⟨_, rfl, rfl, _, rfl, iteF' (decide_eq_false fun z => by cases z) ?_⟩
          refine ⟨_, rfl, _, g, rfl, hgb, r3, hg, hgo, t.1, fun H' k' t' => ⟨true, rfl, iteT ?_⟩⟩
          have eb' := k' b _ (fun m => t.1.noT b _ m eb) eb
          refine ⟨_, rfl, b, _, 0, .str _, rfl, rfl, SqT.of eb', atI_nat (j := 0) rfl, B, _, rfl, .inr (hB _), rfl, rfl, ?_⟩
          refine qT (in_bare (K := K) ?_) (t.2 H' k' t')
          exact (decide_eq_true ((bare_word hg).mp hgb)).symm
end
end RT

set_option maxHeartbeats 1000000
/-! a dict whose keys are texts, numbers and tuples: found, got, put -/
namespace RT
open PySem PySem.Spec PyProof.Rows L2
section
variable {P : Program} {w : World} {A : Around} {E : Value → Shared → Prop} {s : Shared}
/-- the entries es have the keys ns -/
structure MixE (w : World) (h : Heap) (es : Array DictEntry) (ns : List NestedKey) : Prop where
  sz : es.size = ns.length
  at_ : ∀ (i : Nat) (n : NestedKey), ns[i]? = some n → ∃ e : DictEntry, es[i]? = some e ∧ e.hash = n.hash w ∧ NestedIs h n e.key ∧ n.depth ≤ 8
  nd : ns.Nodup
theorem MixE.get {h : Heap} {es : Array DictEntry} {ns : List NestedKey} (M : MixE w h es ns) {i : Nat} {e : DictEntry} (q : es[i]? = some e) : ∃ n, ns[i]? = some n ∧ e.hash = n.hash w ∧ NestedIs h n e.key ∧ n.depth ≤ 8 := by
  have lt : i < es.size := (Array.getElem?_eq_some_iff.mp q).1
  have lt2 : i < ns.length := M.sz ▸ lt
  obtain ⟨e2, q2, r⟩ := M.at_ i ns[i] (List.getElem?_eq_getElem lt2)
  rw [q] at q2
  cases q2
  exact ⟨_, List.getElem?_eq_getElem lt2, r⟩
theorem nodup_at {α : Type} {ns : List α} (nd : ns.Nodup) {i j : Nat} {n : α} (a : ns[i]? = some n) (b : ns[j]? = some n) : i = j :=
  (List.getElem?_inj (List.getElem?_eq_some_iff.mp a).1 nd).mp (a.trans b.symm)
abbrev plc (es : Array DictEntry) (h : Int) : List Nat := placesWithHash es.size (fun i => es[i]?.map (·.hash)) h
theorem plc_mem {h : Heap} {es : Array DictEntry} {ns : List NestedKey} (M : MixE w h es ns) {k : NestedKey} {j : Nat} (q : ns[j]? = some k) : j ∈ plc es (k.hash w) := by
  obtain ⟨e, he, hh, _⟩ := M.at_ j k q
  refine List.mem_filter.mpr ⟨List.mem_range.mpr (Array.getElem?_eq_some_iff.mp he).1, ?_⟩
  show (es[j]?.map (·.hash) == some _) = true
  rw [he, Option.map_some, hh]
  exact beq_self_eq_true _
theorem plc_get {es : Array DictEntry} {h : Int} {j : Nat} (m : j ∈ plc es h) : ∃ e, es[j]? = some e ∧ e.hash = h := by
  obtain ⟨m1, m2⟩ := List.mem_filter.mp m
  have lt := List.mem_range.mp m1
  refine ⟨es[j], Array.getElem?_eq_getElem lt, ?_⟩
  have m3 : (es[j]?.map (·.hash) == some h) = true := m2
  rw [Array.getElem?_eq_getElem lt, Option.map_some] at m3
  exact Option.some.inj (eq_of_beq m3)
theorem plc_nodup (es : Array DictEntry) (h : Int) : (plc es h).Nodup := List.nodup_range.filter _
/-- u == v, of keys -/
theorem key_eq {x y : NestedKey} {u v : Value} {Q : Bool → Shared → Prop} (rm : A.units + 8 < cLine) (hx : NestedIs s.heap x u) (dx : x.depth ≤ 8) (hy : NestedIs s.heap y v) (q : Q (decide (x = y)) s) : wpAny (model P w) A (eqBool u v) Q E s := by
  refine eqAt_key x y A s _ _ hx hy (by have := Nat.min_le_left x.depth y.depth; omega) _ _ _ _ ?_
  rw [← NestedKey.decide_eq]
  exact q
theorem tells_no {k : NestedKey} {v : Value} {l : List Value} {Q : Bool → Shared → Prop} (hk : NestedIs s.heap k v) (dk : k.depth ≤ 8) (hl : ∀ u ∈ l, ∃ n, NestedIs s.heap n u ∧ n.depth ≤ 8) (q : Q false s) :
    wpAny (model P w) A (tableMayTell v l) Q E s := by
  unfold tableMayTell
  by_cases e : l.isEmpty = true
  · rw [if_pos e]
    exact wpAny_pure q
  · rw [if_neg e]
    refine wpAny_bind (quiet_key k _ 8 s hk dk A E _ ?_)
    refine wpAny_bind ?_
    refine wpAny_forIn_list _ (fun r b t => t = s ∧ b = (none, ()) ∧ ∀ u ∈ r, ∃ n, NestedIs s.heap n u ∧ n.depth ≤ 8) _ ?_ ?_ _ _ ⟨rfl, rfl, hl⟩
    · rintro x r b t ⟨rfl, rfl, hr⟩
      obtain ⟨n, hn, dn⟩ := hr x (List.mem_cons_self ..)
      refine wpAny_bind (quiet_key n _ 8 t hn dn A E _ ?_)
      exact wpAny_pure ⟨rfl, rfl, fun u m => hr u (List.mem_cons_of_mem _ m)⟩
    · rintro b t ⟨rfl, rfl, _⟩
      exact wpAny_pure q
theorem wp_if {α : Type} {c : Prop} [Decidable c] {x y : Sem α} {Q : α → Shared → Prop} (a : c → wpAny (model P w) A x Q E s) (b : ¬ c → wpAny (model P w) A y Q E s) : wpAny (model P w) A (if c then x else y) Q E s := by
  by_cases z : c
  · rw [if_pos z]
    exact a z
  · rw [if_neg z]
    exact b z
theorem mix_plain {d : Addr} {o : Obj} {es : Array DictEntry} {ep : Nat} {ns : List NestedKey} {k : NestedKey} {key : Value} {Q : Option Nat → Shared → Prop} (rm : A.units + 8 < cLine) (hk : NestedIs s.heap k key) (dk : k.depth ≤ 8)
    (ho : s.heap.get? d = some o) (hd : o.data = .dict es ep) (M : MixE w s.heap es ns) (q0 : k ∉ ns → Q none s) (q1 : ∀ j, ns[j]? = some k → Q (some j) s) :
    wpAny (model P w) A (dictWalkPlain d key (k.hash w) es (plc es (k.hash w))) Q E s := by
  unfold dictWalkPlain
  refine wpAny_bind ?_
  refine wpAny_forIn_list _ (fun r b t => t = s ∧ b = (none, ()) ∧ ∃ pre, plc es (k.hash w) = pre ++ r ∧ ∀ j ∈ pre, ns[j]? ≠ some k) _ ?_ ?_ _ _ ⟨rfl, rfl, [], rfl, fun _ z => nomatch z⟩
  · rintro j r b t ⟨rfl, rfl, pre, ep1, hp⟩
    have mj : j ∈ plc es (k.hash w) := ep1 ▸ List.mem_append_right _ (List.mem_cons_self ..)
    obtain ⟨e, he, hh⟩ := plc_get mj
    obtain ⟨n, a, _, c, g⟩ := M.get he
    have next : n ≠ k → ∃ pre, plc es (k.hash w) = pre ++ r ∧ ∀ j ∈ pre, ns[j]? ≠ some k := fun ne => ⟨pre ++ [j], by rw [ep1, List.append_assoc]; rfl, fun i mi => by
      rcases List.mem_append.mp mi with mi | mi
      · exact hp i mi
      · rw [List.mem_singleton.mp mi, a]
        exact fun z => ne (Option.some.inj z)⟩
    simp only [he]
    rw [if_pos (by rw [hh]; exact beq_self_eq_true _)]
    refine wpAny_bind (wpAny_dictEpoch ho hd (wpAny_bind (key_eq rm c g hk (wpAny_bind (wpAny_dictEpoch ho hd ?_)))))
    rw [if_neg (by simp)]
    by_cases e1 : n = k
    · rw [decide_eq_true e1]
      exact wpAny_bind (wpAny_rule (wpAny_pure (wpAny_pure (q1 j (e1 ▸ a)))))
    · rw [decide_eq_false e1]
      exact wpAny_bind (wpAny_rule (wpAny_pure ⟨rfl, rfl, next e1⟩))
  · rintro b t ⟨rfl, rfl, pre, ep1, hp⟩
    refine wpAny_pure (q0 fun m => ?_)
    obtain ⟨j, hj⟩ := List.mem_iff_getElem?.mp m
    have mj := plc_mem M hj
    rw [ep1, List.append_nil] at mj
    exact hp j mj hj
theorem is_x {h : Heap} {n : NestedKey} {v : Value} {x : Str} (r : NestedIs h n v) (z : v.isStr x = true) : n = .text x := by
  cases r with
  | text y t =>
    have e : y = x := eq_of_beq z
    rw [e]
  | _ => cases z
theorem mix_find {d : Addr} {o : Obj} {es : Array DictEntry} {ep : Nat} {ns : List NestedKey} {k : NestedKey} {key : Value} {Q : Option Nat → Shared → Prop} (rm : A.units + 8 < cLine) (hk : NestedIs s.heap k key) (dk : k.depth ≤ 8)
    (ho : s.heap.get? d = some o) (hd : o.data = .dict es ep) (M : MixE w s.heap es ns) (q0 : k ∉ ns → Q none s) (q1 : ∀ j, ns[j]? = some k → Q (some j) s) :
    wpAny (model P w) A (dictFind d key (k.hash w)) Q E s := by
  have notin : (∀ j ∈ plc es (k.hash w), ns[j]? ≠ some k) → k ∉ ns := fun h m => by
    obtain ⟨j, hj⟩ := List.mem_iff_getElem?.mp m
    exact h j (plc_mem M hj) hj
  have hany : ¬ (es.any fun e => e.key == key && e.hash != k.hash w) = true := by
    rw [← Array.any_toList, List.any_eq_true]
    rintro ⟨e, hin, hc⟩
    obtain ⟨j, hj⟩ := List.mem_iff_getElem?.mp hin
    rw [Array.getElem?_toList] at hj
    obtain ⟨n, a, b, c, g⟩ := M.get hj
    obtain ⟨c1, c2⟩ := Bool.and_eq_true_iff.mp hc
    rw [eq_of_beq c1] at c
    rw [b, NestedIs.inj _ _ _ c hk] at c2
    simp at c2
  -- each place of this hash
  have each : ∀ j ∈ plc es (k.hash w), ∃ e n, es[j]? = some e ∧ e.hash = k.hash w ∧ ns[j]? = some n ∧ NestedIs s.heap n e.key ∧ n.depth ≤ 8 := fun j m => by
    obtain ⟨e, he, hh⟩ := plc_get m
    obtain ⟨n, a, b, c, g⟩ := M.get he
    exact ⟨e, n, he, hh, a, c, g⟩
  unfold dictFind
  refine wpAny_holding (wpAny_bind (wpAny_dictEntries ho hd ?_))
  obtain ⟨kc, hkc⟩ : ∃ kc, kc = k := ⟨_, rfl⟩
  have hk' : NestedIs s.heap kc key := hkc ▸ hk
  have dk' : kc.depth ≤ 8 := hkc ▸ dk
  have q0' : kc ∉ ns → Q none s := hkc ▸ q0
  have q1' : ∀ j, ns[j]? = some kc → Q (some j) s := hkc ▸ q1
  have mem : ∀ j, ns[j]? = some kc → j ∈ plc es (k.hash w) := fun j z => by
    rw [← hkc]
    exact plc_mem M z
  have ndp := plc_nodup es (k.hash w)
  have hst : ∀ u ∈ (plc es (k.hash w)).filterMap (fun i => es[i]?.map (·.key)), ∃ n, NestedIs s.heap n u ∧ n.depth ≤ 8 := fun u mu => by
    obtain ⟨j, mj, ej⟩ := List.mem_filterMap.mp mu
    obtain ⟨e, n, he, _, _, c, g⟩ := each j mj
    rw [he] at ej
    cases ej
    exact ⟨n, c, g⟩
  by_cases hs : (∃ x t, key = .str x t) ∧ (es.all fun e => isExactStrKey e.key) = true
  · obtain ⟨⟨x, t, rfl⟩, hs⟩ := hs
    cases hk
    dsimp only
    rw [if_pos hs]
    unfold foundByValue
    cases hf : es.findIdx? (fun e => e.key.isStr x) with
    | none =>
      refine wpAny_pure (q0 fun m => ?_)
      obtain ⟨j, hj⟩ := List.mem_iff_getElem?.mp m
      obtain ⟨e, he, _, hi, _⟩ := M.at_ j _ hj
      have z := Array.findIdx?_eq_none_iff.mp hf e (Array.mem_of_getElem? he)
      obtain ⟨h0, ky, v0⟩ := e
      cases hi
      simp [Value.isStr] at z
    | some i =>
      obtain ⟨lt, z, _⟩ := Array.findIdx?_eq_some_iff_getElem.mp hf
      obtain ⟨n, hn, hh, hi, dn⟩ := M.get (Array.getElem?_eq_getElem lt)
      have en : n = .text x := is_x hi z
      subst en
      simp only [Array.getElem?_eq_getElem lt]
      refine wpAny_bind (wpAny_dictEpoch ho hd (wpAny_bind (key_eq rm hi dn (.text x t) (wpAny_bind (wpAny_dictEpoch ho hd ?_)))))
      rw [if_neg (by simp), decide_eq_true rfl]
      exact wpAny_bind (wpAny_rule (wpAny_pure (q1 i hn)))
  · cases hk <;> dsimp only <;> (try rw [if_neg (fun z => hs ⟨⟨_, _, rfl⟩, z⟩)]) <;> refine wp_if (fun _ => mix_plain rm (hkc ▸ hk') dk ho hd M q0 q1) (fun _ => ?_) <;> (try refine wp_if (fun z => absurd z hany) fun _ => ?_) <;>
    refine wp_if (fun _ => wpAny_bind (wpAny_pure ?_)) (fun _ => wpAny_bind (tells_no hk' dk' hst ?_)) <;> (
    rw [if_neg (by simp)]
    refine wpAny_bind ?_
    refine wpAny_forIn_list _ (fun r b t => t = s ∧ b.1 = none ∧ ∃ pre, plc es (NestedKey.hash w _) = pre ++ r ∧ ((b.2 = none ∧ ∀ j ∈ pre, ns[j]? ≠ some kc) ∨ ∃ j ∈ pre, b.2 = some j ∧ ns[j]? = some kc)) _ ?_ ?_ _ _ ⟨rfl, rfl, [], rfl, .inl ⟨rfl, fun _ z => nomatch z⟩⟩
    · rintro j r ⟨b1, b2⟩ t ⟨rfl, rfl, pre, ep1, hp⟩
      have mj : j ∈ plc es (NestedKey.hash w _) := ep1 ▸ List.mem_append_right _ (List.mem_cons_self ..)
      have off : j ∉ pre := fun z => by
        rw [ep1] at ndp
        exact (List.nodup_append.mp ndp).2.2 j z j (List.mem_cons_self ..) rfl
      obtain ⟨e, n, he, hh, a, c, g⟩ := each j mj
      have ep2 := ep1.trans (show pre ++ j :: r = (pre ++ [j]) ++ r by rw [List.append_assoc]; rfl)
      have stay : n ≠ kc → ((b2 = none ∧ ∀ i ∈ pre ++ [j], ns[i]? ≠ some kc) ∨ ∃ i ∈ pre ++ [j], b2 = some i ∧ ns[i]? = some kc) := fun ne => by
        rcases hp with ⟨z, hp⟩ | ⟨i, mi, z, hi⟩
        · refine .inl ⟨z, fun i mi => ?_⟩
          rcases List.mem_append.mp mi with mi | mi
          · exact hp i mi
          · rw [List.mem_singleton.mp mi, a]
            exact fun z => ne (Option.some.inj z)
        · exact .inr ⟨i, List.mem_append_left _ mi, z, hi⟩
      simp only [he]
      rw [if_pos (by rw [hh]; exact beq_self_eq_true _)]
      refine wpAny_bind (wpAny_dictEpoch ho hd (wpAny_bind (key_eq rm c g hk' (wpAny_bind (wpAny_dictEpoch ho hd ?_)))))
      rw [if_neg (by simp)]
      by_cases e1 : n = kc
      · rw [decide_eq_true e1]
        have a' : ns[j]? = some kc := e1 ▸ a
        have b2n : b2 = none := by
          rcases hp with ⟨z, _⟩ | ⟨i, mi, _, hi⟩
          · exact z
          · exact absurd (nodup_at M.nd hi a' ▸ mi) off
        subst b2n
        simp only [Option.isSome_none, Bool.false_eq_true, if_false, if_true]
        refine wpAny_bind (wpAny_rule ?_)
        refine wp_if (fun _ => wpAny_pure (wpAny_pure (q1' j a'))) fun _ => wpAny_pure ⟨rfl, rfl, pre ++ [j], ep2, .inr ⟨j, List.mem_append_right _ (List.mem_singleton.mpr rfl), rfl, a'⟩⟩
      · rw [decide_eq_false e1]
        simp only [Bool.false_eq_true, if_false, Bool.false_and]
        exact wpAny_bind (wpAny_rule (wpAny_pure ⟨rfl, rfl, pre ++ [j], ep2, stay e1⟩))
    · rintro ⟨b1, b2⟩ t ⟨rfl, rfl, pre, ep1, hp⟩
      rw [List.append_nil] at ep1
      rcases hp with ⟨rfl, hp⟩ | ⟨i, mi, rfl, hi⟩
      · refine wpAny_pure (q0' fun m => ?_)
        obtain ⟨j, hj⟩ := List.mem_iff_getElem?.mp m
        exact hp j (ep1 ▸ mem j hj) hj
      · exact wpAny_pure (q1' i hi))
end
end RT

set_option maxHeartbeats 1000000
/-! the dict of numbers of things, by values -/
namespace RT
open PySem PySem.Spec PyProof.Rows L2
section
variable {P : Program} {w : World} {A : Around} {E : Value → Shared → Prop} {s : Shared} {d : Addr} {es : Array DictEntry} {ep : Nat} {ns : List NestedKey} {k : NestedKey} {key : Value}
theorem mix_get {Q : Option Value → Shared → Prop} (rm : A.units + 8 < cLine) (hk : NestedIs s.heap k key) (dk : k.depth ≤ 8) (R : s.heap.DictRaw d es ep) (M : MixE w s.heap es ns)
    (q0 : k ∉ ns → Q none { s with toks := s.toks + k.draws }) (q1 : ∀ (j : Nat) (e : DictEntry), ns[j]? = some k → es[j]? = some e → Q (some e.val) { s with toks := s.toks + k.draws }) : wpAny (model P w) A (dictGet d key) Q E s := by
  obtain ⟨o, ho, hx, hd⟩ := R
  unfold dictGet
  refine wpAny_holding (wpAny_bind (pyHash_key _ _ _ _ _ hk (by omega) (wpAny_bind (mix_find (s := { s with toks := s.toks + k.draws }) rm hk dk ho hd M (fun z => wpAny_pure (q0 z)) fun j z => ?_))))
  refine wpAny_bind (wpAny_dictEntries (s := { s with toks := s.toks + k.draws }) ho hd ?_)
  obtain ⟨e, he, _⟩ := M.at_ j k z
  rw [he]
  exact wpAny_pure (q1 j e z he)
theorem mix_contains {Q : Value → Shared → Prop} (rm : A.in1.units + 8 < cLine) (hd : (d == sysModules) = false) (hk : NestedIs s.heap k key) (dk : k.depth ≤ 8) (R : s.heap.DictRaw d es ep) (M : MixE w s.heap es ns)
    (q : Q (.bool (!decide (k ∈ ns))) { s with toks := s.toks + k.draws }) : wpAny (model P w) A (compareOp .NotIn key (.ref d)) Q E s := by
  have tail : wpAny (model P w) A (contains (.ref d) key) (fun b t => b = decide (k ∈ ns) ∧ t = { s with toks := s.toks + k.draws }) E s := by
    unfold contains
    refine wpAny_holding (wpAny_bind (wpAny_specialOf R.typeIs slot_dict_contains.lookup ?_))
    show wpAny _ _ (if (some (Value.builtin "dict.__contains__") == some Value.none) = true then _ else _) _ E s
    rw [if_neg (by rw [beq_builtin_none]; exact Bool.false_ne_true)]
    refine wpAny_bind (wpAny_callSpecialUnlessNone?_slot (name := Str.ofString "__contains__") R.typeIs slot_dict_contains (wpAny_call_entry slot_dict_contains R.typeIs entry_dict_contains ?_ (args_dict_contains _ _)))
    show wpAny _ _ (dictGet d key >>= _) _ _ s
    refine wpAny_bind (mix_get rm hk dk R M (fun z => ?_) fun j e z ez => ?_)
    · refine wpAny_bind (wpAny_pendingKey_other hd (wpAny_pure ⟨_, rfl, wpAny_truthy_bool ⟨(decide_eq_false z).symm, rfl⟩⟩))
    · exact wpAny_pure ⟨_, rfl, wpAny_truthy_bool ⟨(decide_eq_true (List.mem_of_getElem? z)).symm, rfl⟩⟩
  show wpAny _ _ (do return .bool !(← contains (.ref d) key)) Q E s
  refine wpAny_bind (wpAny_mono tail (fun b t ⟨e1, e2⟩ => ?_) fun _ _ z => z)
  subst e1
  subst e2
  exact wpAny_pure q
theorem mix_item {Q : Value → Shared → Prop} {j : Nat} {e : DictEntry} (rm : A.in1.units + 8 < cLine) (hk : NestedIs s.heap k key) (dk : k.depth ≤ 8) (R : s.heap.DictRaw d es ep) (M : MixE w s.heap es ns)
    (hj : ns[j]? = some k) (he : es[j]? = some e) (q : Q e.val { s with toks := s.toks + k.draws }) : wpAny (model P w) A (getItem (.ref d) key) Q E s := by
  unfold getItem
  refine wpAny_holding (wpAny_bind (wpAny_sequenceKey R.typeIs (by decide) ?_))
  refine wpAny_bind (wpAny_callSpecial?_slot (name := Str.ofString "__getitem__") R.typeIs slot_dict_getitem (wpAny_call_entry slot_dict_getitem R.typeIs entry_dict_getitem ?_ (args_dict_getitem _ _)))
  show wpAny _ _ (dictGet d key >>= _) _ _ s
  refine wpAny_bind (mix_get rm hk dk R M (fun z => absurd (List.mem_of_getElem? hj) z) fun i e2 z ez => ?_)
  have ij := nodup_at M.nd z hj
  subst ij
  rw [he] at ez
  cases ez
  exact wpAny_pure ⟨_, rfl, wpAny_pure q⟩
/-- a key that isn't there yet -/
theorem mix_put {v : Value} {Q : Unit → Shared → Prop} (rm : A.in1.units + 8 < cLine) (hk : NestedIs s.heap k key) (dk : k.depth ≤ 8) (R : s.heap.DictRaw d es ep) (M : MixE w s.heap es ns) (hn : k ∉ ns) (hz : es.size ≤ sizeLine)
    (q : ∀ h' : Heap, h'.DictRaw d (es.push ⟨k.hash w, key, v⟩) (ep + 1) → Heap.SameBut d s.heap h' → Q () { s with heap := h', toks := s.toks + k.draws }) : wpAny (model P w) A (setItem (.ref d) key v) Q E s := by
  obtain ⟨o, ho, hx, hd⟩ := id R
  unfold setItem
  refine wpAny_holding (wpAny_bind (wpAny_sequenceKey R.typeIs (by decide) ?_))
  refine wpAny_bind (wpAny_callSpecial?_slot (name := Str.ofString "__setitem__") R.typeIs slot_dict_setitem (wpAny_call_entry slot_dict_setitem R.typeIs entry_dict_setitem ?_ (args_dict_setitem _ _ _)))
  refine wpAny_bind (m := Builtin.Dict.notOrdered "__setitem__" _) (wpAny_notOrdered_dict R.typeIs ?_)
  refine wpAny_bind (m := dictSet d key v) ?_
  unfold dictSet
  refine wpAny_holding (wpAny_bind (pyHash_key _ _ _ _ _ hk (by omega) ?_))
  unfold dictSetHashed
  refine wpAny_holding (wpAny_bind (mix_find (s := { s with toks := s.toks + k.draws }) rm hk dk ho hd M (fun _ => ?_) fun j z => absurd (List.mem_of_getElem? z) hn))
  refine wpAny_bind (wpAny_rule (wpAny_updateDictKeys (hz := hz) (s := { s with toks := s.toks + k.draws }) ho hd (wpAny_pure ⟨.none, rfl, wpAny_pure (q _ ⟨_, Heap.get?_update_self _ ho (Obj.isFreed_of_dict (Obj.data_mapDictKeys hd _)), hx.mapDictKeys _, Obj.data_mapDictKeys hd _⟩ (Heap.SameBut.update ..))⟩)))
end
/-! ### over the hand layer -/
/-- a key: a text, a number, or a tuple of numbers with its place -/
inductive MK where
  | leaf (k : Key)
  | tup (b : Addr) (ns : List Int)
def MK.nk : MK → NestedKey
  | .leaf (.inl i) => .num i
  | .leaf (.inr x) => .text x
  | .tup _ ns => .tup (ns.map .num)
def MK.v : MK → V
  | .leaf k => kV k
  | .tup b _ => .ref b
/-- the key's tuple stands -/
def MK.at_ (H : Hp) : MK → Prop
  | .leaf _ => True
  | .tup b ns => H b = some (.tup (ns.map V.int))
theorem depthAll_nums : ∀ ns : List Int, NestedKey.depthAll (ns.map .num) = 0
  | [] => rfl
  | n :: r => by
    show max (NestedKey.depth (.num n)) (NestedKey.depthAll (r.map .num)) = 0
    rw [depthAll_nums r]
    rfl
theorem MK.depth (m : MK) : m.nk.depth ≤ 8 := by
  rcases m with (i | x) | ⟨b, ns⟩
  · exact Nat.zero_le _
  · exact Nat.zero_le _
  · show NestedKey.depthAll _ + 1 ≤ 8
    rw [depthAll_nums]
    decide
theorem all_nums {h : Heap} : ∀ {ns : List Int} {us : List Value}, Vals (ns.map V.int) us → NestedAll h (ns.map .num) us
  | [], _, r => by
    cases r
    exact .nil
  | n :: ns, _, r => by
    cases r with
    | cons r1 r2 =>
      obtain ⟨t, rfl⟩ := r1
      exact .cons (.int n t) (all_nums r2)
/-- the numbers given to the keys, in their order -/
def NumD (w : World) (ks : List MK) (d : Addr) (h : Heap) : Prop := (d == sysModules) = false ∧ ∃ (es : Array DictEntry) (ep : Nat), h.DictRaw d es ep ∧ es.size = ks.length ∧
  ∀ (i : Nat) (m : MK), ks[i]? = some m → ∃ (u : Value) (t : Tok), es[i]? = some ⟨m.nk.hash w, u, .int i t⟩ ∧ RelV m.v u
def numO (w : World) (ks : List MK) (d : Addr) : HO := .ext (NumD w ks d)
structure Nums (w : World) (H : Hp) (d : Addr) (ks : List MK) : Prop where
  d : H d = some (numO w ks d)
  tups : ∀ m ∈ ks, m.at_ H
  nd : (ks.map MK.nk).Nodup
  few : ks.length < sizeLine
theorem numD_at {w : World} {ks : List MK} {d : Addr} {h1 h2 : Heap} (x : NumD w ks d h1) (k : ∀ o, h1.get? d = some o → h2.get? d = some o) : NumD w ks d h2 := by
  obtain ⟨a, es, ep, R, r⟩ := x
  exact ⟨a, es, ep, R.at k, r⟩
theorem num_ok {P : Program} {w : World} {H : Hp} {h : Heap} {d : Addr} {ks : List MK} (x : NumD w ks d h) : ObjOk P w H h d (numO w ks d) := by
  refine ⟨x, ?_, fun h1 h2 y k => numD_at y k⟩
  obtain ⟨_, es, ep, ⟨o, ho, _⟩, _⟩ := x
  exact ⟨o, ho⟩
section
variable {X : Cx} {pins : List (Addr × Obj)} {σ : L2.St} {H : Hp} {s : Shared} {d : Addr} {ks : List MK} {m : MK}
theorem key_is {u : Value} (I : Inv X pins σ H s) (a : m.at_ H) (r : RelV m.v u) : NestedIs s.heap m.nk u := by
  rcases m with (i | x) | ⟨b, ns⟩
  · obtain ⟨t, rfl⟩ := (show ∃ t, u = Value.int i t from r)
    exact .int i t
  · obtain ⟨t, rfl⟩ := (show ∃ t, u = Value.str x t from r)
    exact .text x t
  · obtain rfl : u = .ref b := r
    obtain ⟨_, its, rv, o, h1, h2, n, h3⟩ := (show ObjOk X.prog X.w H s.heap b (.tup (ns.map V.int)) from I.hok b _ a)
    exact .tup h1 h2 h3 (all_nums rv)
theorem Nums.mix (I : Inv X pins σ H s) (N : Nums X.w H d ks) : (d == sysModules) = false ∧ ∃ (es : Array DictEntry) (ep : Nat), s.heap.DictRaw d es ep ∧ MixE X.w s.heap es (ks.map MK.nk) ∧ es.size = ks.length ∧
    ∀ (i : Nat) (m : MK), ks[i]? = some m → ∃ (u : Value) (t : Tok), es[i]? = some ⟨m.nk.hash X.w, u, .int i t⟩ ∧ RelV m.v u := by
  obtain ⟨⟨a, es, ep, R, sz, g⟩, _⟩ := (show ObjOk X.prog X.w H s.heap d (numO X.w ks d) from I.hok d _ N.d)
  refine ⟨a, es, ep, R, ⟨by rw [sz, List.length_map], fun i n e => ?_, N.nd⟩, sz, g⟩
  rw [List.getElem?_map] at e
  obtain ⟨m, em, rfl⟩ := Option.map_eq_some_iff.mp e
  obtain ⟨u, t, eu, ru⟩ := g i m em
  exact ⟨_, eu, rfl, key_is I (N.tups m (List.mem_of_getElem? em)) ru, m.depth⟩
end
/-- key not in d -/
def rNumNotIn (w : World) : R2 := fun x y H Q => ∃ d ks m, y = .ref d ∧ Nums w H d ks ∧ x = MK.v m ∧ m.at_ H ∧ Q (.bl (!decide (m.nk ∈ ks.map MK.nk))) H
def rNumIx (w : World) : R2 := fun x y H Q => ∃ d ks m, ∃ j : Nat, x = .ref d ∧ Nums w H d ks ∧ y = MK.v m ∧ m.at_ H ∧ (ks.map MK.nk)[j]? = some m.nk ∧ Q (.int j) H
def rNumLen (w : World) : List V → Hp → VK → Prop := fun xs H Q => ∃ d ks, xs = [.ref d] ∧ Nums w H d ks ∧ Q (.int (ks.length : Nat)) H
def sNum (w : World) : L2.TSet := fun o i v H Q => ∃ d ks m, o = .ref d ∧ Nums w H d ks ∧ i = MK.v m ∧ m.at_ H ∧ m.nk ∉ ks.map MK.nk ∧ v = .int (ks.length : Nat) ∧ Q (upd H d (numO w (ks ++ [m]) d))
section
variable {X : Cx}
theorem op_numNotIn (hu : X.A.units + 65 < cLine) : OpR X (compareOp .NotIn) (rNumNotIn X.w) := by
  intro pins s σ H x y v u Q I rx ry h
  obtain ⟨d, ks, m, rfl, N, rfl, a, q⟩ := h
  obtain rfl : u = .ref d := ry
  obtain ⟨ns, es, ep, R, M, _⟩ := N.mix I
  exact mix_contains (by rw [Around.in1_units]; omega) ns (key_is I a rx) m.depth R M ⟨.bl _, H, I.tok _, rfl, q⟩
theorem ix_num (hu : X.A.units + 65 < cLine) : IxR X (rNumIx X.w) := by
  intro value slice pins s σ H x y v u Q I rx ry h hs
  obtain ⟨d, ks, m, j, rfl, N, rfl, a, hj, q⟩ := h
  obtain rfl : v = .ref d := rx
  obtain ⟨ns, es, ep, R, M, _, g⟩ := N.mix I
  have hj2 := hj
  rw [List.getElem?_map] at hj2
  obtain ⟨m2, em, e2⟩ := Option.map_eq_some_iff.mp hj2
  obtain ⟨u2, t2, eu, ru⟩ := g j m2 em
  exact tail_any R.typeIs slot_dict_getitem.lookup (mix_item (by rw [Around.in1_units]; omega) (key_is I a ry) m.depth R M hj eu ⟨.int j, H, I.tok _, ⟨t2, rfl⟩, q⟩) hs
theorem call_lenNum : CallR X (.builtin "len") (rNumLen X.w) := by
  intro pins s σ H xs us Q I r h
  obtain ⟨d, ks, rfl, N, q⟩ := h
  obtain ⟨u, rfl, rx⟩ := vals1 r
  obtain rfl : u = .ref d := rx
  obtain ⟨ns, es, ep, R, M, sz, _⟩ := N.mix I
  have few := N.few
  rw [sizeLine_eq] at few
  refine call_len_slot (n := ks.length) R.typeIs PySem.F.slot_dict_len (fun Q' hq => call_len_raw ns R (by rw [sz]; exact hq)) (by omega) (by omega) ⟨.int ks.length, H, I.tok _, ⟨_, rfl⟩, q⟩
theorem set_num (hu : X.A.units + 65 < cLine) : PSet X (sNum X.w) := by
  intro pins s σ H o i v ov iv u Q I ro ri rv h
  obtain ⟨d, ks, m, rfl, N, rfl, a, new, rfl, q⟩ := h
  obtain rfl : ov = .ref d := ro
  obtain ⟨ns, es, ep, R, M, sz, g⟩ := N.mix I
  have few := N.few
  obtain ⟨t, rfl⟩ := rv
  refine mix_put (by rw [Around.in1_units]; omega) (key_is I a ri) m.depth R M new (by rw [sz]; omega) fun h' R' sb => ⟨_, ?_, q⟩
  have dn : NumD X.w (ks ++ [m]) d h' := by
    refine ⟨ns, _, _, R', by rw [Array.size_push, List.length_append, sz]; rfl, fun j m2 e => ?_⟩
    rcases Nat.lt_or_ge j ks.length with lt | ge
    · rw [List.getElem?_append_left lt] at e
      obtain ⟨u2, t2, e2, r2⟩ := g j m2 e
      refine ⟨u2, t2, ?_, r2⟩
      rw [Array.getElem?_push_lt (by rw [sz]; exact lt), ← Array.getElem?_eq_getElem]
      exact e2
    · rw [List.getElem?_append_right ge] at e
      have ej : j = ks.length := by
        have := (List.getElem?_eq_some_iff.mp e).1
        simp only [List.length_cons, List.length_nil] at this
        omega
      subst ej
      rw [Nat.sub_self] at e
      cases e
      refine ⟨iv, t, ?_, ri⟩
      rw [← sz]
      exact Array.getElem?_push_size ..
  exact d_write I (by rw [N.d]; exact True.intro) sb (let ⟨o, ho, _⟩ := R'; ⟨o, ho⟩) (num_ok dn)
/-- {}, to be such a dict -/
def tNumNew (w : World) : TE := fun _ H Q => ∀ p, H p = none → Q (.ref p) (upd H p (numO w [] p))
theorem pe_numNew {pos : Pos} : PE X (.Dict [] [] pos) (tNumNew X.w) := ⟨fun pins s σ H Q I h => by
  refine wpAny_Dict_empty ⟨.ref s.heap.objs.size, _, I.laid (a := s.heap.objs.size) (o := numO X.w [] s.heap.objs.size) (t' := s.toks) (fun _ _ q => Heap.get?_push_of_some _ q) (Nat.le_refl _) (num_ok ⟨?_, #[], 0, ⟨_, Heap.get?_push_size _ rfl, ⟨rfl, rfl, rfl⟩, rfl⟩, rfl, fun i m e => ?_⟩), rfl, h _ (I.hok.fresh (Nat.le_refl _))⟩
  · exact beq_eq_false_iff_ne.mpr (Ne.symm (Nat.ne_of_lt I.big))
  · simp at e⟩
theorem nums_new {w : World} {H : Hp} {p : Addr} (h : H p = some (numO w [] p)) : Nums w H p [] := ⟨h, fun _ z => (nomatch z), List.nodup_nil, by rw [sizeLine_eq]; decide⟩
end
end RT

set_option maxHeartbeats 1000000
/-! del xs[a:], t[::-1] -/
namespace RT
open PySem PySem.Spec PyProof.Rows L2
theorem taken {α : Type} (sel : Nat → Bool) (a : Nat) : ∀ (xs : List α) (off : Nat), (∀ k, off ≤ k → k < off + xs.length → sel k = decide (a ≤ k)) →
    ((xs.zipIdx off).filterMap fun p => if sel p.2 = true then none else some p.1) = xs.take (a - off)
  | [], off, _ => by simp
  | x :: r, off, h => by
    rw [List.zipIdx_cons, List.filterMap_cons]
    have h0 := h off (Nat.le_refl _) (by rw [List.length_cons]; omega)
    have ih := taken sel a r (off + 1) fun k k1 k2 => h k (by omega) (by rw [List.length_cons]; omega)
    by_cases c : a ≤ off
    · rw [decide_eq_true c] at h0
      simp only [h0, if_true, ih]
      rw [show a - off = 0 by omega, show a - (off + 1) = 0 by omega]
      rfl
    · rw [decide_eq_false c] at h0
      simp only [h0, Bool.false_eq_true, if_false, ih]
      rw [show a - off = (a - (off + 1)) + 1 by omega]
      rfl
theorem tail_run {a n : Nat} (ha : a ≤ n) : sliceBounds (some (a : Int)) none none n = ((a : Int), (n : Int), 1) := by
  have h1 : ¬ ((a : Int) < 0) := by omega
  simp only [sliceBounds, Option.getD_none, h1, if_false, show (1 : Int) > 0 by decide, if_true]
  congr 1
  omega
section
variable {P : Program} {w : World} {A : Around} {E : Value → Shared → Prop} {s : Shared}
theorem del_tail {l sl : Addr} {items : Array Value} {n a : Nat} {vl vu : Value} {Q : Unit → Shared → Prop} (e : s.heap.get? l = some { cls := .type "list", data := .seq items n }) (hs : s.heap.IsSliceOf sl vl vu .none)
    (pl : IsPart vl (some (a : Int))) (pu : IsPart vu none) (ha : a ≤ items.size) (hz : items.size ≤ sizeLine) (q : ∀ f : Array Value → Array Value, f items = (items.toList.take a).toArray → Q () { s with heap := s.heap.update l (Obj.mapSeq f) }) :
    wpAny (model P w) A (delItem (.ref l) (.ref sl)) Q E s := by
  have il : s.heap.IsList l items := PySem.IsL.isList e
  obtain ⟨os, hos, hcs, hds⟩ := id hs
  have ty : s.TypeIs (.ref sl) "slice" := ⟨os, hos, hcs⟩
  have nostep : ¬ ((rawPart none == rawInt 0) = true) := Bool.false_ne_true
  refine wpAny_delItem_slot il.typeIs (by decide) PySem.F.slot_list_delitem (wpAny_call_entry PySem.F.slot_list_delitem il.typeIs PySem.F.entry_list_delitem ?_ (PySem.F.args_list_delitem_2 _ _))
  show wpAny _ _ (Builtin.List.listSubscript? (.ref sl) >>= _) _ _ s
  refine wpAny_bind ?_
  unfold Builtin.List.listSubscript?
  refine wpAny_bind (wpAny_specialOf ty slice_no_index (wpAny_pure ?_))
  show wpAny _ _ (typeOf (.ref sl) >>= _) _ _ s
  refine wpAny_bind (wpAny_typeOf ty ?_)
  rw [if_neg (by decide), listSliceParts_eq]
  refine wpAny_bind (wpAny_bind (wpAny_field hos hds (x := .none) rfl (wpAny_bind (wpAny_listPart .none ?_))))
  rw [if_neg nostep]
  refine wpAny_bind (wpAny_field hos hds (x := vl) rfl (wpAny_bind (wpAny_listPart pl ?_)))
  refine wpAny_bind (wpAny_field hos hds (x := vu) rfl (wpAny_bind (wpAny_listPart pu (wpAny_pure ?_))))
  unfold Builtin.List.listItems
  refine wpAny_bind (wpAny_bind (wpAny_seqItems e rfl (wpAny_pure ?_)))
  refine wpAny_bind (wpAny_of_eq ((sliceIndices_raw (some (a : Int)) none none items.size (by simp)).trans (congrArg (pure : Int × Int × Int → Sem (Int × Int × Int)) (tail_run ha))) ?_)
  refine wpAny_bind (wpAny_rule ?_)
  have ff : (List.filterMap (fun p : Value × Nat => if (if (1 : Int) > 0 then (decide ((a : Int) ≤ (p.2 : Int)) && decide ((p.2 : Int) < (items.size : Int)) && ((p.2 : Int) - (a : Int)) % 1 == 0) else (decide ((items.size : Int) < (p.2 : Int)) && decide ((p.2 : Int) ≤ (a : Int)) && ((a : Int) - (p.2 : Int)) % (-1) == 0)) = true then none else some p.1) items.toList.zipIdx).toArray = (items.toList.take a).toArray := by
    refine congrArg List.toArray ?_
    refine (taken (fun k => if (1 : Int) > 0 then (decide ((a : Int) ≤ (k : Int)) && decide ((k : Int) < (items.size : Int)) && ((k : Int) - (a : Int)) % 1 == 0) else (decide ((items.size : Int) < (k : Int)) && decide ((k : Int) ≤ (a : Int)) && ((a : Int) - (k : Int)) % (-1) == 0)) a items.toList 0 fun k _ k2 => ?_).trans (by rw [Nat.sub_zero])
    rw [Nat.zero_add, Array.length_toList] at k2
    rw [if_pos (by decide), Int.emod_one]
    have h2 : decide ((k : Int) < (items.size : Int)) = true := decide_eq_true (by omega)
    rw [h2, Bool.and_true]
    by_cases c : a ≤ k
    · rw [decide_eq_true c, decide_eq_true (show (a : Int) ≤ (k : Int) by omega)]
      rfl
    · rw [decide_eq_false c, decide_eq_false (show ¬ (a : Int) ≤ (k : Int) by omega)]
      rfl
  have q' := q (fun xs => (List.filterMap (fun p : Value × Nat => if (if (1 : Int) > 0 then (decide ((a : Int) ≤ (p.2 : Int)) && decide ((p.2 : Int) < (items.size : Int)) && ((p.2 : Int) - (a : Int)) % 1 == 0) else (decide ((items.size : Int) < (p.2 : Int)) && decide ((p.2 : Int) ≤ (a : Int)) && ((a : Int) - (p.2 : Int)) % (-1) == 0)) = true then none else some p.1) xs.toList.zipIdx).toArray) ff
  refine wpAny_bind (m := Builtin.List.listUpdate (.ref l) _) ?_
  refine wpAny_updateSeq (hz := hz) (_hz' := ?sz) e rfl ?wp
  case sz =>
    refine Nat.le_trans ?_ (Nat.le_succ_of_le hz)
    rw [List.size_toArray]
    refine Nat.le_trans (List.length_filterMap_le _ _) ?_
    rw [List.length_zipIdx, Array.length_toList]
    exact Nat.le_refl _
  case wp => exact wpAny_bind (wpAny_letGo (wpAny_pure ⟨.none, rfl, q'⟩))
end
/-- del xs[a:] -/
def tDelT (to ti : TE) : TS := fun D σ H => to σ H fun x H1 => tPart ti σ H1 fun z H2 => ∃ (l : Addr) (xs : List V) (a : Nat), x = .ref l ∧ z = some ((a : Nat) : Int) ∧ H2 l = some (.lst xs) ∧ a ≤ xs.length ∧ D.nx σ (upd H2 l (.lst (xs.take a)))
section
variable {X : Cx}
theorem ps_delT {o i : Expr} {to ti : TE} {p1 p2 pos : Pos} (ho : PE X o to) (hi : PE X i ti) : PS X (.Delete [.Subscript o (.Slice (some i) none none p1) p2] pos) (tDelT to ti) := by
  refine ⟨fun pins s σ H D I h => ?_⟩
  refine wpAny_Delete (wpAny_deleteEach_cons (wpAny_delete_Subscript (thn (ho.run pins s σ H _ I h) fun u s1 ⟨x, H1, I1, rx, q1⟩ => ?_)))
  refine wpAny_Slice (thn ((po_some hi).run pins s1 σ H1 (fun z H2 => ∃ (l : Addr) (xs : List V) (a : Nat), x = .ref l ∧ z = some ((a : Nat) : Int) ∧ H2 l = some (.lst xs) ∧ a ≤ xs.length ∧ D.nx σ (upd H2 l (.lst (xs.take a)))) I1 q1) fun vl s2 ⟨z, H2, I2, pl, q2⟩ => ?_)
  · refine thn (po_none.run pins s2 σ H2 (fun z H3 => z = none ∧ H3 = H2) I2 ⟨rfl, rfl⟩) fun vu s3 ⟨z3, H3, I3, pu, e3, e4⟩ => ?_
    subst e3 e4
    rw [evalPart_none]
    refine wpAny_pure ?_
    obtain ⟨l, xs, a, ex, ez, hH, ha, q⟩ := q2
    subst ex ez
    obtain rfl : u = .ref l := rx
    have I4 : Inv X pins σ H3 { s3 with heap := s3.heap.push { cls := .type "slice", data := .fields #[vl, vu, .none] } } := I3.kept (t' := s3.toks) fun b ob q => Heap.get?_push_of_some _ q
    obtain ⟨z, its, n, r, hl, e⟩ := I4.lstM hH
    refine del_tail e (Heap.IsSliceOf.new ..) pl pu (by rw [List.size_toArray]; omega) (by rw [List.size_toArray]; omega) fun f hf => wpAny_deleteEach_nil ⟨σ, _, ?_, q⟩
    exact I4.lset (its' := its.take a) (t' := s3.toks) hH e (by rw [hf]) (r.take a) (by rw [List.length_take]; omega)
end
/-! ### t[::-1] -/
theorem back_adjust (n : Nat) : Builtin.Slice.sliceAdjust none none (-1) (n : Int) = ((n : Int) - 1, -1) := by
  unfold Builtin.Slice.sliceAdjust
  first | rfl | simp
theorem back_places (n : Nat) : Builtin.Slice.slicePlaces ((n : Int) - 1) (-1) (-1) = n := by
  unfold Builtin.Slice.slicePlaces
  first | omega | (split <;> omega) | (simp; omega) | (split <;> (try split) <;> simp <;> omega)
theorem fm_congr {α β : Type} {f g : α → Option β} : ∀ l : List α, (∀ x ∈ l, f x = g x) → l.filterMap f = l.filterMap g
  | [], _ => rfl
  | x :: r, h => by
    rw [List.filterMap_cons, List.filterMap_cons, h x (List.mem_cons_self ..), fm_congr r fun y m => h y (List.mem_cons_of_mem _ m)]
theorem back_pick (xs : Array Value) : ((List.range xs.size).filterMap fun (k : Nat) => xs[(((xs.size : Int) - 1) + (k : Int) * (-1)).toNat]?).toArray = xs.toList.reverse.toArray := by
  have e : (List.range xs.size).filterMap (fun (k : Nat) => xs[(((xs.size : Int) - 1) + (k : Int) * (-1)).toNat]?) = ((List.range xs.size).map fun k => xs.size - 1 - k).filterMap (xs[·]?) := by
    rw [List.filterMap_map]
    refine fm_congr _ fun k hk => ?_
    have := List.mem_range.mp hk
    show xs[(((xs.size : Int) - 1) + (k : Int) * (-1)).toNat]? = xs[xs.size - 1 - k]?
    rw [show (((xs.size : Int) - 1) + (k : Int) * (-1)).toNat = xs.size - 1 - k by omega]
  rw [e, PySem.W.krv_range, List.filterMap_reverse, PySem.W.krv_all]
section
variable {P : Program} {w : World} {A : Around} {E : Value → Shared → Prop} {s : Shared}
theorem back_tuple {t sl : Addr} {items : Array Value} {vl vu vs : Value} {Q : Value → Shared → Prop} (ht : IsTup s.heap t items) (hs : s.heap.IsSliceOf sl vl vu vs) (pl : IsPart vl none) (pu : IsPart vu none) (ps : IsPart vs (some (-1))) (hz : items.size ≤ sizeLine)
    (q : Q (.ref s.heap.objs.size) { s with heap := s.heap.push { cls := .type "tuple", data := .seq items.toList.reverse.toArray } }) : wpAny (model P w) A (getItem (.ref t) (.ref sl)) Q E s := by
  obtain ⟨os, hos, hcs, hds⟩ := id hs
  have ty : s.TypeIs (.ref sl) "slice" := ⟨os, hos, hcs⟩
  have fits : sizeOk (.seq items.toList.reverse.toArray) := by
    show items.toList.reverse.toArray.size ≤ sizeLine
    rw [List.size_toArray, List.length_reverse, Array.length_toList]
    exact hz
  unfold getItem
  refine wpAny_holding (wpAny_bind (wpAny_sequenceKey ht.typeIs (by decide) ?_))
  refine wpAny_bind (wpAny_callSpecial?_slot (name := Str.ofString "__getitem__") ht.typeIs PyProof.Rows.slot_tuple_getitem (wpAny_call_entry PyProof.Rows.slot_tuple_getitem ht.typeIs entry_tuple_getitem ?_ (args_tuple_getitem _ _)))
  show wpAny _ _ (Builtin.Tuple.tupleItemsOf (.ref t) >>= _) _ _ s
  refine wpAny_bind (tupleItemsOf_ ht (wpAny_bind (wpAny_typeOf ty ?_)))
  rw [if_pos (by decide)]
  have ap : wpAny (model P w) A.in1 (Builtin.Slice.sliceApplied (.ref sl) (pure (items.size : Int))) (fun r s' => r = (((items.size : Int) - 1), -1, items.size) ∧ s' = s) E s := by
    unfold Builtin.Slice.sliceApplied Builtin.Slice.sliceFields
    refine wpAny_bind (wpAny_bind (wpAny_field hos hds (x := vl) rfl (wpAny_bind (wpAny_field hos hds (x := vu) rfl (wpAny_bind (wpAny_field hos hds (x := vs) rfl (wpAny_pure ?_)))))))
    refine wpAny_bind (HT.slicePart_ ps ?_)
    show wpAny _ _ (if ((-1 : Int) == 0) = true then _ else _) _ _ s
    rw [if_neg (by decide)]
    refine wpAny_bind (HT.slicePart_ pl (wpAny_bind (HT.slicePart_ pu (wpAny_bind (wpAny_pure ?_)))))
    show wpAny _ _ (match Builtin.Slice.sliceAdjust none none (-1) (items.size : Int) with | (lo, hi) => pure (lo, (-1 : Int), Builtin.Slice.slicePlaces lo hi (-1))) _ _ s
    rw [back_adjust]
    show wpAny _ _ (pure ((items.size : Int) - 1, (-1 : Int), Builtin.Slice.slicePlaces ((items.size : Int) - 1) (-1) (-1))) _ _ s
    rw [back_places]
    exact wpAny_pure ⟨rfl, rfl⟩
  refine wpAny_bind (wpAny_mono ap (fun r s' ⟨e1, e2⟩ => ?_) fun _ _ z => z)
  subst e1 e2
  dsimp only
  rw [if_neg (by simp), back_pick]
  exact wpAny_bind (m := Builtin.Tuple.tupleExact _) (wpAny_newObj_type (wpAny_pure ⟨_, rfl, wpAny_pure q⟩) fits)
end
def tRevT (K : PySem.W.Frag) (te : TE) : TE := fun σ H Q => te σ H fun x H1 => ∃ a xs, x = .ref a ∧ SqT K H1 a xs ∧ ∀ p, H1 p = none → Q (.ref p) (upd H1 p (.tup xs.reverse))
section
variable {X : Cx}
theorem pe_revT {e : Expr} {te : TE} {k : Nat} {p1 p2 p3 pos : Pos} (he : PE X e te) : PE X (.Subscript e (.Slice none none (some (.UnaryOp .USub (.Constant (.int 1) k p1) p2)) p3) pos) (tRevT X.K te) := by
  have minus : PO X (some (.UnaryOp .USub (.Constant (.int 1) k p1) p2)) (tPart (tUn (rU fun i => .int (-i)) (tC (.int 1)))) := po_some (pe_un un_neg pe_int)
  refine ⟨fun pins s σ H Q I h => Subscript_ (thn (he.run pins s σ H _ I h) fun v s1 ⟨x, H1, I1, r1, a, xs, ex, hx, q⟩ => ?_)⟩
  subst ex
  obtain rfl : v = .ref a := r1
  refine wpAny_Slice (thn (po_none.run pins s1 σ H1 (fun o H2 => o = none ∧ H2 = H1) I1 ⟨rfl, rfl⟩) fun vl s2 ⟨o2, H2, I2, pl, el, e2⟩ => ?_)
  subst el e2
  refine thn (po_none.run pins s2 σ H2 (fun o H3 => o = none ∧ H3 = H2) I2 ⟨rfl, rfl⟩) fun vu s3 ⟨o3, H3, I3, pu, eu, e3⟩ => ?_
  subst eu e3
  refine thn (minus.run pins s3 σ H3 (fun o H4 => o = some (-1) ∧ H4 = H3) I3 ⟨1, rfl, -1, rfl, rfl, rfl⟩) fun vs s4 ⟨o4, H4, I4, ps, eo, e4⟩ => ?_
  subst eo e4
  have I5 : Inv X pins σ H4 { s4 with heap := s4.heap.push { cls := .type "slice", data := .fields #[vl, vu, vs] } } := I4.kept (t' := s4.toks) fun b ob q => Heap.get?_push_of_some _ q
  obtain ⟨its, r, ht, hz⟩ := I5.tuple hx
  have len := r.length
  refine tail_any (ops := [.ref a, .ref s4.heap.objs.size]) ht.typeIs PyProof.Rows.slot_tuple_getitem.lookup ?_ (by with_unfolding_all rfl)
  refine back_tuple ht (Heap.IsSliceOf.new _ vl vu vs) pl pu ps (by rw [List.size_toArray]; omega) ?_
  refine ⟨.ref _, _, I5.laid (t' := s4.toks) (o := .tup xs.reverse) (fun b ob q => Heap.get?_push_of_some _ q) (Nat.le_refl _) ?_, rfl, q _ (I5.hok.fresh (Nat.le_refl _))⟩
  exact ⟨by rw [List.length_reverse]; exact hz, _, r.reverse, IsTup.new _ _⟩
end
end RT

set_option maxHeartbeats 1000000
/-! numbers of things -/
namespace RT
open PySem PySem.Spec PyProof.Rows L2
abbrev sTN : Stmt := topS 9
abbrev sTNi : Stmt := inClass sTN 0
abbrev sTNn : Stmt := inClass sTN 1
abbrev sTNk : Stmt := inClass sTN 2
theorem scTNi : FnScope ["self"] ["self"] (defScope sTNi) := ⟨rfl, rfl, rfl, by decide +kernel, rfl, by decide +kernel, by decide +kernel⟩
theorem scTNn : FnScope ["self", "thing", "todo", "done", "part", "ready", "start", "key", "inner"] ["self", "thing"] (defScope sTNn) := ⟨rfl, rfl, rfl, by decide +kernel, rfl, by decide +kernel, by decide +kernel⟩
theorem scTNk : FnScope ["self", "key"] ["self", "key"] (defScope sTNk) := ⟨rfl, rfl, rfl, by decide +kernel, rfl, by decide +kernel, by decide +kernel⟩
/-! ### what a number denotes -/
mutual
inductive Den (ns : List NestedKey) : Nat → RT.D → Prop
  | str {n : Nat} {z : Str} : ns[n]? = some (.text z) → Den ns n (.str z)
  | int {n : Nat} {i : Int} : ns[n]? = some (.num i) → Den ns n (.int i)
  | tup {n : Nat} {ms : List Nat} {ds : List RT.D} : ns[n]? = some (.tup ((ms.map fun m : Nat => (m : Int)).map .num)) → Dens ns ms ds → Den ns n (.tup ds)
inductive Dens (ns : List NestedKey) : List Nat → List RT.D → Prop
  | nil : Dens ns [] []
  | cons {m : Nat} {ms : List Nat} {d : RT.D} {ds : List RT.D} : Den ns m d → Dens ns ms ds → Dens ns (m :: ms) (d :: ds)
end
theorem nums_inj : ∀ {a b : List Nat}, (a.map fun m : Nat => (m : Int)).map NestedKey.num = (b.map fun m : Nat => (m : Int)).map NestedKey.num → a = b
  | [], [], _ => rfl
  | [], _ :: _, h => by simp at h
  | _ :: _, [], h => by simp at h
  | x :: a, y :: b, h => by
    simp only [List.map_cons, List.cons.injEq, NestedKey.num.injEq] at h
    rw [nums_inj h.2, Int.ofNat_inj.mp h.1]
mutual
theorem Den.inj {ns : List NestedKey} : ∀ {n : Nat} {d e : RT.D}, Den ns n d → Den ns n e → d = e
  | _, _, _, .str a, .str b => by
    rw [a] at b
    cases b
    rfl
  | _, _, _, .int a, .int b => by
    rw [a] at b
    cases b
    rfl
  | _, _, _, .tup a r, .tup b q => by
    rw [a] at b
    have e := nums_inj (NestedKey.tup.inj (Option.some.inj b))
    subst e
    rw [Dens.inj r q]
  | _, _, _, .str a, .int b | _, _, _, .int a, .str b | _, _, _, .str a, .tup b _ | _, _, _, .tup a _, .str b | _, _, _, .int a, .tup b _ | _, _, _, .tup a _, .int b => by
    rw [a] at b
    cases b
theorem Dens.inj {ns : List NestedKey} : ∀ {ms : List Nat} {ds es : List RT.D}, Dens ns ms ds → Dens ns ms es → ds = es
  | _, _, _, .nil, .nil => rfl
  | _, _, _, .cons a r, .cons b q => by rw [Den.inj a b, Dens.inj r q]
end
theorem pre_at {α : Type} {xs ys : List α} {n : Nat} {x : α} (p : xs <+: ys) (h : xs[n]? = some x) : ys[n]? = some x := by
  obtain ⟨r, rfl⟩ := p
  rw [List.getElem?_append_left (List.getElem?_eq_some_iff.mp h).1]
  exact h
mutual
theorem Den.mono {ns ns' : List NestedKey} (p : ns <+: ns') : ∀ {n : Nat} {d : RT.D}, Den ns n d → Den ns' n d
  | _, _, .str a => .str (pre_at p a)
  | _, _, .int a => .int (pre_at p a)
  | _, _, .tup a r => .tup (pre_at p a) (Dens.mono p r)
theorem Dens.mono {ns ns' : List NestedKey} (p : ns <+: ns') : ∀ {ms : List Nat} {ds : List RT.D}, Dens ns ms ds → Dens ns' ms ds
  | _, _, .nil => .nil
  | _, _, .cons a r => .cons (Den.mono p a) (Dens.mono p r)
end
theorem Dens.len {ns : List NestedKey} : ∀ {ms : List Nat} {ds : List RT.D}, Dens ns ms ds → ms.length = ds.length
  | _, _, .nil => rfl
  | _, _, .cons _ r => by rw [List.length_cons, List.length_cons, Dens.len r]
theorem Dens.app {ns : List NestedKey} : ∀ {ms us : List Nat} {ds es : List RT.D}, Dens ns ms ds → Dens ns us es → Dens ns (ms ++ us) (ds ++ es)
  | _, _, _, _, .nil, q => q
  | _, _, _, _, .cons a r, q => .cons a (Dens.app r q)
theorem Dens.split {ns : List NestedKey} : ∀ {ms : List Nat} {ds es : List RT.D}, Dens ns ms (ds ++ es) → Dens ns (ms.take ds.length) ds ∧ Dens ns (ms.drop ds.length) es
  | _, [], _, r => ⟨by simp; exact .nil, r⟩
  | _, _ :: ds, _, .cons a r => by
    obtain ⟨x, y⟩ := Dens.split (ds := ds) r
    exact ⟨.cons a x, y⟩
/-! ### what is to be done -/
inductive Tk where
  | visit (d : RT.D)
  | close (ds : List RT.D)
def Tk.thing : Tk → RT.D
  | .visit d => d
  | .close ds => .tup ds
def Tk.flag : Tk → Bool
  | .visit _ => false
  | .close _ => true
def Tk.cost : Tk → Nat
  | .visit d => 3 * d.size
  | .close _ => 1
def costs : List Tk → Nat
  | [] => 0
  | t :: r => t.cost + costs r
theorem costs_app : ∀ a b : List Tk, costs (a ++ b) = costs a + costs b
  | [], b => by simp [costs]
  | t :: a, b => by
    show t.cost + costs (a ++ b) = t.cost + costs a + costs b
    rw [costs_app a b]
    omega
theorem costs_visits : ∀ ds : List RT.D, costs (ds.map .visit) = 3 * D.sizes ds
  | [] => rfl
  | d :: r => by
    show 3 * d.size + costs (r.map .visit) = 3 * (d.size + D.sizes r)
    rw [costs_visits r]
    omega
/-- done by these the things ds become the thing t -/
inductive Valid (t : RT.D) : List Tk → List RT.D → Prop
  | fin : Valid t [] [t]
  | visit {d : RT.D} {r : List Tk} {ds : List RT.D} : Valid t r (ds ++ [d]) → Valid t (.visit d :: r) ds
  | close {ds0 ds : List RT.D} {r : List Tk} : Valid t r (ds0 ++ [.tup ds]) → Valid t (.close ds :: r) (ds0 ++ ds)
theorem Valid.visits {t : RT.D} : ∀ (es : List RT.D) {r : List Tk} {ds : List RT.D}, Valid t r (ds ++ es) → Valid t (es.map .visit ++ r) ds
  | [], r, ds, h => by simpa using h
  | e :: es, r, ds, h => .visit (Valid.visits es (by rw [List.append_assoc]; exact h))
/-! ### tuples stay -/
abbrev TS (H H' : Hp) : Prop := ∀ (b : Addr) (vs : List V), H b = some (.tup vs) → H' b = some (.tup vs)
theorem TS.new {H : Hp} {p : Addr} {o : HO} (n : H p = none) : TS H (upd H p o) := fun b vs e => by rw [upd_ne (ne_of_none e n)]; exact e
theorem TS.put {H : Hp} {p : Addr} {o u : HO} (e : H p = some u) (h : ∀ vs, u ≠ .tup vs) : TS H (upd H p o) := fun b vs q => by
  rw [upd_ne (ne_of q e fun z => h _ z.symm)]
  exact q
theorem TS.trans {H H1 H2 : Hp} (a : TS H H1) (b : TS H1 H2) : TS H H2 := fun c vs e => b c vs (a c vs e)
mutual
theorem Rp.ts {H H' : Hp} (k : TS H H') : ∀ {v : V} {d : RT.D}, Rp H v d → Rp H' v d
  | _, _, .str z => .str z
  | _, _, .int => .int
  | _, _, .non => .non
  | _, _, .tup e r => .tup (k _ _ e) (Rps.ts k r)
theorem Rps.ts {H H' : Hp} (k : TS H H') : ∀ {vs : List V} {ds : List RT.D}, Rps H vs ds → Rps H' vs ds
  | _, _, .nil => .nil
  | _, _, .cons r t => .cons (r.ts k) (Rps.ts k t)
end
theorem mk_ts {H H' : Hp} {m : MK} (a : m.at_ H) (k : TS H H') : m.at_ H' := by
  rcases m with _ | ⟨b, ns⟩
  · exact True.intro
  · exact k _ _ a
theorem Nums.keep {w : World} {H H' : Hp} {d : Addr} {ks : List MK} (N : Nums w H d ks) (e : H' d = H d) (k : TS H H') : Nums w H' d ks := ⟨e.trans N.d, fun m h => mk_ts (N.tups m h) k, N.nd, N.few⟩
theorem room_of {k : Nat} {A : Around} (hr : Room k A) : A.units + 65 < cLine := by
  have := hr.un
  omega
/-- an object that numbers things -/
structure TnAt (w : World) (C : Addr) (H : Hp) (x d : Addr) (ks : List MK) : Prop where
  ob : ∃ dx, H x = some (.ins C dx [("known", .ref d)])
  nums : Nums w H d ks
theorem TnAt.keep {w : World} {C : Addr} {H H' : Hp} {x d : Addr} {ks : List MK} (N : TnAt w C H x d ks) (e : H' d = H d) (e2 : H' x = H x) (k : TS H H') : TnAt w C H' x d ks := by
  obtain ⟨dx, h⟩ := N.ob
  exact ⟨⟨dx, e2.trans h⟩, N.nums.keep e k⟩
theorem TnAt.new {w : World} {C : Addr} {H : Hp} {x d : Addr} {ks : List MK} (N : TnAt w C H x d ks) {p : Addr} {o : HO} (n : H p = none) : TnAt w C (upd H p o) x d ks := by
  obtain ⟨dx, h⟩ := N.ob
  exact N.keep (upd_ne (ne_of_none N.nums.d n)) (upd_ne (ne_of_none h n)) (TS.new n)
theorem TnAt.lst {w : World} {C : Addr} {H : Hp} {x d : Addr} {ks : List MK} (N : TnAt w C H x d ks) {p : Addr} {o : HO} {xs : List V} (e : H p = some (.lst xs)) : TnAt w C (upd H p o) x d ks := by
  obtain ⟨dx, h⟩ := N.ob
  exact N.keep (upd_ne (ne_of N.nums.d e fun z => by cases z)) (upd_ne (ne_of h e fun z => by cases z)) (TS.put e fun _ z => by cases z)
/-- what the walk asks of the class -/
structure TnCls (K : PySem.W.Frag) (mg : Str → Option Value) (C : Addr) : Prop where
  cl : Cls K C
  nK : NoAttr K C "known"
theorem known_lookup (d : Addr) : ([(("known" : Str), V.ref d)] : List (Str × V)).lookup ("known" : Str) = some (V.ref d) := rfl
theorem known_no (d : Addr) {m : Str} (h : ¬ m = "known") : ([(("known" : Str), V.ref d)] : List (Str × V)).lookup m = none := by
  rw [List.lookup_cons, beq_eq_false_iff_ne.mpr h]
  rfl
section
variable {P : Program} {w : World} {K : PySem.W.Frag} {mg : Str → Option Value} {base : Heap}
def spTNi (w : World) (C : Addr) : Sp := fun vs H Q _ => ∃ (x dx : Addr), vs = [.ref x] ∧ H x = some (.ins C dx []) ∧ ∀ (d : Addr) (H' : Hp), H d = none → TnAt w C H' x d [] → (∀ b o, H b = some o → b ≠ x → H' b = some o) → Q .non H'
theorem ok_tni {f C : Addr} {fd : FuncData} {k : Nat} (F : Fun K "__init__" "ThingNumbers.__init__" sTNi f fd) (T : TnCls K mg C) : FnOk P w K mg base CX0 (k + 1) f fd ["self"] (spTNi w C) := by
  refine F.ok scTNi (fun vs H Q E h => ?_) (fun cdv A outer s H vs Q E hr h => ?_)
  · obtain ⟨x, dx, rfl, _⟩ := h
    rfl
  · obtain ⟨x, dx, rfl, hx, q⟩ := h
    refine ⟨_, pss_one (ps_fld (pv 0) pe_numNew rfl), ?_⟩
    intro d nd
    have ne : x ≠ d := ne_of_none hx nd
    refine ⟨_, rfl, x, C, dx, [], rfl, (by rw [upd_ne ne]; exact hx), T.cl, T.nK, (by show 0 < 1000; decide), ?_⟩
    refine q d _ nd ⟨⟨dx, upd_same⟩, nums_new ?_⟩ fun b o e hb => ?_
    · rw [upd_ne ne.symm]
      exact upd_same
    · rw [upd_ne hb, upd_ne (ne_of_none e nd)]
      exact e
def spTNk (w : World) (C : Addr) : Sp := fun vs H Q _ => ∃ (x d : Addr) (ks : List MK) (m : MK), vs = [.ref x, m.v] ∧ TnAt w C H x d ks ∧ m.at_ H ∧ ks.length ≤ 100000 ∧
  ∀ (j : Nat) (ks' : List MK) (H' : Hp), ks.map MK.nk <+: ks'.map MK.nk → ks'.length ≤ ks.length + 1 → (ks'.map MK.nk)[j]? = some m.nk → TnAt w C H' x d ks' → Kp (fun b => b = d) H H' → TS H H' → Q (.int (j : Nat)) H'
theorem ok_tnk {f C : Addr} {fd : FuncData} {k : Nat} (F : Fun K "keyed" "ThingNumbers.keyed" sTNk f fd) (T : TnCls K mg C) (ml : mg "len" = none) : FnOk P w K mg base CX0 (k + 1) f fd ["self", "key"] (spTNk w C) := by
  refine F.ok scTNk (fun vs H Q E h => ?_) (fun cdv A outer s H vs Q E hr h => ?_)
  · obtain ⟨x, d, ks, m, rfl, _⟩ := h
    rfl
  · obtain ⟨x, d, ks, m, rfl, N, a, few, q⟩ := h
    have hu := room_of hr
    obtain ⟨⟨dx, hx⟩, Nn⟩ := id N
    refine ⟨_, pss_cons (ps_if (pt_cmpR (op_numNotIn hu) (pv 1) (pe_fld (pv 0) rfl) (by rfl)) (pss_one (ps_asg (pe_callB call_lenNum (by rfl) ml PySem.boot_len (pa_cons (pe_fld (pv 0) rfl) pa_nil)) (pg_sub (pe_fld (pv 0) rfl) (pv 1) (set_num hu)))) pss_nil)
      (pss_one (ps_ret (pe_ix (ix_num hu) (pe_fld (pv 0) rfl) (pv 1) (fun _ _ => rfl)))), ?_⟩
    refine ⟨_, rfl, _, rfl, x, C, dx, _, _, rfl, hx, T.cl, T.nK, known_lookup d, d, ks, m, rfl, Nn, rfl, a, _, rfl, ?_⟩
    by_cases c : m.nk ∈ ks.map MK.nk
    · rw [decide_eq_true c]
      refine iteF ?_
      obtain ⟨j, hj⟩ := List.mem_iff_getElem?.mp c
      refine ⟨_, rfl, x, C, dx, _, _, rfl, hx, T.cl, T.nK, known_lookup d, _, rfl, d, ks, m, j, rfl, Nn, rfl, a, hj, ?_⟩
      exact q j ks H List.prefix_rfl (by omega) hj N Kp.refl fun _ _ e => e
    · rw [decide_eq_false c]
      refine iteT ?_
      refine ⟨_, rfl, x, C, dx, _, _, rfl, hx, T.cl, T.nK, known_lookup d, d, ks, rfl, Nn, ?_⟩
      refine ⟨_, rfl, x, C, dx, _, _, rfl, hx, T.cl, T.nK, known_lookup d, _, rfl, d, ks, m, rfl, Nn, rfl, a, c, rfl, ?_⟩
      have ts : TS H (upd H d (numO w (ks ++ [m]) d)) := TS.put Nn.d fun _ z => by cases z
      have em : (ks ++ [m]).map MK.nk = ks.map MK.nk ++ [m.nk] := by rw [List.map_append]; rfl
      have N' : TnAt w C (upd H d (numO w (ks ++ [m]) d)) x d (ks ++ [m]) := by
        refine ⟨⟨dx, ?_⟩, upd_same, fun m2 h2 => ?_, ?_, ?_⟩
        · rw [upd_ne (ne_of hx Nn.d fun z => by cases z)]
          exact hx
        · rcases List.mem_append.mp h2 with h2 | h2
          · exact mk_ts (Nn.tups m2 h2) ts
          · rw [List.mem_singleton.mp h2]
            exact mk_ts a ts
        · rw [em, List.nodup_append]
          refine ⟨Nn.nd, by simp, fun u hu v hv e => ?_⟩
          rw [List.mem_singleton.mp hv] at e
          exact c (e ▸ hu)
        · rw [List.length_append, sizeLine_eq]
          show _ + 1 < _
          omega
      have hj : ((ks ++ [m]).map MK.nk)[ks.length]? = some m.nk := by
        rw [em, List.getElem?_append_right (by rw [List.length_map]; exact Nat.le_refl _), List.length_map, Nat.sub_self]
        rfl
      obtain ⟨⟨dx2, hx2⟩, Nn2⟩ := id N'
      refine ⟨_, rfl, x, C, dx2, _, _, rfl, hx2, T.cl, T.nK, known_lookup d, _, rfl, d, _, m, ks.length, rfl, Nn2, rfl, mk_ts a ts, hj, ?_⟩
      exact q _ _ _ (by rw [em]; exact List.prefix_append _ _) (by rw [List.length_append]; exact Nat.le_refl _) hj N' (Kp.put rfl) ts
end
end RT

set_option maxHeartbeats 1000000
/-! the number of a thing -/
namespace RT
open PySem PySem.Spec PyProof.Rows L2
/-- a stack of what is to be done, the top first -/
inductive TksAt (H : Hp) : List V → List Tk → Prop
  | nil : TksAt H [] []
  | cons {p : Addr} {u : V} {t : Tk} {vs : List V} {r : List Tk} : H p = some (.tup [u, .bl t.flag]) → Rp H u t.thing → t.thing.thing → TksAt H vs r → TksAt H (.ref p :: vs) (t :: r)
theorem TksAt.ts {H H' : Hp} (k : TS H H') : ∀ {vs : List V} {tk : List Tk}, TksAt H vs tk → TksAt H' vs tk
  | _, _, .nil => .nil
  | _, _, .cons a b c r => .cons (k _ _ a) (b.ts k) c (TksAt.ts k r)
theorem TksAt.len {H : Hp} : ∀ {vs : List V} {tk : List Tk}, TksAt H vs tk → vs.length = tk.length
  | _, _, .nil => rfl
  | _, _, .cons _ _ _ r => by rw [List.length_cons, List.length_cons, TksAt.len r]
theorem TksAt.app {H : Hp} : ∀ {vs us : List V} {tk sk : List Tk}, TksAt H vs tk → TksAt H us sk → TksAt H (vs ++ us) (tk ++ sk)
  | _, _, _, _, .nil, q => q
  | _, _, _, _, .cons a b c r, q => .cons a b c (TksAt.app r q)
theorem TksAt.rev {H : Hp} : ∀ {vs : List V} {tk : List Tk}, TksAt H vs tk → TksAt H vs.reverse tk.reverse
  | _, _, .nil => .nil
  | _, _, .cons a b c r => by
    rw [List.reverse_cons, List.reverse_cons]
    exact TksAt.app (TksAt.rev r) (.cons a b c .nil)
theorem costs_len : ∀ t : List Tk, t.length ≤ costs t
  | [] => Nat.zero_le _
  | t :: r => by
    have h := costs_len r
    have h1 : 1 ≤ t.cost := by
      rcases t with d | ds
      · have := d.size_pos
        show 1 ≤ 3 * d.size
        omega
      · exact Nat.le_refl _
    show r.length + 1 ≤ t.cost + costs r
    omega
theorem Rps.rev {H : Hp} : ∀ {vs : List V} {ds : List RT.D}, Rps H vs ds → Rps H vs.reverse ds.reverse
  | _, _, .nil => .nil
  | _, _, .cons a r => by
    rw [List.reverse_cons, List.reverse_cons]
    exact Rps.app (Rps.rev r) (.cons a .nil)
theorem Rps.pos {H : Hp} : ∀ {vs : List V} {ds : List RT.D} {i : Nat} {v : V}, Rps H vs ds → vs[i]? = some v → ∃ d, ds[i]? = some d ∧ Rp H v d
  | _, _, 0, _, .cons a _, h => by
    cases h
    exact ⟨_, rfl, a⟩
  | _, _, i + 1, _, .cons _ r, h => Rps.pos (i := i) r (by simpa using h)
theorem things_at : ∀ {ds : List RT.D} {i : Nat} {d : RT.D}, D.things ds → ds[i]? = some d → d.thing
  | _ :: _, 0, _, h, e => by
    cases e
    exact h.1
  | _ :: _, i + 1, _, h, e => things_at (i := i) h.2 (by simpa using e)
theorem things_rev : ∀ {ds : List RT.D}, D.things ds → D.things ds.reverse
  | [], _ => True.intro
  | d :: r, h => by
    rw [List.reverse_cons]
    exact D.things_app (things_rev h.2) ⟨h.1, True.intro⟩
theorem cut_from (xs : List V) (a : Nat) (h : a ≤ xs.length) : cutV xs (some (a : Int)) none = xs.drop a := by
  unfold cutV
  rw [HT.sIx_none, HT.sIx_nat, Nat.min_eq_left h]
  exact List.take_of_length_le (by rw [List.length_drop]; exact Nat.le_refl _)
/-- how it stands within the loop -/
structure NI (w : World) (C : Addr) (H0 H : Hp) (x d a2 a3 : Addr) (vs : List V) (tks : List Tk) (ns : List Nat) (ds : List RT.D) (ks : List MK) : Prop where
  ne : a2 ≠ a3
  n2 : H0 a2 = none
  n3 : H0 a3 = none
  todo : H a2 = some (.lst vs)
  tasks : TksAt H vs.reverse tks
  done : H a3 = some (.lst (ns.map fun n : Nat => V.int (n : Int)))
  dens : Dens (ks.map MK.nk) ns ds
  tn : TnAt w C H x d ks
  kp : Kp (fun b => b = d) H0 H
  ts : TS H0 H
section
variable {w : World} {C : Addr} {H0 H : Hp} {x d a2 a3 : Addr} {vs : List V} {tks : List Tk} {ns : List Nat} {ds : List RT.D} {ks : List MK}
theorem NI.new (N : NI w C H0 H x d a2 a3 vs tks ns ds ks) {p : Addr} {o : HO} (n : H p = none) : NI w C H0 (upd H p o) x d a2 a3 vs tks ns ds ks :=
  ⟨N.ne, N.n2, N.n3, by rw [upd_ne (ne_of_none N.todo n)]; exact N.todo, N.tasks.ts (TS.new n), by rw [upd_ne (ne_of_none N.done n)]; exact N.done, N.dens, N.tn.new n, N.kp.trans (Kp.new n), N.ts.trans (TS.new n)⟩
theorem NI.off2 (N : NI w C H0 H x d a2 a3 vs tks ns ds ks) {o : HO} : Kp (fun b => b = d) H0 (upd H a2 o) := fun b u nb e => by
  rw [upd_ne (ne_of_none e N.n2)]
  exact N.kp b u nb e
theorem NI.off3 (N : NI w C H0 H x d a2 a3 vs tks ns ds ks) {o : HO} : Kp (fun b => b = d) H0 (upd H a3 o) := fun b u nb e => by
  rw [upd_ne (ne_of_none e N.n3)]
  exact N.kp b u nb e
theorem NI.put2 (N : NI w C H0 H x d a2 a3 vs tks ns ds ks) {us : List V} {sk : List Tk} (t : TksAt H us.reverse sk) : NI w C H0 (upd H a2 (.lst us)) x d a2 a3 us sk ns ds ks := by
  have ts : TS H (upd H a2 (.lst us)) := TS.put N.todo fun _ z => by cases z
  exact ⟨N.ne, N.n2, N.n3, upd_same, t.ts ts, by rw [upd_ne N.ne.symm]; exact N.done, N.dens, N.tn.lst N.todo, N.off2, N.ts.trans ts⟩
theorem NI.put3 (N : NI w C H0 H x d a2 a3 vs tks ns ds ks) {ms : List Nat} {es : List RT.D} (t : Dens (ks.map MK.nk) ms es) : NI w C H0 (upd H a3 (.lst (ms.map fun n : Nat => V.int (n : Int)))) x d a2 a3 vs tks ms es ks := by
  have ts : TS H (upd H a3 (.lst (ms.map fun n : Nat => V.int (n : Int)))) := TS.put N.done fun _ z => by cases z
  exact ⟨N.ne, N.n2, N.n3, by rw [upd_ne N.ne]; exact N.todo, N.tasks.ts ts, upd_same, t, N.tn.lst N.done, N.off3, N.ts.trans ts⟩
theorem NI.all (N : NI w C H0 H x d a2 a3 vs tks ns ds ks) {H' : Hp} (k : Kp M0 H H') : NI w C H0 H' x d a2 a3 vs tks ns ds ks := by
  have a : ∀ b o, H b = some o → H' b = some o := fun b o e => k b o (fun z => z) e
  obtain ⟨dx, hx⟩ := N.tn.ob
  have ts : TS H H' := fun b vs e => a _ _ e
  exact ⟨N.ne, N.n2, N.n3, a _ _ N.todo, N.tasks.ts ts, a _ _ N.done, N.dens, N.tn.keep ((a _ _ N.tn.nums.d).trans N.tn.nums.d.symm) ((a _ _ hx).trans hx.symm) ts, N.kp.trans (k.mono fun _ z => z.elim), N.ts.trans ts⟩
/-- behind keyed -/
theorem NI.keyed (N : NI w C H0 H x d a2 a3 vs tks ns ds ks) {ks' : List MK} {H' : Hp} (p : ks.map MK.nk <+: ks'.map MK.nk) (t : TnAt w C H' x d ks') (k : Kp (fun b => b = d) H H') (ts : TS H H') : NI w C H0 H' x d a2 a3 vs tks ns ds ks' :=
  ⟨N.ne, N.n2, N.n3, k _ _ (ne_of N.todo N.tn.nums.d fun z => by cases z) N.todo, N.tasks.ts ts, k _ _ (ne_of N.done N.tn.nums.d fun z => by cases z) N.done, N.dens.mono p, t, N.kp.trans k, N.ts.trans ts⟩
end
/-- [(inner, False) for inner in part[::-1]] -/
theorem lc_visits {K : PySem.W.Frag} {b : Addr} {xs : List V} {es : List RT.D} {g : TG} {te : TE} {vs : List Nat} {σ : L2.St} {H1 : Hp} {Da : Addr} {Qd : Hp → Prop} (hM : xs.length ≤ 100000) (eb : H1 b = some (.tup xs)) (r : Rps H1 xs es) (th : D.things es) (nD : H1 Da = none)
    (he : ∀ (u : V) (H4 : Hp) (Q : VK) (N : Hp → Prop), (∀ p, H4 p = none → Q (.ref p) (upd H4 p (.tup [u, .bl false]))) → g u (wipe σ vs) H4 fun σ2 H2 => wipe σ2 vs = wipe σ vs ∧ tYes σ2 H2 fun c H3 => if c = true then te σ2 H3 Q else N H3)
    (hd : ∀ (H : Hp) (acc : List V), Kp M0 H1 H → H Da = some (.lst acc) → TksAt H acc (es.map .visit) → Qd H) :
    ∃ W : Nat → Nat → Hp → Prop, (∃ m, W 0 m (upd H1 Da (.lst []))) ∧ ∀ i m H, W i m H →
      ((Itt K b).stop i H ∧ Qd H) ∨ ((Itt K b).go i H ∧ ∃ Nx : Hp → Prop, (∀ H', Nx H' → ∃ m', m' < m ∧ W (i + 1) m' H') ∧ ∀ x H', (Itt K b).yld i H x H' → g x (wipe σ vs) H' fun σ2 H2 => wipe σ2 vs = wipe σ vs ∧ tYes σ2 H2 fun c H3 =>
        if c = true then te σ2 H3 fun y H4 => ∃ acc, H4 Da = some (.lst acc) ∧ acc.length < sizeLine ∧ Nx (upd H4 Da (.lst (acc ++ [y]))) else Nx H3) := by
  refine lc_tup (xs := xs) (fun i H => Kp M0 H1 H ∧ ∃ acc, H Da = some (.lst acc) ∧ acc.length = i ∧ TksAt H acc ((es.take i).map .visit)) ?_ ?_ ?_ ?_
  · exact ⟨Kp.new nD, [], upd_same, rfl, .nil⟩
  · exact fun i H _ h => SqT.of (h.1 _ _ (fun z => z) eb)
  · rintro i u H4 hx ⟨k4, acc, e4, el, t4⟩
    have hi : i < xs.length := (List.getElem?_eq_some_iff.mp hx).1
    obtain ⟨e, he1, re⟩ := r.pos hx
    refine he u H4 _ _ fun p np => ⟨acc, ?_, ?_, ?_, acc ++ [.ref p], upd_same, by rw [List.length_append, el]; rfl, ?_⟩
    · rw [upd_ne (ne_of_none e4 np)]
      exact e4
    · rw [el, sizeLine_eq]
      omega
    · exact (k4.trans (Kp.new np)).own nD
    · have n1 : Da ≠ p := ne_of_none e4 np
      have ts : TS H4 (upd (upd H4 p (.tup [u, .bl false])) Da (.lst (acc ++ [.ref p]))) := (TS.new np).trans (TS.put (by rw [upd_ne n1]; exact e4) fun _ z => by cases z)
      rw [List.take_add_one, he1, List.map_append]
      refine TksAt.app (t4.ts ts) (.cons (t := .visit e) (by rw [upd_ne n1.symm]; exact upd_same) ((re.ts fun b vs q => k4 _ _ (fun z => z) q).ts ts) (things_at th he1) .nil)
  · rintro H4 ⟨k4, acc, e4, el, t4⟩
    refine hd H4 acc k4 e4 ?_
    rw [r.len, List.take_length] at t4
    exact t4
def spTNn (w : World) (C : Addr) : Sp := fun vs H Q _ => ∃ (x d : Addr) (ks : List MK) (v : V) (t : RT.D), vs = [.ref x, v] ∧ TnAt w C H x d ks ∧ Rp H v t ∧ t.thing ∧ ks.length + 3 * t.size ≤ 100000 ∧
  ∀ (n : Nat) (ks' : List MK) (H' : Hp), ks.map MK.nk <+: ks'.map MK.nk → ks'.length ≤ ks.length + 3 * t.size → Den (ks'.map MK.nk) n t → TnAt w C H' x d ks' → Kp (fun b => b = d) H H' → TS H H' → Q (.int (n : Nat)) H'
end RT

set_option maxHeartbeats 2000000
/-! the number of a thing, by the loop -/
namespace RT
open PySem PySem.Spec PyProof.Rows L2
section
variable {P : Program} {w : World} {K : PySem.W.Frag} {mg : Str → Option Value} {base : Heap}
theorem ok_tnn {f C fk : Addr} {fd fdk : FuncData} {k : Nat} (F : Fun K "number" "ThingNumbers.number" sTNn f fd) (T : TnCls K mg C) (GK : FnOk P w K mg base CX0 k fk fdk ["self", "key"] (spTNk w C)) (mk : Meth K C "keyed" fk) (bk : Binds K fdk ["self", "key"] [])
    (mi : mg "isinstance" = none) (mtu : mg "tuple" = none) (ml : mg "len" = none) : FnOk P w K mg base CX0 (k + 1) f fd ["self", "thing"] (spTNn w C) := by
  refine F.ok scTNn (fun vs H Q E h => ?_) (fun cdv A outer s H vs Q E hr h => ?_)
  · obtain ⟨x, d, ks, v, t, rfl, _⟩ := h
    rfl
  · obtain ⟨x, d, ks, v, t, rfl, N0, rv, th, few, q⟩ := h
    refine ⟨_, pss_cons (ps_set (i := 2) scTNn.nd rfl (.inl rfl) (pe_lst (pa_cons (pe_tup (pa_cons (pv 1) (pa_cons pe_bl pa_nil))) pa_nil)))
      (pss_cons (ps_set (i := 3) scTNn.nd rfl (.inl rfl) (pe_lst pa_nil))
      (pss_cons (ps_while PassesOwn.never (pt_truth (pv 2) (by intro _; rfl))
        (pss_cons (ps_asg (pe_bm0 PySem.F.plainAttrs_list PySem.F.slot_list_pop PySem.F.type_list_pop mt_pop (pv 2)) (pg_tup rfl (pgs_cons (pg_name (i := 4) scTNn.nd rfl (.inl rfl)) (pgs_cons (pg_name (i := 5) scTNn.nd rfl (.inl rfl)) pgs_nil))))
        (pss_one (ps_if (pt_not (pt_val (pe_callB call_isi (by rfl) mi (by decide +kernel) (pa_cons (pv 4) (pa_cons (pe_bltn (v := .ty "tuple") (by rfl) mtu (by decide +kernel) rfl) pa_nil)))))
          (pss_one (ps_expr (pe_bm PySem.F.plainAttrs_list PySem.F.slot_list_append PySem.F.type_list_append mt_append (pv 3) (pa_cons (pe_meth (pv 0) T.cl mk GK hr bk .nil pass0 (pa_cons (pv 4) pa_nil)) pa_nil))))
          (pss_one (ps_if (pt_val (pv 5))
            (pss_cons (ps_set (i := 6) scTNn.nd rfl (.inl rfl) (pe_op op_sub (pe_callB call_len_seq (by rfl) ml PySem.boot_len (pa_cons (pv 3) pa_nil)) (pe_callB call_len_seq (by rfl) ml PySem.boot_len (pa_cons (pv 4) pa_nil))))
            (pss_cons (ps_set (i := 7) scTNn.nd rfl (.inl rfl) (pe_callTy call_tuple_of (by rfl) mtu (by decide +kernel) (pa_cons (pe_slice sl_list (pv 3) (po_some (pv 6)) po_none) pa_nil)))
            (pss_cons (ps_delT (pv 3) (pv 6))
            (pss_one (ps_expr (pe_bm PySem.F.plainAttrs_list PySem.F.slot_list_append PySem.F.type_list_append mt_append (pv 3) (pa_cons (pe_meth (pv 0) T.cl mk GK hr bk .nil pass0 (pa_cons (pv 7) pa_nil)) pa_nil)))))))
            (pss_cons (ps_expr (pe_bm PySem.F.plainAttrs_list PySem.F.slot_list_append PySem.F.type_list_append mt_append (pv 2) (pa_cons (pe_tup (pa_cons (pv 4) (pa_cons pe_bl pa_nil))) pa_nil)))
            (pss_one (ps_expr (pe_bm PySem.F.plainAttrs_list PySem.F.slot_list_extend PySem.F.type_list_extend mt_extend (pv 2) (pa_cons
              (pe_lc (own := [("inner", 8)]) (g := gName 8) (tt := tYes) rfl scTNn.nd (pi_tup (pe_revT (pv 4))) (blkOk_by (N := ["self", "thing", "todo", "done", "part", "ready", "start", "key", "inner"]) (sc := defScope sTNn) (by decide +kernel)) (fun _ _ _ _ _ => pg_name (i := 8) scTNn.nd rfl (.inl rfl)) (fun _ _ _ _ _ => pts_nil) (fun _ _ _ _ _ => pe_tup (pa_cons (pv 8) (pa_cons pe_bl pa_nil)))) pa_nil)))))))))))
      (pss_one (ps_ret (pe_ix ix_list (pv 3) pe_int (fun _ _ => rfl)))))), ?_⟩
    have line : (1000000 : Nat) ≤ sizeLine := by rw [sizeLine_eq]; decide
    -- todo, done
    refine ⟨_, rfl, by show 2 ≤ sizeLine; omega, fun p np => ⟨by show 1 ≤ sizeLine; omega, fun a2 n2 => ?_⟩⟩
    have p2 : p ≠ a2 := fun e => by
      rw [← e, upd_same] at n2
      cases n2
    have n2' : H a2 = none := by
      rw [upd_ne p2.symm] at n2
      exact n2
    refine ⟨Nat.zero_le _, fun a3 n3 => ?_⟩
    have n32 : a3 ≠ a2 := fun e => by
      rw [e, upd_same] at n3
      cases n3
    rw [upd_ne n32] at n3
    have n3p : a3 ≠ p := fun e => by
      rw [e, upd_same] at n3
      cases n3
    have n3' : H a3 = none := by
      rw [upd_ne n3p] at n3
      exact n3
    have start : NI w C H (upd (upd (upd H p (.tup [v, .bl false])) a2 (.lst [.ref p])) a3 (.lst [])) x d a2 a3 [.ref p] [.visit t] [] [] ks := by
      have t1 : TS H (upd H p (.tup [v, .bl false])) := TS.new np
      have t2 := t1.trans (TS.new (o := .lst [.ref p]) n2)
      have t3 := t2.trans (TS.new (o := .lst []) (by rw [upd_ne n32]; exact n3))
      refine ⟨n32.symm, n2', n3', by rw [upd_ne n32.symm]; exact upd_same, .cons (t := .visit t) ?_ (rv.ts t3) th .nil, upd_same, .nil, ((N0.new np).new n2).new (by rw [upd_ne n32]; exact n3), ?_, t3⟩
      · rw [upd_ne n3p.symm, upd_ne p2]
        exact upd_same
      · exact ((Kp.new np).trans (Kp.new n2)).trans (Kp.new (by rw [upd_ne n32]; exact n3))
    generalize upd (upd (upd H p (.tup [v, .bl false])) a2 (.lst [.ref p])) a3 (.lst []) = H1 at start ⊢
    refine ⟨fun n σ H2 => ∃ (vs : List V) (tks : List Tk) (ns : List Nat) (ds : List RT.D) (ks' : List MK) (y4 y5 y6 y7 y8 : Option V), σ = [some (.ref x), some v, some (.ref a2), some (.ref a3), y4, y5, y6, y7, y8] ∧ n = costs tks ∧ NI w C H H2 x d a2 a3 vs tks ns ds ks' ∧ Valid t tks ds ∧
        ks.map MK.nk <+: ks'.map MK.nk ∧ ks'.length + costs tks ≤ ks.length + 3 * t.size ∧ ns.length + costs tks ≤ 3 * t.size,
      ⟨_, [.ref p], [.visit t], [], [], ks, none, none, none, none, none, rfl, rfl, start, .visit .fin, List.prefix_rfl, Nat.le_refl _, by show 0 + (3 * t.size + 0) ≤ _; omega⟩, ?_⟩
    rintro n σ H2 ⟨vs, tks, ns, ds, ks', y4, y5, y6, y7, y8, rfl, rfl, N, V0, pf, c1, c2⟩
    have lv : vs.length = tks.length := by rw [← N.tasks.len, List.length_reverse]
    have cl := costs_len tks
    cases tks with
    | nil =>
      have ev : vs = [] := List.eq_nil_of_length_eq_zero lv
      subst ev
      refine ⟨_, rfl, false, .inl ⟨[], SqL.of N.todo, rfl⟩, iteF ?_⟩
      cases V0
      obtain ⟨m, rfl⟩ : ∃ m, ns = [m] := by
        have := N.dens.len
        rcases ns with _ | ⟨m, _ | ⟨m2, r⟩⟩
        · cases this
        · exact ⟨m, rfl⟩
        · cases this
      refine ⟨_, rfl, a3, _, _, .int (m : Nat), rfl, rfl, SqL.of N.done, atI_nat rfl, ?_⟩
      have dn : Den (ks'.map MK.nk) m t := by
        cases N.dens with
        | cons a _ => exact a
      exact q m ks' H2 pf (by omega) dn N.tn N.kp N.ts
    | cons tk r =>
      obtain ⟨us, pt, rfl⟩ : ∃ us pt, vs = us ++ [pt] := by
        have : vs ≠ [] := fun e => by
          rw [e] at lv
          cases lv
        exact ⟨_, _, (List.dropLast_concat_getLast this).symm⟩
      have tk0 := N.tasks
      rw [List.reverse_append] at tk0
      obtain ⟨pa, rfl⟩ : ∃ pa, pt = .ref pa := by
        cases tk0
        exact ⟨_, rfl⟩
      obtain ⟨u, ep, ru, thu, rest⟩ : ∃ u, H2 pa = some (.tup [u, .bl tk.flag]) ∧ Rp H2 u tk.thing ∧ tk.thing.thing ∧ TksAt H2 us.reverse r := by
        cases tk0 with
        | cons a b c e => exact ⟨_, a, b, c, e⟩
      have ctk : costs (tk :: r) = tk.cost + costs r := rfl
      rw [ctk] at c1 c2 cl
      rw [List.length_append] at lv
      refine ⟨_, rfl, true, .inl ⟨us ++ [.ref pa], SqL.of N.todo, by cases us <;> rfl⟩, iteT ?_⟩
      refine ⟨fun σ' H' => ∃ (vs : List V) (tks : List Tk) (ns : List Nat) (ds : List RT.D) (ks' : List MK) (y4 y5 y6 y7 y8 : Option V), σ' = [some (.ref x), some v, some (.ref a2), some (.ref a3), y4, y5, y6, y7, y8] ∧ costs tks < costs (tk :: r) ∧ NI w C H H' x d a2 a3 vs tks ns ds ks' ∧ Valid t tks ds ∧
          ks.map MK.nk <+: ks'.map MK.nk ∧ ks'.length + costs tks ≤ ks.length + 3 * t.size ∧ ns.length + costs tks ≤ 3 * t.size,
        fun σ' H' ⟨vs, tks, ns, ds, ks', y4, y5, y6, y7, y8, e1, e2, r⟩ => ⟨_, e2, vs, tks, ns, ds, ks', y4, y5, y6, y7, y8, e1, rfl, r⟩, ?_⟩
      refine ⟨_, rfl, .inl ⟨rfl, _, SqL.of N.todo⟩, a2, us ++ [.ref pa], .ref pa, rfl, rfl, N.todo, by rw [List.length_append]; simp, ?_⟩
      rw [List.dropLast_concat]
      have N3 := N.put2 (us := us) rest
      have ts3 : TS H2 (upd H2 a2 (.lst us)) := TS.put N.todo fun _ z => by cases z
      have ep3 := ts3 _ _ ep
      have ru3 := ru.ts ts3
      generalize upd H2 a2 (.lst us) = H3 at N3 ep3 ru3 ⊢
      refine ⟨pa, _, rfl, SqT.of ep3, rfl, _, _, rfl, _, _, rfl, rfl, ?_⟩
      obtain ⟨dx, hx⟩ := N3.tn.ob
      have c1' : ks'.length ≤ 100000 := by omega
      have cns : ns.length < sizeLine := by omega
      have last : ∀ (dd : RT.D) (ns1 : List Nat) (ds1 : List RT.D) (j : Nat) (ks2 : List MK) (H4 : Hp) (z4 z5 z6 z7 z8 : Option V), NI w C H H4 x d a2 a3 us r ns1 ds1 ks2 → ns1.length ≤ ns.length → 1 ≤ tk.cost → Den (ks2.map MK.nk) j dd → Valid t r (ds1 ++ [dd]) →
          ks'.map MK.nk <+: ks2.map MK.nk → ks2.length ≤ ks'.length + 1 →
          ∃ (vs : List V) (tks : List Tk) (ns : List Nat) (ds : List RT.D) (ks' : List MK) (y4 y5 y6 y7 y8 : Option V), [some (V.ref x), some v, some (.ref a2), some (.ref a3), z4, z5, z6, z7, z8] = [some (.ref x), some v, some (.ref a2), some (.ref a3), y4, y5, y6, y7, y8] ∧ costs tks < costs (tk :: r) ∧
            NI w C H (upd H4 a3 (.lst (ns1.map (fun n : Nat => V.int (n : Int)) ++ [V.int (j : Nat)]))) x d a2 a3 vs tks ns ds ks' ∧ Valid t tks ds ∧ ks.map MK.nk <+: ks'.map MK.nk ∧ ks'.length + costs tks ≤ ks.length + 3 * t.size ∧ ns.length + costs tks ≤ 3 * t.size := by
        intro dd ns1 ds1 j ks2 H4 z4 z5 z6 z7 z8 N5 l1 c0 dn Vr pf2 len2
        have N6 := N5.put3 (ms := ns1 ++ [j]) (es := ds1 ++ [dd]) (Dens.app N5.dens (.cons dn .nil))
        rw [List.map_append] at N6
        have l2 : (ns1 ++ [j]).length = ns1.length + 1 := by rw [List.length_append]; rfl
        exact ⟨us, r, ns1 ++ [j], ds1 ++ [dd], ks2, z4, z5, z6, z7, z8, rfl, by rw [ctk]; omega, N6, Vr, pf.trans pf2, by omega, by omega⟩
      rcases tk with t1 | es
      · -- not looked at yet
        have Vr : Valid t r (ds ++ [t1]) := by
          cases V0
          assumption
        rcases t1 with z | i | _ | es
        · cases ru3 with
          | str hl =>
            refine ⟨_, rfl, _, .ty "tuple", .type "str", .type "tuple", false, rfl, .ty _, .base (.str z), kit_ty (by decide +kernel), false, rfl, iteT ?_⟩
            refine ⟨_, rfl, .inl ⟨rfl, _, SqL.of N3.done⟩, _, rfl, x, dx, _, rfl, hx, known_no d (by decide +kernel), _, rfl, x, d, ks', .leaf (.inr z), rfl, N3.tn, True.intro, c1', fun j ks2 H4 pf2 len2 hj N4 k4 t4 => ?_⟩
            have N5 := N3.keyed pf2 N4 k4 t4
            refine ⟨a3, _, _, rfl, rfl, N5.done, by rw [List.length_map]; exact cns, ?_⟩
            exact last _ ns ds j ks2 H4 _ _ _ _ _ N5 (Nat.le_refl _) (by show 1 ≤ 3 * 1; decide) (.str hj) Vr pf2 len2
        · cases ru3 with
          | int =>
            refine ⟨_, rfl, _, .ty "tuple", .type "int", .type "tuple", false, rfl, .ty _, .base (.int i), kit_ty (by decide +kernel), false, rfl, iteT ?_⟩
            refine ⟨_, rfl, .inl ⟨rfl, _, SqL.of N3.done⟩, _, rfl, x, dx, _, rfl, hx, known_no d (by decide +kernel), _, rfl, x, d, ks', .leaf (.inl i), rfl, N3.tn, True.intro, c1', fun j ks2 H4 pf2 len2 hj N4 k4 t4 => ?_⟩
            have N5 := N3.keyed pf2 N4 k4 t4
            refine ⟨a3, _, _, rfl, rfl, N5.done, by rw [List.length_map]; exact cns, ?_⟩
            exact last _ ns ds j ks2 H4 _ _ _ _ _ N5 (Nat.le_refl _) (by show 1 ≤ 3 * 1; decide) (.int hj) Vr pf2 len2
        · exact thu.elim
        · cases ru3 with
          | @tup b ws _ eb rb =>
            refine ⟨_, rfl, _, .ty "tuple", .type "tuple", .type "tuple", true, rfl, .ty _, .base (.tup eb), kit_ty (by decide +kernel), true, rfl, iteF ?_⟩
            refine ⟨_, rfl, _, rfl, iteF ?_⟩
            have cc : Tk.cost (.visit (.tup es)) = 3 + 3 * D.sizes es := by
              show 3 * (1 + D.sizes es) = _
              omega
            have le := D.len_sizes es
            have lw := rb.len
            -- todo.append((part, True))
            refine ⟨_, rfl, .inl ⟨rfl, _, SqL.of N3.todo⟩, _, rfl, by show 2 ≤ sizeLine; omega, fun p4 n4 => ?_⟩
            have N4 := N3.new (o := .tup [.ref b, .bl true]) n4
            have ep4 : upd H3 p4 (.tup [.ref b, .bl true]) p4 = some (.tup [.ref b, .bl true]) := upd_same
            have t4 : TS H3 (upd H3 p4 (.tup [.ref b, .bl true])) := TS.new n4
            have eb4 := t4 _ _ eb
            have rb4 := rb.ts t4
            generalize upd H3 p4 (.tup [.ref b, .bl true]) = H4 at N4 ep4 eb4 rb4 ⊢
            refine ⟨a2, _, _, rfl, rfl, N4.todo, by omega, ?_⟩
            have N5 := N4.put2 (us := us ++ [.ref p4]) (sk := .close es :: r) (by rw [List.reverse_append]; exact .cons (t := .close es) ep4 (.tup eb4 rb4) thu N4.tasks)
            have t5 : TS H4 (upd H4 a2 (.lst (us ++ [.ref p4]))) := TS.put N4.todo fun _ z => by cases z
            have eb5 := t5 _ _ eb4
            have rb5 := rb4.ts t5
            generalize upd H4 a2 (.lst (us ++ [.ref p4])) = H5 at N5 eb5 rb5 ⊢
            -- todo.extend(..)
            refine ⟨_, rfl, .inl ⟨rfl, _, SqL.of N5.todo⟩, _, rfl, b, ws, rfl, SqT.of eb5, fun p6 n6 => ⟨p6, rfl, ⟨_, SqT.of upd_same⟩, fun Dl nD => ?_⟩⟩
            have N6 := N5.new (o := .tup ws.reverse) n6
            have t6 : TS H5 (upd H5 p6 (.tup ws.reverse)) := TS.new n6
            have rb6 := rb5.ts t6
            have ep6 : upd H5 p6 (.tup ws.reverse) p6 = some (.tup ws.reverse) := upd_same
            generalize upd H5 p6 (.tup ws.reverse) = H6 at N6 rb6 ep6 nD ⊢
            refine lc_visits (by rw [List.length_reverse]; omega) ep6 rb6.rev (things_rev thu) nD (fun u2 H7 Q7 N7 q7 => ⟨rfl, ⟨_, rfl, by show 2 ≤ sizeLine; omega, fun p np => q7 p np⟩⟩) fun H7 acc k7 e7 tk7 => ?_
            have N7 := N6.all k7
            rw [cc] at c1 c2 cl ctk
            have lacc : acc.length = es.length := by rw [tk7.len, List.length_map, List.length_reverse]
            refine ⟨a2, Dl, _, acc, rfl, rfl, N7.todo, e7, by rw [List.length_append, lacc]; show us.length + 1 + es.length ≤ _; omega, ?_⟩
            have er : ((es.reverse.map Tk.visit).reverse) = es.map .visit := by rw [← List.map_reverse, List.reverse_reverse]
            have N8 := N7.put2 (us := us ++ [.ref p4] ++ acc) (sk := es.map .visit ++ .close es :: r) (by
              rw [List.reverse_append, ← er]
              exact TksAt.app tk7.rev N7.tasks)
            have cst : costs (es.map .visit ++ .close es :: r) = 3 * D.sizes es + (1 + costs r) := by
              rw [costs_app, costs_visits]
              rfl
            exact ⟨_, _, ns, ds, ks', _, _, _, _, _, rfl, by rw [cst, ctk]; omega, N8, Valid.visits es (.close Vr), pf, by rw [cst]; omega, by rw [cst]; omega⟩
      · -- its parts have their numbers
        cases ru3 with
        | @tup b ws _ eb rb =>
          obtain ⟨ds0, rfl, Vr⟩ : ∃ ds0, ds = ds0 ++ es ∧ Valid t r (ds0 ++ [.tup es]) := by
            cases V0
            exact ⟨_, rfl, by assumption⟩
          obtain ⟨dl, dr⟩ := Dens.split N3.dens
          have lns := N3.dens.len
          rw [List.length_append] at lns
          have lw := rb.len
          refine ⟨_, rfl, _, .ty "tuple", .type "tuple", .type "tuple", true, rfl, .ty _, .base (.tup eb), kit_ty (by decide +kernel), true, rfl, iteF ?_⟩
          refine ⟨_, rfl, _, rfl, iteT ?_⟩
          refine ⟨_, rfl, a3, _, rfl, .inl (SqL.of N3.done), _, rfl, b, _, rfl, .inr (SqT.of eb), _, _, rfl, rfl, ?_⟩
          have est : (((ns.map fun n : Nat => V.int (n : Int)).length : Nat) : Int) - ((ws.length : Nat) : Int) = ((ds0.length : Nat) : Int) := by
            rw [List.length_map]
            omega
          have est' := congrArg V.int est
          refine ⟨_, rfl, _, rfl, _, est', a3, _, rfl, SqL.of N3.done, fun p4 n4 => ⟨p4, _, rfl, .inl ⟨SqL.of upd_same, fun p5 n5 => ?_⟩⟩⟩
          rw [cut_from _ _ (by rw [List.length_map]; omega), ← List.map_drop] at n5 ⊢
          have N4 := N3.new (o := .lst ((ns.drop ds0.length).map fun n : Nat => V.int (n : Int))) n4
          have N5 := N4.new (o := .tup ((ns.drop ds0.length).map fun n : Nat => V.int (n : Int))) n5
          have ek : upd (upd H3 p4 (.lst ((ns.drop ds0.length).map fun n : Nat => V.int (n : Int)))) p5 (.tup ((ns.drop ds0.length).map fun n : Nat => V.int (n : Int))) p5 = some (.tup ((ns.drop ds0.length).map fun n : Nat => V.int (n : Int))) := upd_same
          generalize upd (upd H3 p4 (.lst ((ns.drop ds0.length).map fun n : Nat => V.int (n : Int)))) p5 (.tup ((ns.drop ds0.length).map fun n : Nat => V.int (n : Int))) = H5 at N5 ek ⊢
          refine ⟨_, rfl, _, rfl, _, est', a3, _, ds0.length, rfl, rfl, N5.done, by rw [List.length_map]; omega, ?_⟩
          rw [← List.map_take]
          have N6 := N5.put3 (ms := ns.take ds0.length) (es := ds0) dl
          have t6 : TS H5 (upd H5 a3 (.lst ((ns.take ds0.length).map fun n : Nat => V.int (n : Int)))) := TS.put N5.done fun _ z => by cases z
          have ek6 := t6 _ _ ek
          generalize upd H5 a3 (.lst ((ns.take ds0.length).map fun n : Nat => V.int (n : Int))) = H6 at N6 ek6 ⊢
          obtain ⟨dx6, hx6⟩ := N6.tn.ob
          refine ⟨_, rfl, .inl ⟨rfl, _, SqL.of N6.done⟩, _, rfl, x, dx6, _, rfl, hx6, known_no d (by decide +kernel), _, rfl, x, d, ks', .tup p5 ((ns.drop ds0.length).map fun n : Nat => (n : Int)), rfl, N6.tn, by show H6 p5 = _; rw [List.map_map]; exact ek6, c1', fun j ks2 H7 pf2 len2 hj N7 k7 t7 => ?_⟩
          have N8 := N6.keyed pf2 N7 k7 t7
          have lt : (ns.take ds0.length).length ≤ ns.length := by rw [List.length_take]; omega
          refine ⟨a3, _, _, rfl, rfl, N8.done, by rw [List.length_map]; omega, ?_⟩
          exact last _ (ns.take ds0.length) ds0 j ks2 H7 _ _ _ _ _ N8 lt (Nat.le_refl _) (.tup hj (dr.mono pf2)) Vr pf2 len2
end
end RT

set_option maxHeartbeats 4000000
/-! len(set(list)), the list's texts and ints all unlike -/
namespace RT
open PySem PySem.Spec PyProof.Rows L2 PySem.Froz
section
variable {P : Program} {w : World} {A : Around} {E : Value → Shared → Prop} {s : Shared}
def inB (ks : List Key) (i : Nat) (k : Key) : Bool := (ks.take i).any fun x => decide (k = x)
abbrev KSet (P : Program) (w : World) (h : Heap) (a : Addr) (ks : List Key) (i : Nat) : Prop := h.SetOf (mixKind P w) a (inB ks i) i
theorem kset_congr {h : Heap} {a : Addr} {S T : Key → Bool} {n m : Nat} (t : h.SetOf (mixKind P w) a S n) (e : ∀ x, S x = T x) (en : n = m) : h.SetOf (mixKind P w) a T m := by
  rw [← funext e, ← en]
  exact t
theorem kset_at {h h' : Heap} {a : Addr} {ks : List Key} {i : Nat} (t : KSet P w h a ks i) (k : ∀ o, h.get? a = some o → h'.get? a = some o) : KSet P w h' a ks i := by
  obtain ⟨o, es, ep, t, ho, r⟩ := t
  exact ⟨o, es, ep, t, k _ ho, r⟩
theorem scan_key {k : Key} {v : Value} (h : (mixKind P w).is k v = true) : v.scannable = true := by
  rcases keyIs_shape h with ⟨i, t, rfl, rfl⟩ | ⟨x, t, rfl, rfl⟩ <;> rfl
theorem take_step {ks : List Key} {i : Nat} {k : Key} (e : ks[i]? = some k) (x : Key) : (inB ks i x || decide (x = k)) = inB ks (i + 1) x := by
  have q : ks.take (i + 1) = ks.take i ++ [k] := by rw [List.take_add_one, e]; rfl
  unfold inB
  rw [q, List.any_append]
  simp
theorem take_new {ks : List Key} {i : Nat} {k : Key} (nd : ks.Nodup) (e : ks[i]? = some k) : inB ks i k = false := by
  cases c : inB ks i k with
  | false => rfl
  | true =>
    obtain ⟨x, m, ex⟩ := List.any_eq_true.mp c
    have ex2 : k = x := of_decide_eq_true ex
    subst ex2
    obtain ⟨j, hj, ej⟩ := List.mem_take_iff_getElem.mp m
    obtain ⟨hi, ei⟩ := List.getElem?_eq_some_iff.mp e
    have lt : j < i := Nat.lt_of_lt_of_le hj (Nat.min_le_left ..)
    exact absurd (ej.trans ei.symm) (List.pairwise_iff_getElem.mp nd j i (Nat.lt_trans lt hi) hi lt)
theorem keys_in {I S : Addr} {fp wr : List Addr} {items : Array Value} {ks : List Key} {St : Nat → Heap → Prop} {R : Result → Shared → Prop} (W : Walks P w A.in1 I fp wr items.size (fun i v => items[i]? = some v) St) (hS : S ∉ fp) (hn : items.size + 1 < scanBound)
    (nd : ks.Nodup) (hk : ∀ (i : Nat) (v : Value), items[i]? = some v → ∃ k : Key, ks[i]? = some k ∧ (mixKind P w).is k v = true) :
    ∀ (j i : Nat) (s : Shared), i + j = items.size → St i s.heap → KSet P w s.heap S ks i →
      (∀ s' : Shared, s'.gens = s.gens → s'.drawn = s.drawn → s'.os = s.os → (∀ b o, b ≠ S → b ∉ wr → s.heap.get? b = some o → s'.heap.get? b = some o) → KSet P w s'.heap S ks items.size → R (.ok (.ret .none)) s') →
      codeAny (model P w) A (.builtin "set.update.loop" ⟨[.ref S, .ref I], []⟩) R s := by
  have off : S ∉ wr := fun m => hS (W.sub _ m)
  have WS := W.toS
  intro j
  induction j with
  | zero =>
    intro i s hi hst hT hR
    have e : i = items.size := by omega
    subst e
    refine codeAny_builtin PyProof.Rows.F.entry_set_update_loop ?_
    rw [Around.under_plainId PyProof.Rows.F.plain_set_update_loop _]
    show wpAny _ A.in1 (pyNext (.ref I) >>= _) _ _ _
    refine wpAny_bind (WS.done _ _ _ hst fun s' m => ?_)
    exact wpAny_pure (hR s' m.gens m.drawn m.os (fun b o _ nw e => m.heap b o nw e) (kset_at hT fun o e => m.heap S o off e))
  | succ j ih =>
    intro i s hi hst hT hR
    have hlt : i < items.size := by omega
    refine codeAny_builtin PyProof.Rows.F.entry_set_update_loop ?_
    rw [Around.under_plainId PyProof.Rows.F.plain_set_update_loop _]
    show wpAny _ A.in1 (pyNext (.ref I) >>= _) _ _ _
    refine wpAny_bind (WS.item i _ _ _ hlt hst fun v s1 hv hst1 m => ?_)
    obtain ⟨k, ek, is⟩ := hk i v hv
    have hT1 : KSet P w s1.heap S ks i := kset_at hT fun o e => m.heap S o off e
    show wpAny _ A.in1 (holding [v] (setAdd S v) >>= _) _ _ _
    unfold setAdd
    refine wpAny_bind (wpAny_holding (wpAny_holding (wpAny_bind ((mixKind P w).pyHash (k := k) is ?_))))
    refine wpAny_setAddHashed_of (s := { s1 with toks := s1.toks + 1 }) is (scan_key is) hT1 (by omega) fun h' sb hT2 => ?_
    have hT3 : KSet P w h' S ks (i + 1) := by
      have no := take_new nd ek
      refine kset_congr hT2 (fun x => take_step ek x) ?_
      rw [no]
      rfl
    have hkeep : ∀ c o, c ≠ S → s1.heap.get? c = some o → h'.get? c = some o := fun c o n e => sb.extBut c o n e
    refine wpAny_pure ⟨plainId_quiet PyProof.Rows.F.plain_set_update_loop _, ih (i + 1) _ (by omega) (WS.frame _ s1 h' _ hst1 (Nat.le_succ _) fun b hb o e => hkeep b o (fun q => hS (q ▸ hb)) e) hT3 fun s2 g2 d2 o2 k2 hT4 => ?_⟩
    exact hR s2 (g2.trans m.gens) (d2.trans m.drawn) (o2.trans m.os) (fun b o nS nw e => k2 b o nS nw (hkeep b o nS (m.heap b o nw e))) hT4
theorem set_keys {l : Addr} {items : Array Value} {ks : List Key} {Q : Value → Shared → Prop} (hh : A.handled = none) (hl : s.heap.IsList l items) (hz : items.size + 1 < scanBound) (nd : ks.Nodup)
    (hk : ∀ (i : Nat) (v : Value), items[i]? = some v → ∃ k : Key, ks[i]? = some k ∧ (mixKind P w).is k v = true)
    (q : ∀ (h' : Heap) (tk : Nat), KSet P w h' s.heap.objs.size ks items.size → (∀ b o, s.heap.get? b = some o → h'.get? b = some o) → Q (.ref s.heap.objs.size) { s with heap := h', toks := tk }) :
    wpAny (model P w) A (call (.type "set") [.ref l]) Q E s := by
  obtain ⟨c, tl, mro⟩ := PySem.F.called_set.mro
  have mk := PySem.F.called_set.made
  have sb := PySem.F.called_set.sub
  refine wpAny_call (codeAny_of_tree ?_)
  show wpAny _ _ (callAny (.type "set") _) _ _ _
  refine wpAny_pure ⟨Code.quiet_builtin _ (by decide +kernel), codeAny_builtin PySem.F.entry_type_call ?_⟩
  rw [Around.under_plain (weight_type_call_type "set" [.ref l] []) rfl]
  have nt := PySem.F.called_set.notType
  have cc := PySem.F.called_set.canCreate
  have tc := PySem.F.typeCall_set_1 (.ref l)
  repeat (any_goals (first | assumption | wp_step))
  refine codeAny_mono (code_set_led1 (.ref l) (E := E) (Q₁ := fun v t => v = .ref s.heap.objs.size ∧ t = { s with heap := s.heap.push (bare w) }) ⟨rfl, rfl⟩) fun r t hr => ?_
  cases r with
  | error e => exact hr
  | ok fl =>
    cases fl with
    | ret obj =>
      obtain ⟨rfl, rfl⟩ := hr
      have at0 : (s.heap.push (bare w)).get? s.heap.objs.size = some (bare w) := Heap.get?_push_size _ rfl
      have ty : Shared.TypeIs { s with heap := s.heap.push (bare w) } (.ref s.heap.objs.size) "set" := ⟨_, at0, rfl⟩
      have il := PySem.F.called_set.init.lookup
      have ib := PySem.F.called_set.init.bind (.ref s.heap.objs.size)
      repeat (any_goals (first | assumption | wp_step))
      refine codeAny_mono (codeAny_call_builtin (R := wants (fun v t2 => v = .none ∧ ∃ (h' : Heap) (tk : Nat), t2 = { s with heap := h', toks := tk } ∧ KSet P w h' s.heap.objs.size ks items.size ∧
        ∀ b o, s.heap.get? b = some o → h'.get? b = some o) E) PySem.F.called_set.init.plain PySem.F.entry_set_init (check_set_init_1 ty ?_)) fun r2 t2 hr2 => ?_
      · obtain ⟨⟨ocls, odict, odata, oslots⟩, hol, hcl, nl, hdl⟩ := hl
        simp only at hcl hdl
        subst hcl hdl
        have lS : l < s.heap.objs.size := Heap.lt_size hol
        have hol2 : (s.heap.push (bare w)).get? l = some { cls := .type "list", dict := odict, data := .seq items nl, slots := oslots } := Heap.get?_push_of_some _ hol
        have s1 := PySem.F.sub_list_set
        have s2 := PySem.F.sub_list_frozenset
        have ne : (Value.type "list" == Value.type "dict") = false := by decide
        have isl : (s.heap.push (bare w)).IsList l items := ⟨_, hol2, rfl, nl, rfl⟩
        unfold Builtin.«set.__init__» noKeywords Builtin.Frozenset.updateFrom
        generalize hPI : pyIter = PI
        wp_walk
        subst hPI
        have lI : l ≠ (s.heap.push (bare w)).objs.size := by
          rw [Heap.size_push]
          exact Nat.ne_of_lt (Nat.lt_succ_of_lt lS)
        have nS : s.heap.objs.size ∉ [(s.heap.push (bare w)).objs.size, l] := fun m => by
          rw [List.mem_cons, List.mem_singleton, Heap.size_push] at m
          rcases m with m | m
          · exact absurd m (Nat.ne_of_lt (Nat.lt_succ_self _))
          · exact absurd m (Nat.ne_of_gt lS)
        refine wpAny_pyIter_list isl ?_
        refine wpAny_bind (wpAny_runValue ?_)
        refine keys_in (Walks.list (by simp [hh]) _ l lI items) nS hz nd hk items.size 0 _ (Nat.zero_add _) ⟨⟨_, Heap.get?_push_size _ rfl, rfl, rfl⟩, isl.push _⟩ ?_ fun s' g d os k t => ?_
        · exact ⟨_, #[], 0, _, Heap.get?_push_of_some _ at0, ⟨rfl, rfl, rfl⟩, rfl, fun e he => absurd he (by simp), fun k => ⟨fun z => absurd z (by simp [inB]), fun ⟨e, he, _⟩ => absurd he (by simp)⟩, by show 0 < scanBound; unfold scanBound; decide, by rfl, rfl⟩
        · obtain ⟨h', g', d', tk', os'⟩ := s'
          cases g
          cases d
          cases os
          refine wpAny_pure ?_
          show wpAny _ _ (ret Value.none) _ _ _
          refine wpAny_pure ⟨rfl, h', tk', rfl, t, fun b o e => ?_⟩
          have lt := Heap.lt_size e
          refine k b o (Nat.ne_of_lt lt) (fun m => ?_) (Heap.get?_push_of_some _ (Heap.get?_push_of_some _ e))
          rw [List.mem_singleton, Heap.size_push] at m
          exact absurd (show s.heap.objs.size + 1 < s.heap.objs.size from m ▸ lt) (Nat.not_lt.mpr (Nat.le_succ _))
      · cases r2 with
        | error e => exact hr2
        | ok fl2 =>
          cases fl2 with
          | ret v =>
            obtain ⟨rfl, h', tk, rfl, t, k⟩ := hr2
            repeat (any_goals (first | assumption | wp_step))
            exact q h' tk t k
          | _ => exact hr2.elim
    | _ => exact hr.elim
end
section
variable {X : Cx}
theorem keys_vals {ks : List Key} : ∀ {us : List Value}, Vals (ks.map kV) us → ∀ (P : Program) (w : World) (i : Nat) (v : Value), us[i]? = some v → ∃ k, ks[i]? = some k ∧ (mixKind P w).is k v = true := by
  induction ks with
  | nil =>
    intro us r P w i v h
    cases r
    simp at h
  | cons k r ih =>
    intro us rr P w i v h
    cases rr with
    | cons r1 r2 =>
      cases i with
      | zero =>
        cases h
        exact ⟨k, rfl, kV_is r1⟩
      | succ i => exact ih r2 P w i v (by simpa using h)
def tLenSetK (K : PySem.W.Frag) (ta : TE) : TE := fun σ H Q => ta σ H fun x H1 => ∃ (l : Addr) (ks : List Key), x = .ref l ∧ SqL K H1 l (ks.map kV) ∧ ks.Nodup ∧ ks.length ≤ 4000 ∧ Q (.int (ks.length : Nat)) H1
theorem pe_lenSetK {a : Expr} {ta : TE} {p p2 q pos : Pos} (hg : Gl X "len") (hm : X.mg "len" = none) (hg2 : Gl X "set") (hm2 : X.mg "set" = none) (ha : PE X a ta) (hc : X.calm = true := by rfl)
    (na : starEach [a] X.env = (false, eval a X.env) :: starEach [] X.env := by rfl) : PE X (.Call (.Name "len" p) [.Call (.Name "set" p2) [a] [] q] [] pos) (tLenSetK X.K ta) := by
  refine ⟨fun pins s σ H Q I h => ?_⟩
  refine Call_ (ld_blt I hg hm boot_len (PyProof.Rows.callWith_builtin1 (PyProof.Rows.args_cons ?_ rfl) rfl rfl))
  refine Call_ (ld_blt I hg2 hm2 boot_set (PyProof.Rows.callWith_type1 (PyProof.Rows.args_cons (thn (ha.run pins s σ H _ I h) fun v s1 ⟨x, H1, I1, r1, q1⟩ => PyProof.Rows.args_nil ?_) na) na rfl))
  obtain ⟨l, ks, rfl, hq, hnd, hl, q1⟩ := q1
  cases r1
  obtain ⟨its, r, pl, hz⟩ := I1.list hq
  have len : its.toArray.size = ks.length := by rw [List.size_toArray, ← r.length, List.length_map]
  refine set_keys (I1.ok.hd hc) pl.isList (by rw [len]; exact Nat.lt_of_le_of_lt (Nat.succ_le_succ hl) (by unfold scanBound; decide)) hnd (fun i v e => keys_vals r _ _ i v (by simpa using e)) fun h' tk hS k => ?_
  refine PyProof.Rows.args_nil ?_
  rw [len] at hS
  obtain ⟨o, es, ep, t, ho, hex, hd, _, _, _, hf, hn⟩ := hS
  have I2 : Inv X pins σ H1 { s1 with heap := h', toks := tk } := I1.kept k
  exact call_len_set ho hex hd hf (by rw [hn]; exact Int.ofNat_lt.mpr (Nat.lt_of_le_of_lt hl (by decide))) ⟨.int ks.length, H1, I2.tok _, ⟨_, by rw [hn]⟩, q1⟩
end
end RT

/-! pairs, things unlike, texts of which none begins another one -/
namespace RT
open PySem PySem.Spec PyProof.Rows L2
abbrev sAp : Stmt := topS 29
abbrev sUn : Stmt := topS 30
abbrev sNb : Stmt := topS 31
theorem scAp : FnScope ["x", "pair"] ["x"] (defScope sAp) := ⟨rfl, rfl, rfl, by decide +kernel, rfl, by decide +kernel, by decide +kernel⟩
theorem scUn : FnScope ["many"] ["many"] (defScope sUn) := ⟨rfl, rfl, rfl, by decide +kernel, rfl, by decide +kernel, by decide +kernel⟩
theorem scNb : FnScope ["texts", "rising", "k"] ["texts"] (defScope sNb) := ⟨rfl, rfl, rfl, by decide +kernel, rfl, by decide +kernel, by decide +kernel⟩
def rLenQ (K : PySem.W.Frag) : List V → Hp → VK → Prop := fun xs H Q => ∃ p ys, xs = [.ref p] ∧ (SqL K H p ys ∨ SqT K H p ys) ∧ Q (.int (ys.length : Nat)) H
theorem starts_pre {x y : Str} (h : Txt.startswith x y = true) : y.cps.toList <+: x.cps.toList := by
  obtain ⟨_, h2⟩ := Bool.and_eq_true_iff.mp (show (decide (0 + y.length ≤ x.length) && Builtin.Str.subAt x y 0) = true from h)
  have e : x.cps.extract 0 (0 + y.length) = y.cps := eq_of_beq h2
  rw [← e]
  simp only [Array.toList_extract]
  exact List.take_prefix ..
section
variable {P : Program} {w : World} {K : PySem.W.Frag} {mg : Str → Option Value} {base : Heap}
def spAp (TT : List Addr) : Sp := fun vs H Q _ => ∃ (v : V) (prs : List (RT.D × RT.D)), vs = [v] ∧ Rp H v (.tup (prs.map fun p => .tup [p.1, p.2])) ∧ prs ≠ [] ∧ Tell TT H Q true
theorem ok_ap {TT : List Addr} {T c f : Addr} {fd : FuncData} {k : Nat} (F : FunT K "_are_pairs" "_are_pairs" sAp f fd c) (hk : 3 ≤ k) (mT : T ∈ TT) (TB : GxR.TabB base mg c T)
    (ml : mg "len" = none) (mall : mg "all" = none) (mi : mg "isinstance" = none) (mtu : mg "tuple" = none) : FnOk P w K mg base CX0 (k + 1) f fd ["x"] (spAp TT) := by
  obtain ⟨j, rfl⟩ : ∃ j, k = j + 3 := ⟨k - 3, by omega⟩
  refine F.ok scAp (fun vs H Q E h => ?_) (fun A outer s H vs Q E hr h => ?_)
  · obtain ⟨z, f, rfl, _⟩ := h
    rfl
  · obtain ⟨v, prs, rfl, hR, hne, t⟩ := h
    refine ⟨_, (pss_cons (ps_if (PW.pt (pw_or (pt_not (pt_val (pe_callB call_isi (by rfl) mi (by decide +kernel) (pa_cons (pv 0) (pa_cons (pe_bltn (v := .ty "tuple") (by rfl) mtu (by decide +kernel) rfl) pa_nil))))) (pw_or1 (pt_not (pt_truth (pv 0) (by intro _; rfl)))))) (pss_one (ps_ret pe_bl)) pss_nil)
      (pss_one (ps_ret (GE.pe_allG (own := [("pair", 1)]) (gt := gName 1) hr rfl scAp.nd (by rfl) mall TB rfl (blkOk_by (N := ["x", "pair"]) (sc := defScope sAp) (by decide +kernel)) ⟨rfl, by decide +kernel, rfl⟩ (pi_tup (pv 0)) (fun _ _ _ _ _ _ _ _ => (pg_name (i := 1) scAp.nd rfl (.inl rfl))) (fun _ _ _ _ _ _ _ _ _ => (pe_and (pe_callB (show CallR _ (.builtin "isinstance") (rIsi K) from call_isi) (by rfl) mi (by decide +kernel) (pa_cons (pv 1) (pa_cons (pe_bltn (v := .ty "tuple") (by rfl) mtu (by decide +kernel) rfl) pa_nil))) (pe_one (pe_cmpR op_eq (pe_callB (show CallR _ (.builtin "len") (rLenQ K) from call_len_seq) (by rfl) ml PySem.boot_len (pa_cons (pv 1) pa_nil)) pe_int (nomark _))))))))), ?_⟩
    cases hR with
    | @tup a us _ ea ru =>
      have ul := ru.len
      rw [List.length_map] at ul
      have une : us ≠ [] := fun z => hne (List.eq_nil_of_length_eq_zero (by rw [← ul, z]; rfl))
      refine ⟨_, rfl, _, .ty "tuple", .type "tuple", .type "tuple", true, rfl, .ty _, .base (.tup ea), kit_ty (by decide +kernel), true, rfl, iteF ?_⟩
      refine ⟨_, rfl, true, .inr (.inl ⟨_, SqT.of ea, by cases us with
        | nil => exact absurd rfl une
        | cons => rfl⟩), iteF ?_⟩
      refine ⟨_, rfl, a, rfl, ⟨_, SqT.of ea⟩, ?_⟩
      have at' : ∀ H', Kp (TM TT) H H' → H' a = some (.tup us) := fun H' k' => k' a _ (fun m => t.1.noT a _ m ea) ea
      refine gen_on mT t.1 us.length t.2 (fun i H' lt k => ⟨us, us[i], SqT.of (at' H' k), List.getElem?_eq_getElem lt⟩) (fun H' k => ⟨us, SqT.of (at' H' k), Nat.le_refl _⟩) fun i x H' H'' lt k t' y => ?_
      obtain ⟨rfl, hx⟩ := y
      have ex := hx us (SqT.of (at' _ k))
      obtain ⟨d, ed, rx⟩ := ru.get i x ex
      rw [List.getElem?_map] at ed
      obtain ⟨p, ep, rfl⟩ := Option.map_eq_some_iff.mp ed
      cases rx with
      | @tup b ws _ eb rb =>
        have eb' := k b _ (fun m => t.1.noT b _ m eb) eb
        refine ⟨rfl, _, rfl, _, .ty "tuple", .type "tuple", .type "tuple", true, rfl, .ty _, .base (.tup eb'), kit_ty (by decide +kernel), true, rfl, iteT ?_⟩
        refine ⟨_, rfl, b, ws, rfl, .inr (SqT.of eb'), rfl, On.mk ?_ k t'⟩
        rw [rb.len]
        rfl
def spUn (K : PySem.W.Frag) : Sp := fun vs H Q _ => ∃ (l : Addr) (ks : List Key), vs = [.ref l] ∧ SqL K H l (ks.map kV) ∧ ks.Nodup ∧ ks.length ≤ 4000 ∧ Q (.bl true) H
theorem ok_un {f : Addr} {fd : FuncData} {k : Nat} (F : Fun K "_unlike" "_unlike" sUn f fd) (ml : mg "len" = none) (mse : mg "set" = none) : FnOk P w K mg base CX0 (k + 1) f fd ["many"] (spUn K) := by
  refine F.ok scUn (fun vs H Q E h => ?_) (fun cdv A outer s H vs Q E hr h => ?_)
  · obtain ⟨l, ks, rfl, _⟩ := h
    rfl
  · obtain ⟨l, ks, rfl, hl, nd, few, q⟩ := h
    refine ⟨_, (pss_one (ps_ret (pe_cmpR op_eq (pe_lenSetK (by rfl) ml (by rfl) mse (pv 0)) (pe_callB call_len_seq (by rfl) ml PySem.boot_len (pa_cons (pv 0) pa_nil)) (nomark _)))), ?_⟩
    refine ⟨_, rfl, l, ks, rfl, hl, nd, few, _, rfl, l, _, rfl, .inl hl, rfl, ?_⟩
    show Q (.bl (decide (V.int (ks.length : Nat) = V.int ((ks.map kV).length : Nat)))) H
    rw [List.length_map, decide_eq_true rfl]
    exact q
def spNb (TT : List Addr) (K : PySem.W.Frag) : Sp := fun vs H Q _ => ∃ (l : Addr) (zs : List Str), vs = [.ref l] ∧ SqL K H l (zs.map V.str) ∧ zs.length < 64 ∧ zs.Pairwise (fun a b => NoPre a b ∧ NoPre b a) ∧ Tabs TT H ∧ (∀ z ∈ zs, z.length ≤ sizeLine) ∧ ∀ H', Kp (TM TT) H H' → Tabs TT H' → Q (.bl true) H'
theorem ok_nb {TT : List Addr} {T c f : Addr} {fd : FuncData} {k : Nat} (F : FunT K "none_begins_another" "none_begins_another" sNb f fd c) (hk : 3 ≤ k) (mT : T ∈ TT) (TB : GxR.TabB base mg c T)
    (ml : mg "len" = none) (many : mg "any" = none) (mr : mg "range" = none) (mso : mg "sorted" = none) : FnOk P w K mg base CX0 (k + 1) f fd ["texts"] (spNb TT K) := by
  obtain ⟨j, rfl⟩ : ∃ j, k = j + 3 := ⟨k - 3, by omega⟩
  refine F.ok scNb (fun vs H Q E h => ?_) (fun A outer s H vs Q E hr h => ?_)
  · obtain ⟨z, f, rfl, _⟩ := h
    rfl
  · obtain ⟨l, zs, rfl, hl, h64, pw, t, hz, q⟩ := h
    refine ⟨_, (pss_cons (ps_set (i := 1) scNb.nd rfl (.inr rfl) (pe_callB cr_sortedS (by rfl) mso (by decide +kernel) (pa_cons (pv 0) pa_nil)))
      (pss_one (ps_ret (pe_not (GE.pe_anyG (own := [("k", 2)]) (gt := gName 2) hr rfl scNb.nd (by rfl) many TB rfl (blkOk_by (N := ["texts", "rising", "k"]) (sc := defScope sNb) (by decide +kernel)) ⟨rfl, by decide +kernel, rfl⟩ (pi_range1 (by rfl) mr (pa_cons (pe_op op_sub (pe_callB call_len_seq (by rfl) ml PySem.boot_len (pa_cons (pv 1) pa_nil)) pe_int) pa_nil)) (fun _ _ _ _ _ _ _ _ => (pg_name (i := 2) scNb.nd rfl (.inl rfl))) (fun _ _ _ _ _ _ _ _ _ => (pe_m1 PySem.F.slot_str_startswith PySem.F.type_str_startswith mt_startswith (pe_ix (show IxR _ (rIxL K) from ix_list) (pv 1) (pe_op op_add (pv 2) pe_int) (fun _ _ => rfl)) (pe_ix (show IxR _ (rIxL K) from ix_list) (pv 1) (pv 2) (fun _ _ => rfl))))))))), ?_⟩
    refine ⟨_, rfl, l, zs, rfl, hl, h64, fun ys p pm so np => ?_⟩
    have ylen := pm.length_eq
    have ep : upd H p (.lst (ys.map V.str)) p = some (.lst (ys.map V.str)) := upd_same
    have k1 : Kp (TM TT) H (upd H p (.lst (ys.map V.str))) := Kp.new np
    have t1 := t.new np (o := .lst (ys.map V.str))
    have pw2 : ys.Pairwise fun a b => NoPre a b ∧ NoPre b a := (pm.pairwise_iff (fun h => ⟨h.2, h.1⟩)).mpr pw
    generalize upd H p (.lst (ys.map V.str)) = H1 at ep k1 t1 ⊢
    have hsl : sizeLine ≤ 2 ^ 61 := by decide
    have ml : (ys.map V.str).length = ys.length := List.length_map ..
    refine ⟨_, rfl, p, _, rfl, .inl (SqL.of ep), _, _, rfl, rfl, _, rfl, ?_, ?_, ?_⟩
    · show (-(2 ^ 62) : Int) ≤ ((ys.map V.str).length : Nat) - 1
      rw [ml]
      have : (0 : Int) ≤ 2 ^ 62 := by decide
      omega
    · show (((ys.map V.str).length : Nat) : Int) - 1 < 2 ^ 62
      rw [ml]
      have : (64 : Int) < 2 ^ 62 := by decide
      omega
    have at' : ∀ H', Kp (TM TT) H1 H' → H' p = some (.lst (ys.map V.str)) := fun H' k' => t1.lst k' ep
    refine gen_on (Q := fun x H2 => ∃ c : Bool, x = .bl c ∧ Q (.bl (!c)) H2) (stop := true) mT t1 (ys.length - 1) (fun H2 k2 t2 => ⟨false, rfl, q H2 (k1.trans k2) t2⟩) (fun i H' lt k => ?_) (fun H' k => ?_) fun i x H' H'' lt k t' y => ?_
    · show i < ((((ys.map V.str).length : Nat) : Int) - 1).toNat
      rw [ml]
      omega
    · show ((((ys.map V.str).length : Nat) : Int) - 1).toNat ≤ ys.length - 1
      rw [ml]
      omega
    · obtain ⟨rfl, rfl⟩ := y
      have la : i < ys.length := by omega
      have lb : i + 1 < ys.length := by omega
      have e0 : (0 : Int) + (i : Nat) = ((i : Nat) : Int) := by omega
      refine ⟨rfl, _, rfl, _, rfl, _, _, rfl, rfl, p, _, _, .str ys[i + 1], rfl, rfl, SqL.of (at' _ k), ?_, ⟨_, rfl⟩, _, rfl, _, rfl, p, _, _, .str ys[i], rfl, rfl, SqL.of (at' _ k), ?_, _, _, rfl, rfl, On.mk ?_ k t'⟩
      · rw [show (0 : Int) + (i : Nat) + 1 = ((i + 1 : Nat) : Int) by omega]
        exact atI_nat (by rw [List.getElem?_map, List.getElem?_eq_getElem lb]; rfl)
      · rw [e0]
        exact atI_nat (by rw [List.getElem?_map, List.getElem?_eq_getElem la]; rfl)
      · cases hb : Txt.startswith ys[i + 1] ys[i] with
        | false => rfl
        | true => exact absurd (starts_pre hb) (List.pairwise_iff_getElem.mp pw2 i (i + 1) la lb (Nat.lt_succ_self i)).1
end
end RT

/-! picks, choices, spelt forms -/
namespace RT
open PySem PySem.Spec PyProof.Rows L2
abbrev sPsh : Stmt := topS 21
abbrev sSpsh : Stmt := topS 22
abbrev sEsh : Stmt := topS 24
theorem scPsh : FnScope ["form", "text", "thing", "pair"] ["form"] (defScope sPsh) := ⟨rfl, rfl, rfl, by decide +kernel, rfl, by decide +kernel, by decide +kernel⟩
theorem scSpsh : FnScope ["form", "thing", "_"] ["form"] (defScope sSpsh) := ⟨rfl, rfl, rfl, by decide +kernel, rfl, by decide +kernel, by decide +kernel⟩
theorem scEsh : FnScope ["form", "name", "_"] ["form"] (defScope sEsh) := ⟨rfl, rfl, rfl, by decide +kernel, rfl, by decide +kernel, by decide +kernel⟩
theorem lc_vals {K : PySem.W.Frag} {b : Addr} {xs ys : List V} {g : TG} {te : TE} {vs : List Nat} {σ : L2.St} {H1 : Hp} {Da : Addr} {Qd : Hp → Prop} (hM : xs.length ≤ 1000) (hl : ys.length = xs.length) (eb : H1 b = some (.tup xs)) (nD : H1 Da = none)
    (he : ∀ (j : Nat) (x y : V) (H4 : Hp) (Q : VK) (N : Hp → Prop), xs[j]? = some x → ys[j]? = some y → Kp M0 H1 H4 → Q y H4 → g x (wipe σ vs) H4 fun σ2 H2 => wipe σ2 vs = wipe σ vs ∧ tYes σ2 H2 fun c H3 => if c = true then te σ2 H3 Q else N H3)
    (hd : ∀ H : Hp, Kp M0 H1 H → H Da = some (.lst ys) → Qd H) :
    ∃ W : Nat → Nat → Hp → Prop, (∃ m, W 0 m (upd H1 Da (.lst []))) ∧ ∀ i m H, W i m H →
      ((Itt K b).stop i H ∧ Qd H) ∨ ((Itt K b).go i H ∧ ∃ Nx : Hp → Prop, (∀ H', Nx H' → ∃ m', m' < m ∧ W (i + 1) m' H') ∧ ∀ x H', (Itt K b).yld i H x H' → g x (wipe σ vs) H' fun σ2 H2 => wipe σ2 vs = wipe σ vs ∧ tYes σ2 H2 fun c H3 =>
        if c = true then te σ2 H3 fun y H4 => ∃ acc, H4 Da = some (.lst acc) ∧ acc.length < sizeLine ∧ Nx (upd H4 Da (.lst (acc ++ [y]))) else Nx H3) := by
  refine lc_tup (xs := xs) (fun i H => Kp M0 H1 H ∧ H Da = some (.lst (ys.take i))) ?_ ?_ ?_ ?_
  · exact ⟨Kp.new nD, by rw [List.take_zero]; exact upd_same⟩
  · exact fun i H _ h => SqT.of (h.1 _ _ (fun z => z) eb)
  · rintro i x H4 hx ⟨k4, e4⟩
    have hi : i < xs.length := (List.getElem?_eq_some_iff.mp hx).1
    have hy : ys[i]? = some ys[i] := List.getElem?_eq_getElem (by omega)
    refine he i x _ H4 _ _ hx hy k4 ⟨_, e4, ?_, k4.own nD, ?_⟩
    · rw [List.length_take]
      exact Nat.lt_of_le_of_lt (Nat.min_le_left ..) (small1000 (by omega))
    · rw [List.take_add_one, hy]
      exact upd_same
  · rintro H4 ⟨k4, e4⟩
    refine hd H4 k4 ?_
    rw [← hl, List.take_length] at e4
    exact e4
theorem wf_pick {f : Fo} (h : f.wf) (e : f.word = "pick") : ∃ ps, f.args = pickR ps ∧ PickOk ps := by
  cases f with
  | leaf w r =>
    rcases h with ⟨rfl, z, rfl, hz⟩ | ⟨h, z, rfl, hz⟩ | ⟨rfl, rfl⟩ | ⟨rfl, ps, rfl, hp⟩
    · ((try simp only [Fo.word] at e); exact absurd e (by decide))
    · rcases h with rfl | rfl <;> ((try simp only [Fo.word] at e); exact absurd e (by decide))
    · ((try simp only [Fo.word] at e); exact absurd e (by decide))
    · exact ⟨ps, rfl, hp⟩
  | one w f r => rcases h.2 with ⟨rfl, rfl⟩ | ⟨rfl, rfl, _⟩ | ⟨rfl, ps, rfl, _⟩ <;> ((try simp only [Fo.word] at e); exact absurd e (by decide))
  | _ => ((try simp only [Fo.word] at e); exact absurd e (by decide))
theorem wf_either {N : List Str} {f : Fo} (h : f.wf) (ok : f.ok N) (e : f.word = "either") : ∃ (ns : List Str) (ds : List RT.D), f.args = [.tup ((ns.zip ds).map fun p => .tup [.str p.1, p.2])] ∧ ns ≠ [] ∧ ns.length ≤ 12 ∧ ns.Nodup ∧ (∀ n ∈ ns, NmOk n) ∧ ns.length = ds.length := by
  cases f with
  | leaf w r =>
    rcases h with ⟨rfl, z, rfl, hz⟩ | ⟨h, z, rfl, hz⟩ | ⟨rfl, rfl⟩ | ⟨rfl, ps, rfl, hp⟩
    · ((try simp only [Fo.word] at e); exact absurd e (by decide))
    · rcases h with rfl | rfl <;> ((try simp only [Fo.word] at e); exact absurd e (by decide))
    · ((try simp only [Fo.word] at e); exact absurd e (by decide))
    · ((try simp only [Fo.word] at e); exact absurd e (by decide))
  | one w f r => rcases h.2 with ⟨rfl, rfl⟩ | ⟨rfl, rfl, _⟩ | ⟨rfl, ps, rfl, _⟩ <;> ((try simp only [Fo.word] at e); exact absurd e (by decide))
  | either ns fs => exact ⟨ns, Fo.encs fs, by simp [Fo.args, List.zip, List.map_zipWith], h.1, h.2.1, h.2.2.1, h.2.2.2.1, by rw [encs_map, List.length_map]; exact ok.1⟩
  | _ => ((try simp only [Fo.word] at e); exact absurd e (by decide))
theorem wf_spelt {N : List Str} {f : Fo} (h : f.wf) (ok : f.ok N) (e : f.word = "spelt") : ∃ g : Fo, f.args = [g.enc] ∧ g.wf ∧ g.ok N ∧ g.spells := by
  cases f with
  | leaf w r =>
    rcases h with ⟨rfl, z, rfl, hz⟩ | ⟨h, z, rfl, hz⟩ | ⟨rfl, rfl⟩ | ⟨rfl, ps, rfl, hp⟩
    · ((try simp only [Fo.word] at e); exact absurd e (by decide))
    · rcases h with rfl | rfl <;> ((try simp only [Fo.word] at e); exact absurd e (by decide))
    · ((try simp only [Fo.word] at e); exact absurd e (by decide))
    · ((try simp only [Fo.word] at e); exact absurd e (by decide))
  | one w f r =>
    rcases h.2 with ⟨rfl, rfl⟩ | ⟨rfl, rfl, hs⟩ | ⟨rfl, ps, rfl, _⟩
    · ((try simp only [Fo.word] at e); exact absurd e (by decide))
    · exact ⟨f, rfl, h.1, ok.2, hs⟩
    · ((try simp only [Fo.word] at e); exact absurd e (by decide))
  | _ => ((try simp only [Fo.word] at e); exact absurd e (by decide))
def keyD : RT.D → Key
  | .int i => .inl i
  | .str z => .inr z
  | _ => .inl 0
theorem key_plain {H : Hp} {v : V} {d : RT.D} (h : d.plain) (r : Rp H v d) : v = kV (keyD d) := by
  cases r with
  | str _ => rfl
  | int => rfl
  | non => exact h.elim
  | tup _ _ => exact h.elim
theorem key_ne {d e : RT.D} (h : d.plain) (k : e.plain) (n : d ≠ e) : keyD d ≠ keyD e := fun z => by
  cases d <;> cases e <;> first | exact h.elim | exact k.elim | (refine n ?_; simp only [keyD] at z; first | (injection z with q; rw [q]) | cases z)
theorem rps_pair {H : Hp} {v : V} {d e : RT.D} (r : Rp H v (.tup [d, e])) : ∃ (c : Addr) (x y : V), v = .ref c ∧ H c = some (.tup [x, y]) ∧ Rp H x d ∧ Rp H y e := by
  cases r with
  | tup ec rc =>
    cases rc with
    | cons r1 r2 =>
      cases r2 with
      | cons r3 r4 =>
        cases r4
        exact ⟨_, _, _, rfl, ec, r1, r3⟩
section
variable {P : Program} {w : World} {K : PySem.W.Frag} {mg : Str → Option Value} {base : Heap}
theorem ok_psh {N : List Str} {TT : List Addr} {f fa ft fx fn fb fu : Addr} {fd fda fdt fdx fdn fdb fdu : FuncData} {k : Nat} (F : Fun K "_pick_shape" "_pick_shape" sPsh f fd)
    (GA : FnOk P w K mg base CX0 k fa fda ["x"] (spAp TT)) (ka : PySem.W.keepIn K (.ref fa) = true) (ba : Binds K fda ["x"] []) (ga : mg "_are_pairs" = some (.ref fa))
    (GT : FnOk P w K mg base CX0 k ft fdt ["x"] (spTo TT)) (kt : PySem.W.keepIn K (.ref ft) = true) (bt : Binds K fdt ["x"] []) (gt : mg "is_told" = some (.ref ft))
    (GX : FnOk P w K mg base CX0 k fx fdx ["x"] (spTx TT)) (kx : PySem.W.keepIn K (.ref fx) = true) (bx : Binds K fdx ["x"] []) (gx : mg "is_text" = some (.ref fx))
    (GN : FnOk P w K mg base CX0 k fn fdn ["x"] spNu) (kn : PySem.W.keepIn K (.ref fn) = true) (bn : Binds K fdn ["x"] []) (gn : mg "is_number" = some (.ref fn))
    (GB : FnOk P w K mg base CX0 k fb fdb ["texts"] (spNb TT K)) (kb : PySem.W.keepIn K (.ref fb) = true) (bb : Binds K fdb ["texts"] []) (gb : mg "none_begins_another" = some (.ref fb))
    (GU : FnOk P w K mg base CX0 k fu fdu ["many"] (spUn K)) (ku : PySem.W.keepIn K (.ref fu) = true) (bu : Binds K fdu ["many"] []) (gu : mg "_unlike" = some (.ref fu)) :
    FnOk P w K mg base CX0 (k + 1) f fd ["form"] (spShp N (fun f => f.word = "pick") TT) := by
  refine F.ok scPsh (fun vs H Q E h => ?_) (fun cdv A outer s H vs Q E hr h => ?_)
  · obtain ⟨z, f, rfl, _⟩ := h
    rfl
  · obtain ⟨v, f, rfl, hW, hR, wf, ok, t⟩ := h
    obtain ⟨ps, ea, hp⟩ := wf_pick wf hW
    obtain ⟨a, us, rfl, e, ru⟩ := hR.fo
    rw [ea] at ru
    cases ru with
    | cons r1 r2 =>
      cases r2
      have r10 := r1
      cases r1 with
      | @tup b ws _ eb rb =>
        refine ⟨_, (pss_cons (ps_if (pt_not (pt_val (pe_call GA hr (by rfl) ga ka ba .nil pass0 (pa_cons (pe_ix ix_tup (pv 0) pe_int (fun _ _ => rfl)) pa_nil)))) (pss_one (ps_ret pe_bl)) pss_nil)
      (pss_cons (ps_for PassesOwn.never rfl (pi_tup (pe_ix ix_tup (pv 0) pe_int (fun _ _ => rfl))) (pg_tup rfl (pgs_cons (pg_name (i := 1) scPsh.nd rfl (.inl rfl)) (pgs_cons (pg_name (i := 2) scPsh.nd rfl (.inl rfl)) pgs_nil))) (pss_one (ps_if (PW.pt (pw_or (pt_not (pt_val (pe_call GT hr (by rfl) gt kt bt .nil pass0 (pa_cons (pv 1) pa_nil)))) (pw_or1 (pt_not (PW.pt (pw_or (pt_val (pe_call GX hr (by rfl) gx kx bx .nil pass0 (pa_cons (pv 2) pa_nil))) (pw_or1 (pt_val (pe_call GN hr (by rfl) gn kn bn .nil pass0 (pa_cons (pv 2) pa_nil)))))))))) (pss_one (ps_ret pe_bl)) pss_nil)))
      (pss_one (ps_ret (pe_and (pe_call GB hr (by rfl) gb kb bb .nil pass0 (pa_cons (pe_lc (own := [("pair", 3)]) (g := gName 3) (tt := tYes) rfl scPsh.nd (pi_tup (pe_ix ix_tup (pv 0) pe_int (fun _ _ => rfl))) (blkOk_by (N := ["form", "text", "thing", "pair"]) (sc := defScope sPsh) (by decide +kernel)) (fun _ _ _ _ _ => (pg_name (i := 3) scPsh.nd rfl (.inl rfl))) (fun _ _ _ _ _ => pts_nil) (fun _ _ _ _ _ => (pe_ix (show IxR _ (rIxT K) from ix_tup) (pv 3) pe_int (fun _ _ => rfl)))) pa_nil)) (pe_one (pe_call GU hr (by rfl) gu ku bu .nil pass0 (pa_cons (pe_lc (own := [("pair", 3)]) (g := gName 3) (tt := tYes) rfl scPsh.nd (pi_tup (pe_ix ix_tup (pv 0) pe_int (fun _ _ => rfl))) (blkOk_by (N := ["form", "text", "thing", "pair"]) (sc := defScope sPsh) (by decide +kernel)) (fun _ _ _ _ _ => (pg_name (i := 3) scPsh.nd rfl (.inl rfl))) (fun _ _ _ _ _ => pts_nil) (fun _ _ _ _ _ => (pe_ix (show IxR _ (rIxT K) from ix_tup) (pv 3) pe_int (fun _ _ => rfl)))) pa_nil)))))))), ?_⟩
        have wl := rb.len
        rw [List.length_map] at wl
        have ats : ∀ H', Kp (TM TT) H H' → H' a = some (.tup [.str f.word, .ref b]) ∧ H' b = some (.tup ws) := fun H' k' => ⟨k' a _ (fun m => t.1.noT a _ m e) e, k' b _ (fun m => t.1.noT b _ m eb) eb⟩
        have item : ∀ (j : Nat) (x : V), ws[j]? = some x → ∃ (p : Str × RT.D) (c : Addr) (y : V), ps[j]? = some p ∧ x = .ref c ∧ H c = some (.tup [.str p.1, y]) ∧ p.1.length ≤ sizeLine ∧ Rp H y p.2 := fun j x hx => by
          obtain ⟨d, ed, rx⟩ := rb.get j x hx
          rw [List.getElem?_map] at ed
          obtain ⟨p, ep, rfl⟩ := Option.map_eq_some_iff.mp ed
          obtain ⟨c, x1, y, rfl, ec, r1, r2⟩ := rps_pair rx
          cases r1 with
          | str hl => exact ⟨p, c, y, ep, rfl, ec, hl, r2⟩
        refine ⟨_, rfl, a, _, 1, .ref b, rfl, rfl, SqT.of e, atI_nat (j := 1) rfl, _, ps.map (fun p => (.str p.1, p.2)), rfl, ?_, ?_, t.1, fun H1 k1 t1 => ⟨true, rfl, iteF ?_⟩⟩
        · rw [List.map_map]
          exact r10
        · intro z
          exact hp.ne (List.map_eq_nil_iff.mp z)
        refine ⟨_, rfl, a, _, 1, .ref b, rfl, rfl, SqT.of (ats H1 k1).1, atI_nat (j := 1) rfl, b, rfl, ⟨_, SqT.of (ats H1 k1).2⟩, ?_⟩
        refine for_tup (xs := ws) (fun i σ H2 => (∃ y1 y2 y3, σ = [some (.ref a), y1, y2, y3]) ∧ Kp (TM TT) H H2 ∧ Tabs TT H2) ?_ ?_ ?_ ?_
        · exact ⟨⟨_, _, _, rfl⟩, k1, t1⟩
        · exact fun i σ H2 _ h => SqT.of (ats H2 h.2.1).2
        · rintro i x σ H2 hx ⟨⟨y1, y2, y3, rfl⟩, k2, t2⟩
          obtain ⟨p, c, y, ep, rfl, ec, hl, ry⟩ := item i x hx
          obtain ⟨tok, pl⟩ := hp.ok p (List.mem_of_getElem? ep)
          obtain ⟨pz, pd⟩ := p
          dsimp only at tok pl ec hl ry
          have ec2 := k2 c _ (fun m => t.1.noT c _ m ec) ec
          refine ⟨c, _, rfl, SqT.of ec2, rfl, _, _, rfl, _, _, rfl, rfl, ?_⟩
          refine ⟨_, rfl, pz, rfl, tok, hl, t2, fun H3 k3 t3 => ⟨true, rfl, iteF ?_⟩⟩
          have fin : ∀ H4, Kp (TM TT) H3 H4 → Tabs TT H4 → (∃ z1 z2 z3, (([some (V.ref a), y1, y2, y3].set 1 (some (V.str pz))).set 2 (some y)) = [some (.ref a), z1, z2, z3]) ∧ Kp (TM TT) H H4 ∧ Tabs TT H4 := fun H4 k4 t4 => ⟨⟨_, _, _, rfl⟩, (k2.trans k3).trans k4, t4⟩
          cases ry with
          | @str z hz => exact ⟨_, rfl, _, true, rfl, .inl ⟨z, rfl, pl, rfl⟩, t3, fun H4 k4 t4 => ⟨true, rfl, iteT (iteF (fin H4 k4 t4))⟩⟩
          | @int i => exact ⟨_, rfl, _, false, rfl, .inr ⟨i, rfl, rfl⟩, t3, fun H4 k4 t4 => ⟨false, rfl, iteF ⟨_, rfl, i, rfl, pl, true, rfl, iteF (fin H4 k4 t4)⟩⟩⟩
          | non => exact pl.elim
          | tup _ _ => exact pl.elim
        · rintro σ H2 ⟨⟨y1, y2, y3, rfl⟩, k2, t2⟩
          have few := hp.few
          have hl1 : (ps.map fun p => V.str p.1).length = ws.length := by rw [List.length_map, wl]
          have hl2 : (ps.map fun p => kV (keyD p.2)).length = ws.length := by rw [List.length_map, wl]
          have lw : ws.length ≤ 1000 := by omega
          refine ⟨_, rfl, a, _, 1, .ref b, rfl, rfl, SqT.of (ats H2 k2).1, atI_nat (j := 1) rfl, b, rfl, ⟨_, SqT.of (ats H2 k2).2⟩, fun D1 n1 => ?_⟩
          refine lc_vals lw hl1 (ats H2 k2).2 n1 (fun j x y H4 Q' N' hx hy k4 q => ?_) fun H3 k3 e3 => ?_
          · obtain ⟨p, c, u, ep, rfl, ec, hl, ry⟩ := item j x hx
            rw [List.getElem?_map, ep] at hy
            cases hy
            have ec4 := k4 c _ (fun z => z) (k2 c _ (fun m => t.1.noT c _ m ec) ec)
            exact ⟨rfl, tYes_ok (iteT ⟨_, rfl, c, _, 0, _, rfl, rfl, SqT.of ec4, atI_nat (j := 0) rfl, q⟩)⟩
          have k23 : Kp (TM TT) H H3 := k2.trans (k3.mono fun _ z => z.elim)
          have t3 : Tabs TT H3 := t2.off k3 fun _ _ z => z
          refine ⟨D1, ps.map (·.1), rfl, SqL.of (by rw [e3, List.map_map]; rfl), by rw [List.length_map]; omega, ?_, t3, ?_, fun H4 k4 t4 => ⟨true, rfl, iteT ?_⟩⟩
          · exact List.pairwise_map.mpr hp.pre
          · intro z hz
            obtain ⟨p, mp, rfl⟩ := List.mem_map.mp hz
            obtain ⟨j, hj⟩ := List.mem_iff_getElem?.mp mp
            have lt : j < ws.length := by rw [wl]; exact (List.getElem?_eq_some_iff.mp hj).1
            obtain ⟨p', c, u, ep, _, _, hl, _⟩ := item j ws[j] (List.getElem?_eq_getElem lt)
            rw [hj] at ep
            cases ep
            exact hl
          have k04 := k23.trans k4
          refine ⟨_, rfl, a, _, 1, .ref b, rfl, rfl, SqT.of (ats H4 k04).1, atI_nat (j := 1) rfl, b, rfl, ⟨_, SqT.of (ats H4 k04).2⟩, fun D2 n2 => ?_⟩
          refine lc_vals lw hl2 (ats H4 k04).2 n2 (fun j x y H5 Q' N' hx hy k5 q => ?_) fun H5 k5 e5 => ?_
          · obtain ⟨p, c, u, ep, rfl, ec, hl, ry⟩ := item j x hx
            rw [List.getElem?_map, ep] at hy
            cases hy
            have ec5 := k5 c _ (fun z => z) (k04 c _ (fun m => t.1.noT c _ m ec) ec)
            have eu := key_plain (hp.ok p (List.mem_of_getElem? ep)).2 ry
            have q : Q' u H5 := by
              rw [eu]
              exact q
            exact ⟨rfl, tYes_ok (iteT ⟨_, rfl, c, _, 1, _, rfl, rfl, SqT.of ec5, atI_nat (j := 1) rfl, q⟩)⟩
          refine ⟨D2, ps.map fun p => keyD p.2, rfl, SqL.of (by rw [e5, List.map_map]; rfl), ?_, by rw [List.length_map]; omega, ?_⟩
          · refine List.pairwise_map.mpr ?_
            refine List.Pairwise.imp_of_mem (fun {p q} mp mq n => ?_) hp.un
            exact key_ne (hp.ok p mp).2 (hp.ok q mq).2 n
          · exact t.2 H5 (k04.trans (k5.mono fun _ z => z.elim)) (t4.off k5 fun _ _ z => z)
theorem ok_esh {N : List Str} {TT : List Addr} {T c f fa ft fu : Addr} {fd fda fdt fdu : FuncData} {k : Nat} (F : FunT K "_either_shape" "_either_shape" sEsh f fd c) (hk : 3 ≤ k) (mT : T ∈ TT) (TB : GxR.TabB base mg c T)
    (GA : FnOk P w K mg base CX0 k fa fda ["x"] (spAp TT)) (ka : PySem.W.keepIn K (.ref fa) = true) (ba : Binds K fda ["x"] []) (ga : mg "_are_pairs" = some (.ref fa))
    (GT : FnOk P w K mg base CX0 (k - 3) ft fdt ["x"] (spNm TT)) (kt : PySem.W.keepIn K (.ref ft) = true) (bt : Binds K fdt ["x"] []) (gt : mg "is_name" = some (.ref ft))
    (GU : FnOk P w K mg base CX0 k fu fdu ["many"] (spUn K)) (ku : PySem.W.keepIn K (.ref fu) = true) (bu : Binds K fdu ["many"] []) (gu : mg "_unlike" = some (.ref fu)) (mall : mg "all" = none) :
    FnOk P w K mg base CX0 (k + 1) f fd ["form"] (spShp N (fun f => f.word = "either") TT) := by
  obtain ⟨j, rfl⟩ : ∃ j, k = j + 3 := ⟨k - 3, by omega⟩
  refine F.ok scEsh (fun vs H Q E h => ?_) (fun A outer s H vs Q E hr h => ?_)
  · obtain ⟨z, f, rfl, _⟩ := h
    rfl
  · obtain ⟨v, f, rfl, hW, hR, wf, ok, t⟩ := h
    obtain ⟨ns, ds, ea, hne, few, nd, hnm, hlen⟩ := wf_either wf ok hW
    obtain ⟨a, us, rfl, e, ru⟩ := hR.fo
    rw [ea] at ru
    cases ru with
    | cons r1 r2 =>
      cases r2
      have r10 := r1
      cases r1 with
      | @tup b ws _ eb rb =>
        refine ⟨_, (pss_cons (ps_if (PW.pt (pw_or (pt_not (pt_val (pe_call GA hr (by rfl) ga ka ba .nil pass0 (pa_cons (pe_ix ix_tup (pv 0) pe_int (fun _ _ => rfl)) pa_nil)))) (pw_or1 (pt_not (pt_val (GE.pe_allG (own := [("name", 1), ("_", 2)]) (gt := gTup K 2 (gCons (gName 1) (gCons (gName 2) gNil))) hr rfl scEsh.nd (by rfl) mall TB rfl (blkOk_by (N := ["form", "name", "_"]) (sc := defScope sEsh) (by decide +kernel)) ⟨rfl, by decide +kernel, rfl⟩ (pi_tup (pe_ix ix_tup (pv 0) pe_int (fun _ _ => rfl))) (fun _ _ _ _ _ _ _ _ => (pg_tup rfl (pgs_cons (pg_name (i := 1) scEsh.nd rfl (.inl rfl)) (pgs_cons (pg_name (i := 2) scEsh.nd rfl (.inl rfl)) pgs_nil)))) (fun _ _ _ _ _ _ _ _ hb => (pe_call GT hb (by rfl) gt kt bt .nil pass0 (pa_cons (pv 1) pa_nil))))))))) (pss_one (ps_ret pe_bl)) pss_nil)
      (pss_one (ps_ret (pe_call GU hr (by rfl) gu ku bu .nil pass0 (pa_cons (pe_lc (own := [("name", 1), ("_", 2)]) (g := gTup K 2 (gCons (gName 1) (gCons (gName 2) gNil))) (tt := tYes) rfl scEsh.nd (pi_tup (pe_ix ix_tup (pv 0) pe_int (fun _ _ => rfl))) (blkOk_by (N := ["form", "name", "_"]) (sc := defScope sEsh) (by decide +kernel)) (fun _ _ _ _ _ => (pg_tup rfl (pgs_cons (pg_name (i := 1) scEsh.nd rfl (.inl rfl)) (pgs_cons (pg_name (i := 2) scEsh.nd rfl (.inl rfl)) pgs_nil)))) (fun _ _ _ _ _ => pts_nil) (fun _ _ _ _ _ => (pv 1))) pa_nil))))), ?_⟩
        have zl : (ns.zip ds).length = ns.length := by rw [List.length_zip]; omega
        have wl := rb.len
        rw [List.length_map, zl] at wl
        have ats : ∀ H', Kp (TM TT) H H' → H' a = some (.tup [.str f.word, .ref b]) ∧ H' b = some (.tup ws) := fun H' k' => ⟨k' a _ (fun m => t.1.noT a _ m e) e, k' b _ (fun m => t.1.noT b _ m eb) eb⟩
        have item : ∀ (j : Nat) (x : V), ws[j]? = some x → ∃ (n : Str) (c : Addr) (y : V), ns[j]? = some n ∧ x = .ref c ∧ H c = some (.tup [.str n, y]) := fun j x hx => by
          obtain ⟨d, ed, rx⟩ := rb.get j x hx
          rw [List.getElem?_map] at ed
          obtain ⟨p, ep, rfl⟩ := Option.map_eq_some_iff.mp ed
          obtain ⟨c, x1, y, rfl, ec, r1, r2⟩ := rps_pair rx
          cases r1 with
          | str hl => exact ⟨p.1, c, y, (List.getElem?_zip_eq_some.mp ep).1, rfl, ec⟩
        refine ⟨_, rfl, a, _, 1, .ref b, rfl, rfl, SqT.of e, atI_nat (j := 1) rfl, _, (ns.zip ds).map (fun p => (.str p.1, p.2)), rfl, ?_, ?_, t.1, fun H1 k1 t1 => ⟨true, rfl, iteF ?_⟩⟩
        · rw [List.map_map]
          exact r10
        · intro z
          have z2 := congrArg List.length z
          rw [List.length_map, zl] at z2
          exact hne (List.eq_nil_of_length_eq_zero z2)
        refine ⟨_, rfl, a, _, 1, .ref b, rfl, rfl, SqT.of (ats H1 k1).1, atI_nat (j := 1) rfl, b, rfl, ⟨_, SqT.of (ats H1 k1).2⟩, ?_⟩
        refine gen_onQ mT t1 ws.length (fun H2 k2 t2 => ⟨true, rfl, iteF ?_⟩) (fun i H' lt k => ⟨ws, ws[i], SqT.of (ats H' (k1.trans k)).2, List.getElem?_eq_getElem lt⟩) (fun H' k => ⟨ws, SqT.of (ats H' (k1.trans k)).2, Nat.le_refl _⟩) fun i x H' H'' lt k t' y => ?_
        · have k12 := k1.trans k2
          have hl1 : (ns.map V.str).length = ws.length := by rw [List.length_map, wl]
          have lw : ws.length ≤ 1000 := by omega
          refine ⟨_, rfl, a, _, 1, .ref b, rfl, rfl, SqT.of (ats H2 k12).1, atI_nat (j := 1) rfl, b, rfl, ⟨_, SqT.of (ats H2 k12).2⟩, fun D1 n1 => ?_⟩
          refine lc_vals lw hl1 (ats H2 k12).2 n1 (fun j x y H4 Q' N' hx hy k4 q => ?_) fun H3 k3 e3 => ?_
          · obtain ⟨n, c, u, ep, rfl, ec⟩ := item j x hx
            rw [List.getElem?_map, ep] at hy
            cases hy
            have ec4 := k4 c _ (fun z => z) (k12 c _ (fun m => t.1.noT c _ m ec) ec)
            exact ⟨c, _, rfl, SqT.of ec4, rfl, _, _, rfl, _, _, rfl, rfl, rfl, tYes_ok (iteT ⟨_, rfl, q⟩)⟩
          refine ⟨D1, ns.map Sum.inr, rfl, SqL.of (by rw [e3, List.map_map]; rfl), ?_, by rw [List.length_map]; omega, ?_⟩
          · refine List.pairwise_map.mpr ?_
            exact List.Pairwise.imp (fun n z => n (Sum.inr.inj z)) nd
          · exact t.2 H3 (k12.trans (k3.mono fun _ z => z.elim)) (t2.off k3 fun _ _ z => z)
        · obtain ⟨rfl, hx⟩ := y
          have ex := hx ws (SqT.of (ats _ (k1.trans k)).2)
          obtain ⟨n, c, u, ep, rfl, ec⟩ := item i x ex
          have ec4 := (k1.trans k) c _ (fun m => t.1.noT c _ m ec) ec
          refine ⟨c, _, rfl, SqT.of ec4, rfl, _, _, rfl, _, _, rfl, rfl, rfl, _, rfl, n, rfl, hnm n (List.mem_of_getElem? ep), t', fun H5 k5 t5 => On.mk rfl (k.trans k5) t5⟩
theorem ok_spsh {N : List Str} {TT : List Addr} {T c f fh : Addr} {fd fdh : FuncData} {k : Nat} (F : FunT K "_spelt_shape" "_spelt_shape" sSpsh f fd c) (hk : 3 ≤ k) (mT : T ∈ TT) (TB : GxR.TabB base mg c T)
    (GH : FnOk P w K mg base CX0 k fh fdh ["x"] (spShp N Fo.spells TT)) (kh : PySem.W.keepIn K (.ref fh) = true) (bh : Binds K fdh ["x"] []) (gh : mg "_has_shape" = some (.ref fh))
    (mall : mg "all" = none) (ml : mg "len" = none) (mi : mg "isinstance" = none) (ms : mg "str" = none) : FnOk P w K mg base CX0 (k + 1) f fd ["form"] (spShp N (fun f => f.word = "spelt") TT) := by
  obtain ⟨j, rfl⟩ : ∃ j, k = j + 3 := ⟨k - 3, by omega⟩
  refine F.ok scSpsh (fun vs H Q E h => ?_) (fun A outer s H vs Q E hr h => ?_)
  · obtain ⟨z, f, rfl, _⟩ := h
    rfl
  · obtain ⟨v, f, rfl, hW, hR, wf, ok, t⟩ := h
    obtain ⟨g, ea, gw, gok, gs⟩ := wf_spelt wf ok hW
    obtain ⟨a, us, rfl, e, ru⟩ := hR.fo
    rw [ea] at ru
    cases ru with
    | cons r1 r2 =>
      cases r2
      obtain ⟨b, us2, rfl, eb, rb⟩ := r1.fo
      have ats : ∀ H', Kp (TM TT) H H' → H' a = some (.tup [.str f.word, .ref b]) ∧ H' b = some (.tup (.str g.word :: us2)) := fun H' k' => ⟨k' a _ (fun m => t.1.noT a _ m e) e, k' b _ (fun m => t.1.noT b _ m eb) eb⟩
      refine ⟨_, (pss_cons (ps_if (pt_not (pt_val (pe_call GH hr (by rfl) gh kh bh .nil pass0 (pa_cons (pe_ix ix_tup (pv 0) pe_int (fun _ _ => rfl)) pa_nil)))) (pss_one (ps_ret pe_bl)) pss_nil)
      (pss_cons (ps_if (pt_cmpR op_eq (pe_ix ix_tup (pe_ix ix_tup (pv 0) pe_int (fun _ _ => rfl)) pe_int (fun _ _ => rfl)) pe_str (nomark _)) (pss_one (ps_ret (GE.pe_allG (own := [("_", 2), ("thing", 1)]) (gt := gTup K 2 (gCons (gName 2) (gCons (gName 1) gNil))) hr rfl scSpsh.nd (by rfl) mall TB rfl (blkOk_by (N := ["form", "thing", "_"]) (sc := defScope sSpsh) (by decide +kernel)) ⟨rfl, by decide +kernel, rfl⟩ (pi_tup (pe_ix ix_tup (pe_ix ix_tup (pv 0) pe_int (fun _ _ => rfl)) pe_int (fun _ _ => rfl))) (fun _ _ _ _ _ _ _ _ => (pg_tup rfl (pgs_cons (pg_name (i := 2) scSpsh.nd rfl (.inl rfl)) (pgs_cons (pg_name (i := 1) scSpsh.nd rfl (.inl rfl)) pgs_nil)))) (fun _ _ _ _ _ _ _ _ _ => (pe_and (pe_callB (show CallR _ (.builtin "isinstance") (rIsi K) from call_isi) (by rfl) mi (by decide +kernel) (pa_cons (pv 1) (pa_cons (pe_bltn (v := .ty "str") (by rfl) ms (by decide +kernel) rfl) pa_nil))) (pe_one (pe_cmpR op_eq (pe_callB call_len_str (by rfl) ml PySem.boot_len (pa_cons (pv 1) pa_nil)) pe_int (nomark _)))))))) pss_nil)
      (pss_one (ps_ret (pe_cmpR op_eq (pe_ix ix_tup (pe_ix ix_tup (pv 0) pe_int (fun _ _ => rfl)) pe_int (fun _ _ => rfl)) pe_str (nomark _)))))), ?_⟩
      refine ⟨_, rfl, a, _, 1, .ref b, rfl, rfl, SqT.of e, atI_nat (j := 1) rfl, _, g, rfl, gs, r1, gw, gok, t.1, fun H1 k1 t1 => ⟨true, rfl, iteF ?_⟩⟩
      obtain ⟨a1, b1⟩ := ats H1 k1
      cases g with
      | leaf w r =>
        rcases gs with ⟨rfl, z, rfl⟩ | ⟨rfl, ps, rfl, hps⟩
        · refine ⟨_, rfl, a, _, 1, .ref b, rfl, rfl, SqT.of a1, atI_nat (j := 1) rfl, b, _, 0, .str _, rfl, rfl, SqT.of b1, atI_nat (j := 0) rfl, rfl, _, rfl, iteF' (show decide (V.str "sign" = V.str "pick") = false by decide) ?_⟩
          refine ⟨_, rfl, a, _, 1, .ref b, rfl, rfl, SqT.of a1, atI_nat (j := 1) rfl, b, _, 0, .str _, rfl, rfl, SqT.of b1, atI_nat (j := 0) rfl, rfl, ?_⟩
          exact qT (show decide (V.str "sign" = V.str "sign") = true by decide) (t.2 H1 k1 t1)
        · refine ⟨_, rfl, a, _, 1, .ref b, rfl, rfl, SqT.of a1, atI_nat (j := 1) rfl, b, _, 0, .str _, rfl, rfl, SqT.of b1, atI_nat (j := 0) rfl, rfl, _, rfl, iteT' (show decide (V.str "pick" = V.str "pick") = true by decide) ?_⟩
          cases rb with
          | cons q1 q2 =>
            cases q2
            cases q1 with
            | @tup c2 ws _ ec rc =>
              have wl := rc.len
              rw [List.length_map] at wl
              have at2 : ∀ H', Kp (TM TT) H H' → H' c2 = some (.tup ws) := fun H' k' => k' c2 _ (fun m => t.1.noT c2 _ m ec) ec
              refine ⟨_, rfl, a, _, 1, .ref b, rfl, rfl, SqT.of a1, atI_nat (j := 1) rfl, b, _, 1, .ref c2, rfl, rfl, SqT.of b1, atI_nat (j := 1) rfl, c2, rfl, ⟨_, SqT.of (at2 H1 k1)⟩, ?_⟩
              refine gen_onQ mT t1 ws.length (fun H2 k2 t2 => t.2 H2 (k1.trans k2) t2) (fun i H' lt k => ⟨ws, ws[i], SqT.of (at2 H' (k1.trans k)), List.getElem?_eq_getElem lt⟩) (fun H' k => ⟨ws, SqT.of (at2 H' (k1.trans k)), Nat.le_refl _⟩) fun i x H' H'' lt k t' y => ?_
              obtain ⟨rfl, hx⟩ := y
              have ex := hx ws (SqT.of (at2 _ (k1.trans k)))
              obtain ⟨d, ed, rx⟩ := rc.get i x ex
              rw [List.getElem?_map] at ed
              obtain ⟨p, ep, rfl⟩ := Option.map_eq_some_iff.mp ed
              obtain ⟨c3, x1, y, rfl, ec3, r1, r2⟩ := rps_pair rx
              obtain ⟨ch, ech⟩ := hps p (List.mem_of_getElem? ep)
              rw [ech] at r2
              cases r2
              have ec4 := (k1.trans k) c3 _ (fun m => t.1.noT c3 _ m ec3) ec3
              refine ⟨c3, _, rfl, SqT.of ec4, rfl, _, _, rfl, _, _, rfl, rfl, rfl, ?_⟩
              refine ⟨_, rfl, _, .ty "str", .type "str", .type "str", true, rfl, .ty _, .base (.str _), kit_ty (by decide +kernel), true, rfl, iteT ?_⟩
              exact ⟨_, rfl, _, rfl, by show 1 ≤ sizeLine; decide, rfl, On.mk rfl k t'⟩
      | _ => exact gs.elim
end
end RT

/-! turned forms -/
namespace RT
open PySem PySem.Spec PyProof.Rows L2
abbrev sTsh2 : Stmt := topS 26
theorem scTsh2 : FnScope ["form", "numbers", "pair", "thing"] ["form"] (defScope sTsh2) := ⟨rfl, rfl, rfl, by decide +kernel, rfl, by decide +kernel, by decide +kernel⟩
theorem units_of {k : Nat} {A : Around} (hr : Room k A) : A.units + 65 < cLine := by
  have := hr.un
  omega
mutual
def D.data : RT.D → PyData
  | .str z => .str z
  | .int i => .int i
  | .non => .none
  | .tup ds => .tuple (D.datas ds)
def D.datas : List RT.D → List PyData
  | [] => []
  | d :: r => d.data :: D.datas r
end
mutual
theorem D.eqv : ∀ d e : RT.D, PyData.eqv d.data e.data = true → d = e
  | .str x, .str y, h => by rw [eq_of_beq (show (x == y) = true from h)]
  | .int i, .int j, h => by rw [eq_of_beq (show (i == j) = true from h)]
  | .non, .non, _ => rfl
  | .tup ds, .tup es, h => by rw [D.eqvs ds es h]
  | .str _, .int _, h | .str _, .non, h | .str _, .tup _, h => by cases h
  | .int _, .str _, h | .int _, .non, h | .int _, .tup _, h => by cases h
  | .non, .str _, h | .non, .int _, h | .non, .tup _, h => by cases h
  | .tup _, .str _, h | .tup _, .int _, h | .tup _, .non, h => by cases h
theorem D.eqvs : ∀ ds es : List RT.D, PyData.eqvAll (D.datas ds) (D.datas es) = true → ds = es
  | [], [], _ => rfl
  | d :: r, e :: q, h => by
    obtain ⟨h1, h2⟩ := Bool.and_eq_true_iff.mp (show (PyData.eqv d.data e.data && PyData.eqvAll (D.datas r) (D.datas q)) = true from h)
    rw [D.eqv d e h1, D.eqvs r q h2]
  | [], _ :: _, h => by cases h
  | _ :: _, [], h => by cases h
end
theorem sign_lt {c : Nat} (h : signB c = true) : c < 127 := by
  unfold signB at h
  by_cases e : c = 10
  · omega
  · rw [if_neg e] at h
    have h1 := (Bool.and_eq_true_iff.mp (Bool.and_eq_true_iff.mp h).1).2
    have e2 : (Str.ofString "~").cps.toList = [126] := rfl
    rw [e2, Bool.not_eq_true', decide_eq_false_iff_not] at h1
    have := mt (lt1 126 c).mpr h1
    omega
mutual
theorem Rp.dp {K : PySem.W.Frag} {H : Hp} : ∀ {v : V} {d : RT.D}, Rp H v d → d.thing → Dp K H v d.data ∧ d.data.canLay0 = true ∧ d.data.depth ≤ d.size
  | _, _, @Rp.str _ z _, g => by
    refine ⟨.str z, ?_, Nat.zero_le _⟩
    show PyData.strOk z = true
    unfold PyData.strOk
    rw [Array.all_eq_true']
    intro c hc
    have := sign_lt (g c (Array.mem_toList_iff.mpr hc))
    exact decide_eq_true (by omega)
  | _, _, @Rp.int _ i, _ => ⟨.int i, rfl, Nat.zero_le _⟩
  | _, _, .non, g => g.elim
  | _, _, .tup e r, g => by
    obtain ⟨a, b, c⟩ := Rps.dp (K := K) r g
    refine ⟨.tup (SqT.of e) a, b, ?_⟩
    show _ + 1 ≤ 1 + _
    omega
theorem Rps.dp {K : PySem.W.Frag} {H : Hp} : ∀ {vs : List V} {ds : List RT.D}, Rps H vs ds → D.things ds → DpAll K H vs (D.datas ds) ∧ PyData.canLayAll0 (D.datas ds) = true ∧ PyData.depthAll (D.datas ds) ≤ D.sizes ds
  | _, _, .nil, _ => ⟨.nil, rfl, Nat.le_refl _⟩
  | _, _, .cons q r, g => by
    obtain ⟨a, b, c⟩ := Rp.dp (K := K) q g.1
    obtain ⟨a', b', c'⟩ := Rps.dp (K := K) r g.2
    refine ⟨.cons a a', ?_, ?_⟩
    · show (_ && _) = true
      rw [b, b']
      rfl
    · show max _ _ ≤ _ + _
      omega
end
theorem wf_turned {f : Fo} (h : f.wf) (e : f.word = "turned") : ∃ (g : Fo) (prs : List (RT.D × RT.D)), f.args = g.enc :: turnR prs ∧ TurnOk g prs := by
  cases f with
  | leaf w r =>
    rcases h with ⟨rfl, z, rfl, hz⟩ | ⟨h, z, rfl, hz⟩ | ⟨rfl, rfl⟩ | ⟨rfl, ps, rfl, hp⟩
    · ((try simp only [Fo.word] at e); exact absurd e (by decide))
    · rcases h with rfl | rfl <;> ((try simp only [Fo.word] at e); exact absurd e (by decide))
    · ((try simp only [Fo.word] at e); exact absurd e (by decide))
    · ((try simp only [Fo.word] at e); exact absurd e (by decide))
  | one w f r =>
    rcases h.2 with ⟨rfl, rfl⟩ | ⟨rfl, rfl, hs⟩ | ⟨rfl, ps, rfl, ht⟩
    · ((try simp only [Fo.word] at e); exact absurd e (by decide))
    · ((try simp only [Fo.word] at e); exact absurd e (by decide))
    · exact ⟨f, ps, rfl, ht⟩
  | _ => ((try simp only [Fo.word] at e); exact absurd e (by decide))
theorem datas_map : ∀ ds : List RT.D, D.datas ds = ds.map D.data
  | [] => rfl
  | d :: r => by rw [List.map_cons, ← datas_map r]; rfl
theorem sizes_le {n : Nat} : ∀ ds : List RT.D, (∀ d ∈ ds, d.size ≤ n) → D.sizes ds ≤ ds.length * n
  | [], _ => Nat.zero_le _
  | d :: r, h => by
    have h1 := h d (List.mem_cons_self ..)
    have h2 := sizes_le r fun x m => h x (List.mem_cons_of_mem _ m)
    rw [List.length_cons, Nat.succ_mul]
    show d.size + D.sizes r ≤ _
    omega
theorem things_of : ∀ ds : List RT.D, (∀ d ∈ ds, d.thing) → D.things ds
  | [], _ => True.intro
  | d :: r, h => ⟨h d (List.mem_cons_self ..), things_of r fun x m => h x (List.mem_cons_of_mem _ m)⟩
theorem shaped_le {d : PyData} (h1 : d.canLay0 = true) (h2 : d.depth ≤ 60) : SeqAt.shaped d = true := by
  unfold SeqAt.shaped
  rw [h1, decide_eq_true (by omega)]
  rfl
theorem rps_has {H : Hp} : ∀ {vs : List V} {ds : List RT.D}, Rps H vs ds → ∀ d ∈ ds, ∃ v, Rp H v d
  | _, _, .nil, d, m => nomatch m
  | _, _, .cons r t, d, m => by
    rcases List.mem_cons.mp m with rfl | m
    · exact ⟨_, r⟩
    · exact rps_has t d m
theorem data_depth : ∀ ds : List RT.D, (∀ d ∈ ds, d.data.depth ≤ 20) → PyData.depthAll (D.datas ds) ≤ 20
  | [], _ => Nat.zero_le _
  | d :: r, h => by
    have h1 := h d (List.mem_cons_self ..)
    have h2 := data_depth r fun x m => h x (List.mem_cons_of_mem _ m)
    show max _ _ ≤ 20
    omega
theorem depth_le {H : Hp} (ds : List RT.D) (h : ∀ d ∈ ds, ∃ v, Rp H v d ∧ d.thing ∧ d.size ≤ 20) (K : PySem.W.Frag) : PyData.depthAll (D.datas ds) ≤ 20 := data_depth ds fun d m => by
  obtain ⟨v, r, g, s⟩ := h d m
  exact Nat.le_trans (r.dp (K := K) g).2.2 s
/-- the things of pairs, one behind another -/
abbrev fl (prs : List (RT.D × RT.D)) : List RT.D := prs.flatMap fun p => [p.1, p.2]
theorem fl_len : ∀ prs : List (RT.D × RT.D), (fl prs).length = 2 * prs.length
  | [] => rfl
  | p :: r => by
    have h := fl_len r
    have e : fl (p :: r) = [p.1, p.2] ++ fl r := List.flatMap_cons ..
    rw [e, List.length_append, List.length_cons (as := r), h]
    show 2 + 2 * r.length = _
    omega
theorem fl_app (ps : List (RT.D × RT.D)) (p : RT.D × RT.D) : fl (ps ++ (some p).toList) = fl ps ++ [p.1, p.2] := by
  rw [fl, List.flatMap_append]
  rfl
theorem fl_all {prs : List (RT.D × RT.D)} (h : ∀ p ∈ prs, p.1.thing ∧ p.2.thing ∧ p.1.size ≤ 20 ∧ p.2.size ≤ 20) : ∀ d ∈ fl prs, d.thing ∧ d.size ≤ 20 := fun d m => by
  obtain ⟨p, mp, md⟩ := List.mem_flatMap.mp m
  have q := h p mp
  simp only [List.mem_cons, List.not_mem_nil, or_false] at md
  rcases md with rfl | rfl
  · exact ⟨q.1, q.2.2.1⟩
  · exact ⟨q.2.1, q.2.2.2⟩
theorem Rps.take {H : Hp} : ∀ {vs : List V} {ds : List RT.D} (n : Nat), Rps H vs ds → Rps H (vs.take n) (ds.take n)
  | _, _, 0, _ => .nil
  | _, _, _ + 1, .nil => .nil
  | _, _, n + 1, .cons r t => .cons r (t.take n)
theorem cut_take (xs : List V) (k : Nat) (h : k ≤ xs.length) : cutV xs none (some (k : Int)) = xs.take k := by
  unfold cutV
  rw [HT.sIx_none, show HT.sIx xs.length xs.length (some (k : Int)) = min k xs.length from HT.sIx_nat xs.length xs.length k]
  rw [List.drop_zero, Nat.sub_zero, Nat.min_eq_left h]
theorem kp_new {H H1 H2 : Hp} {d : Addr} (a : Kp M0 H H1) (n : H d = none) (b : Kp (fun b => b = d) H1 H2) : Kp M0 H H2 := fun c o h e => b c o (fun z => by
  rw [z, n] at e
  cases e) (a c o h e)
/-- unlike things have unlike numbers -/
theorem dens_unlike {ns : List NestedKey} : ∀ {ms : List Nat} {ds : List RT.D}, Dens ns ms ds → ds.Nodup → ms.Nodup
  | _, _, .nil, _ => List.nodup_nil
  | _, _, .cons (m := m) a r, h => by
    obtain ⟨h1, h2⟩ := List.nodup_cons.mp h
    refine List.nodup_cons.mpr ⟨fun z => h1 ?_, dens_unlike r h2⟩
    exact dens_in r z a
where dens_in {ns : List NestedKey} {m : Nat} {d : RT.D} : ∀ {ms : List Nat} {ds : List RT.D}, Dens ns ms ds → m ∈ ms → Den ns m d → d ∈ ds
  | _, _, .cons a r, z, b => by
    rcases List.mem_cons.mp z with rfl | z
    · rw [Den.inj b a]
      exact List.mem_cons_self ..
    · exact List.mem_cons_of_mem _ (dens_in r z b)
section
variable {P : Program} {w : World} {K : PySem.W.Frag} {mg : Str → Option Value} {base : Heap}
theorem ok_tsh2 {N : List Str} {TT : List Addr} {f fa ft fu fi fn C : Addr} {fd fda fdt fdu fdi fdn : FuncData} {k : Nat} (F : Fun K "_turned_shape" "_turned_shape" sTsh2 f fd)
    (GA : FnOk P w K mg base CX0 (k + 1) fa fda ["x"] (spAp TT)) (ka : PySem.W.keepIn K (.ref fa) = true) (ba : Binds K fda ["x"] []) (ga : mg "_are_pairs" = some (.ref fa))
    (GT : FnOk P w K mg base CX0 (k + 1) ft fdt ["x"] (spTh TT)) (kt : PySem.W.keepIn K (.ref ft) = true) (bt : Binds K fdt ["x"] []) (gt : mg "is_thing" = some (.ref ft))
    (GU : FnOk P w K mg base CX0 (k + 1) fu fdu ["many"] (spUn K)) (ku : PySem.W.keepIn K (.ref fu) = true) (bu : Binds K fdu ["many"] []) (gu : mg "_unlike" = some (.ref fu))
    (TC : TnCls K mg C) (mC : mg "ThingNumbers" = some (.ref C)) (M : Mk K C fi) (GI : FnOk P w K mg base CX0 k fi fdi ["self"] (spTNi w C)) (bi : Binds K fdi ["self"] [])
    (mN : Meth K C "number" fn) (GN : FnOk P w K mg base CX0 (k + 1) fn fdn ["self", "thing"] (spTNn w C)) (bn : Binds K fdn ["self", "thing"] []) :
    FnOk P w K mg base CX0 (k + 2) f fd ["form"] (spShp N (fun f => f.word = "turned") TT) := by
  refine F.ok scTsh2 (fun vs H Q E h => ?_) (fun cdv A outer s H vs Q E hr h => ?_)
  · obtain ⟨z, f, rfl, _⟩ := h
    rfl
  · obtain ⟨v, f, rfl, hW, hR, wf, ok, t⟩ := h
    obtain ⟨d, prs, ea, hp⟩ := wf_turned wf hW
    obtain ⟨a, us, rfl, e, ru⟩ := hR.fo
    rw [ea] at ru
    cases ru with
    | @cons v0 _ _ _ r0 r1 =>
    cases r1 with
    | cons r1 r2 =>
      cases r2
      have r10 := r1
      cases r1 with
      | @tup b ws _ eb rb =>
        refine ⟨_, (pss_cons (ps_if (PW.pt (pw_or (pt_not (pt_val (pe_call GA hr (by rfl) ga ka ba .nil pass0 (pa_cons (pe_ix ix_tup (pv 0) pe_int (fun _ _ => rfl)) pa_nil)))) (pw_or1 (pt_not (pt_val (pe_call GT hr (by rfl) gt kt bt .nil pass0 (pa_cons (pe_ix ix_tup (pv 0) pe_int (fun _ _ => rfl)) pa_nil))))))) (pss_one (ps_ret pe_bl)) pss_nil)
      (pss_cons (ps_set (i := 1) scTsh2.nd rfl (.inr rfl) (pe_make0 M GI hr rfl mC bi .nil pass0))
      (pss_one (ps_ret (pe_call GU hr (by rfl) gu ku bu .nil pass0 (pa_cons (pe_lc2 (own := [("pair", 2), ("thing", 3)]) (vs1 := [3]) (wi1 := iTup K (tVar 2)) (g := gName 2) (tt := tYes) (g1 := gName 3) (tt1 := tYes) rfl scTsh2.nd (pi_tup (pe_ix ix_tup (pv 0) pe_int (fun _ _ => rfl))) (blkOk_by (N := ["form", "numbers", "pair", "thing"]) (sc := defScope sTsh2) (by decide +kernel)) (by decide) (fun _ _ _ _ _ => (pg_name (i := 2) scTsh2.nd rfl (.inl rfl))) (fun _ _ _ _ _ => pts_nil) (fun _ _ _ _ _ => (pi_tup (pv 2))) (fun _ _ _ _ _ => (pg_name (i := 3) scTsh2.nd rfl (.inl rfl))) (fun _ _ _ _ _ => pts_nil) (fun _ _ _ _ _ => (pe_meth (pv 1) (show Cls K C from TC.cl) (show Meth K C "number" fn from mN) GN hr bn .nil pass0 (pa_cons (pv 3) pa_nil)))) pa_nil)))))), ?_⟩
        have wl := rb.len
        rw [List.length_map] at wl
        have few := hp.few
        have ats : ∀ H', Kp (TM TT) H H' → H' a = some (.tup [.str f.word, v0, .ref b]) ∧ H' b = some (.tup ws) := fun H' k' => ⟨k' a _ (fun m => t.1.noT a _ m e) e, k' b _ (fun m => t.1.noT b _ m eb) eb⟩
        have thg : (RT.D.tup (prs.map fun p => .tup [p.1, p.2])).thing := things_of _ fun d m => by
          obtain ⟨p, mp, rfl⟩ := List.mem_map.mp m
          exact ⟨(hp.ok p mp).1, (hp.ok p mp).2.1, True.intro⟩
        have tsz : (RT.D.tup (prs.map fun p => .tup [p.1, p.2])).size ≤ 100000 := by
          have h1 := sizes_le (n := 41) (prs.map fun p => RT.D.tup [p.1, p.2]) fun d m => by
            obtain ⟨p, mp, rfl⟩ := List.mem_map.mp m
            have q := (hp.ok p mp).2.2
            show 1 + (p.1.size + (p.2.size + 0)) ≤ 41
            omega
          rw [List.length_map] at h1
          show 1 + D.sizes _ ≤ _
          omega
        refine ⟨_, rfl, a, _, 2, .ref b, rfl, rfl, SqT.of e, atI_nat (j := 2) rfl, _, prs, rfl, r10, hp.ne, t.1, fun H1 k1 t1 => ⟨true, rfl, iteF ?_⟩⟩
        have r11 := r10.keep k1 t.1.noT
        refine ⟨_, rfl, a, _, 2, .ref b, rfl, rfl, SqT.of (ats H1 k1).1, atI_nat (j := 2) rfl, _, _, rfl, r11, thg, tsz, t1, fun H2 k2' t2 => ⟨true, rfl, iteF ?_⟩⟩
        have k2 := k1.trans k2'
        -- numbers = ThingNumbers()
        intro x dx nx ndx nex
        have kx : Kp M0 H2 (upd (upd H2 dx (.own x)) x (.ins C dx [])) := (Kp.new ndx).trans (Kp.new (by rw [upd_ne nex.symm]; exact nx))
        refine ⟨x, dx, rfl, upd_same, fun dd H3 nd0 N3 kp3 => ⟨rfl, ?_⟩⟩
        have k3 : Kp M0 H2 H3 := fun b o h e => kp3 b o (kx b o h e) (ne_of_none e nx)
        have nd : H2 dd = none := by
          cases z : H2 dd with
          | none => rfl
          | some u =>
            rw [kx dd u (fun z => z) z] at nd0
            cases nd0
        have item : ∀ (j : Nat) (x : V), ws[j]? = some x → ∃ (p : RT.D × RT.D) (c : Addr) (u v : V), prs[j]? = some p ∧ x = .ref c ∧ H c = some (.tup [u, v]) ∧ Rp H u p.1 ∧ Rp H v p.2 := fun j x hx => by
          obtain ⟨d, ed, rx⟩ := rb.get j x hx
          rw [List.getElem?_map] at ed
          obtain ⟨p, ep, rfl⟩ := Option.map_eq_some_iff.mp ed
          obtain ⟨c, u, v, rfl, ec, r1, r2⟩ := rps_pair rx
          exact ⟨p, c, u, v, ep, rfl, ec, r1, r2⟩
        have rpt : ∀ {u : V} {d : RT.D} (H4 : Hp), Kp M0 H2 H4 → Rp H u d → Rp H4 u d := fun H4 k4 r => (r.keep k2 t.1.noT).keep k4 fun _ _ z => z.elim
        have at4 : ∀ H4, Kp M0 H2 H4 → H4 a = some (.tup [.str f.word, v0, .ref b]) ∧ H4 b = some (.tup ws) := fun H4 k4 => ⟨k4 _ _ (fun z => z) (ats H2 k2).1, k4 _ _ (fun z => z) (ats H2 k2).2⟩
        have lp : prs.length ≤ 400 := by omega
        refine ⟨_, rfl, a, _, 2, .ref b, rfl, rfl, SqT.of (at4 H3 k3).1, atI_nat (j := 2) rfl, b, rfl, ⟨_, SqT.of (at4 H3 k3).2⟩, fun Da nD => ?_⟩
        have nD2 : H2 Da = none := by
          cases z : H2 Da with
          | none => rfl
          | some u =>
            rw [k3 Da u (fun z => z) z] at nD
            cases nD
        refine ⟨fun i m H' => m = ws.length - i ∧ i ≤ ws.length ∧ Kp M0 H2 H' ∧ ∃ (ms : List Nat) (ks : List MK), H' Da = some (.lst (ms.map fun n : Nat => V.int (n : Int))) ∧ Dens (ks.map MK.nk) ms (fl (prs.take i)) ∧ TnAt w C H' x dd ks ∧ ks.length ≤ 120 * i,
          ⟨ws.length, rfl, Nat.zero_le _, k3.own nD2, [], [], upd_same, by rw [List.take_zero]; exact .nil, N3.new nD, Nat.le_refl _⟩, ?_⟩
        rintro i m H4 ⟨rfl, hi, k4, ms, ks, e4, dn, N4, lk⟩
        by_cases lt : i < ws.length
        · refine .inr ⟨⟨ws, ws[i], SqT.of (at4 H4 k4).2, List.getElem?_eq_getElem lt⟩, fun H' => Kp M0 H2 H' ∧ ∃ (ms : List Nat) (ks : List MK), H' Da = some (.lst (ms.map fun n : Nat => V.int (n : Int))) ∧ Dens (ks.map MK.nk) ms (fl (prs.take (i + 1))) ∧ TnAt w C H' x dd ks ∧ ks.length ≤ 120 * (i + 1), fun H' p' => ⟨ws.length - (i + 1), by omega, rfl, lt, p'⟩, fun z H' y => ?_⟩
          obtain ⟨rfl, hx⟩ := y
          have ex := hx ws (SqT.of (at4 H' k4).2)
          obtain ⟨p, c2, u, v, ep, rfl, ec, r1, r2⟩ := item i z ex
          have okp := hp.ok p (List.mem_of_getElem? ep)
          have ec4 : ∀ H5, Kp M0 H2 H5 → H5 c2 = some (.tup [u, v]) := fun H5 k5 => k5 c2 _ (fun z => z) (k2 c2 _ (fun m => t.1.noT c2 _ m ec) ec)
          refine ⟨rfl, tYes_ok (iteT ⟨_, rfl, c2, rfl, ⟨_, SqT.of (ec4 H' k4)⟩, fun j k H5 => k = 2 - j ∧ j ≤ 2 ∧ Kp M0 H2 H5 ∧ ∃ (ms : List Nat) (ks : List MK), H5 Da = some (.lst (ms.map fun n : Nat => V.int (n : Int))) ∧ Dens (ks.map MK.nk) ms (fl (prs.take i) ++ [p.1, p.2].take j) ∧ TnAt w C H5 x dd ks ∧ ks.length ≤ 120 * i + 60 * j,
            ⟨2, rfl, Nat.zero_le _, k4, ms, ks, e4, by rw [List.take_zero, List.append_nil]; exact dn, N4, lk⟩, ?_⟩)⟩
          rintro j k H5 ⟨rfl, hj, k5, ms5, ks5, e5, dn5, N5, lk5⟩
          by_cases lj : j < 2
          · have ej : [u, v][j]? = some [u, v][j] := List.getElem?_eq_getElem lj
            refine .inr ⟨⟨[u, v], [u, v][j], SqT.of (ec4 H5 k5), ej⟩, fun H' => Kp M0 H2 H' ∧ ∃ (ms : List Nat) (ks : List MK), H' Da = some (.lst (ms.map fun n : Nat => V.int (n : Int))) ∧ Dens (ks.map MK.nk) ms (fl (prs.take i) ++ [p.1, p.2].take (j + 1)) ∧ TnAt w C H' x dd ks ∧ ks.length ≤ 120 * i + 60 * (j + 1), fun H' p' => ⟨2 - (j + 1), by omega, rfl, lj, p'⟩, fun z H' y => ?_⟩
            obtain ⟨rfl, hx⟩ := y
            have exj := hx _ (SqT.of (ec4 H' k5))
            obtain ⟨dj, edj, rj, thj, sj⟩ : ∃ dj, [p.1, p.2][j]? = some dj ∧ Rp H z dj ∧ dj.thing ∧ dj.size ≤ 20 := by
              have j2 : j = 0 ∨ j = 1 := by omega
              rcases j2 with rfl | rfl
              · cases exj
                exact ⟨p.1, rfl, r1, okp.1, okp.2.2.1⟩
              · cases exj
                exact ⟨p.2, rfl, r2, okp.2.1, okp.2.2.2⟩
            obtain ⟨dx5, hx5⟩ := N5.ob
            refine ⟨rfl, tYes_ok (iteT ⟨_, rfl, x, dx5, _, rfl, hx5, known_no dd (by decide +kernel), _, rfl, x, dd, ks5, z, dj, rfl, N5, rpt H' k5 rj, thj, by omega, fun n ks6 H6 pf6 lk6 dn6 N6 kp6 ts6 => ?_⟩)⟩
            have e6 : H6 Da = some (.lst (ms5.map fun n : Nat => V.int (n : Int))) := kp6 _ _ (ne_of e5 N5.nums.d fun z => by cases z) e5
            have k6 : Kp M0 H2 H6 := kp_new k5 nd kp6
            have lms := dn5.len
            have fll := fl_len (prs.take i)
            have tl : (prs.take i).length ≤ prs.length := by rw [List.length_take]; exact Nat.min_le_right ..
            refine ⟨_, e6, ?_, k6.own nD2, ms5 ++ [n], ks6, by rw [upd_same, List.map_append]; rfl, ?_, N6.lst e6, by omega⟩
            · rw [List.length_map, lms, List.length_append, List.length_take, fll]
              have := Nat.min_le_left j [p.1, p.2].length
              exact small1000 (by omega)
            · rw [List.take_add_one, edj, ← List.append_assoc]
              exact Dens.app (dn5.mono pf6) (.cons dn6 .nil)
          · have e2 : j = 2 := by omega
            subst e2
            refine .inl ⟨⟨[u, v], SqT.of (ec4 H5 k5), Nat.le_refl _⟩, k5, ms5, ks5, e5, ?_, N5, by omega⟩
            rw [show prs.take (i + 1) = prs.take i ++ (some p).toList by rw [List.take_add_one, ep], fl_app]
            exact dn5
        · have ei : i = ws.length := by omega
          subst ei
          rw [wl, List.take_length] at dn
          refine .inl ⟨⟨ws, SqT.of (at4 H4 k4).2, Nat.le_refl _⟩, ?_⟩
          have k04 : Kp (TM TT) H H4 := k2.trans (k4.mono fun _ z => z.elim)
          have lms := dn.len
          have fll := fl_len prs
          refine ⟨Da, ms.map fun n : Nat => .inl (n : Int), rfl, SqL.of ?_, ?_, by rw [List.length_map]; omega, t.2 H4 k04 (t2.off k4 fun _ _ z => z)⟩
          · rw [List.map_map]
            exact e4
          · exact List.pairwise_map.mpr ((dens_unlike dn hp.un).imp fun ne z => ne (Int.ofNat_inj.mp (Sum.inl.inj z)))
end
end RT

set_option maxHeartbeats 1000000
/-! things of any kind, and what the program tells of them -/
namespace RT
open PySem PySem.Spec PyProof.Rows L2
inductive Dx
  | str (z : Str)
  | int (i : Int)
  | bl (b : Bool)
  | non
  | tup (ds : List Dx)
  | lst (ds : List Dx)
mutual
inductive Rq (H : Hp) : V → Dx → Prop
  | str {z : Str} : z.length ≤ sizeLine → Rq H (.str z) (.str z)
  | int {i : Int} : Rq H (.int i) (.int i)
  | bl {b : Bool} : Rq H (.bl b) (.bl b)
  | non : Rq H .non .non
  | tup {a : Addr} {vs : List V} {ds : List Dx} : H a = some (.tup vs) → Rqs H vs ds → Rq H (.ref a) (.tup ds)
  | lst {a : Addr} {vs : List V} {ds : List Dx} : H a = some (.lst vs) → Rqs H vs ds → Rq H (.ref a) (.lst ds)
inductive Rqs (H : Hp) : List V → List Dx → Prop
  | nil : Rqs H [] []
  | cons {v : V} {d : Dx} {vs : List V} {ds : List Dx} : Rq H v d → Rqs H vs ds → Rqs H (v :: vs) (d :: ds)
end
/-- tuples and lists stay -/
def TL2 (H H' : Hp) : Prop := ∀ (b : Addr) (vs : List V), (H b = some (.tup vs) → H' b = some (.tup vs)) ∧ (H b = some (.lst vs) → H' b = some (.lst vs))
theorem TL2.trans {H H1 H2 : Hp} (a : TL2 H H1) (b : TL2 H1 H2) : TL2 H H2 := fun c vs => ⟨fun e => (b c vs).1 ((a c vs).1 e), fun e => (b c vs).2 ((a c vs).2 e)⟩
theorem TL2.new {H : Hp} {p : Addr} {o : HO} (n : H p = none) : TL2 H (upd H p o) := fun b vs => ⟨fun e => by rw [upd_ne (ne_of_none e n)]; exact e, fun e => by rw [upd_ne (ne_of_none e n)]; exact e⟩
theorem TL2.refl {H : Hp} : TL2 H H := fun _ _ => ⟨id, id⟩
theorem tl2_tabs {TT : List Addr} {H H' : Hp} (t : Tabs TT H) (k : Kp (TM TT) H H') : TL2 H H' := fun b vs => ⟨fun e => k b _ (fun m => t.noT b vs m e) e, fun e => k b _ (fun m => by
  obtain ⟨ps, e2, _⟩ := t b m
  rw [e] at e2
  cases e2) e⟩
theorem tl2_0 {H H' : Hp} (k : Kp M0 H H') : TL2 H H' := fun b vs => ⟨k b _ (fun z => z), k b _ (fun z => z)⟩
mutual
theorem Rq.tl {H H' : Hp} (k : TL2 H H') : ∀ {v : V} {d : Dx}, Rq H v d → Rq H' v d
  | _, _, .str h => .str h
  | _, _, .int => .int
  | _, _, .bl => .bl
  | _, _, .non => .non
  | _, _, .tup e r => .tup ((k _ _).1 e) (Rqs.tl k r)
  | _, _, .lst e r => .lst ((k _ _).2 e) (Rqs.tl k r)
theorem Rqs.tl {H H' : Hp} (k : TL2 H H') : ∀ {vs : List V} {ds : List Dx}, Rqs H vs ds → Rqs H' vs ds
  | _, _, .nil => .nil
  | _, _, .cons r t => .cons (r.tl k) (Rqs.tl k t)
end
theorem Rqs.len {H : Hp} : ∀ {vs : List V} {ds : List Dx}, Rqs H vs ds → vs.length = ds.length
  | _, _, .nil => rfl
  | _, _, .cons _ t => congrArg (· + 1) t.len
theorem Rqs.get {H : Hp} : ∀ {vs : List V} {ds : List Dx}, Rqs H vs ds → ∀ (i : Nat) (v : V), vs[i]? = some v → ∃ d, ds[i]? = some d ∧ Rq H v d
  | _, _, .nil, i, v, e => by simp at e
  | _, _, .cons r t, 0, v, e => by cases e; exact ⟨_, rfl, r⟩
  | _, _, .cons r t, i + 1, v, e => t.get i v (by simpa using e)
theorem Rqs.app {H : Hp} : ∀ {vs ws : List V} {ds es : List Dx}, Rqs H vs ds → Rqs H ws es → Rqs H (vs ++ ws) (ds ++ es)
  | _, _, _, _, .nil, h => h
  | _, _, _, _, .cons r t, h => .cons r (t.app h)
theorem Rqs.one {H : Hp} {vs : List V} {d : Dx} (r : Rqs H vs [d]) : ∃ v, vs = [v] ∧ Rq H v d := by
  cases r with
  | cons a b => cases b; exact ⟨_, rfl, a⟩
theorem Rqs.two {H : Hp} {vs : List V} {d e : Dx} (r : Rqs H vs [d, e]) : ∃ v w, vs = [v, w] ∧ Rq H v d ∧ Rq H w e := by
  cases r with
  | cons a b =>
    obtain ⟨w, rfl, q⟩ := b.one
    exact ⟨_, w, rfl, a, q⟩
theorem Rqs.three {H : Hp} {vs : List V} {d e f : Dx} (r : Rqs H vs [d, e, f]) : ∃ v w u, vs = [v, w, u] ∧ Rq H v d ∧ Rq H w e ∧ Rq H u f := by
  cases r with
  | cons a b =>
    obtain ⟨w, u, rfl, q⟩ := b.two
    exact ⟨_, w, u, rfl, a, q⟩
/-! ### kinds -/
def Dx.ty : Dx → String
  | .str _ => "str"
  | .int _ => "int"
  | .bl _ => "bool"
  | .non => "NoneType"
  | .tup _ => "tuple"
  | .lst _ => "list"
theorem Rq.ty {K : PySem.W.Frag} {H : Hp} {v : V} {d : Dx} (r : Rq H v d) : TyX K H v (.type d.ty) := by
  cases r with
  | str _ => exact .base (.str _)
  | int => exact .base (.int _)
  | bl => exact .base (.bl _)
  | non => exact .base .non
  | tup e _ => exact .base (.tup e)
  | lst e _ => exact .base (.lst e)
def Dx.isS : Dx → Bool | .str _ => true | _ => false
def Dx.isT : Dx → Bool | .tup _ => true | _ => false
def Dx.isI : Dx → Bool | .int _ => true | .bl _ => true | _ => false
def Dx.isB : Dx → Bool | .bl _ => true | _ => false
theorem kS : ∀ d : Dx, kitB d.ty "str" = some d.isS
  | .str _ => (by decide +kernel : kitB "str" "str" = some true)
  | .int _ => (by decide +kernel : kitB "int" "str" = some false)
  | .bl _ => (by decide +kernel : kitB "bool" "str" = some false)
  | .non => (by decide +kernel : kitB "NoneType" "str" = some false)
  | .tup _ => (by decide +kernel : kitB "tuple" "str" = some false)
  | .lst _ => (by decide +kernel : kitB "list" "str" = some false)
theorem kT : ∀ d : Dx, kitB d.ty "tuple" = some d.isT
  | .str _ => (by decide +kernel : kitB "str" "tuple" = some false)
  | .int _ => (by decide +kernel : kitB "int" "tuple" = some false)
  | .bl _ => (by decide +kernel : kitB "bool" "tuple" = some false)
  | .non => (by decide +kernel : kitB "NoneType" "tuple" = some false)
  | .tup _ => (by decide +kernel : kitB "tuple" "tuple" = some true)
  | .lst _ => (by decide +kernel : kitB "list" "tuple" = some false)
theorem kI : ∀ d : Dx, kitB d.ty "int" = some d.isI
  | .str _ => (by decide +kernel : kitB "str" "int" = some false)
  | .int _ => (by decide +kernel : kitB "int" "int" = some true)
  | .bl _ => (by decide +kernel : kitB "bool" "int" = some true)
  | .non => (by decide +kernel : kitB "NoneType" "int" = some false)
  | .tup _ => (by decide +kernel : kitB "tuple" "int" = some false)
  | .lst _ => (by decide +kernel : kitB "list" "int" = some false)
theorem kB : ∀ d : Dx, kitB d.ty "bool" = some d.isB
  | .str _ => (by decide +kernel : kitB "str" "bool" = some false)
  | .int _ => (by decide +kernel : kitB "int" "bool" = some false)
  | .bl _ => (by decide +kernel : kitB "bool" "bool" = some true)
  | .non => (by decide +kernel : kitB "NoneType" "bool" = some false)
  | .tup _ => (by decide +kernel : kitB "tuple" "bool" = some false)
  | .lst _ => (by decide +kernel : kitB "list" "bool" = some false)
/-! ### what is told -/
def Dx.tx : Dx → Bool
  | .str z => z.cps.toList.all signB
  | _ => false
def Dx.to : Dx → Bool
  | .str z => z.cps.toList.all signB && decide (0 < z.length)
  | _ => false
/-- rising, sign by sign -/
def upB (l : List Nat) : Bool := (List.range (l.length - 1)).all fun k => decide (l.getD k 0 < l.getD (k + 1) 0)
def Dx.se : Dx → Bool
  | .str z => z.cps.toList.all signB && decide (0 < z.length) && upB z.cps.toList
  | _ => false
def Dx.nu : Dx → Bool
  | .int i => decide (0 ≤ i)
  | _ => false
def azB (c : Nat) : Bool := decide (97 ≤ c) && decide (c ≤ 122)
def Dx.nm : Dx → Bool
  | .str z => decide (1 ≤ z.length) && decide (z.length ≤ 8) && z.cps.toList.all azB
  | _ => false
/-- what an element's truth asks -/
def OnX (TT : List Addr) (H1 : Hp) (stop gi : Bool) (QF : Hp → Prop) : VK := fun y H3 => ∃ b : Bool, y = .bl b ∧ (b = stop → QF H3) ∧ (b = (!stop) → gi = (!stop) ∧ Kp (TM TT) H1 H3 ∧ Tabs TT H3)
theorem OnX.mk {TT : List Addr} {H1 H3 : Hp} {stop gi b : Bool} {QF : Hp → Prop} (e : b = gi) (qf : gi = stop → QF H3) (k : Kp (TM TT) H1 H3) (t : Tabs TT H3) : OnX TT H1 stop gi QF (.bl b) H3 := ⟨b, rfl, fun z => qf (e.symm.trans z), fun z => ⟨e.symm.trans z, k, t⟩⟩
/-- all(..), any(..), told by each -/
theorem gen_ex {TT : List Addr} {T : Addr} {J : It} {gt : TG} {te : TE} {σ : L2.St} {vs : List Nat} {stop : Bool} {H1 : Hp} {QT QF : Hp → Prop} (mT : T ∈ TT) (t0 : Tabs TT H1) (n : Nat) (g : Nat → Bool)
    (qT : (∀ j, j < n → g j = !stop) → ∀ H', Kp (TM TT) H1 H' → Tabs TT H' → QT H')
    (hg : ∀ i H', i < n → Kp (TM TT) H1 H' → J.go i H') (hd : ∀ H', Kp (TM TT) H1 H' → J.stop n H')
    (hs : ∀ i x H' H'', i < n → Kp (TM TT) H1 H' → Tabs TT H' → J.yld i H' x H'' → gt x (wipe σ vs) H'' fun σ2 H2 => wipe σ2 vs = wipe σ vs ∧ te σ2 H2 (OnX TT H1 stop (g i) QF)) :
    GxR.TabG H1 T ∧ ∀ H2, GxR.Tabbed T H1 H2 → ∃ W : Nat → Nat → Hp → Prop, (∃ m, W 0 m H2) ∧ GE.Turns J gt te σ vs stop QT QF W := by
  refine ⟨t0 T mT, fun H2 tb => ⟨fun i m H' => m = n - i ∧ i ≤ n ∧ (∀ j, j < i → g j = !stop) ∧ Kp (TM TT) H1 H' ∧ Tabs TT H', ⟨n, by simp, Nat.zero_le _, fun j h => absurd h (Nat.not_lt_zero _), kp_tabbed mT tb, t0.ed tb⟩, ?_⟩⟩
  rintro i m H' ⟨rfl, hi, al, k, t⟩
  by_cases lt : i < n
  · refine .inr ⟨hg i H' lt k, fun H3 => g i = (!stop) ∧ Kp (TM TT) H1 H3 ∧ Tabs TT H3, fun H3 p' => ⟨n - (i + 1), by omega, rfl, lt, fun j hj => ?_, p'.2⟩, fun x H'' y => hs i x H' H'' lt k t y⟩
    rcases Nat.lt_succ_iff_lt_or_eq.mp hj with h | h
    · exact al j h
    · rw [h]; exact p'.1
  · have e : i = n := by omega
    subst e
    exact .inl ⟨hd H' k, qT al H' k t⟩
/-- all of a list, by places -/
theorem all_at {α : Type} {p : α → Bool} {l : List α} {d : α} : l.all p = true ↔ ∀ j, j < l.length → p (l.getD j d) = true := by
  rw [List.all_eq_true]
  constructor
  · intro h j hj
    rw [List.getD_eq_getElem?_getD, List.getElem?_eq_getElem hj]
    exact h _ (List.getElem_mem hj)
  · intro h x hx
    obtain ⟨j, hj, e⟩ := List.mem_iff_getElem.mp hx
    have := h j hj
    rw [List.getD_eq_getElem?_getD, List.getElem?_eq_getElem hj] at this
    rw [← e]
    exact this
theorem all_not {α : Type} {p : α → Bool} {l : List α} {d : α} {j : Nat} (hj : j < l.length) (h : p (l.getD j d) = false) : l.all p = false := by
  refine Bool.eq_false_iff.mpr fun z => ?_
  have := (all_at (d := d)).mp z j hj
  rw [h] at this
  cases this
end RT

set_option maxHeartbeats 1000000
/-! signs, texts, numbers, names: what is told of anything -/
namespace RT
open PySem PySem.Spec PyProof.Rows L2
section
variable {P : Program} {w : World} {K : PySem.W.Frag} {mg : Str → Option Value} {base : Heap}
theorem qB {Q : VK} {b c : Bool} {H : Hp} (e : b = c) (q : Q (.bl c) H) : Q (.bl b) H := by
  rw [e]
  exact q
def spSgx : Sp := fun vs H Q _ => ∃ c : Nat, vs = [.str ⟨#[c]⟩] ∧ Q (.bl (signB c)) H
theorem ok_sgx {f : Addr} {fd : FuncData} {k : Nat} {tp : Tok} (F : Fun K "is_sign" "is_sign" sSg f fd) (mp : mg "_PERCENT" = some (.int 37 tp)) (mo : mg "ord" = none) : FnOk P w K mg base CX0 (k + 1) f fd ["letter"] spSgx := by
  refine F.ok scSg (fun vs H Q E h => ?_) (fun cdv A outer s H vs Q E hr h => ?_)
  · obtain ⟨c, rfl, _⟩ := h
    rfl
  · obtain ⟨c, rfl, q⟩ := h
    refine ⟨_, (pss_cons (ps_if (pt_cmpR op_eq (pv 0) pe_str (nomark _)) (pss_one (ps_ret pe_bl)) pss_nil)
      (pss_one (ps_ret (pe_and (pe_chain op_le_str op_le_str pe_str (pv 0) pe_str) (pe_one (pe_cmpR op_ne (pe_callB call_ord (by rfl) mo (by decide +kernel) (pa_cons (pv 0) pa_nil)) (pe_glob (v := .int 37) (by rfl) mp ⟨_, rfl⟩) (nomark _))))))), ?_⟩
    by_cases h10 : c = 10
    · refine ⟨_, rfl, rfl, _, rfl, iteT' (decide_eq_true (by rw [h10]; rfl)) ?_⟩
      refine qB ?_ q
      rw [h10]
      rfl
    · have ne : ¬ V.str ⟨#[c]⟩ = V.str "\n" := fun z => h10 (by
        have z := V.str.inj z
        have e : (⟨#[c]⟩ : Str).cps.toList = ("\n" : Str).cps.toList := congrArg (fun s : Str => s.cps.toList) z
        have e2 : ("\n" : Str).cps.toList = [10] := by decide +kernel
        rw [e2] at e
        exact (List.cons.inj e).1)
      refine ⟨_, rfl, rfl, _, rfl, iteF' (decide_eq_false ne) ?_⟩
      have es : signB c = ((!decide ([c] < (Str.ofString " ").cps.toList) && !decide ((Str.ofString "~").cps.toList < [c])) && !decide ((c : Int) = 37)) := by
        unfold signB
        rw [if_neg h10]
      have e37 : (!decide (V.int (c : Int) = V.int 37)) = !decide ((c : Int) = 37) := by
        congr 1
        exact decide_eq_decide.mpr ⟨V.int.inj, congrArg V.int⟩
      rw [es] at q
      cases h1 : (!decide ([c] < (Str.ofString " ").cps.toList)) with
      | false =>
        rw [h1, Bool.false_and, Bool.false_and] at q
        refine ⟨_, rfl, _, _, rfl, rfl, _, rfl, iteF' h1 ?_⟩
        exact ⟨false, rfl, iteF' rfl q⟩
      | true =>
        rw [h1, Bool.true_and] at q
        cases h2 : (!decide ((Str.ofString "~").cps.toList < [c])) with
        | false =>
          rw [h2, Bool.false_and] at q
          exact ⟨_, rfl, _, _, rfl, rfl, _, rfl, iteT' h1 ⟨_, _, rfl, rfl, _, rfl, iteF' h2 q⟩⟩
        | true =>
          rw [h2, Bool.true_and] at q
          exact ⟨_, rfl, _, _, rfl, rfl, _, rfl, iteT' h1 ⟨_, _, rfl, rfl, _, rfl, iteT' h2 ⟨_, rfl, _, rfl, rfl, rfl, qB e37 q⟩⟩⟩
def spTxx (TT : List Addr) : Sp := fun vs H Q _ => ∃ (v : V) (d : Dx), vs = [v] ∧ Rq H v d ∧ Tell TT H Q d.tx
theorem ok_txx {TT : List Addr} {T c f fs : Addr} {fd fds : FuncData} {k : Nat} (F : FunT K "is_text" "is_text" sTx f fd c) (hk : 3 ≤ k) (mT : T ∈ TT) (TB : GxR.TabB base mg c T) (GS : FnOk P w K mg base CX0 (k - 3) fs fds ["letter"] spSgx) (ks : PySem.W.keepIn K (.ref fs) = true) (bs : Binds K fds ["letter"] []) (gs : mg "is_sign" = some (.ref fs))
    (mall : mg "all" = none) (mi : mg "isinstance" = none) (ms : mg "str" = none) : FnOk P w K mg base CX0 (k + 1) f fd ["x"] (spTxx TT) := by
  obtain ⟨j, rfl⟩ : ∃ j, k = j + 3 := ⟨k - 3, by omega⟩
  refine F.ok scTx (fun vs H Q E h => ?_) (fun A outer s H vs Q E hr h => ?_)
  · obtain ⟨v, d, rfl, _⟩ := h
    rfl
  · obtain ⟨v, d, rfl, hv, t⟩ := h
    refine ⟨_, (pss_one (ps_ret (pe_and (pe_callB call_isi (by rfl) mi (by decide +kernel) (pa_cons (pv 0) (pa_cons (pe_bltn (v := .ty "str") (by rfl) ms (by decide +kernel) rfl) pa_nil))) (pe_one (GE.pe_allG (own := [("letter", 1)]) (gt := gName 1) hr rfl scTx.nd (by rfl) mall TB rfl (blkOk_by (N := ["x", "letter"]) (sc := defScope sTx) (by decide +kernel)) ⟨rfl, by decide +kernel, rfl⟩ (pi_str (pv 0)) (fun _ _ _ _ _ _ _ _ => (pg_name (i := 1) scTx.nd rfl (.inl rfl))) (fun _ _ _ _ _ _ _ _ hb => (pe_call GS hb (by rfl) gs ks bs .nil pass0 (pa_cons (pv 1) pa_nil)))))))), ?_⟩
    have isi : ∀ b, d.isS = b → kitB d.ty "str" = some b := fun b e => by rw [kS, e]
    by_cases hs : d.isS = true
    · cases d with
      | str z =>
        cases hv
        have hn : z.cps.size = z.cps.toList.length := rfl
        refine ⟨_, rfl, _, .ty "str", .type "str", .type "str", true, rfl, .ty _, .base (.str z), kit_ty (by decide +kernel), true, rfl, iteT ⟨_, rfl, z, rfl, ?_⟩⟩
        refine gen_ex mT t.1 z.cps.size (fun i => signB (z.cps.toList.getD i 0)) (fun al H' k t' => qB ((all_at (d := 0)).mpr (fun j hj => al j hj)).symm (t.2 H' k t')) (fun i H' lt k => lt) (fun H' k => Nat.le_refl _) fun i x H' H'' lt k t' y => ?_
        obtain ⟨rfl, c, hc, rfl⟩ := y
        rw [← Array.getElem?_toList] at hc
        have ec : z.cps.toList.getD i 0 = c := by rw [List.getD_eq_getElem?_getD, hc]; rfl
        refine ⟨rfl, _, rfl, c, rfl, ?_⟩
        refine OnX.mk (by rw [ec]) (fun e => qB (show false = (Dx.str z).tx from ?_) (t.2 _ k t')) k t'
        exact (all_not (d := 0) (show i < z.cps.toList.length from lt) e).symm
      | _ => cases hs
    · have hs : d.isS = false := Bool.eq_false_iff.mpr hs
      have e : d.tx = false := by cases d <;> first | rfl | cases hs
      rw [e] at t
      exact ⟨_, rfl, _, .ty "str", .type d.ty, .type "str", false, rfl, .ty _, hv.ty, kit_ty (isi _ hs), false, rfl, iteF t.self⟩
def spTox (TT : List Addr) : Sp := fun vs H Q _ => ∃ (v : V) (d : Dx), vs = [v] ∧ Rq H v d ∧ Tell TT H Q d.to
theorem ok_tox {TT : List Addr} {f ft : Addr} {fd fdt : FuncData} {k : Nat} (F : Fun K "is_told" "is_told" sTo f fd) (GT : FnOk P w K mg base CX0 k ft fdt ["x"] (spTxx TT)) (kt : PySem.W.keepIn K (.ref ft) = true) (bt : Binds K fdt ["x"] []) (gt : mg "is_text" = some (.ref ft))
    (ml : mg "len" = none) : FnOk P w K mg base CX0 (k + 1) f fd ["x"] (spTox TT) := by
  refine F.ok scTo (fun vs H Q E h => ?_) (fun cdv A outer s H vs Q E hr h => ?_)
  · obtain ⟨v, d, rfl, _⟩ := h
    rfl
  · obtain ⟨v, d, rfl, hv, t⟩ := h
    refine ⟨_, (pss_one (ps_ret (pe_and (pe_call GT hr (by rfl) gt kt bt .nil pass0 (pa_cons (pv 0) pa_nil)) (pe_one (pe_cmpR op_gt (pe_callB call_len_str (by rfl) ml PySem.boot_len (pa_cons (pv 0) pa_nil)) pe_int (nomark _)))))), ?_⟩
    refine ⟨_, rfl, v, d, rfl, hv, t.1, fun H' k t' => ⟨d.tx, rfl, ite2 (fun hx => ?_) (fun hx => ?_)⟩⟩
    · cases d with
      | str z =>
        cases hv with
        | str hl =>
          refine ⟨_, rfl, z, rfl, hl, _, _, rfl, rfl, qB ?_ (t.2 H' k t')⟩
          show decide ((0 : Int) < (z.length : Int)) = (z.cps.toList.all signB && decide (0 < z.length))
          rw [show z.cps.toList.all signB = true from hx, Bool.true_and]
          exact decide_eq_decide.mpr (by omega)
      | _ => cases hx
    · have e : d.to = false := by
        cases d with
        | str z =>
          have hx : ¬ z.cps.toList.all signB = true := hx
          show (z.cps.toList.all signB && _) = false
          rw [Bool.eq_false_iff.mpr hx]
          rfl
        | _ => rfl
      have e2 : d.tx = false := Bool.eq_false_iff.mpr hx
      rw [e] at t
      exact t.2 H' k t'
def spSex (TT : List Addr) : Sp := fun vs H Q _ => ∃ (v : V) (d : Dx), vs = [v] ∧ Rq H v d ∧ Tell TT H Q d.se
theorem ok_sex {TT : List Addr} {T c f ft : Addr} {fd fdt : FuncData} {k : Nat} (F : FunT K "is_set" "is_set" sSe f fd c) (hk : 3 ≤ k) (mT : T ∈ TT) (TB : GxR.TabB base mg c T) (GT : FnOk P w K mg base CX0 k ft fdt ["x"] (spTox TT)) (kt : PySem.W.keepIn K (.ref ft) = true) (bt : Binds K fdt ["x"] []) (gt : mg "is_told" = some (.ref ft))
    (ml : mg "len" = none) (mall : mg "all" = none) (mr : mg "range" = none) : FnOk P w K mg base CX0 (k + 1) f fd ["x"] (spSex TT) := by
  obtain ⟨j, rfl⟩ : ∃ j, k = j + 3 := ⟨k - 3, by omega⟩
  refine F.ok scSe (fun vs H Q E h => ?_) (fun A outer s H vs Q E hr h => ?_)
  · obtain ⟨v, d, rfl, _⟩ := h
    rfl
  · obtain ⟨v, d, rfl, hv, t⟩ := h
    refine ⟨_, (pss_one (ps_ret (pe_and (pe_call GT hr (by rfl) gt kt bt .nil pass0 (pa_cons (pv 0) pa_nil)) (pe_one (GE.pe_allG (own := [("k", 1)]) (gt := gName 1) hr rfl scSe.nd (by rfl) mall TB rfl (blkOk_by (N := ["x", "k"]) (sc := defScope sSe) (by decide +kernel)) ⟨rfl, by decide +kernel, rfl⟩ (pi_range1 (by rfl) mr (pa_cons (pe_op op_sub (pe_callB call_len_str (by rfl) ml PySem.boot_len (pa_cons (pv 0) pa_nil)) pe_int) pa_nil)) (fun _ _ _ _ _ _ _ _ => (pg_name (i := 1) scSe.nd rfl (.inl rfl))) (fun _ _ _ _ _ _ _ _ _ => (pe_cmpR op_lt_str (pe_ix ix_str (pv 0) (pv 1) (fun _ _ => rfl)) (pe_ix ix_str (pv 0) (pe_op op_add (pv 1) pe_int) (fun _ _ => rfl)) (nomark _)))))))), ?_⟩
    refine ⟨_, rfl, v, d, rfl, hv, t.1, fun H' k t' => ⟨d.to, rfl, ite2 (fun hx => ?_) (fun hx => ?_)⟩⟩
    · cases d with
      | str z =>
        cases hv with
        | str hl =>
          have hn : z.cps.toList.length = z.length := by simp [Str.length]
          have hsl : sizeLine ≤ 2 ^ 61 := by decide
          have hx : (z.cps.toList.all signB && decide (0 < z.length)) = true := hx
          have one : 0 < z.length := of_decide_eq_true (Bool.and_eq_true_iff.mp hx).2
          have ese : (Dx.str z).se = upB z.cps.toList := by
            show (z.cps.toList.all signB && decide (0 < z.length) && upB z.cps.toList) = _
            rw [hx, Bool.true_and]
          rw [ese] at t
          refine ⟨_, rfl, z, rfl, hl, _, _, rfl, rfl, _, rfl, ?_, ?_, ?_⟩
          · omega
          · have : (2 : Int) ^ 61 < 2 ^ 62 := by decide
            have : ((2 ^ 61 : Nat) : Int) = (2 : Int) ^ 61 := by decide
            omega
          refine gen_ex mT t' (z.length - 1) (fun i => decide (z.cps.toList.getD i 0 < z.cps.toList.getD (i + 1) 0)) (fun al H2 k2 t2 => qB ?_ (t.2 H2 (k.trans k2) t2)) (fun i H' lt k => ?_) (fun H' k => ?_) fun i x H2 H'' lt k2 t2 y => ?_
          · symm
            show ((List.range (z.cps.toList.length - 1)).all _) = true
            rw [hn, List.all_eq_true]
            exact fun i hi => al i (List.mem_range.mp hi)
          · show i < _
            omega
          · show _ ≤ z.length - 1
            omega
          · obtain ⟨rfl, rfl⟩ := y
            have la : i < z.cps.toList.length := by omega
            have lb : i + 1 < z.cps.toList.length := by omega
            have ea : z.cps.toList.getD i 0 = z.cps.toList[i] := by rw [List.getD_eq_getElem?_getD, List.getElem?_eq_getElem la]; rfl
            have eb : z.cps.toList.getD (i + 1) 0 = z.cps.toList[i + 1] := by rw [List.getD_eq_getElem?_getD, List.getElem?_eq_getElem lb]; rfl
            refine ⟨rfl, _, rfl, _, rfl, z, _, z.cps.toList[i], rfl, rfl, hl, ?_, _, rfl, _, rfl, _, _, rfl, rfl, z, _, z.cps.toList[i + 1], rfl, rfl, hl, ?_, _, _, rfl, rfl, OnX.mk ?_ (fun e => qB ?_ (t.2 _ (k.trans k2) t2)) k2 t2⟩
            · rw [show (0 : Int) + (i : Nat) = ((i : Nat) : Int) by omega]
              exact atI_nat (List.getElem?_eq_getElem la)
            · rw [show (0 : Int) + (i : Nat) + 1 = ((i + 1 : Nat) : Int) by omega]
              exact atI_nat (List.getElem?_eq_getElem lb)
            · rw [ea, eb]
              exact decide_eq_decide.mpr (lt1 _ _)
            · symm
              refine Bool.eq_false_iff.mpr fun al => ?_
              have := List.all_eq_true.mp (show (List.range (z.cps.toList.length - 1)).all _ = true from al) i (List.mem_range.mpr (by omega))
              rw [e] at this
              cases this
      | _ => cases hx
    · have e2 : d.to = false := Bool.eq_false_iff.mpr hx
      have e : d.se = false := by
        cases d with
        | str z =>
          show (_ && upB _) = false
          rw [show (z.cps.toList.all signB && decide (0 < z.length)) = false from e2]
          rfl
        | _ => rfl
      rw [e] at t
      exact t.2 H' k t'
def spInx : Sp := fun vs H Q _ => ∃ (v : V) (d : Dx), vs = [v] ∧ Rq H v d ∧ Q (.bl (d.isI && !d.isB)) H
theorem ok_inx {f : Addr} {fd : FuncData} {k : Nat} (F : Fun K "is_int" "is_int" sIn f fd) (mi : mg "isinstance" = none) (mint : mg "int" = none) (mbool : mg "bool" = none) : FnOk P w K mg base CX0 (k + 1) f fd ["x"] spInx := by
  refine F.ok scIn (fun vs H Q E h => ?_) (fun cdv A outer s H vs Q E hr h => ?_)
  · obtain ⟨z, d, rfl, _⟩ := h
    rfl
  · obtain ⟨v, d, rfl, hv, q⟩ := h
    refine ⟨_, (pss_one (ps_ret (pe_and (pe_callB call_isi (by rfl) mi (by decide +kernel) (pa_cons (pv 0) (pa_cons (pe_bltn (v := .ty "int") (by rfl) mint (by decide +kernel) rfl) pa_nil))) (pe_one (pe_not (pe_callB call_isi (by rfl) mi (by decide +kernel) (pa_cons (pv 0) (pa_cons (pe_bltn (v := .ty "bool") (by rfl) mbool (by decide +kernel) rfl) pa_nil)))))))), ?_⟩
    cases hi : d.isI with
    | true =>
      rw [hi, Bool.true_and] at q
      exact ⟨_, rfl, _, .ty "int", .type d.ty, .type "int", true, rfl, .ty _, hv.ty, kit_ty (by rw [kI, hi]), true, rfl, iteT ⟨_, rfl, _, .ty "bool", .type d.ty, .type "bool", d.isB, rfl, .ty _, hv.ty, kit_ty (kB d), d.isB, rfl, q⟩⟩
    | false =>
      rw [hi, Bool.false_and] at q
      exact ⟨_, rfl, _, .ty "int", .type d.ty, .type "int", false, rfl, .ty _, hv.ty, kit_ty (by rw [kI, hi]), false, rfl, iteF q⟩
def spNux : Sp := fun vs H Q _ => ∃ (v : V) (d : Dx), vs = [v] ∧ Rq H v d ∧ Q (.bl d.nu) H
theorem ok_nux {f fi : Addr} {fd fdi : FuncData} {k : Nat} (F : Fun K "is_number" "is_number" sNu f fd) (GI : FnOk P w K mg base CX0 k fi fdi ["x"] spInx) (ki : PySem.W.keepIn K (.ref fi) = true) (bi : Binds K fdi ["x"] []) (gi : mg "is_int" = some (.ref fi)) : FnOk P w K mg base CX0 (k + 1) f fd ["x"] spNux := by
  refine F.ok scNu (fun vs H Q E h => ?_) (fun cdv A outer s H vs Q E hr h => ?_)
  · obtain ⟨z, d, rfl, _⟩ := h
    rfl
  · obtain ⟨v, d, rfl, hv, q⟩ := h
    refine ⟨_, (pss_one (ps_ret (pe_and (pe_call GI hr (by rfl) gi ki bi .nil pass0 (pa_cons (pv 0) pa_nil)) (pe_one (pe_cmpR op_ge (pv 0) pe_int (nomark _)))))), ?_⟩
    cases d with
    | int i =>
      cases hv
      exact ⟨_, rfl, _, _, rfl, .int, true, rfl, iteT ⟨_, rfl, _, _, rfl, rfl, q⟩⟩
    | bl b => exact ⟨_, rfl, v, _, rfl, hv, false, rfl, iteF q⟩
    | _ => exact ⟨_, rfl, v, _, rfl, hv, false, rfl, iteF q⟩
def spNmx (TT : List Addr) : Sp := fun vs H Q _ => ∃ (v : V) (d : Dx), vs = [v] ∧ Rq H v d ∧ Tell TT H Q d.nm
theorem ok_nmx {TT : List Addr} {T c f : Addr} {fd : FuncData} {k : Nat} (F : FunT K "is_name" "is_name" sNm f fd c) (hk : 3 ≤ k) (mT : T ∈ TT) (TB : GxR.TabB base mg c T) 
    (ml : mg "len" = none) (mall : mg "all" = none) (mi : mg "isinstance" = none) (ms : mg "str" = none) : FnOk P w K mg base CX0 (k + 1) f fd ["x"] (spNmx TT) := by
  obtain ⟨j, rfl⟩ : ∃ j, k = j + 3 := ⟨k - 3, by omega⟩
  refine F.ok scNm (fun vs H Q E h => ?_) (fun A outer s H vs Q E hr h => ?_)
  · obtain ⟨v, d, rfl, _⟩ := h
    rfl
  · obtain ⟨v, d, rfl, hv, t⟩ := h
    refine ⟨_, (pss_one (ps_ret (pe_and (pe_callB call_isi (by rfl) mi (by decide +kernel) (pa_cons (pv 0) (pa_cons (pe_bltn (v := .ty "str") (by rfl) ms (by decide +kernel) rfl) pa_nil))) (pe_and (pe_chain op_le op_le pe_int (pe_callB call_len_str (by rfl) ml PySem.boot_len (pa_cons (pv 0) pa_nil)) pe_int) (pe_one (GE.pe_allG (own := [("letter", 1)]) (gt := gName 1) hr rfl scNm.nd (by rfl) mall TB rfl (blkOk_by (N := ["x", "letter"]) (sc := defScope sNm) (by decide +kernel)) ⟨rfl, by decide +kernel, rfl⟩ (pi_str (pv 0)) (fun _ _ _ _ _ _ _ _ => (pg_name (i := 1) scNm.nd rfl (.inl rfl))) (fun _ _ _ _ _ _ _ _ _ => (pe_chain op_le_str op_le_str pe_str (pv 1) pe_str)))))))), ?_⟩
    by_cases hs : d.isS = true
    · cases d with
      | str z =>
        cases hv with
        | str hl =>
        refine ⟨_, rfl, _, .ty "str", .type "str", .type "str", true, rfl, .ty _, .base (.str z), kit_ty (by decide +kernel), true, rfl, iteT ?_⟩
        have en : (Dx.str z).nm = (decide (1 ≤ z.length) && decide (z.length ≤ 8) && z.cps.toList.all azB) := rfl
        by_cases h1 : 1 ≤ z.length
        · by_cases h2 : z.length ≤ 8
          · rw [en, decide_eq_true h1, decide_eq_true h2, Bool.true_and, Bool.true_and] at t
            refine ⟨_, rfl, z, rfl, hl, _, _, rfl, rfl, _, rfl, iteT' (decide_eq_true (by omega)) ⟨_, _, rfl, rfl, _, rfl, iteT' (decide_eq_true (by omega)) ⟨_, rfl, z, rfl, ?_⟩⟩⟩
            refine gen_ex mT t.1 z.cps.size (fun i => azB (z.cps.toList.getD i 0)) (fun al H' k t' => qB ((all_at (d := 0)).mpr (fun j hj => al j hj)).symm (t.2 H' k t')) (fun i H' lt k => lt) (fun H' k => Nat.le_refl _) fun i x H' H'' lt k t' y => ?_
            obtain ⟨rfl, c, hc, rfl⟩ := y
            rw [← Array.getElem?_toList] at hc
            have ec : z.cps.toList.getD i 0 = c := by rw [List.getD_eq_getElem?_getD, hc]; rfl
            have qf := fun (e : azB (z.cps.toList.getD i 0) = false) => qB (Q := Q) (all_not (d := 0) (show i < z.cps.toList.length from lt) e).symm (t.2 _ k t')
            have ea : (!decide (([c] : List Nat) < (Str.ofString "a").cps.toList)) = decide (97 ≤ c) := by
              rw [show (Str.ofString "a").cps.toList = [97] by decide +kernel]
              rw [show decide (([c] : List Nat) < [97]) = decide (c < 97) from decide_eq_decide.mpr (lt1 c 97)]
              by_cases h : c < 97
              · rw [decide_eq_true h, decide_eq_false (by omega)]; rfl
              · rw [decide_eq_false h, decide_eq_true (by omega)]; rfl
            have ez : (!decide ((Str.ofString "z").cps.toList < ([c] : List Nat))) = decide (c ≤ 122) := by
              rw [show (Str.ofString "z").cps.toList = [122] by decide +kernel]
              rw [show decide (([122] : List Nat) < [c]) = decide (122 < c) from decide_eq_decide.mpr (lt1 122 c)]
              by_cases h : 122 < c
              · rw [decide_eq_true h, decide_eq_false (by omega)]; rfl
              · rw [decide_eq_false h, decide_eq_true (by omega)]; rfl
            rw [ec] at qf
            by_cases ha : 97 ≤ c
            · refine ⟨rfl, _, rfl, _, _, rfl, rfl, _, rfl, iteT' (ea.trans (decide_eq_true ha)) ⟨_, _, rfl, rfl, OnX.mk ?_ (by rw [ec]; exact qf) k t'⟩⟩
              rw [ec]
              refine ez.trans ?_
              unfold azB
              rw [decide_eq_true ha, Bool.true_and]
            · refine ⟨rfl, _, rfl, _, _, rfl, rfl, _, rfl, iteF' (ea.trans (decide_eq_false ha)) (OnX.mk ?_ (by rw [ec]; exact qf) k t')⟩
              rw [ec]
              unfold azB
              rw [decide_eq_false ha, Bool.false_and]
          · rw [en, decide_eq_true h1, decide_eq_false h2, Bool.true_and, Bool.false_and] at t
            refine ⟨_, rfl, z, rfl, hl, _, _, rfl, rfl, _, rfl, iteT' (decide_eq_true (by omega)) ⟨_, _, rfl, rfl, _, rfl, iteF' (decide_eq_false (by omega)) t.self⟩⟩
        · rw [en, decide_eq_false h1, Bool.false_and, Bool.false_and] at t
          refine ⟨_, rfl, z, rfl, hl, _, _, rfl, rfl, _, rfl, iteF' (decide_eq_false (by omega)) ⟨false, rfl, iteF' rfl t.self⟩⟩
      | _ => cases hs
    · have hs : d.isS = false := Bool.eq_false_iff.mpr hs
      have e : d.nm = false := by cases d <;> first | rfl | cases hs
      rw [e] at t
      exact ⟨_, rfl, _, .ty "str", .type d.ty, .type "str", false, rfl, .ty _, hv.ty, kit_ty (by rw [kS, hs]), false, rfl, iteF t.self⟩
end
end RT

set_option maxHeartbeats 1000000
/-! is_thing: what is told of anything -/
namespace RT
open PySem PySem.Spec PyProof.Rows L2
mutual
def Dx.size : Dx → Nat
  | .tup ds => Dx.sizes ds + 1
  | .lst ds => Dx.sizes ds + 1
  | _ => 1
def Dx.sizes : List Dx → Nat
  | [] => 0
  | d :: ds => d.size + Dx.sizes ds
end
mutual
def Dx.th : Dx → Bool
  | .str z => z.cps.toList.all signB
  | .int i => decide (0 ≤ i)
  | .tup ds => Dx.ths ds
  | _ => false
def Dx.ths : List Dx → Bool
  | [] => true
  | d :: ds => d.th && Dx.ths ds
end
theorem Dx.size_pos (d : Dx) : 1 ≤ d.size := by
  cases d <;> simp only [Dx.size] <;> omega
theorem Dx.sizes_app : ∀ ds es : List Dx, Dx.sizes (ds ++ es) = Dx.sizes ds + Dx.sizes es
  | [], es => by simp [Dx.sizes]
  | d :: r, es => by
    show d.size + Dx.sizes (r ++ es) = d.size + Dx.sizes r + Dx.sizes es
    rw [Dx.sizes_app r es]
    omega
theorem Dx.ths_app : ∀ ds es : List Dx, Dx.ths (ds ++ es) = (Dx.ths ds && Dx.ths es)
  | [], es => by simp [Dx.ths]
  | d :: r, es => by
    show (d.th && Dx.ths (r ++ es)) = (d.th && Dx.ths r && Dx.ths es)
    rw [Dx.ths_app r es, Bool.and_assoc]
theorem Dx.len_sizes : ∀ ds : List Dx, ds.length ≤ Dx.sizes ds
  | [] => Nat.le_refl _
  | d :: r => by
    have := Dx.len_sizes r
    have := d.size_pos
    simp only [Dx.sizes, List.length_cons]
    omega
theorem Rqs.lastD {H : Hp} : ∀ {vs : List V} {ds : List Dx}, Rqs H vs ds → vs ≠ [] → ∃ (v : V) (d : Dx) (es : List Dx), vs[vs.length - 1]? = some v ∧ ds = es ++ [d] ∧ Rq H v d ∧ Rqs H vs.dropLast es
  | _, _, .nil, h => absurd rfl h
  | _, _, @Rqs.cons _ v d [] ds r t, _ => by
    cases t
    exact ⟨v, d, [], rfl, rfl, r, .nil⟩
  | _, _, @Rqs.cons _ v d (u :: us) ds r t, _ => by
    obtain ⟨v', d', es, e1, e2, e3, e4⟩ := Rqs.lastD t (fun z => by cases z)
    refine ⟨v', d', d :: es, ?_, by rw [e2]; rfl, e3, .cons r e4⟩
    rw [show (v :: u :: us).length - 1 = ((u :: us).length - 1) + 1 by simp]
    exact e1
section
variable {P : Program} {w : World} {K : PySem.W.Frag} {mg : Str → Option Value} {base : Heap}
def spThx (TT : List Addr) : Sp := fun vs H Q _ => ∃ (v : V) (d : Dx), vs = [v] ∧ Rq H v d ∧ d.size ≤ 100000 ∧ Tell TT H Q d.th
theorem ok_thx {TT : List Addr} {f ft fb : Addr} {fd fdt fdb : FuncData} {k : Nat} (F : Fun K "is_thing" "is_thing" sThing f fd) (GT : FnOk P w K mg base CX0 k ft fdt ["x"] (spTxx TT)) (kt : PySem.W.keepIn K (.ref ft) = true) (bt : Binds K fdt ["x"] []) (gt : mg "is_text" = some (.ref ft))
    (GB : FnOk P w K mg base CX0 k fb fdb ["x"] spNux) (kb : PySem.W.keepIn K (.ref fb) = true) (bb : Binds K fdb ["x"] []) (gb : mg "is_number" = some (.ref fb)) (mi : mg "isinstance" = none) (mtu : mg "tuple" = none) :
    FnOk P w K mg base CX0 (k + 1) f fd ["x"] (spThx TT) := by
  refine F.ok scThing (fun vs H Q E h => ?_) (fun cdv A outer s H vs Q E hr h => ?_)
  · obtain ⟨x, t, rfl, _⟩ := h
    rfl
  · obtain ⟨x, d, rfl, hR, hsz, t⟩ := h
    have sline : (100000 : Nat) ≤ sizeLine := by decide
    refine ⟨_, (pss_cons (ps_set (i := 1) scThing.nd rfl (.inl rfl) (pe_lst (pa_cons (pv 0) pa_nil)))
      (pss_cons (ps_while PassesOwn.never (pt_truth (pv 1) (by intro _; rfl)) (pss_cons (ps_set (i := 2) scThing.nd rfl (.inl rfl) (pe_bm0 PySem.F.plainAttrs_list PySem.F.slot_list_pop PySem.F.type_list_pop mt_pop (pv 1)))
      (pss_one (ps_if (pt_val (pe_callB call_isi (by rfl) mi (by decide +kernel) (pa_cons (pv 2) (pa_cons (pe_bltn (v := .ty "tuple") (by rfl) mtu (by decide +kernel) rfl) pa_nil)))) (pss_one (ps_expr (pe_bm PySem.F.plainAttrs_list PySem.F.slot_list_extend PySem.F.type_list_extend mt_extT (pv 1) (pa_cons (pv 2) pa_nil)))) (pss_one (ps_if (PW.pt (pw_and (pt_not (pt_val (pe_call GT hr (by rfl) gt kt bt .nil pass0 (pa_cons (pv 2) pa_nil)))) (pw_and1 (pt_not (pt_val (pe_call GB hr (by rfl) gb kb bb .nil pass0 (pa_cons (pv 2) pa_nil))))))) (pss_one (ps_ret pe_bl)) pss_nil))))))
      (pss_one (ps_ret pe_bl)))), ?_⟩
    refine ⟨_, rfl, by show 1 ≤ sizeLine; decide, fun l nl => ?_⟩
    refine ⟨fun n σ H2 => ∃ (vs : List V) (ds : List Dx) (y2 : Option V), σ = [some x, some (.ref l), y2] ∧ n = Dx.sizes ds ∧ H2 l = some (.lst vs) ∧ Rqs H vs ds ∧ d.th = Dx.ths ds ∧ Dx.sizes ds ≤ 100000 ∧ Tabs TT H2 ∧ Kp (TM TT) H H2,
      ⟨_, [x], [d], none, rfl, rfl, upd_same, .cons hR .nil, by simp only [Dx.ths, Bool.and_true], by simp only [Dx.sizes]; omega, t.1.new nl, Kp.new nl⟩, ?_⟩
    rintro n σ H2 ⟨vs, ds, y2, rfl, rfl, el, hR2, hd2, hs2, hT2, k2⟩
    by_cases hv : vs = []
    · subst hv
      refine ⟨_, rfl, false, .inl ⟨[], SqL.of el, rfl⟩, iteF ?_⟩
      cases hR2
      exact qB (show true = d.th from hd2.symm) (t.2 H2 k2 hT2)
    · refine ⟨_, rfl, true, .inl ⟨vs, SqL.of el, by cases vs with
        | nil => exact absurd rfl hv
        | cons => rfl⟩, iteT ?_⟩
      obtain ⟨v, u, us, ev, rfl, rv, rus⟩ := hR2.lastD hv
      rw [Dx.sizes_app] at hs2
      rw [Dx.ths_app] at hd2
      simp only [Dx.sizes, Nat.add_zero] at hs2
      simp only [Dx.ths, Bool.and_true] at hd2
      refine ⟨fun σ' H' => ∃ (vs' : List V) (ds' : List Dx) (y2 : Option V), σ' = [some x, some (.ref l), y2] ∧ Dx.sizes ds' < Dx.sizes (us ++ [u]) ∧ H' l = some (.lst vs') ∧ Rqs H vs' ds' ∧ d.th = Dx.ths ds' ∧ Dx.sizes ds' ≤ 100000 ∧ Tabs TT H' ∧ Kp (TM TT) H H',
        fun σ' H' ⟨vs', ts', y, e1, e2, r⟩ => ⟨_, e2, vs', ts', y, e1, rfl, r⟩, ?_⟩
      have esz : Dx.sizes (us ++ [u]) = Dx.sizes us + u.size := by rw [Dx.sizes_app]; simp only [Dx.sizes, Nat.add_zero]
      rw [esz]
      refine ⟨_, rfl, .inl ⟨rfl, _, SqL.of el⟩, l, vs, v, rfl, rfl, el, ev, ?_⟩
      have k3 : Kp (TM TT) H (upd H2 l (.lst vs.dropLast)) := k2.putL nl
      have hT3 : Tabs TT (upd H2 l (.lst vs.dropLast)) := hT2.put el fun _ z => by cases z
      have e3 : upd H2 l (.lst vs.dropLast) l = some (.lst vs.dropLast) := upd_same
      generalize upd H2 l (.lst vs.dropLast) = H3 at k3 hT3 e3 ⊢
      have hup := u.size_pos
      have rv3 := rv.tl (tl2_tabs t.1 k3)
      have next : u.th = true → ∀ H4, Kp (TM TT) H3 H4 → Tabs TT H4 → ∃ (vs' : List V) (ts' : List Dx) (y2 : Option V), [some x, some (V.ref l), some v] = [some x, some (.ref l), y2] ∧ Dx.sizes ts' < Dx.sizes us + u.size ∧ H4 l = some (.lst vs') ∧ Rqs H vs' ts' ∧ d.th = Dx.ths ts' ∧ Dx.sizes ts' ≤ 100000 ∧ Tabs TT H4 ∧ Kp (TM TT) H H4 :=
        fun hu H4 k4 t4 => ⟨_, us, _, rfl, by omega, hT3.lst k4 e3, rus, by rw [hd2, hu, Bool.and_true], by omega, t4, k3.trans k4⟩
      have bad : u.th = false → ∀ H4, Kp (TM TT) H3 H4 → Tabs TT H4 → Q (.bl false) H4 := fun hu H4 k4 t4 => by
        rw [hu, Bool.and_false] at hd2
        have q := t.2 H4 (k3.trans k4) t4
        rw [hd2] at q
        exact q
      by_cases hu : u.isT = true
      · cases u with
        | tup ts2 =>
          cases rv with
          | tup e r =>
          have e : H3 _ = _ := (tl2_tabs t.1 k3 _ _).1 e
          refine ⟨_, rfl, _, .ty "tuple", .type "tuple", .type "tuple", true, rfl, .ty _, .base (.tup e), kit_ty (by decide +kernel), true, rfl, iteT ?_⟩
          refine ⟨_, rfl, .inl ⟨rfl, _, SqL.of e3⟩, _, rfl, l, _, _, _, rfl, rfl, e3, e, ?_, ?_⟩
          · have h1 := (rus.app r).len
            have h2 := Dx.len_sizes (us ++ ts2)
            rw [Dx.sizes_app] at h2
            rw [List.length_append] at h1
            simp only [Dx.size] at hs2
            omega
          · refine ⟨_, us ++ ts2, _, rfl, ?_, upd_same, rus.app r, ?_, ?_, hT3.put e3 (fun _ z => by cases z), k3.putL nl⟩
            · rw [Dx.sizes_app]
              simp only [Dx.size]
              omega
            · rw [Dx.ths_app, hd2]
              rfl
            · rw [Dx.sizes_app]
              simp only [Dx.size] at hs2
              omega
        | _ => cases hu
      · have hu : u.isT = false := Bool.eq_false_iff.mpr hu
        refine ⟨_, rfl, _, .ty "tuple", .type u.ty, .type "tuple", false, rfl, .ty _, rv3.ty, kit_ty (by rw [kT, hu]), false, rfl, iteF ?_⟩
        refine ⟨_, rfl, v, u, rfl, rv3, hT3, fun H4 k4 t4 => ⟨u.tx, rfl, ite2 (fun hx => ?_) (fun hx => ?_)⟩⟩
        · have hx : u.tx = false := by simpa using hx
          have rv4 := rv.tl (tl2_tabs t.1 (k3.trans k4))
          refine ⟨_, rfl, v, u, rfl, rv4, u.nu, rfl, ite2 (fun hn => ?_) (fun hn => ?_)⟩
          · refine bad ?_ H4 k4 t4
            have hn : u.nu = false := by simpa using hn
            cases u with
            | str z => exact hx
            | int i => exact hn
            | tup ds => cases hu
            | _ => rfl
          · refine next ?_ H4 k4 t4
            have hn : u.nu = true := by simpa using hn
            cases u with
            | int i => exact hn
            | _ => cases hn
        · have hx : u.tx = true := by simpa using hx
          refine iteF (next ?_ H4 k4 t4)
          cases u with
          | str z => exact hx
          | _ => cases hx
end
end RT

set_option maxHeartbeats 1000000
/-! pairs, things unlike, texts of which none begins another one: what is told of anything -/
namespace RT
open PySem PySem.Spec PyProof.Rows L2
def Dx.pr : Dx → Bool
  | .tup [_, _] => true
  | _ => false
def Dx.ap : Dx → Bool
  | .tup ds => !ds.isEmpty && ds.all Dx.pr
  | _ => false
/-! ### texts of which none begins another -/
theorem pre_mid : ∀ {a b c : List Nat}, a ≤ b → b ≤ c → a <+: c → a <+: b
  | [], b, _, _, _, _ => List.nil_prefix
  | x :: a, [], _, h, _, _ => absurd (List.nil_lt_cons x a) h
  | x :: a, y :: b, c, h1, h2, h3 => by
    cases c with
    | nil => exact absurd (List.prefix_nil.mp h3) (by simp)
    | cons z c =>
      obtain ⟨e0, h4⟩ := List.cons_prefix_cons.mp h3
      subst e0
      have n1 : ¬ (y < x ∨ y = x ∧ b < a) := fun z => h1 (List.cons_lt_cons_iff.mpr z)
      have n2 : ¬ (x < y ∨ x = y ∧ c < b) := fun z => h2 (List.cons_lt_cons_iff.mpr z)
      have e : x = y := by omega
      subst e
      exact List.cons_prefix_cons.mpr ⟨rfl, pre_mid (fun z => n1 (.inr ⟨rfl, z⟩)) (fun z => n2 (.inr ⟨rfl, z⟩)) h4⟩
theorem pre_le {a b : List Nat} (h : a <+: b) : a ≤ b := by
  induction a generalizing b with
  | nil => exact fun z => by cases b <;> exact absurd z (by simp)
  | cons x a ih =>
    cases b with
    | nil => exact absurd (List.prefix_nil.mp h) (by simp)
    | cons y b =>
      obtain ⟨e0, h4⟩ := List.cons_prefix_cons.mp h
      subst e0
      intro z
      rcases List.cons_lt_cons_iff.mp z with z | ⟨_, z⟩
      · omega
      · exact ih h4 z
instance (a b : Str) : Decidable (NoPre a b) := inferInstanceAs (Decidable (¬ _))
def nbB (zs : List Str) : Bool := decide (zs.Pairwise fun a b => NoPre a b ∧ NoPre b a)
theorem pre_starts {x y : Str} (h : y.cps.toList <+: x.cps.toList) : Txt.startswith x y = true := by
  refine Bool.and_eq_true_iff.mpr ⟨decide_eq_true ?_, ?_⟩
  · have := h.length_le
    simpa [Str.length] using this
  · show (x.cps.extract 0 (0 + y.length) == y.cps) = true
    rw [beq_iff_eq]
    apply Array.toList_inj.mp
    rw [Array.toList_extract, List.extract_eq_take_drop]
    obtain ⟨t, e⟩ := h
    rw [← e]
    simp [Str.length]
/-- next to each other is enough, where they rise -/
theorem nb_next {ys : List Str} (so : sortedS ys = true) (h : ∀ j, j < ys.length - 1 → Txt.startswith (ys.getD (j + 1) "") (ys.getD j "") = false) : ys.Pairwise fun a b => NoPre a b ∧ NoPre b a := by
  have le := List.pairwise_iff_getElem.mp (sorted_pw so)
  have main : ∀ i j (hi : i < ys.length) (hj : j < ys.length), i < j → ¬ ys[i].cps.toList <+: ys[j].cps.toList := fun i j hi hj lt p => by
    have hi1 : i + 1 < ys.length := by omega
    have l1 := le i (i + 1) hi hi1 (Nat.lt_succ_self i)
    have p1 : ys[i].cps.toList <+: ys[i + 1].cps.toList := by
      by_cases e : i + 1 = j
      · subst e; exact p
      · exact pre_mid l1 (le (i + 1) j hi1 hj (by omega)) p
    have := h i (by omega)
    rw [List.getD_eq_getElem?_getD, List.getD_eq_getElem?_getD, List.getElem?_eq_getElem hi1, List.getElem?_eq_getElem hi] at this
    exact absurd (pre_starts p1) (by rw [show Txt.startswith ys[i + 1] ys[i] = false from this]; simp)
  refine List.pairwise_iff_getElem.mpr fun i j hi hj lt => ⟨main i j hi hj lt, fun p => ?_⟩
  have e := List.le_antisymm (le i j hi hj lt) (pre_le p)
  exact main i j hi hj lt (by rw [e]; exact List.prefix_rfl)
section
variable {P : Program} {w : World} {K : PySem.W.Frag} {mg : Str → Option Value} {base : Heap}
def spApx (TT : List Addr) : Sp := fun vs H Q _ => ∃ (v : V) (d : Dx), vs = [v] ∧ Rq H v d ∧ Tell TT H Q d.ap
theorem ok_apx {TT : List Addr} {T c f : Addr} {fd : FuncData} {k : Nat} (F : FunT K "_are_pairs" "_are_pairs" sAp f fd c) (hk : 3 ≤ k) (mT : T ∈ TT) (TB : GxR.TabB base mg c T)
    (ml : mg "len" = none) (mall : mg "all" = none) (mi : mg "isinstance" = none) (mtu : mg "tuple" = none) : FnOk P w K mg base CX0 (k + 1) f fd ["x"] (spApx TT) := by
  obtain ⟨j, rfl⟩ : ∃ j, k = j + 3 := ⟨k - 3, by omega⟩
  refine F.ok scAp (fun vs H Q E h => ?_) (fun A outer s H vs Q E hr h => ?_)
  · obtain ⟨z, f, rfl, _⟩ := h
    rfl
  · obtain ⟨v, d, rfl, hR, t⟩ := h
    refine ⟨_, (pss_cons (ps_if (PW.pt (pw_or (pt_not (pt_val (pe_callB call_isi (by rfl) mi (by decide +kernel) (pa_cons (pv 0) (pa_cons (pe_bltn (v := .ty "tuple") (by rfl) mtu (by decide +kernel) rfl) pa_nil))))) (pw_or1 (pt_not (pt_truth (pv 0) (by intro _; rfl)))))) (pss_one (ps_ret pe_bl)) pss_nil)
      (pss_one (ps_ret (GE.pe_allG (own := [("pair", 1)]) (gt := gName 1) hr rfl scAp.nd (by rfl) mall TB rfl (blkOk_by (N := ["x", "pair"]) (sc := defScope sAp) (by decide +kernel)) ⟨rfl, by decide +kernel, rfl⟩ (pi_tup (pv 0)) (fun _ _ _ _ _ _ _ _ => (pg_name (i := 1) scAp.nd rfl (.inl rfl))) (fun _ _ _ _ _ _ _ _ _ => (pe_and (pe_callB (show CallR _ (.builtin "isinstance") (rIsi K) from call_isi) (by rfl) mi (by decide +kernel) (pa_cons (pv 1) (pa_cons (pe_bltn (v := .ty "tuple") (by rfl) mtu (by decide +kernel) rfl) pa_nil))) (pe_one (pe_cmpR op_eq (pe_callB (show CallR _ (.builtin "len") (rLenQ K) from call_len_seq) (by rfl) ml PySem.boot_len (pa_cons (pv 1) pa_nil)) pe_int (nomark _))))))))), ?_⟩
    by_cases hd : d.isT = true
    · cases d with
      | tup ds =>
        cases hR with
        | @tup a us _ ea ru =>
        have ul := ru.len
        refine ⟨_, rfl, _, .ty "tuple", .type "tuple", .type "tuple", true, rfl, .ty _, .base (.tup ea), kit_ty (by decide +kernel), true, rfl, iteF ?_⟩
        cases us with
        | nil =>
          cases ru
          exact ⟨_, rfl, false, .inr (.inl ⟨_, SqT.of ea, rfl⟩), iteT t.self⟩
        | cons u0 us0 =>
        refine ⟨_, rfl, true, .inr (.inl ⟨_, SqT.of ea, rfl⟩), iteF ?_⟩
        refine ⟨_, rfl, a, rfl, ⟨_, SqT.of ea⟩, ?_⟩
        have hne : ds.isEmpty = false := by
          cases ru
          rfl
        generalize u0 :: us0 = us at ul ru ea
        have eap : (Dx.tup ds).ap = ds.all Dx.pr := by
          show (!ds.isEmpty && _) = _
          rw [hne]; rfl
        rw [eap] at t
        have at' : ∀ H', Kp (TM TT) H H' → H' a = some (.tup us) := fun H' k' => (tl2_tabs t.1 k' _ _).1 ea
        refine gen_ex mT t.1 us.length (fun i => (ds.getD i .non).pr) (fun al H' k t' => qB ((all_at (d := .non)).mpr (fun j hj => al j (by omega))).symm (t.2 H' k t')) (fun i H' lt k => ⟨us, us[i], SqT.of (at' H' k), List.getElem?_eq_getElem lt⟩) (fun H' k => ⟨us, SqT.of (at' H' k), Nat.le_refl _⟩) fun i x H' H'' lt k t' y => ?_
        obtain ⟨rfl, hx⟩ := y
        have ex := hx us (SqT.of (at' _ k))
        obtain ⟨d, ed, rx⟩ := ru.get i x ex
        have eg : ds.getD i .non = d := by rw [List.getD_eq_getElem?_getD, ed]; rfl
        have qf := fun (e : (ds.getD i .non).pr = false) => qB (Q := Q) (all_not (d := .non) (show i < ds.length by omega) e).symm (t.2 _ k t')
        rw [eg] at qf ⊢
        have rx := rx.tl (tl2_tabs t.1 k)
        by_cases hd : d.isT = true
        · cases d with
          | tup es =>
            cases rx with
            | @tup b ws _ eb rb =>
            refine ⟨rfl, _, rfl, _, .ty "tuple", .type "tuple", .type "tuple", true, rfl, .ty _, .base (.tup eb), kit_ty (by decide +kernel), true, rfl, iteT ?_⟩
            refine ⟨_, rfl, b, ws, rfl, .inr (SqT.of eb), rfl, OnX.mk ?_ qf k t'⟩
            have wl := rb.len
            have el : (Dx.tup es).pr = decide (es.length = 2) := by
              match es with
              | [] => rfl
              | [_] => rfl
              | [_, _] => rfl
              | _ :: _ :: _ :: es =>
                symm
                exact decide_eq_false (by simp)
            rw [el]
            show decide (V.int (ws.length : Nat) = V.int 2) = _
            refine decide_eq_decide.mpr ⟨fun z => ?_, fun z => by rw [wl, z]; rfl⟩
            have := V.int.inj z
            omega
          | _ => cases hd
        · have hd : d.isT = false := Bool.eq_false_iff.mpr hd
          have e : d.pr = false := by cases d <;> first | rfl | cases hd
          exact ⟨rfl, _, rfl, _, .ty "tuple", .type d.ty, .type "tuple", false, rfl, .ty _, rx.ty, kit_ty (by rw [kT, hd]), false, rfl, iteF (OnX.mk e.symm qf k t')⟩
      | _ => cases hd
    · have hd : d.isT = false := Bool.eq_false_iff.mpr hd
      have e : d.ap = false := by cases d <;> first | rfl | cases hd
      rw [e] at t
      exact ⟨_, rfl, _, .ty "tuple", .type d.ty, .type "tuple", false, rfl, .ty _, hR.ty, kit_ty (by rw [kT, hd]), false, rfl, iteT t.self⟩
def spUnx (K : PySem.W.Frag) : Sp := fun vs H Q _ => ∃ (l : Addr) (ks : List Key), vs = [.ref l] ∧ SqL K H l (ks.map kV) ∧ ks.length ≤ 4000 ∧ Q (.bl (decide ks.Nodup)) H
theorem ok_unx {f : Addr} {fd : FuncData} {k : Nat} (F : Fun K "_unlike" "_unlike" sUn f fd) (ml : mg "len" = none) (mse : mg "set" = none) : FnOk P w K mg base CX0 (k + 1) f fd ["many"] (spUnx K) := by
  refine F.ok scUn (fun vs H Q E h => ?_) (fun cdv A outer s H vs Q E hr h => ?_)
  · obtain ⟨l, ks, rfl, _⟩ := h
    rfl
  · obtain ⟨l, ks, rfl, hl, few, q⟩ := h
    refine ⟨_, (pss_one (ps_ret (pe_cmpR op_eq (LK.pe_lenSetG (by rfl) ml (by rfl) mse (pv 0)) (pe_callB call_len_seq (by rfl) ml PySem.boot_len (pa_cons (pv 0) pa_nil)) (nomark _)))), ?_⟩
    refine ⟨_, rfl, l, ks, rfl, hl, few, _, rfl, l, _, rfl, .inl hl, rfl, ?_⟩
    refine qB ?_ q
    show decide (V.int (LK.cntK ks ks.length : Nat) = V.int ((ks.map kV).length : Nat)) = _
    rw [List.length_map, ← LK.cntK_all]
    exact decide_eq_decide.mpr ⟨fun z => by have := V.int.inj z; omega, fun z => by rw [z]⟩
def spNbx (TT : List Addr) (K : PySem.W.Frag) : Sp := fun vs H Q _ => ∃ (l : Addr) (zs : List Str), vs = [.ref l] ∧ SqL K H l (zs.map V.str) ∧ zs.length < 64 ∧ Tell TT H Q (nbB zs)
theorem ok_nbx {TT : List Addr} {T c f : Addr} {fd : FuncData} {k : Nat} (F : FunT K "none_begins_another" "none_begins_another" sNb f fd c) (hk : 3 ≤ k) (mT : T ∈ TT) (TB : GxR.TabB base mg c T)
    (ml : mg "len" = none) (many : mg "any" = none) (mr : mg "range" = none) (mso : mg "sorted" = none) : FnOk P w K mg base CX0 (k + 1) f fd ["texts"] (spNbx TT K) := by
  obtain ⟨j, rfl⟩ : ∃ j, k = j + 3 := ⟨k - 3, by omega⟩
  refine F.ok scNb (fun vs H Q E h => ?_) (fun A outer s H vs Q E hr h => ?_)
  · obtain ⟨z, f, rfl, _⟩ := h
    rfl
  · obtain ⟨l, zs, rfl, hl, h64, t⟩ := h
    refine ⟨_, (pss_cons (ps_set (i := 1) scNb.nd rfl (.inr rfl) (pe_callB cr_sortedS (by rfl) mso (by decide +kernel) (pa_cons (pv 0) pa_nil)))
      (pss_one (ps_ret (pe_not (GE.pe_anyG (own := [("k", 2)]) (gt := gName 2) hr rfl scNb.nd (by rfl) many TB rfl (blkOk_by (N := ["texts", "rising", "k"]) (sc := defScope sNb) (by decide +kernel)) ⟨rfl, by decide +kernel, rfl⟩ (pi_range1 (by rfl) mr (pa_cons (pe_op op_sub (pe_callB call_len_seq (by rfl) ml PySem.boot_len (pa_cons (pv 1) pa_nil)) pe_int) pa_nil)) (fun _ _ _ _ _ _ _ _ => (pg_name (i := 2) scNb.nd rfl (.inl rfl))) (fun _ _ _ _ _ _ _ _ _ => (pe_m1 PySem.F.slot_str_startswith PySem.F.type_str_startswith mt_startswith (pe_ix (show IxR _ (rIxL K) from ix_list) (pv 1) (pe_op op_add (pv 2) pe_int) (fun _ _ => rfl)) (pe_ix (show IxR _ (rIxL K) from ix_list) (pv 1) (pv 2) (fun _ _ => rfl))))))))), ?_⟩
    refine ⟨_, rfl, l, zs, rfl, hl, h64, fun ys p pm so np => ?_⟩
    have ylen := pm.length_eq
    have ep : upd H p (.lst (ys.map V.str)) p = some (.lst (ys.map V.str)) := upd_same
    have k1 : Kp (TM TT) H (upd H p (.lst (ys.map V.str))) := Kp.new np
    have t1 := t.1.new np (o := .lst (ys.map V.str))
    have pw2 := pm.pairwise_iff (R := fun a b => NoPre a b ∧ NoPre b a) (fun h => ⟨h.2, h.1⟩)
    have en : nbB zs = nbB ys := decide_eq_decide.mpr pw2.symm
    generalize upd H p (.lst (ys.map V.str)) = H1 at ep k1 t1 ⊢
    have hsl : sizeLine ≤ 2 ^ 61 := by decide
    have ml : (ys.map V.str).length = ys.length := List.length_map ..
    refine ⟨_, rfl, p, _, rfl, .inl (SqL.of ep), _, _, rfl, rfl, _, rfl, ?_, ?_, ?_⟩
    · show (-(2 ^ 62) : Int) ≤ ((ys.map V.str).length : Nat) - 1
      rw [ml]
      have : (0 : Int) ≤ 2 ^ 62 := by decide
      omega
    · show (((ys.map V.str).length : Nat) : Int) - 1 < 2 ^ 62
      rw [ml]
      have : (64 : Int) < 2 ^ 62 := by decide
      omega
    have at' : ∀ H', Kp (TM TT) H1 H' → H' p = some (.lst (ys.map V.str)) := fun H' k' => t1.lst k' ep
    rw [en] at t
    refine gen_ex (QT := fun H2 => ∃ c : Bool, V.bl false = .bl c ∧ Q (.bl (!c)) H2) (QF := fun H2 => ∃ c : Bool, V.bl true = .bl c ∧ Q (.bl (!c)) H2) (stop := true) mT t1 (ys.length - 1) (fun i => Txt.startswith (ys.getD (i + 1) "") (ys.getD i "")) (fun al H2 k2 t2 => ⟨false, rfl, qB ?_ (t.2 H2 (k1.trans k2) t2)⟩) (fun i H' lt k => ?_) (fun H' k => ?_) fun i x H' H'' lt k t' y => ?_
    · symm
      exact decide_eq_true (nb_next so al)
    · show i < ((((ys.map V.str).length : Nat) : Int) - 1).toNat
      rw [ml]
      omega
    · show ((((ys.map V.str).length : Nat) : Int) - 1).toNat ≤ ys.length - 1
      rw [ml]
      omega
    · obtain ⟨rfl, rfl⟩ := y
      have la : i < ys.length := by omega
      have lb : i + 1 < ys.length := by omega
      have e0 : (0 : Int) + (i : Nat) = ((i : Nat) : Int) := by omega
      have ea : ys.getD i "" = ys[i] := by rw [List.getD_eq_getElem?_getD, List.getElem?_eq_getElem la]; rfl
      have eb : ys.getD (i + 1) "" = ys[i + 1] := by rw [List.getD_eq_getElem?_getD, List.getElem?_eq_getElem lb]; rfl
      refine ⟨rfl, _, rfl, _, rfl, _, _, rfl, rfl, p, _, _, .str ys[i + 1], rfl, rfl, SqL.of (at' _ k), ?_, ⟨_, rfl⟩, _, rfl, _, rfl, p, _, _, .str ys[i], rfl, rfl, SqL.of (at' _ k), ?_, _, _, rfl, rfl, OnX.mk ?_ (fun e => ⟨true, rfl, qB ?_ (t.2 _ (k1.trans k) t')⟩) k t'⟩
      · rw [show (0 : Int) + (i : Nat) + 1 = ((i + 1 : Nat) : Int) by omega]
        exact atI_nat (by rw [List.getElem?_map, List.getElem?_eq_getElem lb]; rfl)
      · rw [e0]
        exact atI_nat (by rw [List.getElem?_map, List.getElem?_eq_getElem la]; rfl)
      · rw [ea, eb]
      · rw [ea, eb] at e
        symm
        refine decide_eq_false fun pw => ?_
        exact absurd (starts_pre e) (List.pairwise_iff_getElem.mp pw i (i + 1) la lb (Nat.lt_succ_self i)).1
end
end RT

set_option maxHeartbeats 1000000
/-! the small shapes: what is told of a tuple that a word leads -/
namespace RT
open PySem PySem.Spec PyProof.Rows L2
/-- what a function of _SHAPES tells of what stands behind its word -/
def spShx (W : Str) (n : Nat) (L : List Dx → Prop) (b : List Dx → Bool) (TT : List Addr) : Sp := fun vs H Q _ => ∃ (v : V) (ds : List Dx), vs = [v] ∧ Rq H v (.tup (.str W :: ds)) ∧ ds.length = n ∧ L ds ∧ Tell TT H Q (b ds)
def Any : List Dx → Prop := fun _ => True
def a1 (ds : List Dx) : Dx := ds.getD 0 .non
def a2 (ds : List Dx) : Dx := ds.getD 1 .non
theorem Rq.wd {H : Hp} {v : V} {W : Str} {ds : List Dx} (r : Rq H v (.tup (.str W :: ds))) : ∃ (a : Addr) (us : List V), v = .ref a ∧ H a = some (.tup (.str W :: us)) ∧ Rqs H us ds := by
  cases r with
  | tup e r =>
    cases r with
    | cons r1 r2 =>
      cases r1
      exact ⟨_, _, rfl, e, r2⟩
theorem Rqs.fst {H : Hp} {us : List V} {ds : List Dx} (r : Rqs H us ds) (h : 0 < ds.length) : ∃ u, us[0]? = some u ∧ Rq H u (a1 ds) := by
  cases r with
  | nil => exact absurd h (Nat.lt_irrefl _)
  | cons r1 r2 => exact ⟨_, rfl, r1⟩
theorem Rqs.snd {H : Hp} {us : List V} {ds : List Dx} (r : Rqs H us ds) (h : 1 < ds.length) : ∃ u, us[1]? = some u ∧ Rq H u (a2 ds) := by
  cases r with
  | nil => exact absurd h (by simp)
  | cons r1 r2 => 
    cases r2 with
    | nil => exact absurd h (by simp)
    | cons r2 r3 => exact ⟨_, rfl, r2⟩
section
variable {P : Program} {w : World} {K : PySem.W.Frag} {mg : Str → Option Value} {base : Heap}
theorem ok_anyx {W : Str} {n : Nat} {TT : List Addr} {f : Addr} {fd : FuncData} {k : Nat} (F : Fun K "_any_shape" "_any_shape" sAny f fd) : FnOk P w K mg base CX0 (k + 1) f fd ["_"] (spShx W n Any (fun _ => true) TT) := by
  refine F.ok scAny (fun vs H Q E h => ?_) (fun cdv A outer s H vs Q E hr h => ?_)
  · obtain ⟨z, f, rfl, _⟩ := h
    rfl
  · obtain ⟨v, ds, rfl, hR, _, _, t⟩ := h
    refine ⟨_, (pss_one (ps_ret pe_bl)), ?_⟩
    exact t.self
theorem ok_tshx {W : Str} {n : Nat} (hn : 0 < n) {TT : List Addr} {f ft : Addr} {fd fdt : FuncData} {k : Nat} (F : Fun K "_text_shape" "_text_shape" sTsh f fd) (GT : FnOk P w K mg base CX0 k ft fdt ["x"] (spTox TT)) (kt : PySem.W.keepIn K (.ref ft) = true) (bt : Binds K fdt ["x"] []) (gt : mg "is_told" = some (.ref ft)) :
    FnOk P w K mg base CX0 (k + 1) f fd ["form"] (spShx W n Any (fun ds => (a1 ds).to) TT) := by
  refine F.ok scTsh (fun vs H Q E h => ?_) (fun cdv A outer s H vs Q E hr h => ?_)
  · obtain ⟨z, f, rfl, _⟩ := h
    rfl
  · obtain ⟨v, ds, rfl, hR, ln, _, t⟩ := h
    refine ⟨_, (pss_one (ps_ret (pe_call GT hr (by rfl) gt kt bt .nil pass0 (pa_cons (pe_ix ix_tup (pv 0) pe_int (fun _ _ => rfl)) pa_nil)))), ?_⟩
    obtain ⟨a, us, rfl, e, ru⟩ := hR.wd
    obtain ⟨u, eu, r1⟩ := ru.fst (by omega)
    exact ⟨_, rfl, a, _, 1, u, rfl, rfl, SqT.of e, atI_nat (j := 1) eu, u, _, rfl, r1, t⟩
theorem ok_sshx {W : Str} {n : Nat} (hn : 0 < n) {TT : List Addr} {f ft : Addr} {fd fdt : FuncData} {k : Nat} (F : Fun K "_set_shape" "_set_shape" sSsh f fd) (GT : FnOk P w K mg base CX0 k ft fdt ["x"] (spSex TT)) (kt : PySem.W.keepIn K (.ref ft) = true) (bt : Binds K fdt ["x"] []) (gt : mg "is_set" = some (.ref ft)) :
    FnOk P w K mg base CX0 (k + 1) f fd ["form"] (spShx W n Any (fun ds => (a1 ds).se) TT) := by
  refine F.ok scSsh (fun vs H Q E h => ?_) (fun cdv A outer s H vs Q E hr h => ?_)
  · obtain ⟨z, f, rfl, _⟩ := h
    rfl
  · obtain ⟨v, ds, rfl, hR, ln, _, t⟩ := h
    refine ⟨_, (pss_one (ps_ret (pe_call GT hr (by rfl) gt kt bt .nil pass0 (pa_cons (pe_ix ix_tup (pv 0) pe_int (fun _ _ => rfl)) pa_nil)))), ?_⟩
    obtain ⟨a, us, rfl, e, ru⟩ := hR.wd
    obtain ⟨u, eu, r1⟩ := ru.fst (by omega)
    exact ⟨_, rfl, a, _, 1, u, rfl, rfl, SqT.of e, atI_nat (j := 1) eu, u, _, rfl, r1, t⟩
theorem ok_nshx {W : Str} {n : Nat} (hn : 0 < n) {TT : List Addr} {f ft : Addr} {fd fdt : FuncData} {k : Nat} (F : Fun K "_named_shape" "_named_shape" sNsh f fd) (GT : FnOk P w K mg base CX0 k ft fdt ["x"] (spNmx TT)) (kt : PySem.W.keepIn K (.ref ft) = true) (bt : Binds K fdt ["x"] []) (gt : mg "is_name" = some (.ref ft)) :
    FnOk P w K mg base CX0 (k + 1) f fd ["form"] (spShx W n Any (fun ds => (a1 ds).nm) TT) := by
  refine F.ok scNsh (fun vs H Q E h => ?_) (fun cdv A outer s H vs Q E hr h => ?_)
  · obtain ⟨z, f, rfl, _⟩ := h
    rfl
  · obtain ⟨v, ds, rfl, hR, ln, _, t⟩ := h
    refine ⟨_, (pss_one (ps_ret (pe_call GT hr (by rfl) gt kt bt .nil pass0 (pa_cons (pe_ix ix_tup (pv 0) pe_int (fun _ _ => rfl)) pa_nil)))), ?_⟩
    obtain ⟨a, us, rfl, e, ru⟩ := hR.wd
    obtain ⟨u, eu, r1⟩ := ru.fst (by omega)
    exact ⟨_, rfl, a, _, 1, u, rfl, rfl, SqT.of e, atI_nat (j := 1) eu, u, _, rfl, r1, t⟩
theorem ok_rshx {W : Str} {n : Nat} (hn : 0 < n) {TT : List Addr} {f : Addr} {fd : FuncData} {k : Nat} (F : Fun K "_row_shape" "_row_shape" sRsh f fd) (mi : mg "isinstance" = none) (mtu : mg "tuple" = none) :
    FnOk P w K mg base CX0 (k + 1) f fd ["form"] (spShx W n Any (fun ds => (a1 ds).isT) TT) := by
  refine F.ok scRsh (fun vs H Q E h => ?_) (fun cdv A outer s H vs Q E hr h => ?_)
  · obtain ⟨z, f, rfl, _⟩ := h
    rfl
  · obtain ⟨v, ds, rfl, hR, ln, _, t⟩ := h
    refine ⟨_, (pss_one (ps_ret (pe_callB call_isi (by rfl) mi (by decide +kernel) (pa_cons (pe_ix ix_tup (pv 0) pe_int (fun _ _ => rfl)) (pa_cons (pe_bltn (v := .ty "tuple") (by rfl) mtu (by decide +kernel) rfl) pa_nil))))), ?_⟩
    obtain ⟨a, us, rfl, e, ru⟩ := hR.wd
    obtain ⟨u, eu, r1⟩ := ru.fst (by omega)
    exact ⟨_, rfl, a, _, 1, u, rfl, rfl, SqT.of e, atI_nat (j := 1) eu, _, .ty "tuple", .type (a1 ds).ty, .type "tuple", _, rfl, .ty _, r1.ty, kit_ty (kT _), t.self⟩
end
end RT

set_option maxHeartbeats 1000000
/-! picks and choices: what is told of a tuple that the word leads -/
namespace RT
open PySem PySem.Spec PyProof.Rows L2
def Dx.items : Dx → List Dx
  | .tup ds => ds
  | _ => []
def Dx.f0 : Dx → Dx
  | .tup (x :: _) => x
  | _ => .non
def Dx.f1 : Dx → Dx
  | .tup (_ :: y :: _) => y
  | _ => .non
def Dx.toS : Dx → Str
  | .str z => z
  | _ => ""
def keyX : Dx → Key
  | .int i => .inl i
  | .str z => .inr z
  | _ => .inl 0
def pkOne (p : Dx) : Bool := p.f0.to && (p.f1.tx || p.f1.nu)
def pkB (d : Dx) : Bool := d.ap && (d.items.all pkOne && (nbB (d.items.map fun p => p.f0.toS) && decide ((d.items.map fun p => keyX p.f1).Nodup)))
def eiB (d : Dx) : Bool := d.ap && (d.items.all (fun p => p.f0.nm) && decide ((d.items.map fun p => (Sum.inr p.f0.toS : Key)).Nodup))
def Few : List Dx → Prop := fun ds => (a1 ds).items.length < 64
theorem Dx.ap_tup {d : Dx} (h : d.ap = true) : ∃ ds, d = .tup ds ∧ ds ≠ [] ∧ ∀ p ∈ ds, ∃ x y, p = .tup [x, y] := by
  cases d with
  | tup ds =>
    obtain ⟨h1, h2⟩ := Bool.and_eq_true_iff.mp (show (!ds.isEmpty && ds.all Dx.pr) = true from h)
    refine ⟨ds, rfl, fun z => by rw [z] at h1; exact absurd h1 (by simp), fun p m => ?_⟩
    have := List.all_eq_true.mp h2 p m
    match p, this with
    | .tup [x, y], _ => exact ⟨x, y, rfl⟩
  | _ => cases h
theorem Rq.pair {H : Hp} {v : V} {x y : Dx} (r : Rq H v (.tup [x, y])) : ∃ (c : Addr) (u w : V), v = .ref c ∧ H c = some (.tup [u, w]) ∧ Rq H u x ∧ Rq H w y := by
  cases r with
  | tup e r =>
    obtain ⟨u, w, rfl, h1, h2⟩ := r.two
    exact ⟨_, _, _, rfl, e, h1, h2⟩
theorem Dx.to_str {d : Dx} (h : d.to = true) : ∃ z, d = .str z := by
  cases d with
  | str z => exact ⟨z, rfl⟩
  | _ => cases h
theorem Dx.nm_str {d : Dx} (h : d.nm = true) : ∃ z, d = .str z := by
  cases d with
  | str z => exact ⟨z, rfl⟩
  | _ => cases h
theorem Rq.strV {H : Hp} {v : V} {z : Str} (r : Rq H v (.str z)) : v = .str z := by
  cases r
  rfl
theorem Rq.keyV {H : Hp} {v : V} {d : Dx} (r : Rq H v d) (h : (d.tx || d.nu) = true) : v = kV (keyX d) := by
  cases r with
  | str _ => rfl
  | int => rfl
  | _ => cases h
section
variable {P : Program} {w : World} {K : PySem.W.Frag} {mg : Str → Option Value} {base : Heap}
theorem ok_pshx {TT : List Addr} {f fa ft fx fn fb fu : Addr} {fd fda fdt fdx fdn fdb fdu : FuncData} {k : Nat} (F : Fun K "_pick_shape" "_pick_shape" sPsh f fd)
    (GA : FnOk P w K mg base CX0 k fa fda ["x"] (spApx TT)) (ka : PySem.W.keepIn K (.ref fa) = true) (ba : Binds K fda ["x"] []) (ga : mg "_are_pairs" = some (.ref fa))
    (GT : FnOk P w K mg base CX0 k ft fdt ["x"] (spTox TT)) (kt : PySem.W.keepIn K (.ref ft) = true) (bt : Binds K fdt ["x"] []) (gt : mg "is_told" = some (.ref ft))
    (GX : FnOk P w K mg base CX0 k fx fdx ["x"] (spTxx TT)) (kx : PySem.W.keepIn K (.ref fx) = true) (bx : Binds K fdx ["x"] []) (gx : mg "is_text" = some (.ref fx))
    (GN : FnOk P w K mg base CX0 k fn fdn ["x"] spNux) (kn : PySem.W.keepIn K (.ref fn) = true) (bn : Binds K fdn ["x"] []) (gn : mg "is_number" = some (.ref fn))
    (GB : FnOk P w K mg base CX0 k fb fdb ["texts"] (spNbx TT K)) (kb : PySem.W.keepIn K (.ref fb) = true) (bb : Binds K fdb ["texts"] []) (gb : mg "none_begins_another" = some (.ref fb))
    (GU : FnOk P w K mg base CX0 k fu fdu ["many"] (spUnx K)) (ku : PySem.W.keepIn K (.ref fu) = true) (bu : Binds K fdu ["many"] []) (gu : mg "_unlike" = some (.ref fu)) :
    FnOk P w K mg base CX0 (k + 1) f fd ["form"] (spShx "pick" 1 Few (fun ds => pkB (a1 ds)) TT) := by
  refine F.ok scPsh (fun vs H Q E h => ?_) (fun cdv A outer s H vs Q E hr h => ?_)
  · obtain ⟨z, f, rfl, _⟩ := h
    rfl
  · obtain ⟨v, ds, rfl, hR, ln, few, t⟩ := h
    obtain ⟨a, us, rfl, e, ru⟩ := hR.wd
    obtain ⟨u, eu, r1⟩ := ru.fst (by omega)
    have few : (a1 ds).items.length < 64 := few
    have t : Tell TT H Q (pkB (a1 ds)) := t
    generalize a1 ds = d at r1 few t
    refine ⟨_, (pss_cons (ps_if (pt_not (pt_val (pe_call GA hr (by rfl) ga ka ba .nil pass0 (pa_cons (pe_ix ix_tup (pv 0) pe_int (fun _ _ => rfl)) pa_nil)))) (pss_one (ps_ret pe_bl)) pss_nil)
      (pss_cons (ps_for PassesOwn.never rfl (pi_tup (pe_ix ix_tup (pv 0) pe_int (fun _ _ => rfl))) (pg_tup rfl (pgs_cons (pg_name (i := 1) scPsh.nd rfl (.inl rfl)) (pgs_cons (pg_name (i := 2) scPsh.nd rfl (.inl rfl)) pgs_nil))) (pss_one (ps_if (PW.pt (pw_or (pt_not (pt_val (pe_call GT hr (by rfl) gt kt bt .nil pass0 (pa_cons (pv 1) pa_nil)))) (pw_or1 (pt_not (PW.pt (pw_or (pt_val (pe_call GX hr (by rfl) gx kx bx .nil pass0 (pa_cons (pv 2) pa_nil))) (pw_or1 (pt_val (pe_call GN hr (by rfl) gn kn bn .nil pass0 (pa_cons (pv 2) pa_nil)))))))))) (pss_one (ps_ret pe_bl)) pss_nil)))
      (pss_one (ps_ret (pe_and (pe_call GB hr (by rfl) gb kb bb .nil pass0 (pa_cons (pe_lc (own := [("pair", 3)]) (g := gName 3) (tt := tYes) rfl scPsh.nd (pi_tup (pe_ix ix_tup (pv 0) pe_int (fun _ _ => rfl))) (blkOk_by (N := ["form", "text", "thing", "pair"]) (sc := defScope sPsh) (by decide +kernel)) (fun _ _ _ _ _ => (pg_name (i := 3) scPsh.nd rfl (.inl rfl))) (fun _ _ _ _ _ => pts_nil) (fun _ _ _ _ _ => (pe_ix (show IxR _ (rIxT K) from ix_tup) (pv 3) pe_int (fun _ _ => rfl)))) pa_nil)) (pe_one (pe_call GU hr (by rfl) gu ku bu .nil pass0 (pa_cons (pe_lc (own := [("pair", 3)]) (g := gName 3) (tt := tYes) rfl scPsh.nd (pi_tup (pe_ix ix_tup (pv 0) pe_int (fun _ _ => rfl))) (blkOk_by (N := ["form", "text", "thing", "pair"]) (sc := defScope sPsh) (by decide +kernel)) (fun _ _ _ _ _ => (pg_name (i := 3) scPsh.nd rfl (.inl rfl))) (fun _ _ _ _ _ => pts_nil) (fun _ _ _ _ _ => (pe_ix (show IxR _ (rIxT K) from ix_tup) (pv 3) pe_int (fun _ _ => rfl)))) pa_nil)))))))), ?_⟩
    refine ⟨_, rfl, a, _, 1, u, rfl, rfl, SqT.of e, atI_nat (j := 1) eu, u, d, rfl, r1, t.1, fun H1 k1 t1 => ?_⟩
    by_cases hap : d.ap = true
    · obtain ⟨ps, rfl, hne, hps⟩ := d.ap_tup hap
      have few : ps.length < 64 := few
      have epk : pkB (.tup ps) = (ps.all pkOne && (nbB (ps.map fun p => p.f0.toS) && decide ((ps.map fun p => keyX p.f1).Nodup))) := by
        show ((Dx.tup ps).ap && _) = _
        rw [hap]; rfl
      rw [epk] at t
      refine ⟨_, rfl, ?_⟩
      rw [hap]
      refine iteF ?_
      cases r1 with
      | @tup b ws _ eb rb =>
      have wl := rb.len
      have ats : ∀ H', Kp (TM TT) H H' → H' a = some (.tup (.str "pick" :: us)) ∧ H' b = some (.tup ws) := fun H' k' => ⟨(tl2_tabs t.1 k' _ _).1 e, (tl2_tabs t.1 k' _ _).1 eb⟩
      have item : ∀ (j : Nat) (x : V), ws[j]? = some x → ∃ (p q : Dx) (c : Addr) (y z : V), ps[j]? = some (.tup [p, q]) ∧ x = .ref c ∧ H c = some (.tup [y, z]) ∧ Rq H y p ∧ Rq H z q := fun j x hx => by
        obtain ⟨d, ed, rx⟩ := rb.get j x hx
        obtain ⟨p, q, rfl⟩ := hps d (List.mem_of_getElem? ed)
        obtain ⟨c, y, z, rfl, ec, h1, h2⟩ := rx.pair
        exact ⟨p, q, c, y, z, ed, rfl, ec, h1, h2⟩
      refine ⟨_, rfl, a, _, 1, .ref b, rfl, rfl, SqT.of (ats H1 k1).1, atI_nat (j := 1) eu, b, rfl, ⟨_, SqT.of (ats H1 k1).2⟩, ?_⟩
      refine for_tup (xs := ws) (fun i σ H2 => (∃ y1 y2 y3, σ = [some (.ref a), y1, y2, y3]) ∧ Kp (TM TT) H H2 ∧ Tabs TT H2 ∧ ∀ j, j < i → pkOne (ps.getD j .non) = true) ?_ ?_ ?_ ?_
      · exact ⟨⟨_, _, _, rfl⟩, k1, t1, fun j h => absurd h (Nat.not_lt_zero _)⟩
      · exact fun i σ H2 _ h => SqT.of (ats H2 h.2.1).2
      · rintro i x σ H2 hx ⟨⟨y1, y2, y3, rfl⟩, k2, t2, al⟩
        obtain ⟨p, q, c, y, z, ep, rfl, ec, h1, h2⟩ := item i x hx
        have eg : ps.getD i .non = .tup [p, q] := by rw [List.getD_eq_getElem?_getD, ep]; rfl
        have lt : i < ps.length := (List.getElem?_eq_some_iff.mp ep).1
        have ec2 := (tl2_tabs t.1 k2 _ _).1 ec
        have bad : (p.to && (q.tx || q.nu)) = false → ∀ H4, Kp (TM TT) H2 H4 → Tabs TT H4 → Q (.bl false) H4 := fun h H4 k4 t4 => qB (by
          rw [all_not (d := .non) (p := pkOne) lt (by rw [eg]; exact h)]
          rfl) (t.2 H4 (k2.trans k4) t4)
        refine ⟨c, _, rfl, SqT.of ec2, rfl, _, _, rfl, _, _, rfl, rfl, ?_⟩
        refine ⟨_, rfl, y, p, rfl, h1.tl (tl2_tabs t.1 k2), t2, fun H3 k3 t3 => ⟨_, rfl, ?_⟩⟩
        have k23 := k2.trans k3
        by_cases hp : p.to = true
        · rw [hp]
          refine iteF ?_
          refine ⟨_, rfl, z, q, rfl, h2.tl (tl2_tabs t.1 k23), t3, fun H4 k4 t4 => ⟨q.tx, rfl, ?_⟩⟩
          have k24 := k23.trans k4
          have fin : (q.tx || q.nu) = true → (∃ z1 z2 z3, (([some (V.ref a), y1, y2, y3].set 1 (some y)).set 2 (some z)) = [some (.ref a), z1, z2, z3]) ∧ Kp (TM TT) H H4 ∧ Tabs TT H4 ∧ ∀ j, j < i + 1 → pkOne (ps.getD j .non) = true := fun h => ⟨⟨_, _, _, rfl⟩, k24, t4, fun j hj => by
            rcases Nat.lt_succ_iff_lt_or_eq.mp hj with hj | rfl
            · exact al j hj
            · rw [eg]
              show (p.to && (q.tx || q.nu)) = true
              rw [hp, h]
              rfl⟩
          by_cases hq : q.tx = true
          · rw [hq]
            exact iteT (iteF (fin (by rw [hq]; rfl)))
          · have hq : q.tx = false := Bool.eq_false_iff.mpr hq
            rw [hq]
            refine iteF ⟨_, rfl, z, q, rfl, h2.tl (tl2_tabs t.1 k24), q.nu, rfl, ?_⟩
            by_cases hn : q.nu = true
            · rw [hn]
              exact iteF (fin (by rw [hq, hn]; rfl))
            · have hn : q.nu = false := Bool.eq_false_iff.mpr hn
              rw [hn]
              exact iteT (bad (by rw [hq, hn]; exact Bool.and_false _) H4 (k3.trans k4) t4)
        · have hp : p.to = false := Bool.eq_false_iff.mpr hp
          rw [hp]
          exact iteT (iteT (bad (by rw [hp]; rfl) H3 k3 t3))
      · rintro σ H2 ⟨⟨y1, y2, y3, rfl⟩, k2, t2, al⟩
        have hall : ps.all pkOne = true := (all_at (d := .non)).mpr fun j hj => al j (by omega)
        rw [hall, Bool.true_and] at t
        have one : ∀ j p, ps[j]? = some p → pkOne p = true := fun j p h => List.all_eq_true.mp hall p (List.mem_of_getElem? h)
        have hl1 : (ps.map fun p => V.str p.f0.toS).length = ws.length := by rw [List.length_map, wl]
        have hl2 : (ps.map fun p => kV (keyX p.f1)).length = ws.length := by rw [List.length_map, wl]
        have lw : ws.length ≤ 1000 := by omega
        refine ⟨_, rfl, a, _, 1, .ref b, rfl, rfl, SqT.of (ats H2 k2).1, atI_nat (j := 1) eu, b, rfl, ⟨_, SqT.of (ats H2 k2).2⟩, fun D1 n1 => ?_⟩
        refine lc_vals lw hl1 (ats H2 k2).2 n1 (fun j x y H4 Q' N' hx hy k4 q => ?_) fun H3 k3 e3 => ?_
        · obtain ⟨p, q1, c, u1, u2, ep, rfl, ec, h1, h2⟩ := item j x hx
          rw [List.getElem?_map, ep] at hy
          cases hy
          obtain ⟨z, rfl⟩ := Dx.to_str (Bool.and_eq_true_iff.mp (one j _ ep)).1
          have ec4 := k4 c _ (fun z => z) ((tl2_tabs t.1 k2 _ _).1 ec)
          rw [h1.strV] at ec4
          exact ⟨rfl, tYes_ok (iteT ⟨_, rfl, c, _, 0, _, rfl, rfl, SqT.of ec4, atI_nat (j := 0) rfl, q⟩)⟩
        have k23 : Kp (TM TT) H H3 := k2.trans (k3.mono fun _ z => z.elim)
        have t3 : Tabs TT H3 := t2.off k3 fun _ _ z => z
        refine ⟨D1, ps.map (fun p => p.f0.toS), rfl, SqL.of (by rw [e3, List.map_map]; rfl), by rw [List.length_map]; omega, t3, fun H4 k4 t4 => ⟨_, rfl, ?_⟩⟩
        have k04 := k23.trans k4
        by_cases hnb : nbB (ps.map fun p => p.f0.toS) = true
        · rw [hnb, Bool.true_and] at t
          rw [hnb]
          refine iteT ?_
          refine ⟨_, rfl, a, _, 1, .ref b, rfl, rfl, SqT.of (ats H4 k04).1, atI_nat (j := 1) eu, b, rfl, ⟨_, SqT.of (ats H4 k04).2⟩, fun D2 n2 => ?_⟩
          refine lc_vals lw hl2 (ats H4 k04).2 n2 (fun j x y H5 Q' N' hx hy k5 q => ?_) fun H5 k5 e5 => ?_
          · obtain ⟨p, q1, c, u1, u2, ep, rfl, ec, h1, h2⟩ := item j x hx
            rw [List.getElem?_map, ep] at hy
            cases hy
            have ev : u2 = kV (keyX q1) := h2.keyV (Bool.and_eq_true_iff.mp (one j _ ep)).2
            have ec5 := k5 c _ (fun z => z) ((tl2_tabs t.1 k04 _ _).1 ec)
            rw [ev] at ec5
            exact ⟨rfl, tYes_ok (iteT ⟨_, rfl, c, _, 1, _, rfl, rfl, SqT.of ec5, atI_nat (j := 1) rfl, q⟩)⟩
          refine ⟨D2, ps.map fun p => keyX p.f1, rfl, SqL.of (by rw [e5, List.map_map]; rfl), by rw [List.length_map]; omega, ?_⟩
          exact t.2 H5 (k04.trans (k5.mono fun _ z => z.elim)) (t4.off k5 fun _ _ z => z)
        · have hnb : nbB (ps.map fun p => p.f0.toS) = false := Bool.eq_false_iff.mpr hnb
          rw [hnb, Bool.false_and] at t
          rw [hnb]
          exact iteF (t.2 H4 k04 t4)
    · have hap : d.ap = false := Bool.eq_false_iff.mpr hap
      have epk : pkB d = false := by
        show (d.ap && _) = _
        rw [hap]; rfl
      rw [epk] at t
      refine ⟨_, rfl, ?_⟩
      rw [hap]
      exact iteT (t.2 H1 k1 t1)
end
end RT

set_option maxHeartbeats 1000000
/-! choices: what is told of a tuple that the word leads -/
namespace RT
open PySem PySem.Spec PyProof.Rows L2
section
variable {P : Program} {w : World} {K : PySem.W.Frag} {mg : Str → Option Value} {base : Heap}
theorem ok_eshx {TT : List Addr} {T c f fa ft fu : Addr} {fd fda fdt fdu : FuncData} {k : Nat} (F : FunT K "_either_shape" "_either_shape" sEsh f fd c) (hk : 3 ≤ k) (mT : T ∈ TT) (TB : GxR.TabB base mg c T)
    (GA : FnOk P w K mg base CX0 k fa fda ["x"] (spApx TT)) (ka : PySem.W.keepIn K (.ref fa) = true) (ba : Binds K fda ["x"] []) (ga : mg "_are_pairs" = some (.ref fa))
    (GT : FnOk P w K mg base CX0 (k - 3) ft fdt ["x"] (spNmx TT)) (kt : PySem.W.keepIn K (.ref ft) = true) (bt : Binds K fdt ["x"] []) (gt : mg "is_name" = some (.ref ft))
    (GU : FnOk P w K mg base CX0 k fu fdu ["many"] (spUnx K)) (ku : PySem.W.keepIn K (.ref fu) = true) (bu : Binds K fdu ["many"] []) (gu : mg "_unlike" = some (.ref fu)) (mall : mg "all" = none) :
    FnOk P w K mg base CX0 (k + 1) f fd ["form"] (spShx "either" 1 Few (fun ds => eiB (a1 ds)) TT) := by
  obtain ⟨j, rfl⟩ : ∃ j, k = j + 3 := ⟨k - 3, by omega⟩
  refine F.ok scEsh (fun vs H Q E h => ?_) (fun A outer s H vs Q E hr h => ?_)
  · obtain ⟨z, f, rfl, _⟩ := h
    rfl
  · obtain ⟨v, ds, rfl, hR, ln, few, t⟩ := h
    obtain ⟨a, us, rfl, e, ru⟩ := hR.wd
    obtain ⟨u, eu, r1⟩ := ru.fst (by omega)
    have few : (a1 ds).items.length < 64 := few
    have t : Tell TT H Q (eiB (a1 ds)) := t
    generalize a1 ds = d at r1 few t
    refine ⟨_, (pss_cons (ps_if (PW.pt (pw_or (pt_not (pt_val (pe_call GA hr (by rfl) ga ka ba .nil pass0 (pa_cons (pe_ix ix_tup (pv 0) pe_int (fun _ _ => rfl)) pa_nil)))) (pw_or1 (pt_not (pt_val (GE.pe_allG (own := [("name", 1), ("_", 2)]) (gt := gTup K 2 (gCons (gName 1) (gCons (gName 2) gNil))) hr rfl scEsh.nd (by rfl) mall TB rfl (blkOk_by (N := ["form", "name", "_"]) (sc := defScope sEsh) (by decide +kernel)) ⟨rfl, by decide +kernel, rfl⟩ (pi_tup (pe_ix ix_tup (pv 0) pe_int (fun _ _ => rfl))) (fun _ _ _ _ _ _ _ _ => (pg_tup rfl (pgs_cons (pg_name (i := 1) scEsh.nd rfl (.inl rfl)) (pgs_cons (pg_name (i := 2) scEsh.nd rfl (.inl rfl)) pgs_nil)))) (fun _ _ _ _ _ _ _ _ hb => (pe_call GT hb (by rfl) gt kt bt .nil pass0 (pa_cons (pv 1) pa_nil))))))))) (pss_one (ps_ret pe_bl)) pss_nil)
      (pss_one (ps_ret (pe_call GU hr (by rfl) gu ku bu .nil pass0 (pa_cons (pe_lc (own := [("name", 1), ("_", 2)]) (g := gTup K 2 (gCons (gName 1) (gCons (gName 2) gNil))) (tt := tYes) rfl scEsh.nd (pi_tup (pe_ix ix_tup (pv 0) pe_int (fun _ _ => rfl))) (blkOk_by (N := ["form", "name", "_"]) (sc := defScope sEsh) (by decide +kernel)) (fun _ _ _ _ _ => (pg_tup rfl (pgs_cons (pg_name (i := 1) scEsh.nd rfl (.inl rfl)) (pgs_cons (pg_name (i := 2) scEsh.nd rfl (.inl rfl)) pgs_nil)))) (fun _ _ _ _ _ => pts_nil) (fun _ _ _ _ _ => (pv 1))) pa_nil))))), ?_⟩
    refine ⟨_, rfl, a, _, 1, u, rfl, rfl, SqT.of e, atI_nat (j := 1) eu, u, d, rfl, r1, t.1, fun H1 k1 t1 => ?_⟩
    by_cases hap : d.ap = true
    · obtain ⟨ps, rfl, hne, hps⟩ := d.ap_tup hap
      have few : ps.length < 64 := few
      have epk : eiB (.tup ps) = (ps.all (fun p => p.f0.nm) && decide ((ps.map fun p => (Sum.inr p.f0.toS : Key)).Nodup)) := by
        show ((Dx.tup ps).ap && _) = _
        rw [hap]; rfl
      rw [epk] at t
      refine ⟨_, rfl, ?_⟩
      rw [hap]
      refine iteF ?_
      cases r1 with
      | @tup b ws _ eb rb =>
      have wl := rb.len
      have ats : ∀ H', Kp (TM TT) H H' → H' a = some (.tup (.str "either" :: us)) ∧ H' b = some (.tup ws) := fun H' k' => ⟨(tl2_tabs t.1 k' _ _).1 e, (tl2_tabs t.1 k' _ _).1 eb⟩
      have item : ∀ (j : Nat) (x : V), ws[j]? = some x → ∃ (p q : Dx) (c : Addr) (y z : V), ps[j]? = some (.tup [p, q]) ∧ x = .ref c ∧ H c = some (.tup [y, z]) ∧ Rq H y p ∧ Rq H z q := fun j x hx => by
        obtain ⟨d, ed, rx⟩ := rb.get j x hx
        obtain ⟨p, q, rfl⟩ := hps d (List.mem_of_getElem? ed)
        obtain ⟨c, y, z, rfl, ec, h1, h2⟩ := rx.pair
        exact ⟨p, q, c, y, z, ed, rfl, ec, h1, h2⟩
      refine ⟨_, rfl, a, _, 1, .ref b, rfl, rfl, SqT.of (ats H1 k1).1, atI_nat (j := 1) eu, b, rfl, ⟨_, SqT.of (ats H1 k1).2⟩, ?_⟩
      refine gen_ex mT t1 ws.length (fun i => (ps.getD i .non).f0.nm) (fun al H2 k2 t2 => ⟨true, rfl, iteF ?_⟩) (fun i H' lt k => ⟨ws, ws[i], SqT.of (ats H' (k1.trans k)).2, List.getElem?_eq_getElem lt⟩) (fun H' k => ⟨ws, SqT.of (ats H' (k1.trans k)).2, Nat.le_refl _⟩) fun i x H' H'' lt k t' y => ?_
      · have hall : ps.all (fun p => p.f0.nm) = true := (all_at (d := .non)).mpr fun j hj => al j (by omega)
        rw [hall, Bool.true_and] at t
        have one : ∀ (j : Nat) (p : Dx), ps[j]? = some p → p.f0.nm = true := fun j p h => List.all_eq_true.mp hall p (List.mem_of_getElem? h)
        have k12 := k1.trans k2
        have hl1 : (ps.map fun p => V.str p.f0.toS).length = ws.length := by rw [List.length_map, wl]
        have lw : ws.length ≤ 1000 := by omega
        refine ⟨_, rfl, a, _, 1, .ref b, rfl, rfl, SqT.of (ats H2 k12).1, atI_nat (j := 1) eu, b, rfl, ⟨_, SqT.of (ats H2 k12).2⟩, fun D1 n1 => ?_⟩
        refine lc_vals lw hl1 (ats H2 k12).2 n1 (fun j x y H4 Q' N' hx hy k4 q => ?_) fun H3 k3 e3 => ?_
        · obtain ⟨p, q1, c, u1, u2, ep, rfl, ec, h1, h2⟩ := item j x hx
          rw [List.getElem?_map, ep] at hy
          cases hy
          obtain ⟨z, rfl⟩ := Dx.nm_str (show p.nm = true from one j _ ep)
          have ec4 := k4 c _ (fun z => z) ((tl2_tabs t.1 k12 _ _).1 ec)
          rw [h1.strV] at ec4
          exact ⟨c, _, rfl, SqT.of ec4, rfl, _, _, rfl, _, _, rfl, rfl, rfl, tYes_ok (iteT ⟨_, rfl, q⟩)⟩
        refine ⟨D1, ps.map (fun p => (Sum.inr p.f0.toS : Key)), rfl, SqL.of (by rw [e3, List.map_map]; rfl), by rw [List.length_map]; omega, ?_⟩
        exact t.2 H3 (k12.trans (k3.mono fun _ z => z.elim)) (t2.off k3 fun _ _ z => z)
      · obtain ⟨rfl, hx⟩ := y
        have ex := hx ws (SqT.of (ats _ (k1.trans k)).2)
        obtain ⟨p, q1, c, u1, u2, ep, rfl, ec, h1, h2⟩ := item i x ex
        have eg : ps.getD i .non = .tup [p, q1] := by rw [List.getD_eq_getElem?_getD, ep]; rfl
        have lp : i < ps.length := (List.getElem?_eq_some_iff.mp ep).1
        have ec4 := (tl2_tabs t.1 (k1.trans k) _ _).1 ec
        have bad := fun (h : (ps.getD i .non).f0.nm = false) (H5 : Hp) (k5 : Kp (TM TT) H H5) (t5 : Tabs TT H5) => qB (b := false) (Q := Q) (by
          rw [all_not (d := .non) (p := fun p => p.f0.nm) lp h]
          rfl) (t.2 H5 k5 t5)
        rw [eg] at bad ⊢
        refine ⟨c, _, rfl, SqT.of ec4, rfl, _, _, rfl, _, _, rfl, rfl, rfl, _, rfl, u1, p, rfl, h1.tl (tl2_tabs t.1 (k1.trans k)), t', fun H5 k5 t5 => OnX.mk rfl (fun h => ?_) (k.trans k5) t5⟩
        exact ⟨false, rfl, iteT (bad h H5 ((k1.trans k).trans k5) t5)⟩
    · have hap : d.ap = false := Bool.eq_false_iff.mpr hap
      have epk : eiB d = false := by
        show (d.ap && _) = _
        rw [hap]; rfl
      rw [epk] at t
      refine ⟨_, rfl, ?_⟩
      rw [hap]
      exact iteT (iteT (t.2 H1 k1 t1))
end
end RT

set_option maxHeartbeats 1000000
/-! d.get(k) of any text; _has_shape: what is told of anything -/
namespace RT
open PySem PySem.Spec PyProof.Rows L2
section
variable {X : Cx} {o e : Expr} {apos cpos : Pos} {td ty : TE} {d : Addr} {es : Array DictEntry} {n : Nat}
def tKGetO (K : PySem.W.Frag) (d : Addr) (td ty : TE) : TE := fun σ H Q => td σ H fun x H1 => x = .ref d ∧ ty σ H1 fun y H2 => ∃ (z : Str) (r : Option Value) (v0 : V), y = .str z ∧ PySem.W.nsIn K d z = some r ∧ RelV v0 (r.getD .none) ∧ Q v0 H2
theorem pe_kgetO (D : KDict X.K X.w d es n) (ho : PE X o td) (he : PE X e ty) (m : M1 X o "get" apos e cpos) : PE X (.Call (.Attribute o "get" apos) [e] [] cpos) (tKGetO X.K d td ty) := by
  refine ⟨fun pins s σ H Q I h => ?_⟩
  refine wpAny_Call_method m.base m.few m.line PySem.F.plainAttrs_dict PySem.F.slot_dict_get PySem.F.type_dict_get (thn (ho.run pins s σ H _ I h) fun u s1 ⟨x, H1, I1, rx, ex, q1⟩ => ?_)
  subst ex
  obtain rfl : u = Value.ref d := rx
  refine ⟨kd_type D I1, fun b q => ?_, ?_⟩
  · cases q
    exact ⟨_, I1.kIn _ _ D.at_, rfl⟩
  rw [m.trees]
  refine Calls.callWith_builtin rfl (Calls.evalArgs_plain (Calls.spliced_cons (thn (he.run pins s1 σ H1 _ I1 q1) fun iv s2 ⟨y, H2, I2, ry, z, r0, v0, ey, en, r, q2⟩ => Calls.spliced_nil ?_)))
  subst ey
  obtain ⟨t, rfl⟩ := ry
  refine call_meetsIn PySem.F.slot_dict_get (kd_type D I2) PySem.F.entry_dict_get (PySem.F.args_dict_get_2 _ _) (meets_dict_get (PySem.strKind X.prog X.w) d (PySem.strKind_is X.prog X.w z t) D.low) ⟨_, PySem.W.mapOf_K (prog := X.prog) I2.kIn D.at_ D.lit, ?_⟩
  rw [PySem.W.find_K D.at_ en]
  exact ⟨v0, H2, I2.tok _, r, q2⟩
end
/-- a key that no entry has -/
def keyNot (ws : List Str) (e : DictEntry) : Bool := match e.key with
  | .str x _ => ws.contains x
  | _ => false
theorem ns_not {K : PySem.W.Frag} {L : Addr} {es : Array DictEntry} {n : Nat} {ws : List Str} {z : Str} (e : K.lookup L = some ⟨.type "dict", none, .dict es n, #[]⟩) (h : es.toList.all (keyNot ws) = true) (hz : z ∉ ws) : PySem.W.nsIn K L z = some none := by
  unfold PySem.W.nsIn
  rw [e]
  dsimp only
  have one : ∀ d ∈ es.toList, ∃ x t, d.key = .str x t ∧ x ∈ ws := fun d m => by
    have := List.all_eq_true.mp h d m
    unfold keyNot at this
    split at this
    · rename_i x t ek
      exact ⟨x, t, ek, by simpa using this⟩
    · cases this
  have hf : es.toList.find? (·.key.isStr z) = none := by
    refine List.find?_eq_none.mpr fun d m => ?_
    obtain ⟨x, t, ek, hx⟩ := one d m
    rw [ek]
    intro q
    have : x = z := by simpa [Value.isStr] using q
    exact hz (this ▸ hx)
  have ha : es.toList.any (·.refKey) = false := by
    refine List.any_eq_false.mpr fun d m => ?_
    obtain ⟨x, t, ek, hx⟩ := one d m
    unfold DictEntry.refKey
    rw [ek]
    simp
  rw [hf, ha]
  rfl
/-! ### the shapes -/
def Dx.wd : Dx → Str
  | .tup (.str W :: _) => W
  | _ => ""
def Dx.rest : Dx → List Dx
  | .tup (_ :: ds) => ds
  | _ => []
def Dx.isN : Dx → Bool
  | .non => true
  | _ => false
def one1 : Dx → Bool
  | .str z => decide (z.length = 1)
  | _ => false
def spB (g : Dx → Bool) (x : Dx) : Bool := g x && if x.wd = "pick" then (a1 x.rest).items.all (fun p => one1 p.f1) else decide (x.wd = "sign")
def agB (g : Dx → Bool) (y : Dx) : Bool := y.isN || (g y && decide (y.wd = "text" ∨ y.wd = "skip"))
/-- the things of pairs, one behind another -/
def flx (ds : List Dx) : List Dx := ds.flatMap fun p => [p.f0, p.f1]
open Classical in
noncomputable def tuB (y : Dx) : Bool := y.ap && (y.th && decide (flx y.items).Nodup)
noncomputable def shp (g : Dx → Bool) (W : Str) (ds : List Dx) : Bool :=
  if W = "text" ∨ W = "counted" then (a1 ds).to
  else if W = "skip" ∨ W = "number" then true
  else if W = "sign" ∨ W = "word" then (a1 ds).se
  else if W = "pick" then pkB (a1 ds)
  else if W = "spelt" then spB g (a1 ds)
  else if W = "row" then (a1 ds).isT
  else if W = "either" then eiB (a1 ds)
  else if W = "again" then agB g (a2 ds)
  else if W = "turned" then tuB (a2 ds)
  else (a1 ds).nm
noncomputable def hs : Nat → Dx → Bool
  | n + 1, .tup (.str W :: ds) => decide ((W, ds.length + 1) ∈ words) && shp (hs n) W ds
  | _, _ => false
/-- what the walk asks of the rooms -/
def Small (y : Dx) : Prop := y.items.length ≤ 60 ∧ y.size ≤ 100000 ∧ ∀ d ∈ flx y.items, d.size ≤ 20
def lm : Nat → Dx → Prop
  | 0, _ => False
  | n + 1, .tup (.str W :: ds) => (W = "pick" ∨ W = "either" → Few ds) ∧ (W = "spelt" → lm n (a1 ds)) ∧ (W = "again" → lm n (a2 ds)) ∧ (W = "turned" → Small (a2 ds))
  | _ + 1, _ => True
theorem words_fun : ∀ p ∈ words, ∀ q ∈ words, p.1 = q.1 → p.2 = q.2 := by decide +kernel
section
variable {P : Program} {w : World} {K : PySem.W.Frag} {mg : Str → Option Value} {base : Heap}
def spHsx (n : Nat) (TT : List Addr) : Sp := fun vs H Q _ => ∃ (v : V) (d : Dx), vs = [v] ∧ Rq H v d ∧ lm n d ∧ Tell TT H Q (hs n d)
theorem ok_hsx {n : Nat} {TT : List Addr} {f L S : Addr} {fd : FuncData} {k nL nS : Nat} {eL eS : Array DictEntry} (F : Fun K "_has_shape" "_has_shape" sHs f fd) (mL : mg "LENGTHS" = some (.ref L)) (DL : KDict K w L eL nL) (hL : ∀ p ∈ words, ∃ t, PySem.W.nsIn K L p.1 = some (some (.int p.2 t)))
    (hLn : eL.toList.all (keyNot (words.map (·.1))) = true) (mS : mg "_SHAPES" = some (.ref S)) (DS : KDict K w S eS nS) (hS : ∀ p ∈ words, ∃ g, PySem.W.nsIn K S p.1 = some (some (.ref g)) ∧ PySem.W.keepIn K (.ref g) = true ∧ FnR P w K mg base CX0 k g (spShx p.1 (p.2 - 1) (fun ds => lm (n + 1) (.tup (.str p.1 :: ds))) (shp (hs n) p.1) TT))
    (mi : mg "isinstance" = none) (mtu : mg "tuple" = none) (ms : mg "str" = none) (ml : mg "len" = none) : FnOk P w K mg base CX0 (k + 1) f fd ["x"] (spHsx (n + 1) TT) := by
  refine F.ok scHs (fun vs H Q E h => ?_) (fun cdv A outer s H vs Q E hr h => ?_)
  · obtain ⟨z, f, rfl, _⟩ := h
    rfl
  · obtain ⟨v, d, rfl, hR, hl, t⟩ := h
    by_cases hd : ∃ W ds, d = .tup (.str W :: ds)
    · obtain ⟨W, ds, rfl⟩ := hd
      obtain ⟨a, us, rfl, ea, ru⟩ := hR.wd
      have ul := ru.len
      by_cases hm : (W, ds.length + 1) ∈ words
      · obtain ⟨g, eg, kh, FH⟩ := hS _ hm
        obtain ⟨tl, el⟩ := hL _ hm
        have ehs : hs (n + 1) (.tup (.str W :: ds)) = shp (hs n) W ds := by
          show (decide _ && _) = _
          rw [decide_eq_true hm]
          rfl
        rw [ehs] at t
        refine ⟨_, (pss_cons (ps_if (PW.pt (pw_or (pt_not (pt_val (pe_callB call_isi (by rfl) mi (by decide +kernel) (pa_cons (pv 0) (pa_cons (pe_bltn (v := .ty "tuple") (by rfl) mtu (by decide +kernel) rfl) pa_nil))))) (pw_or (pt_not (pt_truth (pv 0) (by intro _; rfl))) (pw_or1 (pt_not (pt_val (pe_callB call_isi (by rfl) mi (by decide +kernel) (pa_cons (pe_ix ix_tup (pv 0) pe_int (fun _ _ => rfl)) (pa_cons (pe_bltn (v := .ty "str") (by rfl) ms (by decide +kernel) rfl) pa_nil))))))))) (pss_one (ps_ret pe_bl)) pss_nil)
      (pss_cons (ps_if (pt_cmpR op_ne (pe_callB call_len_seq (by rfl) ml PySem.boot_len (pa_cons (pv 0) pa_nil)) (pe_kgetO DL (pe_glob (v := .ref L) (by rfl) mL rfl) (pe_ix ix_tup (pv 0) pe_int (fun _ _ => rfl)) ⟨rfl, rfl, rfl, rfl⟩) (nomark _)) (pss_one (ps_ret pe_bl)) pss_nil)
      (pss_cons (ps_set (i := 1) scHs.nd rfl (.inl rfl) (pe_kix DS (pe_glob (v := .ref S) (by rfl) mS rfl) (pe_ix ix_tup (pv 0) pe_int (fun _ _ => rfl)) (fun _ _ => rfl)))
      (pss_one (ps_ret (ItX.pe_callV (i := 1) FH hr kh pass0 rfl (.inl rfl) (pa_cons (pv 0) pa_nil))))))), ?_⟩
        refine ⟨_, rfl, _, .ty "tuple", .type "tuple", .type "tuple", true, rfl, .ty _, .base (.tup ea), kit_ty (by decide +kernel), true, rfl, iteF ?_⟩
        refine ⟨_, rfl, true, .inr (.inl ⟨_, SqT.of ea, rfl⟩), iteF ?_⟩
        refine ⟨_, rfl, a, _, 0, .str _, rfl, rfl, SqT.of ea, atI_nat (j := 0) rfl, _, .ty "str", .type "str", .type "str", true, rfl, .ty _, .base (.str _), kit_ty (by decide +kernel), true, rfl, iteF ?_⟩
        refine ⟨_, rfl, a, _, rfl, .inr (SqT.of ea), rfl, _, rfl, a, _, 0, .str _, rfl, rfl, SqT.of ea, atI_nat (j := 0) rfl, _, _, .int _, rfl, el, ⟨_, rfl⟩, rfl, _, rfl, iteF' ?_ ?_⟩
        · show (!decide (V.int ((V.str W :: us).length : Nat) = V.int ((ds.length + 1 : Nat) : Int))) = false
          rw [List.length_cons, ul, decide_eq_true rfl]
          rfl
        exact ⟨rfl, _, rfl, a, _, 0, .str _, rfl, rfl, SqT.of ea, atI_nat (j := 0) rfl, _, _, .ref g, rfl, eg, rfl, rfl, _, rfl, _, ds, rfl, hR, rfl, hl, t⟩
      · have ehs : hs (n + 1) (.tup (.str W :: ds)) = false := by
          show (decide _ && _) = _
          rw [decide_eq_false hm]
          rfl
        rw [ehs] at t
        obtain ⟨g, eg, kh, FH⟩ := hS ("text", 2) (.head _)
        obtain ⟨r, v0, er, rv, sc, ne⟩ : ∃ (r : Option Value) (v0 : V), PySem.W.nsIn K L W = some r ∧ RelV v0 (r.getD .none) ∧ (∀ i : Int, scal (.int i) v0 = true) ∧ V.int ((ds.length + 1 : Nat) : Int) ≠ v0 := by
          by_cases hw : W ∈ words.map (·.1)
          · obtain ⟨p, mp, rfl⟩ := List.mem_map.mp hw
            obtain ⟨tl, el⟩ := hL p mp
            refine ⟨_, .int (p.2 : Nat), el, ⟨_, rfl⟩, fun _ => rfl, fun z => hm ?_⟩
            have := V.int.inj z
            have e : ds.length + 1 = p.2 := by omega
            rw [e]
            exact mp
          · exact ⟨_, .non, ns_not DL.at_ hLn hw, rfl, fun _ => rfl, fun z => by cases z⟩
        refine ⟨_, (pss_cons (ps_if (PW.pt (pw_or (pt_not (pt_val (pe_callB call_isi (by rfl) mi (by decide +kernel) (pa_cons (pv 0) (pa_cons (pe_bltn (v := .ty "tuple") (by rfl) mtu (by decide +kernel) rfl) pa_nil))))) (pw_or (pt_not (pt_truth (pv 0) (by intro _; rfl))) (pw_or1 (pt_not (pt_val (pe_callB call_isi (by rfl) mi (by decide +kernel) (pa_cons (pe_ix ix_tup (pv 0) pe_int (fun _ _ => rfl)) (pa_cons (pe_bltn (v := .ty "str") (by rfl) ms (by decide +kernel) rfl) pa_nil))))))))) (pss_one (ps_ret pe_bl)) pss_nil)
      (pss_cons (ps_if (pt_cmpR op_ne (pe_callB call_len_seq (by rfl) ml PySem.boot_len (pa_cons (pv 0) pa_nil)) (pe_kgetO DL (pe_glob (v := .ref L) (by rfl) mL rfl) (pe_ix ix_tup (pv 0) pe_int (fun _ _ => rfl)) ⟨rfl, rfl, rfl, rfl⟩) (nomark _)) (pss_one (ps_ret pe_bl)) pss_nil)
      (pss_cons (ps_set (i := 1) scHs.nd rfl (.inl rfl) (pe_kix DS (pe_glob (v := .ref S) (by rfl) mS rfl) (pe_ix ix_tup (pv 0) pe_int (fun _ _ => rfl)) (fun _ _ => rfl)))
      (pss_one (ps_ret (ItX.pe_callV (i := 1) FH hr kh pass0 rfl (.inl rfl) (pa_cons (pv 0) pa_nil))))))), ?_⟩
        refine ⟨_, rfl, _, .ty "tuple", .type "tuple", .type "tuple", true, rfl, .ty _, .base (.tup ea), kit_ty (by decide +kernel), true, rfl, iteF ?_⟩
        refine ⟨_, rfl, true, .inr (.inl ⟨_, SqT.of ea, rfl⟩), iteF ?_⟩
        refine ⟨_, rfl, a, _, 0, .str _, rfl, rfl, SqT.of ea, atI_nat (j := 0) rfl, _, .ty "str", .type "str", .type "str", true, rfl, .ty _, .base (.str _), kit_ty (by decide +kernel), true, rfl, iteF ?_⟩
        refine ⟨_, rfl, a, _, rfl, .inr (SqT.of ea), rfl, _, rfl, a, _, 0, .str _, rfl, rfl, SqT.of ea, atI_nat (j := 0) rfl, W, r, v0, rfl, er, rv, sc _, _, rfl, iteT' ?_ t.self⟩
        show (!decide (V.int ((V.str W :: us).length : Nat) = v0)) = true
        rw [List.length_cons, ul, decide_eq_false ne]
        rfl
    · have ehs : hs (n + 1) d = false := by
        match d with
        | .tup (.str W :: ds) => exact absurd ⟨W, ds, rfl⟩ hd
        | .tup [] => rfl
        | .tup (.int _ :: _) => rfl
        | .tup (.bl _ :: _) => rfl
        | .tup (.non :: _) => rfl
        | .tup (.tup _ :: _) => rfl
        | .tup (.lst _ :: _) => rfl
        | .str _ => rfl
        | .int _ => rfl
        | .bl _ => rfl
        | .non => rfl
        | .lst _ => rfl
      rw [ehs] at t
      obtain ⟨g, eg, kh, FH⟩ := hS ("text", 2) (.head _)
      refine ⟨_, (pss_cons (ps_if (PW.pt (pw_or (pt_not (pt_val (pe_callB call_isi (by rfl) mi (by decide +kernel) (pa_cons (pv 0) (pa_cons (pe_bltn (v := .ty "tuple") (by rfl) mtu (by decide +kernel) rfl) pa_nil))))) (pw_or (pt_not (pt_truth (pv 0) (by intro _; rfl))) (pw_or1 (pt_not (pt_val (pe_callB call_isi (by rfl) mi (by decide +kernel) (pa_cons (pe_ix ix_tup (pv 0) pe_int (fun _ _ => rfl)) (pa_cons (pe_bltn (v := .ty "str") (by rfl) ms (by decide +kernel) rfl) pa_nil))))))))) (pss_one (ps_ret pe_bl)) pss_nil)
      (pss_cons (ps_if (pt_cmpR op_ne (pe_callB call_len_seq (by rfl) ml PySem.boot_len (pa_cons (pv 0) pa_nil)) (pe_kgetO DL (pe_glob (v := .ref L) (by rfl) mL rfl) (pe_ix ix_tup (pv 0) pe_int (fun _ _ => rfl)) ⟨rfl, rfl, rfl, rfl⟩) (nomark _)) (pss_one (ps_ret pe_bl)) pss_nil)
      (pss_cons (ps_set (i := 1) scHs.nd rfl (.inl rfl) (pe_kix DS (pe_glob (v := .ref S) (by rfl) mS rfl) (pe_ix ix_tup (pv 0) pe_int (fun _ _ => rfl)) (fun _ _ => rfl)))
      (pss_one (ps_ret (ItX.pe_callV (i := 1) FH hr kh pass0 rfl (.inl rfl) (pa_cons (pv 0) pa_nil))))))), ?_⟩
      by_cases hT : d.isT = true
      · cases d with
        | tup ds =>
          cases hR with
          | @tup a us _ ea ru =>
          refine ⟨_, rfl, _, .ty "tuple", .type "tuple", .type "tuple", true, rfl, .ty _, .base (.tup ea), kit_ty (by decide +kernel), true, rfl, iteF ?_⟩
          cases ru with
          | nil => exact ⟨_, rfl, false, .inr (.inl ⟨_, SqT.of ea, rfl⟩), iteT t.self⟩
          | @cons v d vs ds r1 r2 =>
            have hs : d.isS = false := by
              cases d with
              | str W => exact absurd ⟨W, ds, rfl⟩ hd
              | _ => rfl
            refine ⟨_, rfl, true, .inr (.inl ⟨_, SqT.of ea, rfl⟩), iteF ?_⟩
            exact ⟨_, rfl, a, _, 0, v, rfl, rfl, SqT.of ea, atI_nat (j := 0) rfl, _, .ty "str", .type d.ty, .type "str", false, rfl, .ty _, r1.ty, kit_ty (by rw [kS, hs]), false, rfl, iteT t.self⟩
        | _ => cases hT
      · have hT : d.isT = false := Bool.eq_false_iff.mpr hT
        exact ⟨_, rfl, _, .ty "tuple", .type d.ty, .type "tuple", false, rfl, .ty _, hR.ty, kit_ty (by rw [kT, hT]), false, rfl, iteT t.self⟩
end
end RT

set_option maxHeartbeats 1000000
/-! repeats, spelt ones: what is told of a tuple that the word leads -/
namespace RT
open PySem PySem.Spec PyProof.Rows L2
theorem hs_tup {n : Nat} {d : Dx} (h : hs n d = true) : ∃ (m : Nat) (W : Str) (ds : List Dx), n = m + 1 ∧ d = .tup (.str W :: ds) ∧ (W, ds.length + 1) ∈ words ∧ shp (hs m) W ds = true := by
  match n, d with
  | m + 1, .tup (.str W :: ds) =>
    obtain ⟨h1, h2⟩ := Bool.and_eq_true_iff.mp (show (decide _ && _) = true from h)
    exact ⟨m, W, ds, rfl, rfl, of_decide_eq_true h1, h2⟩
  | 0, _ => simp [hs] at h
  | m + 1, .tup [] => cases h
  | m + 1, .tup (.int _ :: _) => cases h
  | m + 1, .tup (.bl _ :: _) => cases h
  | m + 1, .tup (.non :: _) => cases h
  | m + 1, .tup (.tup _ :: _) => cases h
  | m + 1, .tup (.lst _ :: _) => cases h
  | m + 1, .str _ => cases h
  | m + 1, .int _ => cases h
  | m + 1, .bl _ => cases h
  | m + 1, .non => cases h
  | m + 1, .lst _ => cases h
theorem Rq.notN {H : Hp} {v : V} {d : Dx} (r : Rq H v d) (h : d.isN = false) : v ≠ .non := fun z => by
  subst z
  cases r
  cases h
theorem shp_pick {g : Dx → Bool} {ds : List Dx} : shp g "pick" ds = pkB (a1 ds) := by
  unfold shp
  rw [if_neg (by decide +kernel), if_neg (by decide +kernel), if_neg (by decide +kernel), if_pos rfl]
section
variable {P : Program} {w : World} {K : PySem.W.Frag} {mg : Str → Option Value} {base : Heap}
theorem ok_ashx {n : Nat} {TT : List Addr} {f ft B : Addr} {fd fdt : FuncData} {k : Nat} (F : Fun K "_again_shape" "_again_shape" sAsh f fd) (GT : FnOk P w K mg base CX0 k ft fdt ["x"] (spHsx n TT)) (kt : PySem.W.keepIn K (.ref ft) = true) (bt : Binds K fdt ["x"] []) (gt : mg "_has_shape" = some (.ref ft))
    (mB : mg "BARE" = some (.ref B)) (hB : BareAt K B) : FnOk P w K mg base CX0 (k + 1) f fd ["form"] (spShx "again" 2 (fun ds => lm n (a2 ds)) (fun ds => agB (hs n) (a2 ds)) TT) := by
  refine F.ok scAsh (fun vs H Q E h => ?_) (fun cdv A outer s H vs Q E hr h => ?_)
  · obtain ⟨z, f, rfl, _⟩ := h
    rfl
  · obtain ⟨v, ds, rfl, hR, ln, hl, t⟩ := h
    refine ⟨_, (pss_cons (ps_set (i := 1) scAsh.nd rfl (.inl rfl) (pe_ix ix_tup (pv 0) pe_int (fun _ _ => rfl)))
      (pss_one (ps_ret (pe_or (pe_cmpR op_isN (pv 1) pe_non (nomark _)) (pe_one (pe_and (pe_call GT hr (by rfl) gt kt bt .nil pass0 (pa_cons (pv 1) pa_nil)) (pe_one (pe_cmpR op_in_seq (pe_ix ix_tup (pv 1) pe_int (fun _ _ => rfl)) (pe_glob (v := .ref B) (by rfl) mB rfl) (by rfl))))))))), ?_⟩
    obtain ⟨a, us, rfl, e, ru⟩ := hR.wd
    obtain ⟨u, eu, r2⟩ := ru.snd (by omega)
    have hl : lm n (a2 ds) := hl
    have t : Tell TT H Q (agB (hs n) (a2 ds)) := t
    generalize a2 ds = d at r2 hl t
    refine ⟨_, rfl, a, _, 2, u, rfl, rfl, SqT.of e, atI_nat (j := 2) eu, ?_⟩
    by_cases hn : d.isN = true
    · cases d with
      | non =>
        cases r2
        refine ⟨_, rfl, rfl, _, rfl, iteT' (by decide) ?_⟩
        exact qB (show true = agB (hs n) .non from rfl) t.self
      | _ => cases hn
    · have hn : d.isN = false := Bool.eq_false_iff.mpr hn
      have ea : agB (hs n) d = (hs n d && decide (d.wd = "text" ∨ d.wd = "skip")) := by
        unfold agB
        rw [hn]
        rfl
      rw [ea] at t
      refine ⟨_, rfl, rfl, _, rfl, iteF' (decide_eq_false (r2.notN hn)) ?_⟩
      refine ⟨_, rfl, u, d, rfl, r2, hl, t.1, fun H' k' t' => ⟨_, rfl, ?_⟩⟩
      by_cases hh : hs n d = true
      · rw [hh]
        rw [hh, Bool.true_and] at t
        obtain ⟨m, W, ds', rfl, rfl, _, _⟩ := hs_tup hh
        obtain ⟨b, us2, rfl, eb, rb⟩ := r2.wd
        have eb' := (tl2_tabs t.1 k' _ _).1 eb
        refine iteT ⟨_, rfl, b, _, 0, .str _, rfl, rfl, SqT.of eb', atI_nat (j := 0) rfl, B, _, rfl, .inr (hB _), rfl, rfl, ?_⟩
        exact qB (in_bare (K := K) rfl) (t.2 H' k' t')
      · have hh : hs n d = false := Bool.eq_false_iff.mpr hh
        rw [hh]
        rw [hh, Bool.false_and] at t
        exact iteF (t.2 H' k' t')
theorem ok_spshx {n : Nat} {TT : List Addr} {T c f fh : Addr} {fd fdh : FuncData} {k : Nat} (F : FunT K "_spelt_shape" "_spelt_shape" sSpsh f fd c) (hk : 3 ≤ k) (mT : T ∈ TT) (TB : GxR.TabB base mg c T)
    (GH : FnOk P w K mg base CX0 k fh fdh ["x"] (spHsx n TT)) (kh : PySem.W.keepIn K (.ref fh) = true) (bh : Binds K fdh ["x"] []) (gh : mg "_has_shape" = some (.ref fh))
    (mall : mg "all" = none) (ml : mg "len" = none) (mi : mg "isinstance" = none) (ms : mg "str" = none) : FnOk P w K mg base CX0 (k + 1) f fd ["form"] (spShx "spelt" 1 (fun ds => lm n (a1 ds)) (fun ds => spB (hs n) (a1 ds)) TT) := by
  obtain ⟨j, rfl⟩ : ∃ j, k = j + 3 := ⟨k - 3, by omega⟩
  refine F.ok scSpsh (fun vs H Q E h => ?_) (fun A outer s H vs Q E hr h => ?_)
  · obtain ⟨z, f, rfl, _⟩ := h
    rfl
  · obtain ⟨v, ds, rfl, hR, ln, hl, t⟩ := h
    obtain ⟨a, us, rfl, e, ru⟩ := hR.wd
    obtain ⟨u, eu, r1⟩ := ru.fst (by omega)
    have hl : lm n (a1 ds) := hl
    have t : Tell TT H Q (spB (hs n) (a1 ds)) := t
    generalize a1 ds = d at r1 hl t
    refine ⟨_, (pss_cons (ps_if (pt_not (pt_val (pe_call GH hr (by rfl) gh kh bh .nil pass0 (pa_cons (pe_ix ix_tup (pv 0) pe_int (fun _ _ => rfl)) pa_nil)))) (pss_one (ps_ret pe_bl)) pss_nil)
      (pss_cons (ps_if (pt_cmpR op_eq (pe_ix ix_tup (pe_ix ix_tup (pv 0) pe_int (fun _ _ => rfl)) pe_int (fun _ _ => rfl)) pe_str (nomark _)) (pss_one (ps_ret (GE.pe_allG (own := [("_", 2), ("thing", 1)]) (gt := gTup K 2 (gCons (gName 2) (gCons (gName 1) gNil))) hr rfl scSpsh.nd (by rfl) mall TB rfl (blkOk_by (N := ["form", "thing", "_"]) (sc := defScope sSpsh) (by decide +kernel)) ⟨rfl, by decide +kernel, rfl⟩ (pi_tup (pe_ix ix_tup (pe_ix ix_tup (pv 0) pe_int (fun _ _ => rfl)) pe_int (fun _ _ => rfl))) (fun _ _ _ _ _ _ _ _ => (pg_tup rfl (pgs_cons (pg_name (i := 2) scSpsh.nd rfl (.inl rfl)) (pgs_cons (pg_name (i := 1) scSpsh.nd rfl (.inl rfl)) pgs_nil)))) (fun _ _ _ _ _ _ _ _ _ => (pe_and (pe_callB (show CallR _ (.builtin "isinstance") (rIsi K) from call_isi) (by rfl) mi (by decide +kernel) (pa_cons (pv 1) (pa_cons (pe_bltn (v := .ty "str") (by rfl) ms (by decide +kernel) rfl) pa_nil))) (pe_one (pe_cmpR op_eq (pe_callB call_len_str (by rfl) ml PySem.boot_len (pa_cons (pv 1) pa_nil)) pe_int (nomark _)))))))) pss_nil)
      (pss_one (ps_ret (pe_cmpR op_eq (pe_ix ix_tup (pe_ix ix_tup (pv 0) pe_int (fun _ _ => rfl)) pe_int (fun _ _ => rfl)) pe_str (nomark _)))))), ?_⟩
    refine ⟨_, rfl, a, _, 1, u, rfl, rfl, SqT.of e, atI_nat (j := 1) eu, _, d, rfl, r1, hl, t.1, fun H1 k1 t1 => ⟨_, rfl, ?_⟩⟩
    by_cases hh : hs n d = true
    · rw [hh]
      have esp : spB (hs n) d = if d.wd = "pick" then (a1 d.rest).items.all (fun p => one1 p.f1) else decide (d.wd = "sign") := by
        unfold spB
        rw [hh, Bool.true_and]
      rw [esp] at t
      refine iteF ?_
      obtain ⟨m, W, ds', rfl, rfl, hw, hb⟩ := hs_tup hh
      obtain ⟨b, us2, rfl, eb, rb⟩ := r1.wd
      have ats : ∀ H', Kp (TM TT) H H' → H' a = some (.tup (.str "spelt" :: us)) ∧ H' b = some (.tup (.str W :: us2)) := fun H' k' => ⟨(tl2_tabs t.1 k' _ _).1 e, (tl2_tabs t.1 k' _ _).1 eb⟩
      obtain ⟨a1', b1'⟩ := ats H1 k1
      have t : Tell TT H Q (if W = "pick" then (a1 ds').items.all (fun p => one1 p.f1) else decide (W = "sign")) := t
      by_cases hp : W = "pick"
      · subst hp
        rw [if_pos rfl] at t
        refine ⟨_, rfl, a, _, 1, .ref b, rfl, rfl, SqT.of a1', atI_nat (j := 1) eu, b, _, 0, .str _, rfl, rfl, SqT.of b1', atI_nat (j := 0) rfl, rfl, _, rfl, iteT' (show decide (V.str "pick" = V.str "pick") = true by decide) ?_⟩
        rw [shp_pick] at hb
        have hl1 : 0 < ds'.length := by
          have := words_fun _ hw ("pick", 2) (by simp [words]) rfl
          simp at this
          omega
        obtain ⟨x1, ex1, q1⟩ := rb.fst hl1
        generalize a1 ds' = y at hb q1 t
        have hap : y.ap = true := (Bool.and_eq_true_iff.mp hb).1
        obtain ⟨ps, rfl, hne, hps⟩ := y.ap_tup hap
        have t : Tell TT H Q (ps.all fun p => one1 p.f1) := t
        cases q1 with
        | @tup c2 ws _ ec rc =>
        have wl := rc.len
        have at2 : ∀ H', Kp (TM TT) H H' → H' c2 = some (.tup ws) := fun H' k' => (tl2_tabs t.1 k' _ _).1 ec
        refine ⟨_, rfl, a, _, 1, .ref b, rfl, rfl, SqT.of a1', atI_nat (j := 1) eu, b, _, 1, .ref c2, rfl, rfl, SqT.of b1', atI_nat (j := 1) ex1, c2, rfl, ⟨_, SqT.of (at2 H1 k1)⟩, ?_⟩
        refine gen_ex mT t1 ws.length (fun i => one1 (ps.getD i .non).f1) (fun al H2 k2 t2 => qB ((all_at (d := .non)).mpr (fun j hj => al j (by omega))).symm (t.2 H2 (k1.trans k2) t2)) (fun i H' lt k => ⟨ws, ws[i], SqT.of (at2 H' (k1.trans k)), List.getElem?_eq_getElem lt⟩) (fun H' k => ⟨ws, SqT.of (at2 H' (k1.trans k)), Nat.le_refl _⟩) fun i x H' H'' lt k t' y => ?_
        obtain ⟨rfl, hx⟩ := y
        have ex := hx ws (SqT.of (at2 _ (k1.trans k)))
        obtain ⟨d, ed, rx⟩ := rc.get i x ex
        obtain ⟨p, q, rfl⟩ := hps d (List.mem_of_getElem? ed)
        obtain ⟨c3, x1, y, rfl, ec3, r1, r2⟩ := rx.pair
        have eg : ps.getD i .non = .tup [p, q] := by rw [List.getD_eq_getElem?_getD, ed]; rfl
        have lp : i < ps.length := (List.getElem?_eq_some_iff.mp ed).1
        have bad := fun (h : one1 (ps.getD i .non).f1 = false) => qB (b := false) (Q := Q) (all_not (d := .non) (p := fun p => one1 p.f1) lp h).symm (t.2 _ (k1.trans k) t')
        rw [eg] at bad ⊢
        have ec4 := (tl2_tabs t.1 (k1.trans k) _ _).1 ec3
        refine ⟨c3, _, rfl, SqT.of ec4, rfl, _, _, rfl, _, _, rfl, rfl, rfl, ?_⟩
        have bad : one1 q = false → _ := bad
        show _
        by_cases hq : q.isS = true
        · cases q with
          | str z =>
            cases r2 with
            | str hz =>
            refine ⟨_, rfl, _, .ty "str", .type "str", .type "str", true, rfl, .ty _, .base (.str _), kit_ty (by decide +kernel), true, rfl, iteT ?_⟩
            refine ⟨_, rfl, z, rfl, hz, rfl, OnX.mk (gi := one1 (.str z)) ?_ bad k t'⟩
            show decide (V.int (z.length : Nat) = V.int 1) = decide (z.length = 1)
            refine decide_eq_decide.mpr ⟨fun e => ?_, fun e => by rw [e]; rfl⟩
            have := V.int.inj e
            omega
          | _ => cases hq
        · have hq : q.isS = false := Bool.eq_false_iff.mpr hq
          have e : one1 q = false := by cases q <;> first | rfl | cases hq
          exact ⟨_, rfl, _, .ty "str", .type q.ty, .type "str", false, rfl, .ty _, (r2.tl (tl2_tabs t.1 (k1.trans k))).ty, kit_ty (by rw [kS, hq]), false, rfl, iteF (OnX.mk (gi := one1 q) e.symm bad k t')⟩
      · rw [if_neg hp] at t
        have ne : ¬ V.str W = V.str "pick" := fun z => hp (V.str.inj z)
        refine ⟨_, rfl, a, _, 1, .ref b, rfl, rfl, SqT.of a1', atI_nat (j := 1) eu, b, _, 0, .str _, rfl, rfl, SqT.of b1', atI_nat (j := 0) rfl, rfl, _, rfl, iteF' (decide_eq_false ne) ?_⟩
        refine ⟨_, rfl, a, _, 1, .ref b, rfl, rfl, SqT.of a1', atI_nat (j := 1) eu, b, _, 0, .str _, rfl, rfl, SqT.of b1', atI_nat (j := 0) rfl, rfl, ?_⟩
        exact qB (decide_eq_decide.mpr ⟨V.str.inj, congrArg V.str⟩) (t.2 H1 k1 t1)
    · have hh : hs n d = false := Bool.eq_false_iff.mpr hh
      have esp : spB (hs n) d = false := by
        unfold spB
        rw [hh, Bool.false_and]
      rw [hh]
      rw [esp] at t
      exact iteT (t.2 H1 k1 t1)
end
end RT

set_option maxHeartbeats 1000000
/-! what turns: what is told of a tuple that the word leads -/
namespace RT
open PySem PySem.Spec PyProof.Rows L2
mutual
def Dx.toD : Dx → RT.D
  | .str z => .str z
  | .int i => .int i
  | .tup ds => .tup (Dx.toDs ds)
  | _ => .non
def Dx.toDs : List Dx → List RT.D
  | [] => []
  | d :: ds => d.toD :: Dx.toDs ds
end
mutual
theorem Rq.toD {H : Hp} : ∀ {v : V} {d : Dx}, Rq H v d → d.th = true → Rp H v d.toD ∧ d.toD.thing ∧ d.toD.size ≤ d.size
  | _, _, .str h, e => ⟨.str h, fun c m => List.all_eq_true.mp (show (_ : List Nat).all signB = true from e) c m, Nat.le_refl _⟩
  | _, _, .int, e => ⟨.int, (of_decide_eq_true (show decide ((0 : Int) ≤ _) = true from e) : (0 : Int) ≤ _), Nat.le_refl _⟩
  | _, _, .bl, e => by cases e
  | _, _, .non, e => by cases e
  | _, _, .lst _ _, e => by cases e
  | _, _, .tup (ds := ds) a r, e => by
    obtain ⟨h1, h2, h3⟩ := Rqs.toDs r (show Dx.ths ds = true from e)
    refine ⟨.tup a h1, h2, ?_⟩
    show 1 + D.sizes (Dx.toDs ds) ≤ Dx.sizes ds + 1
    omega
theorem Rqs.toDs {H : Hp} : ∀ {vs : List V} {ds : List Dx}, Rqs H vs ds → Dx.ths ds = true → Rps H vs (Dx.toDs ds) ∧ D.things (Dx.toDs ds) ∧ D.sizes (Dx.toDs ds) ≤ Dx.sizes ds
  | _, _, .nil, _ => ⟨.nil, True.intro, Nat.le_refl _⟩
  | _, _, .cons (d := d) (ds := ds) r t, e => by
    obtain ⟨e1, e2⟩ := Bool.and_eq_true_iff.mp (show (d.th && Dx.ths ds) = true from e)
    obtain ⟨h1, h2, h3⟩ := r.toD e1
    obtain ⟨g1, g2, g3⟩ := Rqs.toDs t e2
    refine ⟨.cons h1 g1, ⟨h2, g2⟩, ?_⟩
    show d.toD.size + D.sizes (Dx.toDs ds) ≤ d.size + Dx.sizes ds
    omega
end
mutual
theorem toD_inj : ∀ {d e : Dx}, d.th = true → e.th = true → d.toD = e.toD → d = e
  | .str a, .str b, _, _, h => by cases h; rfl
  | .int a, .int b, _, _, h => by cases h; rfl
  | .tup a, .tup b, p, q, h => by rw [toDs_inj (show Dx.ths a = true from p) (show Dx.ths b = true from q) (RT.D.tup.inj h)]
  | .bl _, _, p, _, _ | .non, _, p, _, _ | .lst _, _, p, _, _ => by cases p
  | .str _, .bl _, _, p, _ | .str _, .non, _, p, _ | .str _, .lst _, _, p, _ | .int _, .bl _, _, p, _ | .int _, .non, _, p, _ | .int _, .lst _, _, p, _ | .tup _, .bl _, _, p, _ | .tup _, .non, _, p, _ | .tup _, .lst _, _, p, _ => by cases p
  | .str _, .int _, _, _, h | .str _, .tup _, _, _, h | .int _, .str _, _, _, h | .int _, .tup _, _, _, h | .tup _, .str _, _, _, h | .tup _, .int _, _, _, h => by cases h
theorem toDs_inj : ∀ {d e : List Dx}, Dx.ths d = true → Dx.ths e = true → Dx.toDs d = Dx.toDs e → d = e
  | [], [], _, _, _ => rfl
  | [], _ :: _, _, _, h => by cases h
  | _ :: _, [], _, _, h => by cases h
  | a :: r, b :: t, p, q, h => by
    obtain ⟨p1, p2⟩ := Bool.and_eq_true_iff.mp (show (a.th && Dx.ths r) = true from p)
    obtain ⟨q1, q2⟩ := Bool.and_eq_true_iff.mp (show (b.th && Dx.ths t) = true from q)
    obtain ⟨h1, h2⟩ := List.cons.inj (show a.toD :: Dx.toDs r = b.toD :: Dx.toDs t from h)
    rw [toD_inj p1 q1 h1, toDs_inj p2 q2 h2]
end
theorem ths_mem : ∀ {ds : List Dx}, Dx.ths ds = true → ∀ d ∈ ds, d.th = true
  | _ :: _, h, d, m => by
    obtain ⟨h1, h2⟩ := Bool.and_eq_true_iff.mp h
    rcases List.mem_cons.mp m with rfl | m
    · exact h1
    · exact ths_mem h2 d m
theorem ndp_at {α : Type} {l : List α} (nd : l.Nodup) {i j : Nat} {x : α} (a : l[i]? = some x) (b : l[j]? = some x) : i = j := by
  obtain ⟨hi, ei⟩ := List.getElem?_eq_some_iff.mp a
  obtain ⟨hj, ej⟩ := List.getElem?_eq_some_iff.mp b
  have pw := List.pairwise_iff_getElem.mp nd
  rcases Nat.lt_trichotomy i j with h | h | h
  · exact absurd (ei.trans ej.symm) (pw i j hi hj h)
  · exact h
  · exact absurd (ej.trans ei.symm) (pw j i hj hi h)
mutual
theorem Den.det {ns : List NestedKey} (nd : ns.Nodup) : ∀ {n m : Nat} {d : RT.D}, Den ns n d → Den ns m d → n = m
  | _, _, _, .str a, .str b => ndp_at nd a b
  | _, _, _, .int a, .int b => ndp_at nd a b
  | _, _, _, .tup a r, .tup b q => by
    rw [Dens.det nd r q] at a
    exact ndp_at nd a b
theorem Dens.det {ns : List NestedKey} (nd : ns.Nodup) : ∀ {ms us : List Nat} {ds : List RT.D}, Dens ns ms ds → Dens ns us ds → ms = us
  | _, _, _, .nil, .nil => rfl
  | _, _, _, .cons a r, .cons b q => by rw [Den.det nd a b, Dens.det nd r q]
end
/-- like numbers are of like things -/
theorem dens_like {ns : List NestedKey} (nd : ns.Nodup) : ∀ {ms : List Nat} {ds : List RT.D}, Dens ns ms ds → ms.Nodup → ds.Nodup
  | _, _, .nil, _ => List.nodup_nil
  | _, _, .cons (d := d) a r, h => by
    obtain ⟨h1, h2⟩ := List.nodup_cons.mp h
    refine List.nodup_cons.mpr ⟨fun z => h1 ?_, dens_like nd r h2⟩
    exact go r z a
where go {d : RT.D} {m : Nat} : ∀ {ms : List Nat} {ds : List RT.D}, Dens ns ms ds → d ∈ ds → Den ns m d → m ∈ ms
  | _, _, .cons a r, z, b => by
    rcases List.mem_cons.mp z with rfl | z
    · rw [Den.det nd b a]
      exact List.mem_cons_self ..
    · exact List.mem_cons_of_mem _ (go r z b)
theorem nodup_map_on {α β : Type} {f : α → β} : ∀ {l : List α}, (∀ x ∈ l, ∀ y ∈ l, f x = f y → x = y) → ((l.map f).Nodup ↔ l.Nodup)
  | [], _ => by simp
  | a :: l, h => by
    rw [List.map_cons, List.nodup_cons, List.nodup_cons, nodup_map_on fun x m y k => h x (List.mem_cons_of_mem _ m) y (List.mem_cons_of_mem _ k)]
    refine and_congr_left fun _ => not_congr ⟨fun z => ?_, fun z => List.mem_map_of_mem z⟩
    obtain ⟨b, mb, e⟩ := List.mem_map.mp z
    rw [← h b (List.mem_cons_of_mem _ mb) a (List.mem_cons_self ..) e]
    exact mb
section
variable {P : Program} {w : World} {K : PySem.W.Frag} {mg : Str → Option Value} {base : Heap}
theorem ok_tsh2x {TT : List Addr} {f fa ft fu fi fn C : Addr} {fd fda fdt fdu fdi fdn : FuncData} {k : Nat} (F : Fun K "_turned_shape" "_turned_shape" sTsh2 f fd)
    (GA : FnOk P w K mg base CX0 (k + 1) fa fda ["x"] (spApx TT)) (ka : PySem.W.keepIn K (.ref fa) = true) (ba : Binds K fda ["x"] []) (ga : mg "_are_pairs" = some (.ref fa))
    (GT : FnOk P w K mg base CX0 (k + 1) ft fdt ["x"] (spThx TT)) (kt : PySem.W.keepIn K (.ref ft) = true) (bt : Binds K fdt ["x"] []) (gt : mg "is_thing" = some (.ref ft))
    (GU : FnOk P w K mg base CX0 (k + 1) fu fdu ["many"] (spUnx K)) (ku : PySem.W.keepIn K (.ref fu) = true) (bu : Binds K fdu ["many"] []) (gu : mg "_unlike" = some (.ref fu))
    (TC : TnCls K mg C) (mC : mg "ThingNumbers" = some (.ref C)) (M : Mk K C fi) (GI : FnOk P w K mg base CX0 k fi fdi ["self"] (spTNi w C)) (bi : Binds K fdi ["self"] [])
    (mN : Meth K C "number" fn) (GN : FnOk P w K mg base CX0 (k + 1) fn fdn ["self", "thing"] (spTNn w C)) (bn : Binds K fdn ["self", "thing"] []) :
    FnOk P w K mg base CX0 (k + 2) f fd ["form"] (spShx "turned" 2 (fun ds => Small (a2 ds)) (fun ds => tuB (a2 ds)) TT) := by
  refine F.ok scTsh2 (fun vs H Q E h => ?_) (fun cdv A outer s H vs Q E hr h => ?_)
  · obtain ⟨z, f, rfl, _⟩ := h
    rfl
  · obtain ⟨v, ds, rfl, hR, ln, hl, t⟩ := h
    obtain ⟨a, us, rfl, e, ru⟩ := hR.wd
    obtain ⟨u0, eu, r1⟩ := ru.snd (by omega)
    have hl : Small (a2 ds) := hl
    have t : Tell TT H Q (tuB (a2 ds)) := t
    generalize a2 ds = y at r1 hl t
    refine ⟨_, (pss_cons (ps_if (PW.pt (pw_or (pt_not (pt_val (pe_call GA hr (by rfl) ga ka ba .nil pass0 (pa_cons (pe_ix ix_tup (pv 0) pe_int (fun _ _ => rfl)) pa_nil)))) (pw_or1 (pt_not (pt_val (pe_call GT hr (by rfl) gt kt bt .nil pass0 (pa_cons (pe_ix ix_tup (pv 0) pe_int (fun _ _ => rfl)) pa_nil))))))) (pss_one (ps_ret pe_bl)) pss_nil)
      (pss_cons (ps_set (i := 1) scTsh2.nd rfl (.inr rfl) (pe_make0 M GI hr rfl mC bi .nil pass0))
      (pss_one (ps_ret (pe_call GU hr (by rfl) gu ku bu .nil pass0 (pa_cons (pe_lc2 (own := [("pair", 2), ("thing", 3)]) (vs1 := [3]) (wi1 := iTup K (tVar 2)) (g := gName 2) (tt := tYes) (g1 := gName 3) (tt1 := tYes) rfl scTsh2.nd (pi_tup (pe_ix ix_tup (pv 0) pe_int (fun _ _ => rfl))) (blkOk_by (N := ["form", "numbers", "pair", "thing"]) (sc := defScope sTsh2) (by decide +kernel)) (by decide) (fun _ _ _ _ _ => (pg_name (i := 2) scTsh2.nd rfl (.inl rfl))) (fun _ _ _ _ _ => pts_nil) (fun _ _ _ _ _ => (pi_tup (pv 2))) (fun _ _ _ _ _ => (pg_name (i := 3) scTsh2.nd rfl (.inl rfl))) (fun _ _ _ _ _ => pts_nil) (fun _ _ _ _ _ => (pe_meth (pv 1) (show Cls K C from TC.cl) (show Meth K C "number" fn from mN) GN hr bn .nil pass0 (pa_cons (pv 3) pa_nil)))) pa_nil)))))), ?_⟩
    refine ⟨_, rfl, a, _, 2, u0, rfl, rfl, SqT.of e, atI_nat (j := 2) eu, u0, y, rfl, r1, t.1, fun H1 k1 t1 => ⟨_, rfl, ?_⟩⟩
    by_cases hap : y.ap = true
    case neg =>
      have hap : y.ap = false := Bool.eq_false_iff.mpr hap
      have ef : tuB y = false := by
        unfold tuB
        rw [hap]
        rfl
      rw [ef] at t
      rw [hap]
      exact iteT (iteT (t.2 H1 k1 t1))
    rw [hap]
    obtain ⟨ps, rfl, hne, hps⟩ := y.ap_tup hap
    refine iteF ?_
    cases r1 with
    | @tup b ws _ eb rb =>
        have wl := rb.len
        have ats : ∀ H', Kp (TM TT) H H' → H' a = some (.tup (.str "turned" :: us)) ∧ H' b = some (.tup ws) := fun H' k' => ⟨(tl2_tabs t.1 k' _ _).1 e, (tl2_tabs t.1 k' _ _).1 eb⟩
        refine ⟨_, rfl, a, _, 2, .ref b, rfl, rfl, SqT.of (ats H1 k1).1, atI_nat (j := 2) eu, _, .tup ps, rfl, .tup (ats H1 k1).2 (rb.tl (tl2_tabs t.1 k1)), hl.2.1, t1, fun H2 k2' t2 => ⟨_, rfl, ?_⟩⟩
        have k2 := k1.trans k2'
        by_cases hth : (Dx.tup ps).th = true
        case neg =>
          have hth : (Dx.tup ps).th = false := Bool.eq_false_iff.mpr hth
          have ef : tuB (.tup ps) = false := by
            unfold tuB
            rw [hth, Bool.false_and, Bool.and_false]
          rw [ef] at t
          rw [hth]
          exact iteT (t.2 H2 k2 t2)
        rw [hth]
        refine iteF ?_
        have few : ps.length ≤ 60 := hl.1
        have hth : Dx.ths ps = true := hth
        have ths2 : ∀ p q : Dx, .tup [p, q] ∈ ps → p.th = true ∧ q.th = true := fun p q m => by
          have h := ths_mem hth _ m
          obtain ⟨h1, h2⟩ := Bool.and_eq_true_iff.mp (show (p.th && (q.th && true)) = true from h)
          exact ⟨h1, by simpa using h2⟩
        generalize hprs : (ps.map fun p => (p.f0.toD, p.f1.toD)) = prs
        have pl : prs.length = ps.length := by rw [← hprs, List.length_map]
        have few : prs.length ≤ 60 := by omega
        have wl : ws.length = prs.length := by omega
        have efl : fl prs = (flx ps).map Dx.toD := by
          rw [← hprs]
          unfold fl flx
          rw [List.flatMap_map, List.map_flatMap]
          rfl
        have hnd : (fl prs).Nodup ↔ (flx ps).Nodup := by
          rw [efl]
          refine nodup_map_on fun x mx z mz => ?_
          have thx : ∀ x ∈ flx ps, x.th = true := fun x mx => by
            obtain ⟨p, mp, mx⟩ := List.mem_flatMap.mp mx
            obtain ⟨p1, p2, rfl⟩ := hps p mp
            obtain ⟨h1, h2⟩ := ths2 p1 p2 mp
            rcases List.mem_cons.mp mx with rfl | mx
            · exact h1
            · rcases List.mem_cons.mp mx with rfl | mx
              · exact h2
              · cases mx
          exact toD_inj (thx x mx) (thx z mz)
        have item : ∀ (j : Nat) (x : V), ws[j]? = some x → ∃ (p : RT.D × RT.D) (c : Addr) (u v : V), prs[j]? = some p ∧ x = .ref c ∧ H c = some (.tup [u, v]) ∧ Rp H u p.1 ∧ Rp H v p.2 ∧ p.1.thing ∧ p.2.thing ∧ p.1.size ≤ 20 ∧ p.2.size ≤ 20 := fun j x hx => by
          obtain ⟨d, ed, rx⟩ := rb.get j x hx
          have md := List.mem_of_getElem? ed
          obtain ⟨p, q, rfl⟩ := hps d md
          obtain ⟨c, u, v, rfl, ec, h1, h2⟩ := rx.pair
          obtain ⟨t1, t2⟩ := ths2 p q md
          obtain ⟨a1, a2, a3⟩ := h1.toD t1
          obtain ⟨b1, b2, b3⟩ := h2.toD t2
          have s1 := hl.2.2 p (List.mem_flatMap.mpr ⟨_, md, List.mem_cons_self ..⟩)
          have s2 := hl.2.2 q (List.mem_flatMap.mpr ⟨_, md, List.mem_cons_of_mem _ (List.mem_cons_self ..)⟩)
          refine ⟨(p.toD, q.toD), c, u, v, ?_, rfl, ec, a1, b1, a2, b2, Nat.le_trans a3 s1, Nat.le_trans b3 s2⟩
          rw [← hprs, List.getElem?_map, ed]
          rfl
        -- numbers = ThingNumbers()
        intro x dx nx ndx nex
        have kx : Kp M0 H2 (upd (upd H2 dx (.own x)) x (.ins C dx [])) := (Kp.new ndx).trans (Kp.new (by rw [upd_ne nex.symm]; exact nx))
        refine ⟨x, dx, rfl, upd_same, fun dd H3 nd0 N3 kp3 => ⟨rfl, ?_⟩⟩
        have k3 : Kp M0 H2 H3 := fun b o h e => kp3 b o (kx b o h e) (ne_of_none e nx)
        have nd : H2 dd = none := by
          cases z : H2 dd with
          | none => rfl
          | some u =>
            rw [kx dd u (fun z => z) z] at nd0
            cases nd0
        have rpt : ∀ {u : V} {d : RT.D} (H4 : Hp), Kp M0 H2 H4 → Rp H u d → Rp H4 u d := fun H4 k4 r => (r.keep k2 t.1.noT).keep k4 fun _ _ z => z.elim
        have at4 : ∀ H4, Kp M0 H2 H4 → H4 a = some (.tup (.str "turned" :: us)) ∧ H4 b = some (.tup ws) := fun H4 k4 => ⟨k4 _ _ (fun z => z) (ats H2 k2).1, k4 _ _ (fun z => z) (ats H2 k2).2⟩
        have lp : prs.length ≤ 400 := by omega
        refine ⟨_, rfl, a, _, 2, .ref b, rfl, rfl, SqT.of (at4 H3 k3).1, atI_nat (j := 2) eu, b, rfl, ⟨_, SqT.of (at4 H3 k3).2⟩, fun Da nD => ?_⟩
        have nD2 : H2 Da = none := by
          cases z : H2 Da with
          | none => rfl
          | some u =>
            rw [k3 Da u (fun z => z) z] at nD
            cases nD
        refine ⟨fun i m H' => m = ws.length - i ∧ i ≤ ws.length ∧ Kp M0 H2 H' ∧ ∃ (ms : List Nat) (ks : List MK), H' Da = some (.lst (ms.map fun n : Nat => V.int (n : Int))) ∧ Dens (ks.map MK.nk) ms (fl (prs.take i)) ∧ TnAt w C H' x dd ks ∧ ks.length ≤ 120 * i,
          ⟨ws.length, rfl, Nat.zero_le _, k3.own nD2, [], [], upd_same, by rw [List.take_zero]; exact .nil, N3.new nD, Nat.le_refl _⟩, ?_⟩
        rintro i m H4 ⟨rfl, hi, k4, ms, ks, e4, dn, N4, lk⟩
        by_cases lt : i < ws.length
        · refine .inr ⟨⟨ws, ws[i], SqT.of (at4 H4 k4).2, List.getElem?_eq_getElem lt⟩, fun H' => Kp M0 H2 H' ∧ ∃ (ms : List Nat) (ks : List MK), H' Da = some (.lst (ms.map fun n : Nat => V.int (n : Int))) ∧ Dens (ks.map MK.nk) ms (fl (prs.take (i + 1))) ∧ TnAt w C H' x dd ks ∧ ks.length ≤ 120 * (i + 1), fun H' p' => ⟨ws.length - (i + 1), by omega, rfl, lt, p'⟩, fun z H' y => ?_⟩
          obtain ⟨rfl, hx⟩ := y
          have ex := hx ws (SqT.of (at4 H' k4).2)
          obtain ⟨p, c2, u, v, ep, rfl, ec, r1, r2, okp⟩ := item i z ex
          have ec4 : ∀ H5, Kp M0 H2 H5 → H5 c2 = some (.tup [u, v]) := fun H5 k5 => k5 c2 _ (fun z => z) (k2 c2 _ (fun m => t.1.noT c2 _ m ec) ec)
          refine ⟨rfl, tYes_ok (iteT ⟨_, rfl, c2, rfl, ⟨_, SqT.of (ec4 H' k4)⟩, fun j k H5 => k = 2 - j ∧ j ≤ 2 ∧ Kp M0 H2 H5 ∧ ∃ (ms : List Nat) (ks : List MK), H5 Da = some (.lst (ms.map fun n : Nat => V.int (n : Int))) ∧ Dens (ks.map MK.nk) ms (fl (prs.take i) ++ [p.1, p.2].take j) ∧ TnAt w C H5 x dd ks ∧ ks.length ≤ 120 * i + 60 * j,
            ⟨2, rfl, Nat.zero_le _, k4, ms, ks, e4, by rw [List.take_zero, List.append_nil]; exact dn, N4, lk⟩, ?_⟩)⟩
          rintro j k H5 ⟨rfl, hj, k5, ms5, ks5, e5, dn5, N5, lk5⟩
          by_cases lj : j < 2
          · have ej : [u, v][j]? = some [u, v][j] := List.getElem?_eq_getElem lj
            refine .inr ⟨⟨[u, v], [u, v][j], SqT.of (ec4 H5 k5), ej⟩, fun H' => Kp M0 H2 H' ∧ ∃ (ms : List Nat) (ks : List MK), H' Da = some (.lst (ms.map fun n : Nat => V.int (n : Int))) ∧ Dens (ks.map MK.nk) ms (fl (prs.take i) ++ [p.1, p.2].take (j + 1)) ∧ TnAt w C H' x dd ks ∧ ks.length ≤ 120 * i + 60 * (j + 1), fun H' p' => ⟨2 - (j + 1), by omega, rfl, lj, p'⟩, fun z H' y => ?_⟩
            obtain ⟨rfl, hx⟩ := y
            have exj := hx _ (SqT.of (ec4 H' k5))
            obtain ⟨dj, edj, rj, thj, sj⟩ : ∃ dj, [p.1, p.2][j]? = some dj ∧ Rp H z dj ∧ dj.thing ∧ dj.size ≤ 20 := by
              have j2 : j = 0 ∨ j = 1 := by omega
              rcases j2 with rfl | rfl
              · cases exj
                exact ⟨p.1, rfl, r1, okp.1, okp.2.2.1⟩
              · cases exj
                exact ⟨p.2, rfl, r2, okp.2.1, okp.2.2.2⟩
            obtain ⟨dx5, hx5⟩ := N5.ob
            refine ⟨rfl, tYes_ok (iteT ⟨_, rfl, x, dx5, _, rfl, hx5, known_no dd (by decide +kernel), _, rfl, x, dd, ks5, z, dj, rfl, N5, rpt H' k5 rj, thj, by omega, fun n ks6 H6 pf6 lk6 dn6 N6 kp6 ts6 => ?_⟩)⟩
            have e6 : H6 Da = some (.lst (ms5.map fun n : Nat => V.int (n : Int))) := kp6 _ _ (ne_of e5 N5.nums.d fun z => by cases z) e5
            have k6 : Kp M0 H2 H6 := kp_new k5 nd kp6
            have lms := dn5.len
            have fll := fl_len (prs.take i)
            have tl : (prs.take i).length ≤ prs.length := by rw [List.length_take]; exact Nat.min_le_right ..
            refine ⟨_, e6, ?_, k6.own nD2, ms5 ++ [n], ks6, by rw [upd_same, List.map_append]; rfl, ?_, N6.lst e6, by omega⟩
            · rw [List.length_map, lms, List.length_append, List.length_take, fll]
              have := Nat.min_le_left j [p.1, p.2].length
              exact small1000 (by omega)
            · rw [List.take_add_one, edj, ← List.append_assoc]
              exact Dens.app (dn5.mono pf6) (.cons dn6 .nil)
          · have e2 : j = 2 := by omega
            subst e2
            refine .inl ⟨⟨[u, v], SqT.of (ec4 H5 k5), Nat.le_refl _⟩, k5, ms5, ks5, e5, ?_, N5, by omega⟩
            rw [show prs.take (i + 1) = prs.take i ++ (some p).toList by rw [List.take_add_one, ep], fl_app]
            exact dn5
        · have ei : i = ws.length := by omega
          subst ei
          rw [wl, List.take_length] at dn
          refine .inl ⟨⟨ws, SqT.of (at4 H4 k4).2, Nat.le_refl _⟩, ?_⟩
          have k04 : Kp (TM TT) H H4 := k2.trans (k4.mono fun _ z => z.elim)
          have lms := dn.len
          have fll := fl_len prs
          have ndk : (ks.map MK.nk).Nodup := N4.nums.nd
          have eq : decide ((ms.map fun n : Nat => (.inl (n : Int) : Key)).Nodup) = tuB (.tup ps) := by
            unfold tuB
            rw [hap, show (Dx.tup ps).th = true from hth, Bool.true_and, Bool.true_and]
            refine decide_eq_decide.mpr ((nodup_map_on fun x _ y _ z => Int.ofNat_inj.mp (Sum.inl.inj z)).trans (Iff.trans ⟨fun h => dens_like ndk dn h, fun h => dens_unlike dn h⟩ hnd))
          refine ⟨Da, ms.map fun n : Nat => .inl (n : Int), rfl, SqL.of ?_, by rw [List.length_map]; omega, qB eq (t.2 H4 k04 (t2.off k4 fun _ _ z => z))⟩
          rw [List.map_map]
          exact e4
end
end RT

set_option maxHeartbeats 1000000
/-! inner_forms, of what has a shape -/
namespace RT
open PySem PySem.Spec PyProof.Rows L2
def innW (W : Str) (ds : List Dx) : List Dx :=
  if W = "skip" ∨ W = "spelt" ∨ W = "turned" then [a1 ds]
  else if W = "row" then (a1 ds).items
  else if W = "either" then (a1 ds).items.map Dx.f1
  else if W = "again" then (if (a2 ds).isN then [a1 ds] else [a1 ds, a2 ds])
  else if W = "counted" then [a2 ds] else []
def Dx.inn : Dx → List Dx
  | .tup (.str W :: ds) => innW W ds
  | _ => []
theorem Dx.items_size (d : Dx) : Dx.sizes d.items < d.size := by
  cases d <;> simp only [Dx.items, Dx.size, Dx.sizes] <;> omega
theorem Dx.f1_size (d : Dx) : d.f1.size ≤ d.size := by
  match d with
  | .tup (_ :: y :: r) => simp only [Dx.f1, Dx.size, Dx.sizes]; omega
  | .tup [] => exact Nat.le_refl _
  | .tup [_] => simp only [Dx.f1, Dx.size, Dx.sizes]; omega
  | .str _ | .int _ | .bl _ | .non => exact Nat.le_refl _
  | .lst _ => simp only [Dx.f1, Dx.size]; omega
theorem f1s_size : ∀ ds : List Dx, Dx.sizes (ds.map Dx.f1) ≤ Dx.sizes ds
  | [] => Nat.le_refl _
  | d :: r => by
    have h := f1s_size r
    have g := d.f1_size
    show d.f1.size + Dx.sizes (r.map Dx.f1) ≤ d.size + Dx.sizes r
    omega
theorem a1_size (ds : List Dx) : (a1 ds).size ≤ Dx.sizes ds + 1 := by
  cases ds with
  | nil => exact Nat.le_refl _
  | cons d r => simp only [a1, List.getD_cons_zero, Dx.sizes]; omega
theorem a12_size (ds : List Dx) (h : (a2 ds).isN = false) : (a1 ds).size + (a2 ds).size ≤ Dx.sizes ds := by
  match ds with
  | [] => cases h
  | [_] => cases h
  | x :: y :: r => simp only [a1, a2, List.getD_cons_zero, List.getD_cons_succ, Dx.sizes]; omega
theorem a2_size (ds : List Dx) : (a2 ds).size ≤ Dx.sizes ds + 1 := by
  match ds with
  | [] => exact Nat.le_refl _
  | [_] => simp only [a2, List.getD_cons_succ, List.getD_nil, Dx.sizes, Dx.size]; omega
  | x :: y :: r => simp only [a2, List.getD_cons_zero, List.getD_cons_succ, Dx.sizes]; omega
theorem inn_size (d : Dx) : Dx.sizes d.inn < d.size := by
  match d with
  | .tup (.str W :: ds) =>
    show Dx.sizes (innW W ds) < Dx.sizes (.str W :: ds) + 1
    have e : Dx.sizes (.str W :: ds) = 1 + Dx.sizes ds := rfl
    rw [e]
    have h1 := a1_size ds
    have h2 := a2_size ds
    have h3 := (a1 ds).items_size
    have h4 := f1s_size (a1 ds).items
    unfold innW
    split
    · simp only [Dx.sizes]; omega
    split
    · omega
    split
    · omega
    split
    · split
      · simp only [Dx.sizes]; omega
      · rename_i hn
        have h5 := a12_size ds (by simpa using hn)
        simp only [Dx.sizes]; omega
    split
    · simp only [Dx.sizes]; omega
    · simp only [Dx.sizes]; omega
  | .tup [] | .tup (.int _ :: _) | .tup (.bl _ :: _) | .tup (.non :: _) | .tup (.tup _ :: _) | .tup (.lst _ :: _) => simp only [Dx.inn, Dx.sizes, Dx.size]; omega
  | .str _ | .int _ | .bl _ | .non | .lst _ => simp only [Dx.inn, Dx.sizes, Dx.size]; omega
section
variable {P : Program} {w : World} {K : PySem.W.Frag} {mg : Str → Option Value} {base : Heap}
def spInnx (n : Nat) : Sp := fun vs H Q _ => ∃ (v : V) (d : Dx) (H0 : Hp), vs = [v] ∧ Rq H0 v d ∧ TL2 H0 H ∧ hs n d = true ∧ d.size ≤ 5000000 ∧
  ∀ (us : List V) (l : Addr) (H' : Hp), H l = none → H' l = some (.lst us) → Rqs H0 us d.inn → Kp M0 H H' → Q (.ref l) H'
theorem ok_innx {n : Nat} {f : Addr} {fd : FuncData} {k : Nat} (F : Fun K "inner_forms" "inner_forms" sInner f fd) (mli : mg "list" = none) : FnOk P w K mg base CX0 (k + 1) f fd ["form"] (spInnx n) := by
  refine F.ok scInner (fun vs H Q E h => ?_) (fun cdv A outer s H vs Q E hr h => ?_)
  · obtain ⟨v, f, _, rfl, _⟩ := h
    rfl
  · obtain ⟨v, d, H0, rfl, hR, hk, hh, hsz, q⟩ := h
    refine ⟨_, (pss_cons (ps_set (i := 1) scInner.nd rfl (.inl rfl) (pe_ix ix_tup (pv 0) pe_int (fun _ _ => rfl)))
      (pss_cons (ps_if (pt_cmpR op_in_seq (pv 1) (pe_tup (pa_cons pe_str (pa_cons pe_str (pa_cons pe_str pa_nil)))) (by rfl)) (pss_one (ps_ret (pe_lst (pa_cons (pe_ix ix_tup (pv 0) pe_int (fun _ _ => rfl)) pa_nil)))) pss_nil)
      (pss_cons (ps_if (pt_cmpR op_eq (pv 1) pe_str (nomark _)) (pss_one (ps_ret (pe_callTy call_list_of (by rfl) mli (by decide +kernel) (pa_cons (pe_ix ix_tup (pv 0) pe_int (fun _ _ => rfl)) pa_nil)))) pss_nil)
      (pss_cons (ps_if (pt_cmpR op_eq (pv 1) pe_str (nomark _)) (pss_one (ps_ret (pe_lc (own := [("_", 2), ("inner", 3)]) (g := gTup K 2 (gCons (gName 2) (gCons (gName 3) gNil))) (tt := tYes) rfl scInner.nd (pi_tup (pe_ix ix_tup (pv 0) pe_int (fun _ _ => rfl))) (blkOk_by (N := ["form", "word", "_", "inner"]) (sc := defScope sInner) (by decide +kernel)) (fun _ _ _ _ _ => (pg_tup rfl (pgs_cons (pg_name (i := 2) scInner.nd rfl (.inl rfl)) (pgs_cons (pg_name (i := 3) scInner.nd rfl (.inl rfl)) pgs_nil)))) (fun _ _ _ _ _ => pts_nil) (fun _ _ _ _ _ => (pv 3))))) pss_nil)
      (pss_cons (ps_if (pt_cmpR op_eq (pv 1) pe_str (nomark _)) (pss_one (ps_ret (pe_ifExp (pt_cmpR op_isN (pe_ix ix_tup (pv 0) pe_int (fun _ _ => rfl)) pe_non (nomark _)) (pe_lst (pa_cons (pe_ix ix_tup (pv 0) pe_int (fun _ _ => rfl)) pa_nil)) (pe_lst (pa_cons (pe_ix ix_tup (pv 0) pe_int (fun _ _ => rfl)) (pa_cons (pe_ix ix_tup (pv 0) pe_int (fun _ _ => rfl)) pa_nil)))))) pss_nil)
      (pss_cons (ps_if (pt_cmpR op_eq (pv 1) pe_str (nomark _)) (pss_one (ps_ret (pe_lst (pa_cons (pe_ix ix_tup (pv 0) pe_int (fun _ _ => rfl)) pa_nil)))) pss_nil)
      (pss_one (ps_ret (pe_lst pa_nil))))))))), ?_⟩
    obtain ⟨m, W, ds, rfl, rfl, hm, hb⟩ := hs_tup hh
    obtain ⟨a, us, rfl, ea, ru⟩ := hR.wd
    have ea := (hk _ _).1 ea
    have nT : ∀ {p a : Addr} {o : HO} {us : List V}, H p = none → H a = some (.tup us) → upd H p o a = some (.tup us) := fun n e => by rw [upd_ne (ne_of_none e n)]; exact e
    have fin : ∀ {p l : Addr} {o : HO} (us : List V), H p = none → upd H p o l = none → Rqs H0 us (innW W ds) → Q (.ref l) (upd (upd H p o) l (.lst us)) := fun us n1 n2 r =>
      q us _ _ (none_upd n2) upd_same r ((Kp.new n1).trans (Kp.new n2))
    have q : ∀ (us : List V) (l : Addr) (H' : Hp), H l = none → H' l = some (.lst us) → Rqs H0 us (innW W ds) → Kp M0 H H' → Q (.ref l) H' := q
    simp only [words, List.mem_cons, List.not_mem_nil, or_false, Prod.mk.injEq] at hm
    refine ⟨_, rfl, a, _, 0, .str _, rfl, rfl, SqT.of ea, atI_nat (j := 0) rfl, ?_⟩
    refine ⟨_, rfl, by show 3 ≤ sizeLine; decide, fun p np => ⟨p, _, rfl, .inr (SqT.of upd_same), rfl, rfl, _, rfl, ?_⟩⟩
    rcases hm with ⟨rfl, l⟩ | ⟨rfl, l⟩ | ⟨rfl, l⟩ | ⟨rfl, l⟩ | ⟨rfl, l⟩ | ⟨rfl, l⟩ | ⟨rfl, l⟩ | ⟨rfl, l⟩ | ⟨rfl, l⟩ | ⟨rfl, l⟩ | ⟨rfl, l⟩ | ⟨rfl, l⟩ | ⟨rfl, l⟩
    · -- text
      refine iteF' (by decide) ⟨_, rfl, rfl, _, rfl, iteF' (by decide) ⟨_, rfl, rfl, _, rfl, iteF' (by decide) ⟨_, rfl, rfl, _, rfl, iteF' (by decide) ⟨_, rfl, rfl, _, rfl, iteF' (by decide) ?_⟩⟩⟩⟩
      exact ⟨Nat.zero_le _, fun l nl => fin [] np nl (show Rqs H0 [] [] from .nil)⟩
    · -- skip
      obtain ⟨u, eu, r1⟩ := ru.fst (by omega)
      refine iteT' (by decide) ?_
      exact ⟨_, rfl, a, _, 1, _, rfl, rfl, SqT.of (nT np ea), atI_nat (j := 1) eu, by show 1 ≤ sizeLine; decide, fun l nl => fin [_] np nl (.cons r1 .nil)⟩
    · -- sign
      refine iteF' (by decide) ⟨_, rfl, rfl, _, rfl, iteF' (by decide) ⟨_, rfl, rfl, _, rfl, iteF' (by decide) ⟨_, rfl, rfl, _, rfl, iteF' (by decide) ⟨_, rfl, rfl, _, rfl, iteF' (by decide) ?_⟩⟩⟩⟩
      exact ⟨Nat.zero_le _, fun l nl => fin [] np nl (show Rqs H0 [] [] from .nil)⟩
    · -- word
      refine iteF' (by decide) ⟨_, rfl, rfl, _, rfl, iteF' (by decide) ⟨_, rfl, rfl, _, rfl, iteF' (by decide) ⟨_, rfl, rfl, _, rfl, iteF' (by decide) ⟨_, rfl, rfl, _, rfl, iteF' (by decide) ?_⟩⟩⟩⟩
      exact ⟨Nat.zero_le _, fun l nl => fin [] np nl (show Rqs H0 [] [] from .nil)⟩
    · -- number
      refine iteF' (by decide) ⟨_, rfl, rfl, _, rfl, iteF' (by decide) ⟨_, rfl, rfl, _, rfl, iteF' (by decide) ⟨_, rfl, rfl, _, rfl, iteF' (by decide) ⟨_, rfl, rfl, _, rfl, iteF' (by decide) ?_⟩⟩⟩⟩
      exact ⟨Nat.zero_le _, fun l nl => fin [] np nl (show Rqs H0 [] [] from .nil)⟩
    · -- pick
      refine iteF' (by decide) ⟨_, rfl, rfl, _, rfl, iteF' (by decide) ⟨_, rfl, rfl, _, rfl, iteF' (by decide) ⟨_, rfl, rfl, _, rfl, iteF' (by decide) ⟨_, rfl, rfl, _, rfl, iteF' (by decide) ?_⟩⟩⟩⟩
      exact ⟨Nat.zero_le _, fun l nl => fin [] np nl (show Rqs H0 [] [] from .nil)⟩
    · -- spelt
      obtain ⟨u, eu, r1⟩ := ru.fst (by omega)
      refine iteT' (by decide) ?_
      exact ⟨_, rfl, a, _, 1, _, rfl, rfl, SqT.of (nT np ea), atI_nat (j := 1) eu, by show 1 ≤ sizeLine; decide, fun l nl => fin [_] np nl (.cons r1 .nil)⟩
    · -- row
      obtain ⟨u, eu, r1⟩ := ru.fst (by omega)
      have hb : (a1 ds).isT = true := hb
      have fin : ∀ {p l : Addr} {o : HO} (us : List V), H p = none → upd H p o l = none → Rqs H0 us (a1 ds).items → Q (.ref l) (upd (upd H p o) l (.lst us)) := fin
      generalize a1 ds = y at r1 hb fin
      cases y with
      | tup es =>
        cases r1 with
        | tup eb rs =>
        have eb := (hk _ _).1 eb
        refine iteF' (by decide) ⟨_, rfl, rfl, _, rfl, iteT' (by decide) ?_⟩
        exact ⟨_, rfl, a, _, 1, _, rfl, rfl, SqT.of (nT np ea), atI_nat (j := 1) eu, _, _, rfl, .inr (SqT.of (nT np eb)), fun l nl => fin _ np nl rs⟩
      | _ => cases hb
    · -- either
      obtain ⟨u, eu, r1⟩ := ru.fst (by omega)
      have hb : eiB (a1 ds) = true := hb
      have asz : (a1 ds).size ≤ 5000000 := by
        have := a1_size ds
        have hsz : Dx.sizes (.str "either" :: ds) + 1 ≤ 5000000 := hsz
        have e : Dx.sizes (.str "either" :: ds) = 1 + Dx.sizes ds := rfl
        omega
      have q : ∀ (us : List V) (l : Addr) (H' : Hp), H l = none → H' l = some (.lst us) → Rqs H0 us ((a1 ds).items.map Dx.f1) → Kp M0 H H' → Q (.ref l) H' := q
      generalize a1 ds = y at r1 hb q asz
      obtain ⟨ps, rfl, hne, hps⟩ := y.ap_tup (Bool.and_eq_true_iff.mp hb).1
      cases r1 with
      | @tup b ws _ eb rs =>
      have eb := (hk _ _).1 eb
      refine iteF' (by decide) ⟨_, rfl, rfl, _, rfl, iteF' (by decide) ⟨_, rfl, rfl, _, rfl, iteT' (by decide) ?_⟩⟩
      refine ⟨_, rfl, a, _, 1, .ref b, rfl, rfl, SqT.of (nT np ea), atI_nat (j := 1) eu, b, rfl, ⟨_, SqT.of (nT np eb)⟩, fun D nD => ?_⟩
      have lw : ws.length = ps.length := rs.len
      refine lc_tup (xs := ws) (fun i H4 => Kp M0 (upd H p (.tup [.str "skip", .str "spelt", .str "turned"])) H4 ∧ ∃ acc, H4 D = some (.lst acc) ∧ acc.length = i ∧ Rqs H0 acc ((ps.map Dx.f1).take i)) ?_ ?_ ?_ ?_
      · exact ⟨Kp.new nD, [], upd_same, rfl, by rw [List.take_zero]; exact .nil⟩
      · exact fun i H4 _ h => SqT.of (h.1 _ _ (fun z => z) (nT np eb))
      · rintro i x H4 hx ⟨k4, acc, e4, la, ra⟩
        obtain ⟨d, hd, rd⟩ := rs.get i x hx
        obtain ⟨p1, p2, rfl⟩ := hps d (List.mem_of_getElem? hd)
        obtain ⟨c, u1, u2, rfl, ec, h1, h2⟩ := rd.pair
        have ec := (hk _ _).1 ec
        refine ⟨c, _, rfl, SqT.of (k4 _ _ (fun z => z) (nT np ec)), rfl, _, _, rfl, _, _, rfl, rfl, rfl, tYes_ok (iteT ⟨_, rfl, acc, e4, ?_, ?_⟩)⟩
        · have h1 := Dx.len_sizes ps
          have h2 : Dx.sizes ps + 1 ≤ 5000000 := asz
          have h3 : i < ps.length := (List.getElem?_eq_some_iff.mp hd).1
          rw [la, sizeLine_eq]
          omega
        · refine ⟨fun b u n e => ?_, _, upd_same, by rw [List.length_append, la]; rfl, ?_⟩
          · rw [upd_ne (ne_of_none e nD)]
            exact k4 b u n e
          · rw [List.take_add_one, List.getElem?_map, hd]
            exact ra.app (.cons h2 .nil)
      · rintro H4 ⟨k4, acc, e4, la, ra⟩
        rw [lw, show ps.length = (ps.map Dx.f1).length by rw [List.length_map], List.take_length] at ra
        exact q acc D H4 (none_upd nD) e4 ra ((Kp.new np).trans k4)
    · -- again
      obtain ⟨u1, eu1, r1⟩ := ru.fst (by omega)
      obtain ⟨u2, eu2, r2⟩ := ru.snd (by omega)
      refine iteF' (by decide) ⟨_, rfl, rfl, _, rfl, iteF' (by decide) ⟨_, rfl, rfl, _, rfl, iteF' (by decide) ⟨_, rfl, rfl, _, rfl, iteT' (by decide) ?_⟩⟩⟩
      refine ⟨_, rfl, a, _, 2, u2, rfl, rfl, SqT.of (nT np ea), atI_nat (j := 2) eu2, rfl, _, rfl, ?_⟩
      have fin : ∀ {p l : Addr} {o : HO} (us : List V), H p = none → upd H p o l = none → Rqs H0 us (if (a2 ds).isN then [a1 ds] else [a1 ds, a2 ds]) → Q (.ref l) (upd (upd H p o) l (.lst us)) := fin
      by_cases hn : (a2 ds).isN = true
      · rw [if_pos hn] at fin
        have e2 : u2 = .non := by
          generalize a2 ds = y at r2 hn
          cases y with
          | non => cases r2; rfl
          | _ => cases hn
        subst e2
        refine iteT' (by decide) ?_
        exact ⟨_, rfl, a, _, 1, _, rfl, rfl, SqT.of (nT np ea), atI_nat (j := 1) eu1, by show 1 ≤ sizeLine; decide, fun l nl => fin [_] np nl (.cons r1 .nil)⟩
      · rw [if_neg hn] at fin
        refine iteF' (decide_eq_false (r2.notN (Bool.eq_false_iff.mpr hn))) ?_
        exact ⟨_, rfl, a, _, 1, _, rfl, rfl, SqT.of (nT np ea), atI_nat (j := 1) eu1, _, rfl, a, _, 2, _, rfl, rfl, SqT.of (nT np ea), atI_nat (j := 2) eu2, by show 2 ≤ sizeLine; decide, fun l nl => fin [_, _] np nl (.cons r1 (.cons r2 .nil))⟩
    · -- counted
      obtain ⟨u2, eu2, r2⟩ := ru.snd (by omega)
      refine iteF' (by decide) ⟨_, rfl, rfl, _, rfl, iteF' (by decide) ⟨_, rfl, rfl, _, rfl, iteF' (by decide) ⟨_, rfl, rfl, _, rfl, iteF' (by decide) ⟨_, rfl, rfl, _, rfl, iteT' (by decide) ?_⟩⟩⟩⟩
      exact ⟨_, rfl, a, _, 2, _, rfl, rfl, SqT.of (nT np ea), atI_nat (j := 2) eu2, by show 1 ≤ sizeLine; decide, fun l nl => fin [_] np nl (.cons r2 .nil)⟩
    · -- turned
      obtain ⟨u, eu, r1⟩ := ru.fst (by omega)
      refine iteT' (by decide) ?_
      exact ⟨_, rfl, a, _, 1, _, rfl, rfl, SqT.of (nT np ea), atI_nat (j := 1) eu, by show 1 ≤ sizeLine; decide, fun l nl => fin [_] np nl (.cons r1 .nil)⟩
    · -- named
      refine iteF' (by decide) ⟨_, rfl, rfl, _, rfl, iteF' (by decide) ⟨_, rfl, rfl, _, rfl, iteF' (by decide) ⟨_, rfl, rfl, _, rfl, iteF' (by decide) ⟨_, rfl, rfl, _, rfl, iteF' (by decide) ?_⟩⟩⟩⟩
      exact ⟨Nat.zero_le _, fun l nl => fin [] np nl (show Rqs H0 [] [] from .nil)⟩
end
end RT

set_option maxHeartbeats 1000000
/-! is_form: what is told of anything -/
namespace RT
open PySem PySem.Spec PyProof.Rows L2
noncomputable def fo : Nat → Dx → Bool
  | 0, _ => false
  | k + 1, d => hs 3 d && d.inn.all (fo k)
noncomputable def foB (d : Dx) : Bool := fo d.size d
theorem size_mem : ∀ {ds : List Dx} {d : Dx}, d ∈ ds → d.size ≤ Dx.sizes ds
  | x :: r, d, m => by
    rcases List.mem_cons.mp m with rfl | m
    · simp only [Dx.sizes]; omega
    · have := size_mem m
      simp only [Dx.sizes]; omega
theorem all_eq {p q : Dx → Bool} : ∀ {l : List Dx}, (∀ x ∈ l, p x = q x) → l.all p = l.all q
  | [], _ => rfl
  | x :: r, h => by
    rw [List.all_cons, List.all_cons, h x (List.mem_cons_self ..), all_eq fun y m => h y (List.mem_cons_of_mem _ m)]
theorem fo_stable : ∀ (n : Nat) (d : Dx), d.size ≤ n → ∀ k, n ≤ k → fo k d = fo n d
  | 0, d, h, _, _ => by have := d.size_pos; omega
  | n + 1, d, h, k, hk => by
    obtain ⟨k, rfl⟩ : ∃ j, k = j + 1 := ⟨k - 1, by omega⟩
    show (hs 3 d && d.inn.all (fo k)) = (hs 3 d && d.inn.all (fo n))
    rw [all_eq fun x m => fo_stable n x (by have := inn_size d; have := size_mem m; omega) k (by omega)]
theorem foB_eq (d : Dx) : foB d = (hs 3 d && d.inn.all foB) := by
  have hp := d.size_pos
  have hi := inn_size d
  unfold foB
  obtain ⟨k, e⟩ : ∃ k, d.size = k + 1 := ⟨d.size - 1, by omega⟩
  rw [e]
  show (hs 3 d && d.inn.all (fo k)) = _
  rw [all_eq fun x m => fo_stable x.size x (Nat.le_refl _) k (by have := size_mem m; omega)]
/-- what the walk asks of the rooms, all the way down -/
inductive Lim : Dx → Prop
  | mk {d : Dx} : lm 3 d → (hs 3 d = true → ∀ e ∈ d.inn, Lim e) → Lim d
theorem Lim.top {d : Dx} (h : Lim d) : lm 3 d := by
  cases h with
  | mk a _ => exact a
theorem Lim.inn {d : Dx} (h : Lim d) : hs 3 d = true → ∀ e ∈ d.inn, Lim e := by
  cases h with
  | mk _ b => exact b
section
variable {P : Program} {w : World} {K : PySem.W.Frag} {mg : Str → Option Value} {base : Heap}
def spFox (TT : List Addr) : Sp := fun vs H Q _ => ∃ (v : V) (d : Dx), vs = [v] ∧ Rq H v d ∧ Lim d ∧ d.size ≤ 5000000 ∧ Tell TT H Q (foB d)
theorem ok_fox {TT : List Addr} {f fh fi : Addr} {fd fdh fdi : FuncData} {k : Nat} (F : Fun K "is_form" "is_form" sForm f fd) (GH : FnOk P w K mg base CX0 k fh fdh ["x"] (spHsx 3 TT)) (kh : PySem.W.keepIn K (.ref fh) = true) (bh : Binds K fdh ["x"] []) (gh : mg "_has_shape" = some (.ref fh))
    (GI : FnOk P w K mg base CX0 k fi fdi ["form"] (spInnx 3)) (ki : PySem.W.keepIn K (.ref fi) = true) (bi : Binds K fdi ["form"] []) (gi : mg "inner_forms" = some (.ref fi)) :
    FnOk P w K mg base CX0 (k + 1) f fd ["x"] (spFox TT) := by
  refine F.ok scForm (fun vs H Q E h => ?_) (fun cdv A outer s H vs Q E hr h => ?_)
  · obtain ⟨x, t, rfl, _⟩ := h
    rfl
  · obtain ⟨x, d, rfl, hR, hlim, hsz, t⟩ := h
    have sline : (5000000 : Nat) ≤ sizeLine := by decide
    refine ⟨_, (pss_cons (ps_set (i := 1) scForm.nd rfl (.inl rfl) (pe_lst (pa_cons (pv 0) pa_nil)))
      (pss_cons (ps_while PassesOwn.never (pt_truth (pv 1) (by intro _; rfl)) (pss_cons (ps_set (i := 2) scForm.nd rfl (.inl rfl) (pe_bm0 PySem.F.plainAttrs_list PySem.F.slot_list_pop PySem.F.type_list_pop mt_pop (pv 1)))
      (pss_cons (ps_if (pt_not (pt_val (pe_call GH hr (by rfl) gh kh bh .nil pass0 (pa_cons (pv 2) pa_nil)))) (pss_one (ps_ret pe_bl)) pss_nil)
      (pss_one (ps_expr (pe_bm PySem.F.plainAttrs_list PySem.F.slot_list_extend PySem.F.type_list_extend mt_extend (pv 1) (pa_cons (pe_call GI hr (by rfl) gi ki bi .nil pass0 (pa_cons (pv 2) pa_nil)) pa_nil)))))))
      (pss_one (ps_ret pe_bl)))), ?_⟩
    refine ⟨_, rfl, by show 1 ≤ sizeLine; decide, fun l nl => ?_⟩
    refine ⟨fun n σ H2 => ∃ (vs : List V) (ds : List Dx) (y2 : Option V), σ = [some x, some (.ref l), y2] ∧ n = Dx.sizes ds ∧ H2 l = some (.lst vs) ∧ Rqs H vs ds ∧ (∀ e ∈ ds, Lim e) ∧ foB d = ds.all foB ∧ Dx.sizes ds ≤ 5000000 ∧ Tabs TT H2 ∧ Kp (TM TT) H H2,
      ⟨_, [x], [d], none, rfl, rfl, upd_same, .cons hR .nil, fun e m => by rw [List.mem_singleton.mp m]; exact hlim, by simp only [List.all_cons, List.all_nil, Bool.and_true], by simp only [Dx.sizes]; omega, t.1.new nl, Kp.new nl⟩, ?_⟩
    rintro n σ H2 ⟨vs, ds, y2, rfl, rfl, el, hR2, hl2, hd2, hs2, hT2, k2⟩
    by_cases hv : vs = []
    · subst hv
      refine ⟨_, rfl, false, .inl ⟨[], SqL.of el, rfl⟩, iteF ?_⟩
      cases hR2
      exact qB (show true = foB d from hd2.symm) (t.2 H2 k2 hT2)
    · refine ⟨_, rfl, true, .inl ⟨vs, SqL.of el, by cases vs with
        | nil => exact absurd rfl hv
        | cons => rfl⟩, iteT ?_⟩
      obtain ⟨v, u, us, ev, rfl, rv, rus⟩ := hR2.lastD hv
      rw [Dx.sizes_app] at hs2
      rw [List.all_append] at hd2
      simp only [Dx.sizes, Nat.add_zero] at hs2
      simp only [List.all_cons, List.all_nil, Bool.and_true] at hd2
      have lu : Lim u := hl2 u (List.mem_append_right _ (List.mem_singleton.mpr rfl))
      have lus : ∀ e ∈ us, Lim e := fun e m => hl2 e (List.mem_append_left _ m)
      refine ⟨fun σ' H' => ∃ (vs' : List V) (ds' : List Dx) (y2 : Option V), σ' = [some x, some (.ref l), y2] ∧ Dx.sizes ds' < Dx.sizes (us ++ [u]) ∧ H' l = some (.lst vs') ∧ Rqs H vs' ds' ∧ (∀ e ∈ ds', Lim e) ∧ foB d = ds'.all foB ∧ Dx.sizes ds' ≤ 5000000 ∧ Tabs TT H' ∧ Kp (TM TT) H H',
        fun σ' H' ⟨vs', ts', y, e1, e2, r⟩ => ⟨_, e2, vs', ts', y, e1, rfl, r⟩, ?_⟩
      have esz : Dx.sizes (us ++ [u]) = Dx.sizes us + u.size := by rw [Dx.sizes_app]; simp only [Dx.sizes, Nat.add_zero]
      rw [esz]
      refine ⟨_, rfl, .inl ⟨rfl, _, SqL.of el⟩, l, vs, v, rfl, rfl, el, ev, ?_⟩
      have k3 : Kp (TM TT) H (upd H2 l (.lst vs.dropLast)) := k2.putL nl
      have hT3 : Tabs TT (upd H2 l (.lst vs.dropLast)) := hT2.put el fun _ z => by cases z
      have e3 : upd H2 l (.lst vs.dropLast) l = some (.lst vs.dropLast) := upd_same
      generalize upd H2 l (.lst vs.dropLast) = H3 at k3 hT3 e3 ⊢
      refine ⟨_, rfl, v, u, rfl, rv.tl (tl2_tabs t.1 k3), lu.top, hT3, fun H4 k4 t4 => ⟨_, rfl, ?_⟩⟩
      have k04 := k3.trans k4
      by_cases hu : hs 3 u = true
      case neg =>
        have hu : hs 3 u = false := Bool.eq_false_iff.mpr hu
        rw [foB_eq u, hu, Bool.false_and, Bool.and_false] at hd2
        rw [hu]
        exact iteT (qB hd2.symm (t.2 H4 k04 t4))
      rw [hu]
      refine iteF ?_
      have e4 := hT3.lst k4 e3
      have hin := inn_size u
      refine ⟨_, rfl, .inl ⟨rfl, _, SqL.of e4⟩, _, rfl, v, u, H, rfl, rv, tl2_tabs t.1 k04, hu, by omega, fun ws l2 H5 n5 e5 r5 k5 => ?_⟩
      have ne : l2 ≠ l := fun z => by
        rw [z, e4] at n5
        cases n5
      have e5l := k5 l _ (fun z => z) e4
      have t5 := t4.off k5 (fun _ _ z => z)
      refine ⟨l, l2, _, ws, rfl, rfl, e5l, e5, ?_, ?_⟩
      · have h1 := (rus.app r5).len
        have h2 := Dx.len_sizes (us ++ u.inn)
        rw [Dx.sizes_app] at h2
        rw [List.length_append] at h1
        omega
      · refine ⟨_, us ++ u.inn, _, rfl, ?_, upd_same, rus.app r5, ?_, ?_, ?_, t5.put e5l (fun _ z => by cases z), (k04.trans (k5.mono fun _ z => z.elim)).putL nl⟩
        · rw [Dx.sizes_app]
          omega
        · intro e m
          rcases List.mem_append.mp m with m | m
          · exact lus e m
          · exact lu.inn hu e m
        · rw [hd2, List.all_append, foB_eq u, hu, Bool.true_and]
        · rw [Dx.sizes_app]
          omega
end
end RT

set_option maxHeartbeats 1000000
/-! displays of tuples and lists in which names stand, some places hidden -/
namespace RT
open PySem PySem.Spec PyProof.Rows L2
open Classical in
/-- the heap without these places -/
noncomputable def cut (M : Addr → Prop) (H : Hp) : Hp := fun b => if M b then none else H b
theorem cut_at {M : Addr → Prop} {H : Hp} {b : Addr} (h : ¬ M b) : cut M H b = H b := by
  unfold cut
  rw [if_neg h]
theorem cut_some {M : Addr → Prop} {H : Hp} {b : Addr} {o : HO} (h : cut M H b = some o) : ¬ M b ∧ H b = some o := by
  unfold cut at h
  split at h
  · cases h
  · exact ⟨by assumption, h⟩
theorem tl2_out {M : Addr → Prop} {H : Hp} : TL2 (cut M H) H := fun b vs => ⟨fun e => (cut_some e).2, fun e => (cut_some e).2⟩
theorem tl2_mono {M N : Addr → Prop} {H : Hp} (h : ∀ b, N b → M b) : TL2 (cut M H) (cut N H) := fun b vs => ⟨fun e => by
  obtain ⟨n, e⟩ := cut_some e
  rw [cut_at fun z => n (h b z)]
  exact e, fun e => by
  obtain ⟨n, e⟩ := cut_some e
  rw [cut_at fun z => n (h b z)]
  exact e⟩
/-- what stays but for M stays of what stands elsewhere -/
theorem tl2_kp {M N : Addr → Prop} {H H' : Hp} (h : ∀ b, N b → M b) (k : Kp N H H') : TL2 (cut M H) (cut M H') := fun b vs => ⟨fun e => by
  obtain ⟨n, e⟩ := cut_some e
  rw [cut_at n]
  exact k b _ (fun z => n (h b z)) e, fun e => by
  obtain ⟨n, e⟩ := cut_some e
  rw [cut_at n]
  exact k b _ (fun z => n (h b z)) e⟩
theorem tl2_cut {M : Addr → Prop} {H H' : Hp} (k : TL2 H H') : TL2 (cut M H) (cut M H') := fun b vs => ⟨fun e => by
  obtain ⟨n, e⟩ := cut_some e
  rw [cut_at n]
  exact (k b vs).1 e, fun e => by
  obtain ⟨n, e⟩ := cut_some e
  rw [cut_at n]
  exact (k b vs).2 e⟩
theorem tl2_c0 {M : Addr → Prop} {H H' : Hp} (k : Kp M0 H H') : TL2 (cut M H) (cut M H') := tl2_cut (tl2_0 k)
/-- a new place hidden -/
theorem tl2_hide {M : Addr → Prop} {H : Hp} {p : Addr} {o : HO} (n : H p = none) : TL2 (cut M H) (cut (fun b => M b ∨ b = p) (upd H p o)) := fun b vs => ⟨fun e => by
  obtain ⟨m, e⟩ := cut_some e
  have ne := ne_of_none e n
  rw [cut_at fun z => z.elim m ne, upd_ne ne]
  exact e, fun e => by
  obtain ⟨m, e⟩ := cut_some e
  have ne := ne_of_none e n
  rw [cut_at fun z => z.elim m ne, upd_ne ne]
  exact e⟩
inductive LX
  | str (z : Str)
  | int (i : Int)
  | neg (i : Int)
  | bl (b : Bool)
  | non
  | var (i : Nat)
  | tup (ds : List LX)
  | lst (ds : List LX)
mutual
def LX.te : LX → TE
  | .str z => tC (.str z)
  | .int i => tC (.int i)
  | .neg i => tUn (rU fun i => .int (-i)) (tC (.int i))
  | .bl b => tC (.bl b)
  | .non => tC .non
  | .var i => tVar i
  | .tup ds => tTup (LX.ta ds)
  | .lst ds => tLst (LX.ta ds)
def LX.ta : List LX → TA
  | [] => tNil
  | d :: r => tCons d.te (LX.ta r)
end
mutual
def LX.few : LX → Bool
  | .str z => decide (z.length ≤ 1000)
  | .tup ds => decide (ds.length ≤ 1000) && LX.fews ds
  | .lst ds => decide (ds.length ≤ 1000) && LX.fews ds
  | _ => true
def LX.fews : List LX → Bool
  | [] => true
  | d :: r => d.few && LX.fews r
end
mutual
def LX.den (ρ : Nat → Dx) : LX → Dx
  | .str z => .str z
  | .int i => .int i
  | .neg i => .int (-i)
  | .bl b => .bl b
  | .non => .non
  | .var i => ρ i
  | .tup ds => .tup (LX.dens ρ ds)
  | .lst ds => .lst (LX.dens ρ ds)
def LX.dens (ρ : Nat → Dx) : List LX → List Dx
  | [] => []
  | d :: r => d.den ρ :: LX.dens ρ r
end
mutual
/-- the names that stand in it -/
def LX.vars : LX → List Nat
  | .var i => [i]
  | .tup ds => LX.varss ds
  | .lst ds => LX.varss ds
  | _ => []
def LX.varss : List LX → List Nat
  | [] => []
  | d :: r => d.vars ++ LX.varss r
end
theorem LX.dens_len (ρ : Nat → Dx) : ∀ ds : List LX, (LX.dens ρ ds).length = ds.length
  | [] => rfl
  | _ :: r => congrArg (· + 1) (LX.dens_len ρ r)
theorem l1000 {n : Nat} (h : n ≤ 1000) : n ≤ sizeLine := by rw [sizeLine_eq]; omega
theorem ne_kp {M : Addr → Prop} {H H' : Hp} (h : ∀ b, M b → H b ≠ none) (k : Kp M0 H H') : ∀ b, M b → H' b ≠ none := fun b m e => by
  cases z : H b with
  | none => exact h b m z
  | some o =>
    rw [k b o (fun z => z) z] at e
    cases e
mutual
theorem litX_read (M : Addr → Prop) : ∀ (d : LX) {ρ : Nat → Dx} {σ : L2.St} {H : Hp} {Q : VK}, d.few = true → (∀ b, M b → H b ≠ none) → (∀ i ∈ d.vars, ∃ v, σ[i]? = some (some v) ∧ Rq (cut M H) v (ρ i)) → (∀ (v : V) (H' : Hp), Rq (cut M H') v (d.den ρ) → Kp M0 H H' → Q v H') → d.te σ H Q
  | .str z, ρ, σ, H, Q, h, _, _, q => q _ H (.str (l1000 (of_decide_eq_true h))) Kp.refl
  | .int i, ρ, σ, H, Q, _, _, _, q => q _ H .int Kp.refl
  | .neg i, ρ, σ, H, Q, _, _, _, q => ⟨i, rfl, q _ H .int Kp.refl⟩
  | .bl b, ρ, σ, H, Q, _, _, _, q => q _ H .bl Kp.refl
  | .non, ρ, σ, H, Q, _, _, _, q => q _ H .non Kp.refl
  | .var i, ρ, σ, H, Q, _, _, hv, q => by
    obtain ⟨v, e, r⟩ := hv i (List.mem_singleton.mpr rfl)
    exact ⟨v, e, q v H r Kp.refl⟩
  | .tup ds, ρ, σ, H, Q, h, hm, hv, q => litXs_read M ds (Bool.and_eq_true _ _ ▸ h : _ ∧ _).2 hm hv fun vs H1 r k => ⟨by rw [r.len, LX.dens_len]; exact l1000 (of_decide_eq_true (Bool.and_eq_true _ _ ▸ h : _ ∧ _).1), fun p np => q _ _ (.tup (by rw [cut_at fun m => ne_kp hm k p m np]; exact upd_same) (r.tl (tl2_c0 (Kp.new np)))) (k.trans (Kp.new np))⟩
  | .lst ds, ρ, σ, H, Q, h, hm, hv, q => litXs_read M ds (Bool.and_eq_true _ _ ▸ h : _ ∧ _).2 hm hv fun vs H1 r k => ⟨by rw [r.len, LX.dens_len]; exact l1000 (of_decide_eq_true (Bool.and_eq_true _ _ ▸ h : _ ∧ _).1), fun p np => q _ _ (.lst (by rw [cut_at fun m => ne_kp hm k p m np]; exact upd_same) (r.tl (tl2_c0 (Kp.new np)))) (k.trans (Kp.new np))⟩
theorem litXs_read (M : Addr → Prop) : ∀ (ds : List LX) {ρ : Nat → Dx} {σ : L2.St} {H : Hp} {Q : List V → Hp → Prop}, LX.fews ds = true → (∀ b, M b → H b ≠ none) → (∀ i ∈ LX.varss ds, ∃ v, σ[i]? = some (some v) ∧ Rq (cut M H) v (ρ i)) → (∀ (vs : List V) (H' : Hp), Rqs (cut M H') vs (LX.dens ρ ds) → Kp M0 H H' → Q vs H') → LX.ta ds σ H Q
  | [], ρ, σ, H, Q, _, _, _, q => q _ H .nil Kp.refl
  | d :: r, ρ, σ, H, Q, h, hm, hv, q => litX_read M d (Bool.and_eq_true _ _ ▸ h : _ ∧ _).1 hm (fun i m => hv i (List.mem_append_left _ m)) fun v H1 rv k1 => litXs_read M r (Bool.and_eq_true _ _ ▸ h : _ ∧ _).2 (ne_kp hm k1) (fun i m => let ⟨v, e, rr⟩ := hv i (List.mem_append_right _ m); ⟨v, e, rr.tl (tl2_c0 k1)⟩) fun vs H2 rvs k2 => q _ _ (.cons (rv.tl (tl2_c0 k2)) rvs) (k1.trans k2)
end
/-- a list of such: its place is hidden -/
theorem litXL_read (M : Addr → Prop) (ds : List LX) {ρ : Nat → Dx} {σ : L2.St} {H : Hp} {Q : VK} (h : LX.fews ds = true) (hl : ds.length ≤ 1000) (hm : ∀ b, M b → H b ≠ none) (hv : ∀ i ∈ LX.varss ds, ∃ v, σ[i]? = some (some v) ∧ Rq (cut M H) v (ρ i))
    (q : ∀ (l : Addr) (vs : List V) (H' : Hp), H' l = some (.lst vs) → H l = none → Rqs (cut (fun b => M b ∨ b = l) H') vs (LX.dens ρ ds) → Kp M0 H H' → Q (.ref l) H') : tLst (LX.ta ds) σ H Q :=
  litXs_read M ds h hm hv fun vs H1 r k => ⟨by rw [r.len, LX.dens_len]; exact l1000 hl, fun p np => q p vs _ upd_same (none_back k (fun z => z) np) (r.tl (tl2_hide np)) (k.trans (Kp.new np))⟩
/-- some + [..] -/
theorem catX_read (M : Addr → Prop) (i : Nat) (ds : List LX) {ρ : Nat → Dx} {σ : L2.St} {H : Hp} {Q : VK} {l : Addr} {vs : List V} {es : List Dx} (h : LX.fews ds = true) (hl : es.length + ds.length ≤ 1000) (hm : ∀ b, M b → H b ≠ none)
    (ei : σ[i]? = some (some (.ref l))) (el : H l = some (.lst vs)) (re : Rqs (cut M H) vs es) (hv : ∀ i ∈ LX.varss ds, ∃ v, σ[i]? = some (some v) ∧ Rq (cut M H) v (ρ i))
    (q : ∀ (l' : Addr) (vs' : List V) (H' : Hp), H' l' = some (.lst vs') → H l' = none → Rqs (cut (fun b => M b ∨ b = l') H') vs' (es ++ LX.dens ρ ds) → Kp M0 H H' → Q (.ref l') H') : tOp rCat (tVar i) (tLst (LX.ta ds)) σ H Q := by
  refine ⟨_, ei, ?_⟩
  refine litXs_read M ds h hm hv fun us H1 r k => ⟨by rw [r.len, LX.dens_len]; exact l1000 (by omega), fun p np => ?_⟩
  have el1 := k l _ (fun z => z) el
  refine ⟨l, p, vs, us, rfl, rfl, by rw [upd_ne (ne_of_none el1 np)]; exact el1, upd_same, ?_, fun p2 np2 => ?_⟩
  · rw [re.len, r.len, LX.dens_len]
    exact l1000 hl
  · have k2 : Kp M0 H (upd H1 p (.lst us)) := k.trans (Kp.new np)
    have r2 : Rqs (cut M (upd H1 p (.lst us))) (vs ++ us) (es ++ LX.dens ρ ds) := (re.tl (tl2_c0 k2)).app (r.tl (tl2_c0 (Kp.new np)))
    exact q p2 _ _ upd_same (none_back k2 (fun z => z) np2) (r2.tl (tl2_hide np2)) (k2.trans (Kp.new np2))
/-! the same, whatever the reading is written as -/
theorem litX_run (M : Addr → Prop) (d : LX) {te : TE} (e : te = d.te) {ρ : Nat → Dx} {σ : L2.St} {H : Hp} {Q : VK} (h : d.few = true) (hm : ∀ b, M b → H b ≠ none) (hv : ∀ i ∈ d.vars, ∃ v, σ[i]? = some (some v) ∧ Rq (cut M H) v (ρ i)) (q : ∀ (v : V) (H' : Hp), Rq (cut M H') v (d.den ρ) → Kp M0 H H' → Q v H') : te σ H Q := by
  subst e
  exact litX_read M d h hm hv q
theorem litXs_run (M : Addr → Prop) (ds : List LX) {ta : TA} (e : ta = LX.ta ds) {ρ : Nat → Dx} {σ : L2.St} {H : Hp} {Q : List V → Hp → Prop} (h : LX.fews ds = true) (hm : ∀ b, M b → H b ≠ none) (hv : ∀ i ∈ LX.varss ds, ∃ v, σ[i]? = some (some v) ∧ Rq (cut M H) v (ρ i)) (q : ∀ (vs : List V) (H' : Hp), Rqs (cut M H') vs (LX.dens ρ ds) → Kp M0 H H' → Q vs H') : ta σ H Q := by
  subst e
  exact litXs_read M ds h hm hv q
theorem litXL_run (M : Addr → Prop) (ds : List LX) {ta : TA} (e : ta = LX.ta ds) {ρ : Nat → Dx} {σ : L2.St} {H : Hp} {Q : VK} (h : LX.fews ds = true) (hl : ds.length ≤ 1000) (hm : ∀ b, M b → H b ≠ none) (hv : ∀ i ∈ LX.varss ds, ∃ v, σ[i]? = some (some v) ∧ Rq (cut M H) v (ρ i))
    (q : ∀ (l : Addr) (vs : List V) (H' : Hp), H' l = some (.lst vs) → H l = none → Rqs (cut (fun b => M b ∨ b = l) H') vs (LX.dens ρ ds) → Kp M0 H H' → Q (.ref l) H') : tLst ta σ H Q := by
  subst e
  exact litXL_read M ds h hl hm hv q
theorem catX_run (M : Addr → Prop) (i : Nat) (ds : List LX) {ta : TA} (e : ta = LX.ta ds) {ρ : Nat → Dx} {σ : L2.St} {H : Hp} {Q : VK} {l : Addr} {vs : List V} {es : List Dx} (h : LX.fews ds = true) (hl : es.length + ds.length ≤ 1000) (hm : ∀ b, M b → H b ≠ none)
    (ei : σ[i]? = some (some (.ref l))) (el : H l = some (.lst vs)) (re : Rqs (cut M H) vs es) (hv : ∀ i ∈ LX.varss ds, ∃ v, σ[i]? = some (some v) ∧ Rq (cut M H) v (ρ i))
    (q : ∀ (l' : Addr) (vs' : List V) (H' : Hp), H' l' = some (.lst vs') → H l' = none → Rqs (cut (fun b => M b ∨ b = l') H') vs' (es ++ LX.dens ρ ds) → Kp M0 H H' → Q (.ref l') H') : tOp rCat (tVar i) (tLst ta) σ H Q := by
  subst e
  exact catX_read M i ds h hl hm ei el re hv q
end RT

set_option maxHeartbeats 1000000
/-! the law's bad forms -/
namespace RT
open PySem PySem.Spec PyProof.Rows L2
abbrev sBd : Stmt := topS 49
theorem scBd : FnScope ["_law_form_here", "_law_bare", "_law_some", "_law_word", "_law_pairs"] ["_law_form_here"] (defScope sBd) := ⟨rfl, rfl, rfl, by decide +kernel, rfl, by decide +kernel, by decide +kernel⟩
def bareX : Dx := .tup [.str "text", .str "x"]
def rhoB (g : Dx) (w : Str) (p : Dx) : Nat → Dx
  | 0 => g
  | 1 => bareX
  | 3 => .str w
  | 4 => p
  | _ => .non
abbrev bd0 : List LX := [.tup [.str "text", .str ""], .tup [.str "text"], .tup [.str "text", .str "a", .str "b"], .tup [.str "text", .int 1], .tup [.str "text", .str "\t"], .lst [.str "text", .str "a"], .tup [.str "text", .tup [.str "a"]]]
abbrev bdA : List LX := [.tup [.var 3, .str ""], .tup [.var 3, .str "ba"], .tup [.var 3, .str "aa"], .tup [.var 3, .tup [.str "a", .str "b"]]]
abbrev bdB : List LX := [.tup [.var 3], .tup [.var 3, .str "ab", .str "c"], .tup [.var 3, .int 3]]
abbrev bd1 : List LX := [.tup [.str "number", .int 1], .tup [.str "number", .tup []], .tup [.str "numbers"], .tup [.str "skip"], .tup [.str "skip", .var 0, .var 0], .tup [.str "skip", .non]]
abbrev bd2 : List LX := [.tup [.str "pick", .tup []], .tup [.str "pick", .tup [.tup [.str "a", .str "x"], .tup [.str "ab", .str "y"]]], .tup [.str "pick", .tup [.tup [.str "a", .str "x"], .tup [.str "a", .str "y"]]]]
abbrev bdP : List LX := [.tup [.tup [.str "a", .int 1], .tup [.str "b", .int 1]], .tup [.tup [.str "a", .tup []]], .tup [.tup [.str "", .str "x"]], .lst [.tup [.str "a", .int 1]], .tup [.tup [.str "a", .str "x", .str "y"]], .tup [.tup [.str "a"]]]
abbrev bd3 : List LX := [.tup [.str "pick", .tup [.tup [.str "a", .bl true]]], .tup [.str "pick", .tup [.tup [.str "a", .neg 1]]], .tup [.str "pick", .tup [.tup [.str "\t", .int 1]]]]
abbrev bd4 : List LX := [.tup [.str "spelt", .tup [.str "word", .str "ab"]], .tup [.str "spelt", .tup [.str "pick", .tup [.tup [.str "a", .str "xy"]]]], .tup [.str "spelt", .tup [.str "pick", .tup [.tup [.str "a", .int 1]]]]]
abbrev bd5 : List LX := [.tup [.str "spelt", .tup [.str "pick", .tup [.tup [.str "a", .str ""]]]], .tup [.str "spelt", .tup [.str "named", .str "a"]], .tup [.str "spelt", .var 1], .tup [.str "row", .lst [.var 0]]]
abbrev bd6 : List LX := [.tup [.str "row", .var 0], .tup [.str "row", .tup [.var 0, .non]], .tup [.str "row", .var 0, .var 0], .tup [.str "row"], .tup [.str "either", .tup []]]
abbrev bd7 : List LX := [.tup [.str "either", .tup [.tup [.str "a", .var 0], .tup [.str "a", .var 1]]], .tup [.str "either", .tup [.tup [.str "A", .var 0]]], .tup [.str "either", .tup [.tup [.var 0]]]]
abbrev bd8 : List LX := [.tup [.str "either", .tup [.tup [.str "a"]]], .tup [.str "either", .tup [.tup [.str "a", .non]]], .tup [.str "either", .lst [.tup [.str "a", .var 0]]], .tup [.str "again", .var 0]]
abbrev bd9 : List LX := [.tup [.str "again", .var 0, .tup [.str "number"]], .tup [.str "again", .var 0, .tup [.str "row", .tup [.var 1]]], .tup [.str "again", .non, .non]]
abbrev bd10 : List LX := [.tup [.str "again", .var 0, .var 1, .var 1], .tup [.str "counted", .str "", .var 0], .tup [.str "counted", .var 0, .str "x"], .tup [.str "counted", .str "x", .non]]
abbrev bd11 : List LX := [.tup [.str "turned", .var 0, .tup []], .tup [.str "turned", .var 0, .tup [.tup [.int 1, .int 1]]], .tup [.str "turned", .var 0, .tup [.tup [.int 1, .int 2], .tup [.int 3, .int 1]]]]
abbrev bd12 : List LX := [.tup [.str "turned", .var 0, .tup [.tup [.int 1, .int 2, .int 3]]], .tup [.str "turned", .var 0, .tup [.tup [.int 1, .non]]], .tup [.str "turned", .var 0, .lst [.tup [.int 1, .int 2]]]]
abbrev bd13 : List LX := [.tup [.str "named", .str ""], .tup [.str "named", .str "A"], .tup [.str "named", .str "abcdefghi"], .tup [.str "named"], .tup [.str "named", .str "a", .str "b"]]
abbrev bdZ : List LX := [.tup [.str "turned", .var 0]]
abbrev dnB (g : Dx) (ds : List LX) : List Dx := LX.dens (rhoB g "" .non) ds
def wbads (g : Dx) (w : Str) : List Dx := LX.dens (rhoB g w .non) bdA ++ LX.dens (rhoB g w .non) bdB
def es0 (g : Dx) : List Dx := dnB g bd0
def es1 (g : Dx) : List Dx := es0 g ++ wbads g "sign" ++ wbads g "word"
def es2 (g : Dx) : List Dx := es1 g ++ dnB g bd1 ++ dnB g bd2
def es3 (g : Dx) : List Dx := es2 g ++ (dnB g bdP).map fun p => .tup [.str "pick", p]
def bads (g : Dx) : List Dx := es3 g ++ dnB g bd3 ++ dnB g bd4 ++ dnB g bd5 ++ dnB g bd6 ++ dnB g bd7 ++ dnB g bd8 ++ dnB g bd9 ++ dnB g bd10 ++ dnB g bd11 ++ dnB g bd12 ++ dnB g bd13 ++ dnB g bdZ

theorem es3_len (g : Dx) : (es3 g).length = 7 + 14 + 6 + 3 + 6 := by
  simp only [es3, es2, es1, es0, wbads, List.length_append, List.length_map, LX.dens_len]
  decide
structure BdAt (M : Addr → Prop) (H H2 : Hp) (l : Addr) (vs : List V) (es : List Dx) : Prop where
  k : Kp M0 H H2
  n : H l = none
  e : H2 l = some (.lst vs)
  r : Rqs (cut (fun b => M b ∨ b = l) H2) vs es
theorem tl2_new {M : Addr → Prop} {H H2 : Hp} {l : Addr} (n : H l = none) (k : Kp M0 H H2) : TL2 (cut M H) (cut (fun b => M b ∨ b = l) H2) := fun b vs => ⟨fun e => by
  obtain ⟨m, e⟩ := cut_some e
  rw [cut_at fun z => z.elim m (ne_of_none e n)]
  exact k b _ (fun z => z) e, fun e => by
  obtain ⟨m, e⟩ := cut_some e
  rw [cut_at fun z => z.elim m (ne_of_none e n)]
  exact k b _ (fun z => z) e⟩
theorem hide_ok {M : Addr → Prop} {H H2 : Hp} {l : Addr} {o : HO} (hm : ∀ b, M b → H b ≠ none) (k : Kp M0 H H2) (e : H2 l = some o) : ∀ b, (M b ∨ b = l) → H2 b ≠ none := fun b m z => by
  rcases m with m | rfl
  · exact ne_kp hm k b m z
  · rw [e] at z
    cases z
/-- some + [..] -/
theorem bd_step {M : Addr → Prop} {H H2 : Hp} {v vb : V} {g : Dx} {l : Addr} {vs : List V} {es : List Dx} {σ : L2.St} {Q : VK} (ds : List LX) {ta : TA} (ee : ta = LX.ta ds) {w : Str} {p : Dx} (hm : ∀ b, M b → H b ≠ none) (rv : Rq (cut M H) v g) (rb : Rq (cut M H) vb bareX) (B : BdAt M H H2 l vs es)
    (few : LX.fews ds = true) (len : es.length + ds.length ≤ 1000) (hi : ∀ i ∈ LX.varss ds, i = 0 ∨ i = 1 ∨ i = 3) (h0 : σ[0]? = some (some v)) (h1 : σ[1]? = some (some vb)) (h2 : σ[2]? = some (some (.ref l))) (h3 : ∀ i ∈ LX.varss ds, i = 3 → σ[3]? = some (some (.str w)) ∧ w.length ≤ sizeLine)
    (q : ∀ (l' : Addr) (vs' : List V) (H3 : Hp), BdAt M H H3 l' vs' (es ++ LX.dens (rhoB g w p) ds) → Kp M0 H2 H3 → Q (.ref l') H3) : tOp rCat (tVar 2) (tLst ta) σ H2 Q := by
  subst ee
  refine catX_read M 2 ds (ρ := rhoB g w p) few len (ne_kp hm B.k) h2 B.e (B.r.tl (tl2_mono fun b m => .inl m)) (fun i m => ?_) fun l' vs' H3 e n r k => q l' vs' H3 ⟨B.k.trans k, none_back B.k (fun z => z) n, e, r⟩ k
  have lift : TL2 (cut M H) (cut M H2) := tl2_c0 B.k
  rcases hi i m with rfl | rfl | rfl
  · exact ⟨v, h0, rv.tl lift⟩
  · exact ⟨vb, h1, rb.tl lift⟩
  · obtain ⟨a, b⟩ := h3 _ m rfl
    exact ⟨_, a, .str b⟩
theorem BdAt.kp {M : Addr → Prop} {H H2 H3 : Hp} {l : Addr} {vs : List V} {es : List Dx} (B : BdAt M H H2 l vs es) (k : Kp M0 H2 H3) : BdAt M H H3 l vs es := ⟨B.k.trans k, B.n, k _ _ (fun z => z) B.e, B.r.tl (tl2_c0 k)⟩
theorem Rq.at_tup {M : Addr → Prop} {H : Hp} {v : V} {ds : List Dx} (r : Rq (cut M H) v (.tup ds)) : ∃ (a : Addr) (us : List V), v = .ref a ∧ H a = some (.tup us) ∧ Rqs (cut M H) us ds := by
  cases r with
  | tup e r => exact ⟨_, _, rfl, (cut_some e).2, r⟩
theorem seq_set {te : TE} {i : Nat} {u : L2.TS} {D : Ends} {σ : L2.St} {H : Hp} (h : te σ H fun x H1 => u D (σ.set i (some x)) H1) : tSeq (tAsg te (gName i)) u D σ H := h
theorem one_set {te : TE} {i : Nat} {D : Ends} {σ : L2.St} {H : Hp} (h : te σ H fun x H1 => D.nx (σ.set i (some x)) H1) : tAsg te (gName i) D σ H := h
theorem one_ret {te : TE} {D : Ends} {σ : L2.St} {H : Hp} (h : te σ H D.rt) : tRet te D σ H := h
theorem il_ok {K : PySem.W.Frag} {tl : TE} {σ : L2.St} {H : Hp} {R : It → Hp → Prop} (h : tl σ H fun x H1 => ∃ a, x = V.ref a ∧ (∃ xs, SqL K H1 a xs) ∧ R (Itl K a) H1) : iList K tl σ H R := h
theorem it_ok {K : PySem.W.Frag} {tl : TE} {σ : L2.St} {H : Hp} {R : It → Hp → Prop} (h : tl σ H fun x H1 => ∃ a, x = V.ref a ∧ (∃ xs, SqT K H1 a xs) ∧ R (Itt K a) H1) : iTup K tl σ H R := h
theorem seq_for {wi : TI} {g : TG} {tb u : L2.TS} {D : Ends} {σ : L2.St} {H : Hp} (h : tFor wi g tb { D with nx := u D } σ H) : tSeq (tFor wi g tb) u D σ H := h
section
variable {P : Program} {w : World} {K : PySem.W.Frag} {mg : Str → Option Value} {base : Heap}
def spBd : Sp := fun vs H Q _ => ∃ (M : Addr → Prop) (v : V) (g : Dx), vs = [v] ∧ (∀ b, M b → H b ≠ none) ∧ Rq (cut M H) v g ∧
  ∀ (l : Addr) (us : List V) (H' : Hp), BdAt M H H' l us (bads g) → Q (.ref l) H'
theorem ok_bd {f : Addr} {fd : FuncData} {k : Nat} (F : Fun K "_law_bad_forms" "_law_bad_forms" sBd f fd) : FnOk P w K mg base CX0 (k + 1) f fd ["_law_form_here"] spBd := by
  refine F.ok scBd (fun vs H Q E h => ?_) (fun cdv A outer s H vs Q E hr h => ?_)
  · obtain ⟨_, z, f, rfl, _⟩ := h
    rfl
  · obtain ⟨M, v, g, rfl, hm, rv, q⟩ := h
    refine ⟨_, (pss_cons (ps_set (i := 1) scBd.nd rfl (.inl rfl) (pe_tup (pa_cons pe_str (pa_cons pe_str pa_nil))))
      (pss_cons (ps_set (i := 2) scBd.nd rfl (.inl rfl) (pe_lst (pa_cons (pe_tup (pa_cons pe_str (pa_cons pe_str pa_nil))) (pa_cons (pe_tup (pa_cons pe_str pa_nil)) (pa_cons (pe_tup (pa_cons pe_str (pa_cons pe_str (pa_cons pe_str pa_nil)))) (pa_cons (pe_tup (pa_cons pe_str (pa_cons pe_int pa_nil))) (pa_cons (pe_tup (pa_cons pe_str (pa_cons pe_str pa_nil))) (pa_cons (pe_lst (pa_cons pe_str (pa_cons pe_str pa_nil))) (pa_cons (pe_tup (pa_cons pe_str (pa_cons (pe_tup (pa_cons pe_str pa_nil)) pa_nil))) pa_nil)))))))))
      (pss_cons (ps_for PassesOwn.never rfl (pi_tup (pe_tup (pa_cons pe_str (pa_cons pe_str pa_nil)))) (pg_name (i := 3) scBd.nd rfl (.inl rfl)) (pss_cons (ps_set (i := 2) scBd.nd rfl (.inl rfl) (pe_op op_cat (pv 2) (pe_lst (pa_cons (pe_tup (pa_cons (pv 3) (pa_cons pe_str pa_nil))) (pa_cons (pe_tup (pa_cons (pv 3) (pa_cons pe_str pa_nil))) (pa_cons (pe_tup (pa_cons (pv 3) (pa_cons pe_str pa_nil))) (pa_cons (pe_tup (pa_cons (pv 3) (pa_cons (pe_tup (pa_cons pe_str (pa_cons pe_str pa_nil))) pa_nil))) pa_nil)))))))
      (pss_one (ps_set (i := 2) scBd.nd rfl (.inl rfl) (pe_op op_cat (pv 2) (pe_lst (pa_cons (pe_tup (pa_cons (pv 3) pa_nil)) (pa_cons (pe_tup (pa_cons (pv 3) (pa_cons pe_str (pa_cons pe_str pa_nil)))) (pa_cons (pe_tup (pa_cons (pv 3) (pa_cons pe_int pa_nil))) pa_nil)))))))))
      (pss_cons (ps_set (i := 2) scBd.nd rfl (.inl rfl) (pe_op op_cat (pv 2) (pe_lst (pa_cons (pe_tup (pa_cons pe_str (pa_cons pe_int pa_nil))) (pa_cons (pe_tup (pa_cons pe_str (pa_cons (pe_tup pa_nil) pa_nil))) (pa_cons (pe_tup (pa_cons pe_str pa_nil)) (pa_cons (pe_tup (pa_cons pe_str pa_nil)) (pa_cons (pe_tup (pa_cons pe_str (pa_cons (pv 0) (pa_cons (pv 0) pa_nil)))) (pa_cons (pe_tup (pa_cons pe_str (pa_cons pe_non pa_nil))) pa_nil)))))))))
      (pss_cons (ps_set (i := 2) scBd.nd rfl (.inl rfl) (pe_op op_cat (pv 2) (pe_lst (pa_cons (pe_tup (pa_cons pe_str (pa_cons (pe_tup pa_nil) pa_nil))) (pa_cons (pe_tup (pa_cons pe_str (pa_cons (pe_tup (pa_cons (pe_tup (pa_cons pe_str (pa_cons pe_str pa_nil))) (pa_cons (pe_tup (pa_cons pe_str (pa_cons pe_str pa_nil))) pa_nil))) pa_nil))) (pa_cons (pe_tup (pa_cons pe_str (pa_cons (pe_tup (pa_cons (pe_tup (pa_cons pe_str (pa_cons pe_str pa_nil))) (pa_cons (pe_tup (pa_cons pe_str (pa_cons pe_str pa_nil))) pa_nil))) pa_nil))) pa_nil))))))
      (pss_cons (ps_for PassesOwn.never rfl (pi_list (pe_lst (pa_cons (pe_tup (pa_cons (pe_tup (pa_cons pe_str (pa_cons pe_int pa_nil))) (pa_cons (pe_tup (pa_cons pe_str (pa_cons pe_int pa_nil))) pa_nil))) (pa_cons (pe_tup (pa_cons (pe_tup (pa_cons pe_str (pa_cons (pe_tup pa_nil) pa_nil))) pa_nil)) (pa_cons (pe_tup (pa_cons (pe_tup (pa_cons pe_str (pa_cons pe_str pa_nil))) pa_nil)) (pa_cons (pe_lst (pa_cons (pe_tup (pa_cons pe_str (pa_cons pe_int pa_nil))) pa_nil)) (pa_cons (pe_tup (pa_cons (pe_tup (pa_cons pe_str (pa_cons pe_str (pa_cons pe_str pa_nil)))) pa_nil)) (pa_cons (pe_tup (pa_cons (pe_tup (pa_cons pe_str pa_nil)) pa_nil)) pa_nil)))))))) (pg_name (i := 4) scBd.nd rfl (.inl rfl)) (pss_one (ps_expr (pe_bm PySem.F.plainAttrs_list PySem.F.slot_list_append PySem.F.type_list_append mt_append (pv 2) (pa_cons (pe_tup (pa_cons pe_str (pa_cons (pv 4) pa_nil))) pa_nil)))))
      (pss_cons (ps_set (i := 2) scBd.nd rfl (.inl rfl) (pe_op op_cat (pv 2) (pe_lst (pa_cons (pe_tup (pa_cons pe_str (pa_cons (pe_tup (pa_cons (pe_tup (pa_cons pe_str (pa_cons pe_bl pa_nil))) pa_nil)) pa_nil))) (pa_cons (pe_tup (pa_cons pe_str (pa_cons (pe_tup (pa_cons (pe_tup (pa_cons pe_str (pa_cons (pe_un un_neg pe_int) pa_nil))) pa_nil)) pa_nil))) (pa_cons (pe_tup (pa_cons pe_str (pa_cons (pe_tup (pa_cons (pe_tup (pa_cons pe_str (pa_cons pe_int pa_nil))) pa_nil)) pa_nil))) pa_nil))))))
      (pss_cons (ps_set (i := 2) scBd.nd rfl (.inl rfl) (pe_op op_cat (pv 2) (pe_lst (pa_cons (pe_tup (pa_cons pe_str (pa_cons (pe_tup (pa_cons pe_str (pa_cons pe_str pa_nil))) pa_nil))) (pa_cons (pe_tup (pa_cons pe_str (pa_cons (pe_tup (pa_cons pe_str (pa_cons (pe_tup (pa_cons (pe_tup (pa_cons pe_str (pa_cons pe_str pa_nil))) pa_nil)) pa_nil))) pa_nil))) (pa_cons (pe_tup (pa_cons pe_str (pa_cons (pe_tup (pa_cons pe_str (pa_cons (pe_tup (pa_cons (pe_tup (pa_cons pe_str (pa_cons pe_int pa_nil))) pa_nil)) pa_nil))) pa_nil))) pa_nil))))))
      (pss_cons (ps_set (i := 2) scBd.nd rfl (.inl rfl) (pe_op op_cat (pv 2) (pe_lst (pa_cons (pe_tup (pa_cons pe_str (pa_cons (pe_tup (pa_cons pe_str (pa_cons (pe_tup (pa_cons (pe_tup (pa_cons pe_str (pa_cons pe_str pa_nil))) pa_nil)) pa_nil))) pa_nil))) (pa_cons (pe_tup (pa_cons pe_str (pa_cons (pe_tup (pa_cons pe_str (pa_cons pe_str pa_nil))) pa_nil))) (pa_cons (pe_tup (pa_cons pe_str (pa_cons (pv 1) pa_nil))) (pa_cons (pe_tup (pa_cons pe_str (pa_cons (pe_lst (pa_cons (pv 0) pa_nil)) pa_nil))) pa_nil)))))))
      (pss_cons (ps_set (i := 2) scBd.nd rfl (.inl rfl) (pe_op op_cat (pv 2) (pe_lst (pa_cons (pe_tup (pa_cons pe_str (pa_cons (pv 0) pa_nil))) (pa_cons (pe_tup (pa_cons pe_str (pa_cons (pe_tup (pa_cons (pv 0) (pa_cons pe_non pa_nil))) pa_nil))) (pa_cons (pe_tup (pa_cons pe_str (pa_cons (pv 0) (pa_cons (pv 0) pa_nil)))) (pa_cons (pe_tup (pa_cons pe_str pa_nil)) (pa_cons (pe_tup (pa_cons pe_str (pa_cons (pe_tup pa_nil) pa_nil))) pa_nil))))))))
      (pss_cons (ps_set (i := 2) scBd.nd rfl (.inl rfl) (pe_op op_cat (pv 2) (pe_lst (pa_cons (pe_tup (pa_cons pe_str (pa_cons (pe_tup (pa_cons (pe_tup (pa_cons pe_str (pa_cons (pv 0) pa_nil))) (pa_cons (pe_tup (pa_cons pe_str (pa_cons (pv 1) pa_nil))) pa_nil))) pa_nil))) (pa_cons (pe_tup (pa_cons pe_str (pa_cons (pe_tup (pa_cons (pe_tup (pa_cons pe_str (pa_cons (pv 0) pa_nil))) pa_nil)) pa_nil))) (pa_cons (pe_tup (pa_cons pe_str (pa_cons (pe_tup (pa_cons (pe_tup (pa_cons (pv 0) pa_nil)) pa_nil)) pa_nil))) pa_nil))))))
      (pss_cons (ps_set (i := 2) scBd.nd rfl (.inl rfl) (pe_op op_cat (pv 2) (pe_lst (pa_cons (pe_tup (pa_cons pe_str (pa_cons (pe_tup (pa_cons (pe_tup (pa_cons pe_str pa_nil)) pa_nil)) pa_nil))) (pa_cons (pe_tup (pa_cons pe_str (pa_cons (pe_tup (pa_cons (pe_tup (pa_cons pe_str (pa_cons pe_non pa_nil))) pa_nil)) pa_nil))) (pa_cons (pe_tup (pa_cons pe_str (pa_cons (pe_lst (pa_cons (pe_tup (pa_cons pe_str (pa_cons (pv 0) pa_nil))) pa_nil)) pa_nil))) (pa_cons (pe_tup (pa_cons pe_str (pa_cons (pv 0) pa_nil))) pa_nil)))))))
      (pss_cons (ps_set (i := 2) scBd.nd rfl (.inl rfl) (pe_op op_cat (pv 2) (pe_lst (pa_cons (pe_tup (pa_cons pe_str (pa_cons (pv 0) (pa_cons (pe_tup (pa_cons pe_str pa_nil)) pa_nil)))) (pa_cons (pe_tup (pa_cons pe_str (pa_cons (pv 0) (pa_cons (pe_tup (pa_cons pe_str (pa_cons (pe_tup (pa_cons (pv 1) pa_nil)) pa_nil))) pa_nil)))) (pa_cons (pe_tup (pa_cons pe_str (pa_cons pe_non (pa_cons pe_non pa_nil)))) pa_nil))))))
      (pss_cons (ps_set (i := 2) scBd.nd rfl (.inl rfl) (pe_op op_cat (pv 2) (pe_lst (pa_cons (pe_tup (pa_cons pe_str (pa_cons (pv 0) (pa_cons (pv 1) (pa_cons (pv 1) pa_nil))))) (pa_cons (pe_tup (pa_cons pe_str (pa_cons pe_str (pa_cons (pv 0) pa_nil)))) (pa_cons (pe_tup (pa_cons pe_str (pa_cons (pv 0) (pa_cons pe_str pa_nil)))) (pa_cons (pe_tup (pa_cons pe_str (pa_cons pe_str (pa_cons pe_non pa_nil)))) pa_nil)))))))
      (pss_cons (ps_set (i := 2) scBd.nd rfl (.inl rfl) (pe_op op_cat (pv 2) (pe_lst (pa_cons (pe_tup (pa_cons pe_str (pa_cons (pv 0) (pa_cons (pe_tup pa_nil) pa_nil)))) (pa_cons (pe_tup (pa_cons pe_str (pa_cons (pv 0) (pa_cons (pe_tup (pa_cons (pe_tup (pa_cons pe_int (pa_cons pe_int pa_nil))) pa_nil)) pa_nil)))) (pa_cons (pe_tup (pa_cons pe_str (pa_cons (pv 0) (pa_cons (pe_tup (pa_cons (pe_tup (pa_cons pe_int (pa_cons pe_int pa_nil))) (pa_cons (pe_tup (pa_cons pe_int (pa_cons pe_int pa_nil))) pa_nil))) pa_nil)))) pa_nil))))))
      (pss_cons (ps_set (i := 2) scBd.nd rfl (.inl rfl) (pe_op op_cat (pv 2) (pe_lst (pa_cons (pe_tup (pa_cons pe_str (pa_cons (pv 0) (pa_cons (pe_tup (pa_cons (pe_tup (pa_cons pe_int (pa_cons pe_int (pa_cons pe_int pa_nil)))) pa_nil)) pa_nil)))) (pa_cons (pe_tup (pa_cons pe_str (pa_cons (pv 0) (pa_cons (pe_tup (pa_cons (pe_tup (pa_cons pe_int (pa_cons pe_non pa_nil))) pa_nil)) pa_nil)))) (pa_cons (pe_tup (pa_cons pe_str (pa_cons (pv 0) (pa_cons (pe_lst (pa_cons (pe_tup (pa_cons pe_int (pa_cons pe_int pa_nil))) pa_nil)) pa_nil)))) pa_nil))))))
      (pss_cons (ps_set (i := 2) scBd.nd rfl (.inl rfl) (pe_op op_cat (pv 2) (pe_lst (pa_cons (pe_tup (pa_cons pe_str (pa_cons pe_str pa_nil))) (pa_cons (pe_tup (pa_cons pe_str (pa_cons pe_str pa_nil))) (pa_cons (pe_tup (pa_cons pe_str (pa_cons pe_str pa_nil))) (pa_cons (pe_tup (pa_cons pe_str pa_nil)) (pa_cons (pe_tup (pa_cons pe_str (pa_cons pe_str (pa_cons pe_str pa_nil)))) pa_nil))))))))
      (pss_one (ps_ret (pe_op op_cat (pv 2) (pe_lst (pa_cons (pe_tup (pa_cons pe_str (pa_cons (pv 0) pa_nil))) pa_nil)))))))))))))))))))))), ?_⟩
    refine seq_set (litX_run M (.tup [.str "text", .str "x"]) (by simp only [LX.te, LX.ta]) (ρ := fun _ => .non) (by decide +kernel) hm (fun i m => by simp [LX.vars, LX.varss] at m) fun vb H1 rb k1 => ?_)
    have rb : Rq (cut M H1) vb bareX := rb
    have rv1 := rv.tl (tl2_c0 (M := M) k1)
    have hm1 := ne_kp hm k1
    have q : ∀ (l : Addr) (us : List V) (H' : Hp), BdAt M H1 H' l us (bads g) → Q (.ref l) H' := fun l us H' B => q l us H' ⟨k1.trans B.k, none_back k1 (fun z => z) B.n, B.e, B.r⟩
    clear rv hm k1
    refine seq_set (litXL_run M bd0 (by simp only [bd0, LX.te, LX.ta]) (ρ := rhoB g "" .non) (by decide +kernel) (by decide) hm1 (fun i m => by simp [LX.vars, LX.varss] at m) fun l vs H2 e n r k => ?_)
    have B : BdAt M H1 H2 l vs (es0 g) := ⟨k, n, e, r⟩
    clear e n r k
    -- for word in (..)
    refine seq_for ?_
    refine it_ok (litX_run M (.tup [.str "sign", .str "word"]) (by simp only [LX.te, LX.ta]) (ρ := fun _ => .non) (by decide +kernel) (ne_kp hm1 B.k) (fun i m => by simp [LX.vars, LX.varss] at m) fun vw H3 rw3 k3 => ?_)
    have B := B.kp k3
    clear k3
    obtain ⟨aw, us, rfl, ew, rws⟩ := Rq.at_tup rw3
    obtain ⟨u1, u2, rfl, hu1, hu2⟩ := rws.two
    obtain rfl := hu1.strV
    obtain rfl := hu2.strV
    clear hu1 hu2 rws rw3
    refine ⟨aw, rfl, ⟨_, SqT.of ew⟩, ?_⟩
    refine for_tup (xs := [.str "sign", .str "word"]) (fun i σ H4 => ∃ (l : Addr) (vs : List V) (y3 : Option V), σ = [some v, some vb, some (.ref l), y3, none] ∧ Kp M0 H3 H4 ∧ BdAt M H1 H4 l vs (((["sign", "word"] : List Str).take i).foldl (fun acc w => acc ++ LX.dens (rhoB g w .non) bdA ++ LX.dens (rhoB g w .non) bdB) (es0 g))) ?_ ?_ ?_ ?_
    · exact ⟨l, vs, none, rfl, Kp.refl, B⟩
    · rintro i σ H4 _ ⟨_, _, _, _, k4, _⟩
      exact SqT.of (k4 _ _ (fun z => z) ew)
    · rintro i x σ H4 hx ⟨l, vs, y3, rfl, k4, B⟩
      have i2 : i = 0 ∨ i = 1 := by
        have := (List.getElem?_eq_some_iff.mp hx).1
        simp at this
        omega
      obtain ⟨w, ex, wl, ew2, elen⟩ : ∃ w : Str, x = .str w ∧ w.length ≤ sizeLine ∧ ((["sign", "word"] : List Str).take (i + 1)) = ((["sign", "word"] : List Str).take i) ++ [w] ∧ (((["sign", "word"] : List Str).take i).foldl (fun acc w => acc ++ LX.dens (rhoB g w .non) bdA ++ LX.dens (rhoB g w .non) bdB) (es0 g)).length ≤ 20 := by
        rcases i2 with rfl | rfl
        · exact ⟨"sign", (Option.some.inj hx).symm, by rw [sizeLine_eq]; decide +kernel, rfl, Nat.le_of_ble_eq_true rfl⟩
        · exact ⟨"word", (Option.some.inj hx).symm, by rw [sizeLine_eq]; decide +kernel, rfl, Nat.le_of_ble_eq_true rfl⟩
      subst ex
      rw [ew2, List.foldl_append]
      show _
      generalize ((["sign", "word"] : List Str).take i).foldl (fun acc w => acc ++ LX.dens (rhoB g w .non) bdA ++ LX.dens (rhoB g w .non) bdB) (es0 g) = es at B elen ⊢
      refine seq_set (bd_step bdA (by simp only [bdA, LX.te, LX.ta]) (w := w) (p := .non) hm1 rv1 rb B (by decide +kernel) (by show es.length + 4 ≤ 1000; omega) (fun i m => by simp [LX.vars, LX.varss] at m; omega) rfl rfl rfl (fun i _ _ => ⟨rfl, wl⟩) fun l' vs' H5 B5 k5 => ?_)
      refine one_set (bd_step bdB (by simp only [bdB, LX.te, LX.ta]) (w := w) (p := .non) hm1 rv1 rb B5 (by decide +kernel) (by rw [List.length_append, LX.dens_len]; show es.length + 4 + 3 ≤ 1000; omega) (fun i m => by simp [LX.vars, LX.varss] at m; omega) rfl rfl rfl (fun i _ _ => ⟨rfl, wl⟩) fun l2 vs2 H6 B6 k6 => ?_)
      exact ⟨l2, vs2, _, rfl, (k4.trans k5).trans k6, B6⟩
    clear B
    rintro σ H4 ⟨l, vs, y3, rfl, k4, B⟩
    have B : BdAt M H1 H4 l vs (es1 g) := B
    clear k4 ew
    refine seq_set (bd_step bd1 (by simp only [bd1, LX.te, LX.ta]) (w := "") (p := .non) hm1 rv1 rb B (by decide +kernel) (Nat.le_of_ble_eq_true rfl) (fun i m => by simp [LX.vars, LX.varss] at m; omega) rfl rfl rfl (fun i m e => by simp [LX.vars, LX.varss] at m; omega) fun l5 vs5 H5 B5 _ => ?_)
    refine seq_set (bd_step bd2 (by simp only [bd2, LX.te, LX.ta]) (w := "") (p := .non) hm1 rv1 rb B5 (by decide +kernel) (Nat.le_of_ble_eq_true rfl) (fun i m => by simp [LX.vars, LX.varss] at m) rfl rfl rfl (fun i m e => by simp [LX.vars, LX.varss] at m) fun l6 vs6 H6 B6 _ => ?_)
    clear B B5
    have B6 : BdAt M H1 H6 l6 vs6 (es2 g) := B6
    -- for pairs in [..]
    refine seq_for ?_
    refine il_ok (litXL_run (fun b => M b ∨ b = l6) bdP (by simp only [bdP, LX.te, LX.ta]) (ρ := rhoB g "" .non) (by decide +kernel) (by decide) (hide_ok hm1 B6.k B6.e) (fun i m => by simp [LX.vars, LX.varss] at m) fun lp ws H7 ep np rp k7 => ?_)
    have B7 := B6.kp k7
    have nlp : l6 ≠ lp := ne_of_none B6.e np
    clear B6 k7 np
    have wl : ws.length = 6 := rp.len
    refine ⟨lp, rfl, ⟨_, SqL.of ep⟩, ?_⟩
    refine for_list (xs := ws) (fun i σ H8 => ∃ (vs : List V) (y4 : Option V), σ = [some v, some vb, some (.ref l6), y3, y4] ∧ H8 lp = some (.lst ws) ∧ Rqs (cut (fun b => (M b ∨ b = l6) ∨ b = lp) H8) ws (dnB g bdP) ∧ BdAt M H1 H8 l6 vs (es2 g ++ ((dnB g bdP).take i).map fun p => .tup [.str "pick", p])) ?_ ?_ ?_ ?_
    · exact ⟨vs6, none, rfl, ep, rp, by rw [List.take_zero, List.map_nil, List.append_nil]; exact B7⟩
    · rintro i σ H8 _ ⟨_, _, _, ep, _⟩
      exact SqL.of ep
    · rintro i x σ H8 hx ⟨vs, y4, rfl, ep8, rp8, B8⟩
      obtain ⟨d, hd, rd⟩ := rp8.get i x hx
      have hi : i < 6 := by
        rw [← wl]
        exact (List.getElem?_eq_some_iff.mp hx).1
      refine ⟨_, rfl, .inl ⟨rfl, _, SqL.of B8.e⟩, ?_⟩
      refine litXs_run (fun b => M b ∨ b = l6) [.tup [.str "pick", .var 4]] (by simp only [LX.te, LX.ta]) (ρ := rhoB g "" d) (by decide +kernel) (hide_ok hm1 B8.k B8.e) (fun i m => ?_) fun us H9 ru k9 => ?_
      · have e : i = 4 := by simpa [LX.vars, LX.varss] using m
        subst e
        exact ⟨x, rfl, rd.tl (tl2_mono fun b m => .inl m)⟩
      obtain ⟨y, rfl, ry⟩ := ru.one
      have B9 := B8.kp k9
      have vl := B9.r.len
      have esl : (es2 g).length ≤ 40 := Nat.le_of_ble_eq_true rfl
      refine ⟨l6, vs, y, rfl, rfl, B9.e, ?_, ?_⟩
      · rw [vl, List.length_append, List.length_map, List.length_take, sizeLine_eq]
        have := Nat.min_le_left i (dnB g bdP).length
        omega
      · have kl : Kp (fun b => b = l6) H9 (upd H9 l6 (.lst (vs ++ [y]))) := Kp.put rfl
        refine ⟨_, _, rfl, by rw [upd_ne nlp.symm]; exact k9 _ _ (fun z => z) ep8, (rp8.tl (tl2_c0 k9)).tl (tl2_kp (fun b m => .inl (.inr m)) kl), ⟨fun b o z e => ?_, B9.n, upd_same, ?_⟩⟩
        · rw [upd_ne (ne_of_none e B9.n)]
          exact B9.k b o z e
        · rw [List.take_add_one, hd, List.map_append, ← List.append_assoc]
          exact (B9.r.app (.cons ry .nil)).tl (tl2_kp (fun b m => .inr m) kl)
    clear B7 ep rp
    rintro σ H8 ⟨vs, y4, rfl, _, _, B⟩
    rw [wl] at B
    have B : BdAt M H1 H8 l6 vs (es3 g) := B
    refine seq_set (bd_step bd3 (by simp only [bd3, LX.te, LX.ta]) (w := "") (p := .non) hm1 rv1 rb B (by decide +kernel) (by simp only [List.length_append, LX.dens_len, es3_len]; decide) (fun i m => by simp [LX.vars, LX.varss] at m; try omega) rfl rfl rfl (fun i m e => by simp [LX.vars, LX.varss] at m; try omega) fun m0 us0 G0 C0 _ => ?_)
    refine seq_set (bd_step bd4 (by simp only [bd4, LX.te, LX.ta]) (w := "") (p := .non) hm1 rv1 rb C0 (by decide +kernel) (by simp only [List.length_append, LX.dens_len, es3_len]; decide) (fun i m => by simp [LX.vars, LX.varss] at m; try omega) rfl rfl rfl (fun i m e => by simp [LX.vars, LX.varss] at m; try omega) fun m1 us1 G1 C1 _ => ?_)
    refine seq_set (bd_step bd5 (by simp only [bd5, LX.te, LX.ta]) (w := "") (p := .non) hm1 rv1 rb C1 (by decide +kernel) (by simp only [List.length_append, LX.dens_len, es3_len]; decide) (fun i m => by simp [LX.vars, LX.varss] at m; try omega) rfl rfl rfl (fun i m e => by simp [LX.vars, LX.varss] at m; try omega) fun m2 us2 G2 C2 _ => ?_)
    refine seq_set (bd_step bd6 (by simp only [bd6, LX.te, LX.ta]) (w := "") (p := .non) hm1 rv1 rb C2 (by decide +kernel) (by simp only [List.length_append, LX.dens_len, es3_len]; decide) (fun i m => by simp [LX.vars, LX.varss] at m; try omega) rfl rfl rfl (fun i m e => by simp [LX.vars, LX.varss] at m; try omega) fun m3 us3 G3 C3 _ => ?_)
    refine seq_set (bd_step bd7 (by simp only [bd7, LX.te, LX.ta]) (w := "") (p := .non) hm1 rv1 rb C3 (by decide +kernel) (by simp only [List.length_append, LX.dens_len, es3_len]; decide) (fun i m => by simp [LX.vars, LX.varss] at m; try omega) rfl rfl rfl (fun i m e => by simp [LX.vars, LX.varss] at m; try omega) fun m4 us4 G4 C4 _ => ?_)
    refine seq_set (bd_step bd8 (by simp only [bd8, LX.te, LX.ta]) (w := "") (p := .non) hm1 rv1 rb C4 (by decide +kernel) (by simp only [List.length_append, LX.dens_len, es3_len]; decide) (fun i m => by simp [LX.vars, LX.varss] at m; try omega) rfl rfl rfl (fun i m e => by simp [LX.vars, LX.varss] at m; try omega) fun m5 us5 G5 C5 _ => ?_)
    refine seq_set (bd_step bd9 (by simp only [bd9, LX.te, LX.ta]) (w := "") (p := .non) hm1 rv1 rb C5 (by decide +kernel) (by simp only [List.length_append, LX.dens_len, es3_len]; decide) (fun i m => by simp [LX.vars, LX.varss] at m; try omega) rfl rfl rfl (fun i m e => by simp [LX.vars, LX.varss] at m; try omega) fun m6 us6 G6 C6 _ => ?_)
    refine seq_set (bd_step bd10 (by simp only [bd10, LX.te, LX.ta]) (w := "") (p := .non) hm1 rv1 rb C6 (by decide +kernel) (by simp only [List.length_append, LX.dens_len, es3_len]; decide) (fun i m => by simp [LX.vars, LX.varss] at m; try omega) rfl rfl rfl (fun i m e => by simp [LX.vars, LX.varss] at m; try omega) fun m7 us7 G7 C7 _ => ?_)
    refine seq_set (bd_step bd11 (by simp only [bd11, LX.te, LX.ta]) (w := "") (p := .non) hm1 rv1 rb C7 (by decide +kernel) (by simp only [List.length_append, LX.dens_len, es3_len]; decide) (fun i m => by simp [LX.vars, LX.varss] at m; try omega) rfl rfl rfl (fun i m e => by simp [LX.vars, LX.varss] at m; try omega) fun m8 us8 G8 C8 _ => ?_)
    refine seq_set (bd_step bd12 (by simp only [bd12, LX.te, LX.ta]) (w := "") (p := .non) hm1 rv1 rb C8 (by decide +kernel) (by simp only [List.length_append, LX.dens_len, es3_len]; decide) (fun i m => by simp [LX.vars, LX.varss] at m; try omega) rfl rfl rfl (fun i m e => by simp [LX.vars, LX.varss] at m; try omega) fun m9 us9 G9 C9 _ => ?_)
    refine seq_set (bd_step bd13 (by simp only [bd13, LX.te, LX.ta]) (w := "") (p := .non) hm1 rv1 rb C9 (by decide +kernel) (by simp only [List.length_append, LX.dens_len, es3_len]; decide) (fun i m => by simp [LX.vars, LX.varss] at m; try omega) rfl rfl rfl (fun i m e => by simp [LX.vars, LX.varss] at m; try omega) fun m10 us10 G10 C10 _ => ?_)
    refine one_ret (bd_step bdZ (by simp only [bdZ, LX.te, LX.ta]) (w := "") (p := .non) hm1 rv1 rb C10 (by decide +kernel) (by simp only [List.length_append, LX.dens_len, es3_len]; decide) (fun i m => by simp [LX.vars, LX.varss] at m; try omega) rfl rfl rfl (fun i m e => by simp [LX.vars, LX.varss] at m; try omega) fun m us G C _ => q _ _ _ C)
end
end RT

set_option maxHeartbeats 1000000
/-! none of the law's bad forms is a form -/
namespace RT
open PySem PySem.Spec PyProof.Rows L2
theorem hs_no {n : Nat} {W : Str} {ds : List Dx} (h : (W, ds.length + 1) ∉ words) : hs (n + 1) (.tup (.str W :: ds)) = false := by
  show (decide _ && _) = false
  rw [decide_eq_false h]
  rfl
theorem hs_sh {n : Nat} {W : Str} {ds : List Dx} (h : shp (hs n) W ds = false) : hs (n + 1) (.tup (.str W :: ds)) = false := by
  show (_ && _) = false
  rw [h, Bool.and_false]
theorem hs_yes {n : Nat} {W : Str} {ds : List Dx} (m : (W, ds.length + 1) ∈ words) (h : shp (hs n) W ds = true) : hs (n + 1) (.tup (.str W :: ds)) = true := by
  show (decide _ && _) = true
  rw [h, decide_eq_true m]
  rfl
section
variable {g : Dx → Bool} {ds : List Dx}
theorem shp_text : shp g "text" ds = (a1 ds).to := by
  unfold shp; rw [if_pos (by decide +kernel)]
theorem shp_counted : shp g "counted" ds = (a1 ds).to := by
  unfold shp; rw [if_pos (by decide +kernel)]
theorem shp_skip : shp g "skip" ds = true := by
  unfold shp; rw [if_neg (by decide +kernel), if_pos (by decide +kernel)]
theorem shp_number : shp g "number" ds = true := by
  unfold shp; rw [if_neg (by decide +kernel), if_pos (by decide +kernel)]
theorem shp_sign : shp g "sign" ds = (a1 ds).se := by
  unfold shp; rw [if_neg (by decide +kernel), if_neg (by decide +kernel), if_pos (by decide +kernel)]
theorem shp_word : shp g "word" ds = (a1 ds).se := by
  unfold shp; rw [if_neg (by decide +kernel), if_neg (by decide +kernel), if_pos (by decide +kernel)]
theorem shp_spelt : shp g "spelt" ds = spB g (a1 ds) := by
  unfold shp; rw [if_neg (by decide +kernel), if_neg (by decide +kernel), if_neg (by decide +kernel), if_neg (by decide +kernel), if_pos rfl]
theorem shp_row : shp g "row" ds = (a1 ds).isT := by
  unfold shp; rw [if_neg (by decide +kernel), if_neg (by decide +kernel), if_neg (by decide +kernel), if_neg (by decide +kernel), if_neg (by decide +kernel), if_pos rfl]
theorem shp_either : shp g "either" ds = eiB (a1 ds) := by
  unfold shp; rw [if_neg (by decide +kernel), if_neg (by decide +kernel), if_neg (by decide +kernel), if_neg (by decide +kernel), if_neg (by decide +kernel), if_neg (by decide +kernel), if_pos rfl]
theorem shp_again : shp g "again" ds = agB g (a2 ds) := by
  unfold shp; rw [if_neg (by decide +kernel), if_neg (by decide +kernel), if_neg (by decide +kernel), if_neg (by decide +kernel), if_neg (by decide +kernel), if_neg (by decide +kernel), if_neg (by decide +kernel), if_pos rfl]
theorem shp_turned : shp g "turned" ds = tuB (a2 ds) := by
  unfold shp; rw [if_neg (by decide +kernel), if_neg (by decide +kernel), if_neg (by decide +kernel), if_neg (by decide +kernel), if_neg (by decide +kernel), if_neg (by decide +kernel), if_neg (by decide +kernel), if_neg (by decide +kernel), if_pos rfl]
theorem shp_named : shp g "named" ds = (a1 ds).nm := by
  unfold shp; rw [if_neg (by decide +kernel), if_neg (by decide +kernel), if_neg (by decide +kernel), if_neg (by decide +kernel), if_neg (by decide +kernel), if_neg (by decide +kernel), if_neg (by decide +kernel), if_neg (by decide +kernel), if_neg (by decide +kernel)]
end
theorem lm_of {n : Nat} {W : Str} {ds : List Dx} (h1 : W = "pick" ∨ W = "either" → Few ds) (h2 : W = "spelt" → lm n (a1 ds)) (h3 : W = "again" → lm n (a2 ds)) (h4 : W = "turned" → Small (a2 ds)) : lm (n + 1) (.tup (.str W :: ds)) := ⟨h1, h2, h3, h4⟩
theorem lm_plain {n : Nat} {W : Str} {ds : List Dx} (h : W ∉ (["pick", "either", "spelt", "again", "turned"] : List Str)) : lm (n + 1) (.tup (.str W :: ds)) := by
  simp only [List.mem_cons, List.not_mem_nil, or_false, not_or] at h
  exact ⟨fun z => z.elim (fun z => absurd z h.1) (fun z => absurd z h.2.1), fun z => absurd z h.2.2.1, fun z => absurd z h.2.2.2.1, fun z => absurd z h.2.2.2.2⟩
theorem lm_few {n : Nat} {W : Str} {ds : List Dx} (h : W = "pick" ∨ W = "either") (f : Few ds) : lm (n + 1) (.tup (.str W :: ds)) := by
  rcases h with rfl | rfl
  · exact ⟨fun _ => f, fun z => absurd z (by decide +kernel), fun z => absurd z (by decide +kernel), fun z => absurd z (by decide +kernel)⟩
  · exact ⟨fun _ => f, fun z => absurd z (by decide +kernel), fun z => absurd z (by decide +kernel), fun z => absurd z (by decide +kernel)⟩
theorem lm_spelt {n : Nat} {ds : List Dx} (h : lm n (a1 ds)) : lm (n + 1) (.tup (.str "spelt" :: ds)) := ⟨fun z => absurd z (by decide +kernel), fun _ => h, fun z => absurd z (by decide +kernel), fun z => absurd z (by decide +kernel)⟩
theorem lm_again {n : Nat} {ds : List Dx} (h : lm n (a2 ds)) : lm (n + 1) (.tup (.str "again" :: ds)) := ⟨fun z => absurd z (by decide +kernel), fun z => absurd z (by decide +kernel), fun _ => h, fun z => absurd z (by decide +kernel)⟩
theorem lm_turned {n : Nat} {ds : List Dx} (h : Small (a2 ds)) : lm (n + 1) (.tup (.str "turned" :: ds)) := ⟨fun z => absurd z (by decide +kernel), fun z => absurd z (by decide +kernel), fun z => absurd z (by decide +kernel), fun _ => h⟩
theorem all_no {l : List Dx} {e : Dx} (m : e ∈ l) (h : foB e = false) (z : l.all foB = true) : False := by
  have := List.all_eq_true.mp z e m
  rw [h] at this
  cases this
structure Bad (g d : Dx) : Prop where
  no : foB d = false
  lim : Lim d
  size : d.size ≤ 2 * g.size + 60
theorem bad_sh {g d : Dx} (h : hs 3 d = false) (l : lm 3 d) (s : d.size ≤ 2 * g.size + 60) : Bad g d := ⟨by rw [foB_eq, h]; rfl, .mk l fun z => (by rw [h] at z; cases z), s⟩
theorem bad_in {g d e : Dx} (m : e ∈ d.inn) (h : foB e = false) (l : lm 3 d) (li : ∀ e ∈ d.inn, Lim e) (s : d.size ≤ 2 * g.size + 60) : Bad g d := by
  have a : d.inn.all foB = false := Bool.eq_false_iff.mpr fun z => all_no m h z
  refine ⟨?_, .mk l fun _ => li, s⟩
  rw [foB_eq, a, Bool.and_false]
theorem no_shape {d : Dx} (h : hs 3 d = false) : foB d = false := by rw [foB_eq, h]; rfl
theorem lim_none : Lim .non := .mk True.intro fun z => by cases z
def AllB (g : Dx) : List Dx → Prop
  | [] => True
  | d :: r => Bad g d ∧ AllB g r
theorem AllB.mem {g : Dx} : ∀ {l : List Dx}, AllB g l → ∀ d ∈ l, Bad g d
  | _ :: _, h, d, m => by
    rcases List.mem_cons.mp m with rfl | m
    · exact h.1
    · exact AllB.mem h.2 d m
theorem AllB.app {g : Dx} : ∀ {l m : List Dx}, AllB g l → AllB g m → AllB g (l ++ m)
  | [], _, _, h => h
  | _ :: _, _, h, k => ⟨h.1, AllB.app h.2 k⟩
/-- what is written out -/
theorem bad_c {g d : Dx} (h : hs 3 d = false) (l : lm 3 d) (s : d.size ≤ 60) : Bad g d := bad_sh h l (by omega)
theorem foB_non : foB .non = false := no_shape rfl
theorem inn_skip {x : Dx} : (Dx.tup [.str "skip", x]).inn = [x] := by
  show innW _ _ = _
  unfold innW
  rw [if_pos (by decide +kernel)]
  rfl
theorem inn_spelt {x : Dx} : (Dx.tup [.str "spelt", x]).inn = [x] := by
  show innW _ _ = _
  unfold innW
  rw [if_pos (by decide +kernel)]
  rfl
theorem Dx.se_str {d : Dx} (h : d.se = true) : ∃ z, d = .str z := by
  cases d with
  | str z => exact ⟨z, rfl⟩
  | _ => cases h
theorem inn_row {x : Dx} : (Dx.tup [.str "row", x]).inn = x.items := by
  show innW _ _ = _
  unfold innW
  rw [if_neg (by decide +kernel), if_pos rfl]
  rfl
theorem inn_either {x : Dx} : (Dx.tup [.str "either", x]).inn = x.items.map Dx.f1 := by
  show innW _ _ = _
  unfold innW
  rw [if_neg (by decide +kernel), if_neg (by decide +kernel), if_pos rfl]
  rfl
theorem inn_again {x y : Dx} : (Dx.tup [.str "again", x, y]).inn = if y.isN then [x] else [x, y] := by
  show innW _ _ = _
  unfold innW
  rw [if_neg (by decide +kernel), if_neg (by decide +kernel), if_neg (by decide +kernel), if_pos rfl]
  rfl
theorem inn_counted {x y : Dx} : (Dx.tup [.str "counted", x, y]).inn = [y] := by
  show innW _ _ = _
  unfold innW
  rw [if_neg (by decide +kernel), if_neg (by decide +kernel), if_neg (by decide +kernel), if_neg (by decide +kernel), if_pos rfl]
  rfl
theorem inn_turned {x y : Dx} : (Dx.tup [.str "turned", x, y]).inn = [x] := by
  show innW _ _ = _
  unfold innW
  rw [if_pos (by decide +kernel)]
  rfl
theorem small_c {y : Dx} (h1 : y.items.length ≤ 60) (h2 : y.size ≤ 100000) (h3 : (flx y.items).all (fun d => decide (d.size ≤ 20)) = true) : Small y := ⟨h1, h2, fun d m => of_decide_eq_true (List.all_eq_true.mp h3 d m)⟩
theorem tu_like {y : Dx} (h : ¬ (flx y.items).Nodup) : tuB y = false := by
  have a : ∀ i : Decidable (flx y.items).Nodup, @decide _ i = false := fun i => decide_eq_false h
  unfold tuB
  rw [a, Bool.and_false, Bool.and_false]
theorem one_of {ds : List Dx} {n : Nat} (l : ds.length + 1 = n) (h : n = 2) : ∃ x, ds = [x] := by
  match ds with
  | [x] => exact ⟨x, rfl⟩
  | [] => simp at l; omega
  | _ :: _ :: _ => simp at l; omega
theorem two_of {ds : List Dx} {n : Nat} (l : ds.length + 1 = n) (h : n = 3) : ∃ x y, ds = [x, y] := by
  match ds with
  | [x, y] => exact ⟨x, y, rfl⟩
  | [] => simp at l; omega
  | [_] => simp at l; omega
  | _ :: _ :: _ :: _ => simp at l; omega
structure GoodG (g : Dx) : Prop where
  yes : foB g = true
  lim : Lim g
theorem GoodG.top {g : Dx} (G : GoodG g) : hs 3 g = true := by
  have := G.yes
  rw [foB_eq] at this
  exact (Bool.and_eq_true_iff.mp this).1
theorem GoodG.notS {g : Dx} (G : GoodG g) : g.to = false := by
  obtain ⟨m, W, ds, _, rfl, _, _⟩ := hs_tup G.top
  rfl
/-- whatever stands in a form is within the bounds -/
theorem lim_ap {y : Dx} (h : y.ap = true) : Lim y := by
  obtain ⟨ds, rfl, hne, hps⟩ := y.ap_tup h
  cases ds with
  | nil => exact absurd rfl hne
  | cons p r =>
    obtain ⟨x, z, rfl⟩ := hps p (List.mem_cons_self ..)
    exact .mk True.intro fun z => by cases z
theorem lim_str {z : Str} : Lim (.str z) := .mk True.intro fun z => by cases z
theorem GoodG.parts {W : Str} {ds : List Dx} (G : GoodG (.tup (.str W :: ds))) : ∀ e ∈ (Dx.str W :: ds), Lim e := by
  have hi := G.lim.inn G.top
  have hf := G.yes
  rw [foB_eq] at hf
  obtain ⟨hh, hal⟩ := Bool.and_eq_true_iff.mp hf
  obtain ⟨m, W', ds', e0, e1, hm, hb⟩ := hs_tup hh
  cases e1
  have e0 : m = 2 := by omega
  subst e0
  intro e me
  rcases List.mem_cons.mp me with rfl | md
  · exact lim_str
  clear me
  simp only [words, List.mem_cons, List.not_mem_nil, or_false, Prod.mk.injEq] at hm
  rcases hm with ⟨rfl, l⟩ | ⟨rfl, l⟩ | ⟨rfl, l⟩ | ⟨rfl, l⟩ | ⟨rfl, l⟩ | ⟨rfl, l⟩ | ⟨rfl, l⟩ | ⟨rfl, l⟩ | ⟨rfl, l⟩ | ⟨rfl, l⟩ | ⟨rfl, l⟩ | ⟨rfl, l⟩ | ⟨rfl, l⟩
  · obtain ⟨x, rfl⟩ := one_of l rfl
    rw [shp_text] at hb
    obtain ⟨z, ez⟩ := Dx.to_str hb
    rw [List.mem_singleton.mp md, show x = .str z from ez]
    exact lim_str
  · obtain ⟨x, rfl⟩ := one_of l rfl
    rw [inn_skip] at hi
    exact hi e md
  · obtain ⟨x, rfl⟩ := one_of l rfl
    rw [shp_sign] at hb
    obtain ⟨z, ez⟩ := Dx.se_str hb
    rw [List.mem_singleton.mp md, show x = .str z from ez]
    exact lim_str
  · obtain ⟨x, rfl⟩ := one_of l rfl
    rw [shp_word] at hb
    obtain ⟨z, ez⟩ := Dx.se_str hb
    rw [List.mem_singleton.mp md, show x = .str z from ez]
    exact lim_str
  · have : ds = [] := List.eq_nil_of_length_eq_zero (by omega)
    rw [this] at md
    cases md
  · obtain ⟨x, rfl⟩ := one_of l rfl
    rw [shp_pick] at hb
    rw [List.mem_singleton.mp md]
    exact lim_ap (Bool.and_eq_true_iff.mp (show (x.ap && _) = true from hb)).1
  · obtain ⟨x, rfl⟩ := one_of l rfl
    rw [inn_spelt] at hi
    exact hi e md
  · obtain ⟨x, rfl⟩ := one_of l rfl
    rw [inn_row] at hi hal
    rw [shp_row] at hb
    rw [List.mem_singleton.mp md]
    have hb : x.isT = true := hb
    cases x with
    | tup es =>
      cases es with
      | nil => exact .mk True.intro fun z => by cases z
      | cons y r =>
        have hy : foB y = true := List.all_eq_true.mp hal y (List.mem_cons_self ..)
        have hy2 : hs 3 y = true := by
          rw [foB_eq] at hy
          exact (Bool.and_eq_true_iff.mp hy).1
        obtain ⟨m, W, ds, _, rfl, _, _⟩ := hs_tup hy2
        exact .mk True.intro fun z => by cases z
    | _ => cases hb
  · obtain ⟨x, rfl⟩ := one_of l rfl
    rw [shp_either] at hb
    rw [List.mem_singleton.mp md]
    exact lim_ap (Bool.and_eq_true_iff.mp (show (x.ap && _) = true from hb)).1
  · obtain ⟨x, y, rfl⟩ := two_of l rfl
    rw [inn_again] at hi
    by_cases hn : y.isN = true
    · rw [if_pos hn] at hi
      rcases List.mem_cons.mp md with rfl | md
      · exact hi _ (List.mem_singleton.mpr rfl)
      · rw [List.mem_singleton.mp md]
        cases y with
        | non => exact lim_none
        | _ => cases hn
    · rw [if_neg hn] at hi
      exact hi e md
  · obtain ⟨x, y, rfl⟩ := two_of l rfl
    rw [inn_counted] at hi
    rw [shp_counted] at hb
    rcases List.mem_cons.mp md with rfl | md
    · obtain ⟨z, ez⟩ := Dx.to_str (show e.to = true from hb)
      rw [ez]
      exact lim_str
    · exact hi e md
  · obtain ⟨x, y, rfl⟩ := two_of l rfl
    rw [inn_turned] at hi
    rw [shp_turned] at hb
    rcases List.mem_cons.mp md with rfl | md
    · exact hi _ (List.mem_singleton.mpr rfl)
    · rw [List.mem_singleton.mp md]
      exact lim_ap (Bool.and_eq_true_iff.mp (show (y.ap && _) = true from hb)).1
  · obtain ⟨x, rfl⟩ := one_of l rfl
    rw [shp_named] at hb
    obtain ⟨z, ez⟩ := Dx.nm_str hb
    rw [List.mem_singleton.mp md, show x = .str z from ez]
    exact lim_str
theorem bad_row {g : Dx} (G : GoodG g) : Bad g (.tup [.str "row", g]) := by
  obtain ⟨m, W, ds, _, rfl, _, _⟩ := hs_tup G.top
  refine bad_in (e := .str W) (by rw [inn_row]; exact List.mem_cons_self ..) (no_shape rfl) (lm_plain (by decide +kernel)) (fun e m => ?_) (by simp only [Dx.size, Dx.sizes]; omega)
  rw [inn_row] at m
  exact G.parts e m
end RT

set_option maxHeartbeats 1000000
namespace RT
open PySem PySem.Spec PyProof.Rows L2
theorem all_0 (g : Dx) (G : GoodG g) : AllB g (es0 g) := by
  show AllB g [.tup [.str "text", .str ""], .tup [.str "text"], .tup [.str "text", .str "a", .str "b"], .tup [.str "text", .int 1], .tup [.str "text", .str "\t"], .lst [.str "text", .str "a"], .tup [.str "text", .tup [.str "a"]]]
  exact ⟨(bad_c (d := .tup [.str "text", .str ""]) (by decide +kernel) (lm_plain (by decide +kernel)) (by decide +kernel)),
    (bad_c (d := .tup [.str "text"]) (by decide +kernel) (lm_plain (by decide +kernel)) (by decide +kernel)),
    (bad_c (d := .tup [.str "text", .str "a", .str "b"]) (by decide +kernel) (lm_plain (by decide +kernel)) (by decide +kernel)),
    (bad_c (d := .tup [.str "text", .int 1]) (by decide +kernel) (lm_plain (by decide +kernel)) (by decide +kernel)),
    (bad_c (d := .tup [.str "text", .str "\t"]) (by decide +kernel) (lm_plain (by decide +kernel)) (by decide +kernel)),
    (bad_c (d := .lst [.str "text", .str "a"]) (by decide +kernel) True.intro (by decide +kernel)),
    (bad_c (d := .tup [.str "text", .tup [.str "a"]]) (by decide +kernel) (lm_plain (by decide +kernel)) (by decide +kernel)), True.intro⟩
theorem all_sign (g : Dx) (G : GoodG g) : AllB g (wbads g "sign") := by
  show AllB g [.tup [.str "sign", .str ""], .tup [.str "sign", .str "ba"], .tup [.str "sign", .str "aa"], .tup [.str "sign", .tup [.str "a", .str "b"]], .tup [.str "sign"], .tup [.str "sign", .str "ab", .str "c"], .tup [.str "sign", .int 3]]
  exact ⟨(bad_c (d := .tup [.str "sign", .str ""]) (by decide +kernel) (lm_plain (by decide +kernel)) (by decide +kernel)),
    (bad_c (d := .tup [.str "sign", .str "ba"]) (by decide +kernel) (lm_plain (by decide +kernel)) (by decide +kernel)),
    (bad_c (d := .tup [.str "sign", .str "aa"]) (by decide +kernel) (lm_plain (by decide +kernel)) (by decide +kernel)),
    (bad_c (d := .tup [.str "sign", .tup [.str "a", .str "b"]]) (by decide +kernel) (lm_plain (by decide +kernel)) (by decide +kernel)),
    (bad_c (d := .tup [.str "sign"]) (by decide +kernel) (lm_plain (by decide +kernel)) (by decide +kernel)),
    (bad_c (d := .tup [.str "sign", .str "ab", .str "c"]) (by decide +kernel) (lm_plain (by decide +kernel)) (by decide +kernel)),
    (bad_c (d := .tup [.str "sign", .int 3]) (by decide +kernel) (lm_plain (by decide +kernel)) (by decide +kernel)), True.intro⟩
theorem all_word (g : Dx) (G : GoodG g) : AllB g (wbads g "word") := by
  show AllB g [.tup [.str "word", .str ""], .tup [.str "word", .str "ba"], .tup [.str "word", .str "aa"], .tup [.str "word", .tup [.str "a", .str "b"]], .tup [.str "word"], .tup [.str "word", .str "ab", .str "c"], .tup [.str "word", .int 3]]
  exact ⟨(bad_c (d := .tup [.str "word", .str ""]) (by decide +kernel) (lm_plain (by decide +kernel)) (by decide +kernel)),
    (bad_c (d := .tup [.str "word", .str "ba"]) (by decide +kernel) (lm_plain (by decide +kernel)) (by decide +kernel)),
    (bad_c (d := .tup [.str "word", .str "aa"]) (by decide +kernel) (lm_plain (by decide +kernel)) (by decide +kernel)),
    (bad_c (d := .tup [.str "word", .tup [.str "a", .str "b"]]) (by decide +kernel) (lm_plain (by decide +kernel)) (by decide +kernel)),
    (bad_c (d := .tup [.str "word"]) (by decide +kernel) (lm_plain (by decide +kernel)) (by decide +kernel)),
    (bad_c (d := .tup [.str "word", .str "ab", .str "c"]) (by decide +kernel) (lm_plain (by decide +kernel)) (by decide +kernel)),
    (bad_c (d := .tup [.str "word", .int 3]) (by decide +kernel) (lm_plain (by decide +kernel)) (by decide +kernel)), True.intro⟩
theorem all_1 (g : Dx) (G : GoodG g) : AllB g (dnB g bd1) := by
  show AllB g [.tup [.str "number", .int 1], .tup [.str "number", .tup []], .tup [.str "numbers"], .tup [.str "skip"], .tup [.str "skip", g, g], .tup [.str "skip", .non]]
  exact ⟨(bad_c (d := .tup [.str "number", .int 1]) (by decide +kernel) (lm_plain (by decide +kernel)) (by decide +kernel)),
    (bad_c (d := .tup [.str "number", .tup []]) (by decide +kernel) (lm_plain (by decide +kernel)) (by decide +kernel)),
    (bad_c (d := .tup [.str "numbers"]) (by decide +kernel) (lm_plain (by decide +kernel)) (by decide +kernel)),
    (bad_c (d := .tup [.str "skip"]) (by decide +kernel) (lm_plain (by decide +kernel)) (by decide +kernel)),
    (bad_sh (hs_no (show (("skip" : Str), 3) ∉ words by decide +kernel)) (lm_plain (by decide +kernel)) (by simp only [Dx.size, Dx.sizes]; omega)),
    (bad_in (e := .non) (by rw [inn_skip]; exact List.mem_singleton.mpr rfl) foB_non (lm_plain (by decide +kernel)) (fun e m => by rw [inn_skip] at m; rw [List.mem_singleton.mp m]; exact lim_none) (by simp only [Dx.size, Dx.sizes]; omega)), True.intro⟩
theorem all_2 (g : Dx) (G : GoodG g) : AllB g (dnB g bd2) := by
  show AllB g [.tup [.str "pick", .tup []], .tup [.str "pick", .tup [.tup [.str "a", .str "x"], .tup [.str "ab", .str "y"]]], .tup [.str "pick", .tup [.tup [.str "a", .str "x"], .tup [.str "a", .str "y"]]]]
  exact ⟨(bad_c (d := .tup [.str "pick", .tup []]) (by decide +kernel) (lm_few (by decide +kernel) (show _ < 64 by decide +kernel)) (by decide +kernel)),
    (bad_c (d := .tup [.str "pick", .tup [.tup [.str "a", .str "x"], .tup [.str "ab", .str "y"]]]) (by decide +kernel) (lm_few (by decide +kernel) (show _ < 64 by decide +kernel)) (by decide +kernel)),
    (bad_c (d := .tup [.str "pick", .tup [.tup [.str "a", .str "x"], .tup [.str "a", .str "y"]]]) (by decide +kernel) (lm_few (by decide +kernel) (show _ < 64 by decide +kernel)) (by decide +kernel)), True.intro⟩
theorem all_P (g : Dx) (G : GoodG g) : AllB g ((dnB g bdP).map fun p => .tup [.str "pick", p]) := by
  show AllB g [.tup [.str "pick", .tup [.tup [.str "a", .int 1], .tup [.str "b", .int 1]]], .tup [.str "pick", .tup [.tup [.str "a", .tup []]]], .tup [.str "pick", .tup [.tup [.str "", .str "x"]]], .tup [.str "pick", .lst [.tup [.str "a", .int 1]]], .tup [.str "pick", .tup [.tup [.str "a", .str "x", .str "y"]]], .tup [.str "pick", .tup [.tup [.str "a"]]]]
  exact ⟨(bad_c (d := .tup [.str "pick", .tup [.tup [.str "a", .int 1], .tup [.str "b", .int 1]]]) (by decide +kernel) (lm_few (by decide +kernel) (show _ < 64 by decide +kernel)) (by decide +kernel)),
    (bad_c (d := .tup [.str "pick", .tup [.tup [.str "a", .tup []]]]) (by decide +kernel) (lm_few (by decide +kernel) (show _ < 64 by decide +kernel)) (by decide +kernel)),
    (bad_c (d := .tup [.str "pick", .tup [.tup [.str "", .str "x"]]]) (by decide +kernel) (lm_few (by decide +kernel) (show _ < 64 by decide +kernel)) (by decide +kernel)),
    (bad_c (d := .tup [.str "pick", .lst [.tup [.str "a", .int 1]]]) (by decide +kernel) (lm_few (by decide +kernel) (show _ < 64 by decide +kernel)) (by decide +kernel)),
    (bad_c (d := .tup [.str "pick", .tup [.tup [.str "a", .str "x", .str "y"]]]) (by decide +kernel) (lm_few (by decide +kernel) (show _ < 64 by decide +kernel)) (by decide +kernel)),
    (bad_c (d := .tup [.str "pick", .tup [.tup [.str "a"]]]) (by decide +kernel) (lm_few (by decide +kernel) (show _ < 64 by decide +kernel)) (by decide +kernel)), True.intro⟩
theorem all_3 (g : Dx) (G : GoodG g) : AllB g (dnB g bd3) := by
  show AllB g [.tup [.str "pick", .tup [.tup [.str "a", .bl true]]], .tup [.str "pick", .tup [.tup [.str "a", .int (-1)]]], .tup [.str "pick", .tup [.tup [.str "\t", .int 1]]]]
  exact ⟨(bad_c (d := .tup [.str "pick", .tup [.tup [.str "a", .bl true]]]) (by decide +kernel) (lm_few (by decide +kernel) (show _ < 64 by decide +kernel)) (by decide +kernel)),
    (bad_c (d := .tup [.str "pick", .tup [.tup [.str "a", .int (-1)]]]) (by decide +kernel) (lm_few (by decide +kernel) (show _ < 64 by decide +kernel)) (by decide +kernel)),
    (bad_c (d := .tup [.str "pick", .tup [.tup [.str "\t", .int 1]]]) (by decide +kernel) (lm_few (by decide +kernel) (show _ < 64 by decide +kernel)) (by decide +kernel)), True.intro⟩
theorem all_4 (g : Dx) (G : GoodG g) : AllB g (dnB g bd4) := by
  show AllB g [.tup [.str "spelt", .tup [.str "word", .str "ab"]], .tup [.str "spelt", .tup [.str "pick", .tup [.tup [.str "a", .str "xy"]]]], .tup [.str "spelt", .tup [.str "pick", .tup [.tup [.str "a", .int 1]]]]]
  exact ⟨(bad_c (d := .tup [.str "spelt", .tup [.str "word", .str "ab"]]) (by decide +kernel) (lm_spelt (lm_plain (by decide +kernel))) (by decide +kernel)),
    (bad_c (d := .tup [.str "spelt", .tup [.str "pick", .tup [.tup [.str "a", .str "xy"]]]]) (by decide +kernel) (lm_spelt (lm_few (by decide +kernel) (show _ < 64 by decide +kernel))) (by decide +kernel)),
    (bad_c (d := .tup [.str "spelt", .tup [.str "pick", .tup [.tup [.str "a", .int 1]]]]) (by decide +kernel) (lm_spelt (lm_few (by decide +kernel) (show _ < 64 by decide +kernel))) (by decide +kernel)), True.intro⟩
theorem all_5 (g : Dx) (G : GoodG g) : AllB g (dnB g bd5) := by
  show AllB g [.tup [.str "spelt", .tup [.str "pick", .tup [.tup [.str "a", .str ""]]]], .tup [.str "spelt", .tup [.str "named", .str "a"]], .tup [.str "spelt", .tup [.str "text", .str "x"]], .tup [.str "row", .lst [g]]]
  exact ⟨(bad_c (d := .tup [.str "spelt", .tup [.str "pick", .tup [.tup [.str "a", .str ""]]]]) (by decide +kernel) (lm_spelt (lm_few (by decide +kernel) (show _ < 64 by decide +kernel))) (by decide +kernel)),
    (bad_c (d := .tup [.str "spelt", .tup [.str "named", .str "a"]]) (by decide +kernel) (lm_spelt (lm_plain (by decide +kernel))) (by decide +kernel)),
    (bad_c (d := .tup [.str "spelt", .tup [.str "text", .str "x"]]) (by decide +kernel) (lm_spelt (lm_plain (by decide +kernel))) (by decide +kernel)),
    (bad_sh (hs_sh (shp_row.trans rfl)) (lm_plain (by decide +kernel)) (by simp only [Dx.size, Dx.sizes]; omega)), True.intro⟩
theorem all_6 (g : Dx) (G : GoodG g) : AllB g (dnB g bd6) := by
  show AllB g [.tup [.str "row", g], .tup [.str "row", .tup [g, .non]], .tup [.str "row", g, g], .tup [.str "row"], .tup [.str "either", .tup []]]
  exact ⟨(bad_row G),
    (bad_in (e := .non) (by rw [inn_row]; exact List.mem_cons_of_mem _ (List.mem_singleton.mpr rfl)) foB_non (lm_plain (by decide +kernel)) (fun e m => by
      rw [inn_row] at m
      rcases List.mem_cons.mp m with rfl | m
      · exact G.lim
      · rw [List.mem_singleton.mp m]; exact lim_none) (by simp only [Dx.size, Dx.sizes]; omega)),
    (bad_sh (hs_no (show (("row" : Str), 3) ∉ words by decide +kernel)) (lm_plain (by decide +kernel)) (by simp only [Dx.size, Dx.sizes]; omega)),
    (bad_c (d := .tup [.str "row"]) (by decide +kernel) (lm_plain (by decide +kernel)) (by decide +kernel)),
    (bad_c (d := .tup [.str "either", .tup []]) (by decide +kernel) (lm_few (by decide +kernel) (show _ < 64 by decide +kernel)) (by decide +kernel)), True.intro⟩
theorem all_7 (g : Dx) (G : GoodG g) : AllB g (dnB g bd7) := by
  show AllB g [.tup [.str "either", .tup [.tup [.str "a", g], .tup [.str "a", .tup [.str "text", .str "x"]]]], .tup [.str "either", .tup [.tup [.str "A", g]]], .tup [.str "either", .tup [.tup [g]]]]
  exact ⟨(bad_sh (hs_sh (shp_either.trans (by
      show (_ && (_ && decide (([Sum.inr ("a" : Str), Sum.inr ("a" : Str)] : List Key).Nodup))) = false
      rw [decide_eq_false (by simp), Bool.and_false, Bool.and_false]))) (lm_few (by decide +kernel) (show (2 : Nat) < 64 by decide)) (by simp only [Dx.size, Dx.sizes]; omega)),
    (bad_sh (hs_sh (shp_either.trans (by
      show (_ && ((Dx.nm (.str "A") && true) && _)) = false
      rw [show Dx.nm (.str "A") = false by decide +kernel, Bool.false_and, Bool.false_and, Bool.and_false]))) (lm_few (by decide +kernel) (show (1 : Nat) < 64 by decide)) (by simp only [Dx.size, Dx.sizes]; omega)),
    (bad_sh (hs_sh (shp_either.trans rfl)) (lm_few (by decide +kernel) (show (1 : Nat) < 64 by decide)) (by simp only [Dx.size, Dx.sizes]; omega)), True.intro⟩
theorem all_8 (g : Dx) (G : GoodG g) : AllB g (dnB g bd8) := by
  show AllB g [.tup [.str "either", .tup [.tup [.str "a"]]], .tup [.str "either", .tup [.tup [.str "a", .non]]], .tup [.str "either", .lst [.tup [.str "a", g]]], .tup [.str "again", g]]
  exact ⟨(bad_c (d := .tup [.str "either", .tup [.tup [.str "a"]]]) (by decide +kernel) (lm_few (by decide +kernel) (show _ < 64 by decide +kernel)) (by decide +kernel)),
    (bad_in (e := .non) (by rw [inn_either]; exact List.mem_singleton.mpr rfl) foB_non (lm_few (by decide +kernel) (show (1 : Nat) < 64 by decide)) (fun e m => by rw [inn_either] at m; rw [List.mem_singleton.mp m]; exact lim_none) (by simp only [Dx.size, Dx.sizes]; omega)),
    (bad_sh (hs_sh (shp_either.trans rfl)) (lm_few (by decide +kernel) (show (0 : Nat) < 64 by decide)) (by simp only [Dx.size, Dx.sizes]; omega)),
    (bad_sh (hs_no (show (("again" : Str), 2) ∉ words by decide +kernel)) (lm_again True.intro) (by simp only [Dx.size, Dx.sizes]; omega)), True.intro⟩
theorem all_9 (g : Dx) (G : GoodG g) : AllB g (dnB g bd9) := by
  show AllB g [.tup [.str "again", g, .tup [.str "number"]], .tup [.str "again", g, .tup [.str "row", .tup [.tup [.str "text", .str "x"]]]], .tup [.str "again", .non, .non]]
  exact ⟨(bad_sh (hs_sh (shp_again.trans (show agB (hs 2) (.tup [.str "number"]) = false by decide +kernel))) (lm_again (lm_plain (by decide +kernel))) (by simp only [Dx.size, Dx.sizes]; omega)),
    (bad_sh (hs_sh (shp_again.trans (show agB (hs 2) (.tup [.str "row", .tup [.tup [.str "text", .str "x"]]]) = false by decide +kernel))) (lm_again (lm_plain (by decide +kernel))) (by simp only [Dx.size, Dx.sizes]; omega)),
    (bad_in (e := .non) (by rw [inn_again]; exact List.mem_singleton.mpr rfl) foB_non (lm_again True.intro) (fun e m => by rw [inn_again] at m; rw [List.mem_singleton.mp m]; exact lim_none) (by simp only [Dx.size, Dx.sizes]; omega)), True.intro⟩
theorem all_10 (g : Dx) (G : GoodG g) : AllB g (dnB g bd10) := by
  show AllB g [.tup [.str "again", g, .tup [.str "text", .str "x"], .tup [.str "text", .str "x"]], .tup [.str "counted", .str "", g], .tup [.str "counted", g, .str "x"], .tup [.str "counted", .str "x", .non]]
  exact ⟨(bad_sh (hs_no (show (("again" : Str), 4) ∉ words by decide +kernel)) (lm_again (lm_plain (by decide +kernel))) (by simp only [Dx.size, Dx.sizes]; omega)),
    (bad_sh (hs_sh (shp_counted.trans (show (Dx.str "").to = false by decide +kernel))) (lm_plain (by decide +kernel)) (by simp only [Dx.size, Dx.sizes]; omega)),
    (bad_sh (hs_sh (shp_counted.trans (show g.to = false from G.notS))) (lm_plain (by decide +kernel)) (by simp only [Dx.size, Dx.sizes]; omega)),
    (bad_in (e := .non) (by rw [inn_counted]; exact List.mem_singleton.mpr rfl) foB_non (lm_plain (by decide +kernel)) (fun e m => by rw [inn_counted] at m; rw [List.mem_singleton.mp m]; exact lim_none) (by simp only [Dx.size, Dx.sizes]; omega)), True.intro⟩
theorem all_11 (g : Dx) (G : GoodG g) : AllB g (dnB g bd11) := by
  show AllB g [.tup [.str "turned", g, .tup []], .tup [.str "turned", g, .tup [.tup [.int 1, .int 1]]], .tup [.str "turned", g, .tup [.tup [.int 1, .int 2], .tup [.int 3, .int 1]]]]
  exact ⟨(bad_sh (hs_sh (shp_turned.trans rfl)) (lm_turned (show Small (.tup []) from small_c (by decide +kernel) (by decide +kernel) (by decide +kernel))) (by simp only [Dx.size, Dx.sizes]; omega)),
    (bad_sh (hs_sh (shp_turned.trans (tu_like (by show ¬ [Dx.int 1, Dx.int 1].Nodup; simp)))) (lm_turned (show Small (.tup [.tup [.int 1, .int 1]]) from small_c (by decide +kernel) (by decide +kernel) (by decide +kernel))) (by simp only [Dx.size, Dx.sizes]; omega)),
    (bad_sh (hs_sh (shp_turned.trans (tu_like (by show ¬ [Dx.int 1, Dx.int 2, Dx.int 3, Dx.int 1].Nodup; simp)))) (lm_turned (show Small (.tup [.tup [.int 1, .int 2], .tup [.int 3, .int 1]]) from small_c (by decide +kernel) (by decide +kernel) (by decide +kernel))) (by simp only [Dx.size, Dx.sizes]; omega)), True.intro⟩
theorem all_12 (g : Dx) (G : GoodG g) : AllB g (dnB g bd12) := by
  show AllB g [.tup [.str "turned", g, .tup [.tup [.int 1, .int 2, .int 3]]], .tup [.str "turned", g, .tup [.tup [.int 1, .non]]], .tup [.str "turned", g, .lst [.tup [.int 1, .int 2]]]]
  exact ⟨(bad_sh (hs_sh (shp_turned.trans rfl)) (lm_turned (show Small (.tup [.tup [.int 1, .int 2, .int 3]]) from small_c (by decide +kernel) (by decide +kernel) (by decide +kernel))) (by simp only [Dx.size, Dx.sizes]; omega)),
    (bad_sh (hs_sh (shp_turned.trans rfl)) (lm_turned (show Small (.tup [.tup [.int 1, .non]]) from small_c (by decide +kernel) (by decide +kernel) (by decide +kernel))) (by simp only [Dx.size, Dx.sizes]; omega)),
    (bad_sh (hs_sh (shp_turned.trans rfl)) (lm_turned (show Small (.lst [.tup [.int 1, .int 2]]) from small_c (by decide +kernel) (by decide +kernel) (by decide +kernel))) (by simp only [Dx.size, Dx.sizes]; omega)), True.intro⟩
theorem all_13 (g : Dx) (G : GoodG g) : AllB g (dnB g bd13) := by
  show AllB g [.tup [.str "named", .str ""], .tup [.str "named", .str "A"], .tup [.str "named", .str "abcdefghi"], .tup [.str "named"], .tup [.str "named", .str "a", .str "b"]]
  exact ⟨(bad_c (d := .tup [.str "named", .str ""]) (by decide +kernel) (lm_plain (by decide +kernel)) (by decide +kernel)),
    (bad_c (d := .tup [.str "named", .str "A"]) (by decide +kernel) (lm_plain (by decide +kernel)) (by decide +kernel)),
    (bad_c (d := .tup [.str "named", .str "abcdefghi"]) (by decide +kernel) (lm_plain (by decide +kernel)) (by decide +kernel)),
    (bad_c (d := .tup [.str "named"]) (by decide +kernel) (lm_plain (by decide +kernel)) (by decide +kernel)),
    (bad_c (d := .tup [.str "named", .str "a", .str "b"]) (by decide +kernel) (lm_plain (by decide +kernel)) (by decide +kernel)), True.intro⟩
theorem all_Z (g : Dx) (G : GoodG g) : AllB g (dnB g bdZ) := by
  show AllB g [.tup [.str "turned", g]]
  exact ⟨(bad_sh (hs_no (show (("turned" : Str), 2) ∉ words by decide +kernel)) (lm_turned (show Small (.non) from small_c (by decide +kernel) (by decide +kernel) (by decide +kernel))) (by simp only [Dx.size, Dx.sizes]; omega)), True.intro⟩
theorem all_bads (g : Dx) (G : GoodG g) : AllB g (bads g) := by
  unfold bads es3 es2 es1
  exact (((((((((((((((((all_0 g G).app (all_sign g G)).app (all_word g G)).app (all_1 g G)).app (all_2 g G)).app (all_P g G)).app (all_3 g G)).app (all_4 g G)).app (all_5 g G)).app (all_6 g G)).app (all_7 g G)).app (all_8 g G)).app (all_9 g G)).app (all_10 g G)).app (all_11 g G)).app (all_12 g G)).app (all_13 g G)).app (all_Z g G)
end RT

set_option maxHeartbeats 1000000
/-! a drawn form is a form -/
namespace RT
open PySem PySem.Spec PyProof.Rows L2
mutual
def D.toX : RT.D → Dx
  | .str z => .str z
  | .int i => .int i
  | .non => .non
  | .tup ds => .tup (D.toXs ds)
def D.toXs : List RT.D → List Dx
  | [] => []
  | d :: r => d.toX :: D.toXs r
end
theorem toXs_map : ∀ ds : List RT.D, D.toXs ds = ds.map D.toX
  | [] => rfl
  | d :: r => congrArg (d.toX :: ·) (toXs_map r)
mutual
theorem toX_size : ∀ d : RT.D, d.toX.size = d.size
  | .str _ | .int _ | .non => rfl
  | .tup ds => by
    show Dx.sizes (D.toXs ds) + 1 = 1 + D.sizes ds
    rw [toXs_size ds]
    omega
theorem toXs_size : ∀ ds : List RT.D, Dx.sizes (D.toXs ds) = D.sizes ds
  | [] => rfl
  | d :: r => by
    show d.toX.size + Dx.sizes (D.toXs r) = d.size + D.sizes r
    rw [toX_size d, toXs_size r]
end
mutual
theorem toX_th : ∀ {d : RT.D}, d.thing → d.toX.th = true
  | .str z, h => List.all_eq_true.mpr h
  | .int i, h => decide_eq_true h
  | .non, h => h.elim
  | .tup ds, h => toXs_th (ds := ds) h
theorem toXs_th : ∀ {ds : List RT.D}, D.things ds → Dx.ths (D.toXs ds) = true
  | [], _ => rfl
  | d :: r, h => by
    show (d.toX.th && Dx.ths (D.toXs r)) = true
    rw [toX_th h.1, toXs_th h.2]
    rfl
end
mutual
theorem toX_inj : ∀ {d e : RT.D}, d.toX = e.toX → d = e
  | .str a, .str b, h => by cases h; rfl
  | .int a, .int b, h => by cases h; rfl
  | .non, .non, _ => rfl
  | .tup a, .tup b, h => by rw [toXs_inj (Dx.tup.inj h)]
  | .str _, .int _, h | .str _, .non, h | .str _, .tup _, h | .int _, .str _, h | .int _, .non, h | .int _, .tup _, h | .non, .str _, h | .non, .int _, h | .non, .tup _, h | .tup _, .str _, h | .tup _, .int _, h | .tup _, .non, h => by cases h
theorem toXs_inj : ∀ {d e : List RT.D}, D.toXs d = D.toXs e → d = e
  | [], [], _ => rfl
  | [], _ :: _, h => by cases h
  | _ :: _, [], h => by cases h
  | a :: r, b :: t, h => by
    obtain ⟨h1, h2⟩ := List.cons.inj (show a.toX :: D.toXs r = b.toX :: D.toXs t from h)
    rw [toX_inj h1, toXs_inj h2]
end
mutual
theorem Rp.toX {M : Addr → Prop} {H : Hp} (h : ∀ a xs, M a → H a ≠ some (.tup xs)) : ∀ {v : V} {d : RT.D}, Rp H v d → Rq (cut M H) v d.toX
  | _, _, .str l => .str l
  | _, _, .int => .int
  | _, _, .non => .non
  | _, _, .tup e r => .tup (by rw [cut_at fun m => h _ _ m e]; exact e) (Rps.toX h r)
theorem Rps.toX {M : Addr → Prop} {H : Hp} (h : ∀ a xs, M a → H a ≠ some (.tup xs)) : ∀ {vs : List V} {ds : List RT.D}, Rps H vs ds → Rqs (cut M H) vs (D.toXs ds)
  | _, _, .nil => .nil
  | _, _, .cons r t => .cons (r.toX h) (Rps.toX h t)
end
theorem to_of {z : Str} (h : TxtOk z) : (Dx.str z).to = true := by
  show (z.cps.toList.all signB && decide (0 < z.length)) = true
  rw [List.all_eq_true.mpr h.2, decide_eq_true (by have := h.1; omega)]
  rfl
theorem se_of {z : Str} (h : SetOk z) : (Dx.str z).se = true := by
  show ((Dx.str z).to && upB z.cps.toList) = true
  rw [to_of h.1, Bool.true_and]
  refine List.all_eq_true.mpr fun k hk => decide_eq_true ?_
  have hk := List.mem_range.mp hk
  have la : k < z.cps.toList.length := by omega
  have lb : k + 1 < z.cps.toList.length := by omega
  have up := set_up h (List.getElem?_eq_getElem la) (List.getElem?_eq_getElem lb)
  rw [List.getD_eq_getElem?_getD, List.getD_eq_getElem?_getD, List.getElem?_eq_getElem la, List.getElem?_eq_getElem lb]
  exact (lt1 _ _).mp (of_decide_eq_true up)
theorem nmx_of {z : Str} (h : NmOk z) : (Dx.str z).nm = true := by
  show (decide (1 ≤ z.length) && decide (z.length ≤ 8) && z.cps.toList.all azB) = true
  rw [decide_eq_true h.1, decide_eq_true h.2.1, List.all_eq_true.mpr fun c m => ?_]
  · rfl
  · obtain ⟨h1, h2⟩ := h.2.2 c m
    unfold azB
    rw [decide_eq_true h1, decide_eq_true h2]
    rfl
theorem ap_map {α : Type} {ps : List α} {f g : α → Dx} (h : ps ≠ []) : (Dx.tup (ps.map fun p => .tup [f p, g p])).ap = true := by
  show (!(ps.map _).isEmpty && (ps.map _).all Dx.pr) = true
  rw [List.all_map]
  cases ps with
  | nil => exact absurd rfl h
  | cons p r =>
    show (true && _) = true
    rw [Bool.true_and]
    exact List.all_eq_true.mpr fun _ _ => rfl
theorem plain_x {d : RT.D} (h : d.plain) : (d.toX.tx || d.toX.nu) = true := by
  cases d with
  | str z =>
    show ((Dx.str z).tx || false) = true
    rw [Bool.or_false]
    exact List.all_eq_true.mpr h
  | int i =>
    show (false || (Dx.int i).nu) = true
    rw [Bool.false_or]
    exact decide_eq_true h
  | _ => exact h.elim
theorem key_x {d : RT.D} (h : d.plain) : keyX d.toX = keyD d := by
  cases d with
  | str z => rfl
  | int i => rfl
  | _ => exact h.elim
theorem pk_of {ps : List (Str × RT.D)} (h : PickOk ps) : pkB (.tup (ps.map fun p => .tup [.str p.1, p.2.toX])) = true := by
  have e0 := ap_map (f := fun p : Str × RT.D => Dx.str p.1) (g := fun p => p.2.toX) h.ne
  generalize hy : Dx.tup (ps.map fun p => .tup [.str p.1, p.2.toX]) = y at e0 ⊢
  have ei : y.items = ps.map fun p => .tup [.str p.1, p.2.toX] := by rw [← hy]; rfl
  have e1 : y.items.all pkOne = true := by
    rw [ei, List.all_map]
    exact List.all_eq_true.mpr fun p m => by
      show ((Dx.str p.1).to && (p.2.toX.tx || p.2.toX.nu)) = true
      rw [to_of (h.ok p m).1, plain_x (h.ok p m).2]
      rfl
  have e2 : nbB (y.items.map fun p => p.f0.toS) = true := by
    rw [ei, List.map_map]
    exact decide_eq_true (List.pairwise_map.mpr h.pre)
  have e3 : (y.items.map fun p => keyX p.f1).Nodup := by
    rw [ei, List.map_map]
    refine List.pairwise_map.mpr (List.Pairwise.imp_of_mem (fun {p q} mp mq n => ?_) h.un)
    show keyX p.2.toX ≠ keyX q.2.toX
    rw [key_x (h.ok p mp).2, key_x (h.ok q mq).2]
    exact key_ne (h.ok p mp).2 (h.ok q mq).2 n
  unfold pkB
  rw [e0, e1, e2, decide_eq_true e3]
  rfl
theorem lm_up : ∀ {n : Nat} {d : Dx}, lm n d → lm (n + 1) d
  | n + 1, .tup (.str W :: ds), h => ⟨h.1, fun z => lm_up (h.2.1 z), fun z => lm_up (h.2.2.1 z), h.2.2.2⟩
  | n + 1, .tup [], _ | n + 1, .tup (.int _ :: _), _ | n + 1, .tup (.bl _ :: _), _ | n + 1, .tup (.non :: _), _ | n + 1, .tup (.tup _ :: _), _ | n + 1, .tup (.lst _ :: _), _ | n + 1, .str _, _ | n + 1, .int _, _ | n + 1, .bl _, _ | n + 1, .non, _ | n + 1, .lst _, _ => True.intro
/-- a leaf has its shape at any depth -/
theorem leaf_hs {w : Str} {r : List RT.D} (h : (Fo.leaf w r).wf) (n : Nat) : hs (n + 1) (Fo.leaf w r).enc.toX = true ∧ lm (n + 1) (Fo.leaf w r).enc.toX ∧ (Fo.leaf w r).enc.toX.inn = [] := by
  rcases h with ⟨rfl, z, rfl, hz⟩ | ⟨h, z, rfl, hz⟩ | ⟨rfl, rfl⟩ | ⟨rfl, ps, rfl, hp⟩
  · exact ⟨hs_yes (show ((("text" : Str)), 2) ∈ words by simp [words]) (shp_text.trans (to_of hz)), lm_plain (by decide +kernel), rfl⟩
  · rcases h with rfl | rfl
    · exact ⟨hs_yes (show ((("sign" : Str)), 2) ∈ words by simp [words]) (shp_sign.trans (se_of hz)), lm_plain (by decide +kernel), rfl⟩
    · exact ⟨hs_yes (show ((("word" : Str)), 2) ∈ words by simp [words]) (shp_word.trans (se_of hz)), lm_plain (by decide +kernel), rfl⟩
  · exact ⟨hs_yes (show ((("number" : Str)), 1) ∈ words by simp [words]) shp_number, lm_plain (by decide +kernel), rfl⟩
  · have e : (Fo.leaf "pick" (pickR ps)).enc.toX = .tup [.str "pick", .tup (ps.map fun p => .tup [.str p.1, p.2.toX])] := by
      show Dx.tup [.str "pick", .tup (D.toXs (ps.map _))] = _
      rw [toXs_map, List.map_map]
      rfl
    rw [e]
    refine ⟨hs_yes (show ((("pick" : Str)), 2) ∈ words by simp [words]) (shp_pick.trans (pk_of hp)), lm_few (.inl rfl) ?_, rfl⟩
    show (ps.map _).length < 64
    rw [List.length_map]
    have := hp.few
    omega
end RT

set_option maxHeartbeats 1000000
/-! a drawn form is a form: all the way down -/
namespace RT
open PySem PySem.Spec PyProof.Rows L2
theorem encs_x (fs : List Fo) : D.toXs (Fo.encs fs) = fs.map fun g => g.enc.toX := by
  rw [toXs_map, encs_map, List.map_map]
  rfl
theorem tu_of {f : Fo} {prs : List (RT.D × RT.D)} (h : TurnOk f prs) : tuB (.tup (prs.map fun p => .tup [p.1.toX, p.2.toX])) = true ∧ Small (.tup (prs.map fun p => .tup [p.1.toX, p.2.toX])) := by
  have e0 := ap_map (f := fun p : RT.D × RT.D => p.1.toX) (g := fun p => p.2.toX) h.ne
  have e4 : Dx.ths (prs.map fun p => Dx.tup [p.1.toX, p.2.toX]) = true := by
    have := toXs_th (things_of (prs.map fun p => RT.D.tup [p.1, p.2]) fun d m => by
      obtain ⟨p, mp, rfl⟩ := List.mem_map.mp m
      exact ⟨(h.ok p mp).1, (h.ok p mp).2.1, True.intro⟩)
    rw [toXs_map, List.map_map] at this
    exact this
  have esz : Dx.sizes (prs.map fun p => Dx.tup [p.1.toX, p.2.toX]) = D.sizes (prs.map fun p => RT.D.tup [p.1, p.2]) := by
    rw [← toXs_size, toXs_map, List.map_map]
    rfl
  have h1 := sizes_le (n := 41) (prs.map fun p => RT.D.tup [p.1, p.2]) fun d m => by
    obtain ⟨p, mp, rfl⟩ := List.mem_map.mp m
    have q := (h.ok p mp).2.2
    show 1 + (p.1.size + (p.2.size + 0)) ≤ 41
    omega
  rw [List.length_map] at h1
  have few := h.few
  have efl : flx (prs.map fun p => Dx.tup [p.1.toX, p.2.toX]) = (fl prs).map D.toX := by
    unfold fl flx
    rw [List.flatMap_map, List.map_flatMap]
    rfl
  have e3 : (flx (prs.map fun p => Dx.tup [p.1.toX, p.2.toX])).Nodup := by
    rw [efl]
    exact List.pairwise_map.mpr (h.un.imp fun ne z => ne (toX_inj z))
  have sz : (Dx.tup (prs.map fun p => Dx.tup [p.1.toX, p.2.toX])).size ≤ 100000 := by
    show Dx.sizes _ + 1 ≤ _
    rw [esz]
    omega
  have sm : Small (.tup (prs.map fun p => Dx.tup [p.1.toX, p.2.toX])) := by
    refine ⟨?_, sz, fun d m => ?_⟩
    · show (prs.map _).length ≤ 60
      rw [List.length_map]
      omega
    · rw [show (Dx.tup (prs.map fun p => Dx.tup [p.1.toX, p.2.toX])).items = prs.map fun p => Dx.tup [p.1.toX, p.2.toX] from rfl, efl] at m
      obtain ⟨x, mx, rfl⟩ := List.mem_map.mp m
      rw [toX_size]
      exact (fl_all h.ok x mx).2
  refine ⟨?_, sm⟩
  generalize hy : Dx.tup (prs.map fun p => .tup [p.1.toX, p.2.toX]) = y at e0 ⊢
  have ei : y.items = prs.map fun p => .tup [p.1.toX, p.2.toX] := by rw [← hy]; rfl
  have et : y.th = true := by rw [← hy]; exact e4
  rw [← ei] at e3
  have a : ∀ i : Decidable (flx y.items).Nodup, @decide _ i = true := fun i => decide_eq_true e3
  unfold tuB
  rw [e0, et, a]
  rfl
theorem zip_x (ns : List Str) (fs : List Fo) : D.toXs (List.zipWith (fun n d => RT.D.tup [.str n, d]) ns (Fo.encs fs)) = (ns.zip fs).map fun p => Dx.tup [.str p.1, p.2.enc.toX] := by
  rw [toXs_map, encs_map]
  induction ns generalizing fs with
  | nil => rfl
  | cons n r ih =>
    cases fs with
    | nil => rfl
    | cons f t => exact congrArg (Dx.tup [.str n, f.enc.toX] :: ·) (ih t)
theorem zip_fst {α β : Type} : ∀ {ns : List α} {fs : List β}, ns.length = fs.length → (ns.zip fs).map (·.1) = ns ∧ (ns.zip fs).map (·.2) = fs
  | [], [], _ => ⟨rfl, rfl⟩
  | [], _ :: _, h => by simp at h
  | _ :: _, [], h => by simp at h
  | n :: r, f :: t, h => by
    obtain ⟨h1, h2⟩ := zip_fst (show r.length = t.length by simpa using h)
    exact ⟨congrArg (n :: ·) h1, congrArg (f :: ·) h2⟩
theorem ei_of {ns : List Str} {fs : List Fo} (h0 : ns ≠ []) (l : ns.length = fs.length) (nd : ns.Nodup) (hn : ∀ n ∈ ns, NmOk n) : eiB (.tup ((ns.zip fs).map fun p => .tup [.str p.1, p.2.enc.toX])) = true := by
  have zn : ns.zip fs ≠ [] := fun z => by
    have := congrArg List.length z
    rw [List.length_zip] at this
    cases ns with
    | nil => exact h0 rfl
    | cons n r =>
      rw [← l, Nat.min_self] at this
      cases this
  have e0 := ap_map (f := fun p : Str × Fo => Dx.str p.1) (g := fun p => p.2.enc.toX) zn
  generalize hy : Dx.tup ((ns.zip fs).map fun p => .tup [.str p.1, p.2.enc.toX]) = y at e0 ⊢
  have ei : y.items = (ns.zip fs).map fun p => .tup [.str p.1, p.2.enc.toX] := by rw [← hy]; rfl
  have e1 : y.items.all (fun p => p.f0.nm) = true := by
    rw [ei, List.all_map]
    exact List.all_eq_true.mpr fun p m => nmx_of (hn p.1 (by rw [← (zip_fst l).1]; exact List.mem_map_of_mem m))
  have e3 : (y.items.map fun p => (Sum.inr p.f0.toS : Key)).Nodup := by
    rw [ei, List.map_map]
    have : (ns.map fun n => (Sum.inr n : Key)).Nodup := List.pairwise_map.mpr (nd.imp fun ne z => ne (Sum.inr.inj z))
    rw [← (zip_fst l).1, List.map_map] at this
    exact this
  unfold eiB
  rw [e0, e1, decide_eq_true e3]
  rfl
theorem w_in {W : Str} {n : Nat} (h : decide ((W, n) ∈ words) = true) : (W, n) ∈ words := of_decide_eq_true h
theorem hs_fo {N : List Str} : ∀ f : Fo, f.wf → f.ok N → hs 3 f.enc.toX = true ∧ lm 3 f.enc.toX ∧ f.enc.toX.inn = f.inner.map fun g => g.enc.toX
  | .leaf w r, h, _ => leaf_hs h 2
  | .one w f r, h, ok => by
    rcases h.2 with ⟨rfl, rfl⟩ | ⟨rfl, rfl, hs⟩ | ⟨rfl, prs, rfl, ht⟩
    · exact ⟨hs_yes (show (("skip" : Str), 2) ∈ words by simp [words]) shp_skip, lm_plain (by decide +kernel), inn_skip⟩
    · cases f with
      | leaf w2 r2 =>
        obtain ⟨h1, h2, h3⟩ := leaf_hs (show (Fo.leaf w2 r2).wf from h.1) 1
        refine ⟨hs_yes (show (("spelt" : Str), 2) ∈ words by simp [words]) (shp_spelt.trans ?_), lm_spelt h2, inn_spelt⟩
        show spB (RT.hs 2) (Fo.leaf w2 r2).enc.toX = true
        unfold spB
        rw [h1, Bool.true_and]
        rcases hs with ⟨rfl, z, rfl⟩ | ⟨rfl, ps, rfl, hps⟩
        · show (if ("sign" : Str) = "pick" then _ else decide (("sign" : Str) = "sign")) = true
          rw [if_neg (by decide +kernel), decide_eq_true rfl]
        · show (if ("pick" : Str) = "pick" then _ else _) = true
          rw [if_pos rfl]
          show ((D.toXs (ps.map _)).all fun p => one1 p.f1) = true
          rw [toXs_map, List.map_map, List.all_map]
          refine List.all_eq_true.mpr fun p m => ?_
          obtain ⟨c, ec⟩ := hps p m
          show one1 p.2.toX = true
          rw [ec]
          rfl
      | _ => exact hs.elim
    · have e : (Fo.one "turned" f (turnR prs)).enc.toX = .tup [.str "turned", f.enc.toX, .tup (prs.map fun p => .tup [p.1.toX, p.2.toX])] := by
        show Dx.tup [.str "turned", f.enc.toX, .tup (D.toXs (prs.map _))] = _
        rw [toXs_map, List.map_map]
        rfl
      rw [e]
      obtain ⟨t1, t2⟩ := tu_of ht
      exact ⟨hs_yes (show (("turned" : Str), 3) ∈ words by simp [words]) (shp_turned.trans t1), lm_turned t2, inn_turned⟩
  | .row fs, h, ok => by
    have e : (Fo.row fs).enc.toX = .tup [.str "row", .tup (fs.map fun g => g.enc.toX)] := by
      show Dx.tup [.str "row", .tup (D.toXs (Fo.encs fs))] = _
      rw [encs_x]
    rw [e]
    exact ⟨hs_yes (show (("row" : Str), 2) ∈ words by simp [words]) (shp_row.trans rfl), lm_plain (by decide +kernel), inn_row⟩
  | .either ns fs, h, ok => by
    have l : ns.length = fs.length := ok.1
    have e : (Fo.either ns fs).enc.toX = .tup [.str "either", .tup ((ns.zip fs).map fun p => .tup [.str p.1, p.2.enc.toX])] := by
      show Dx.tup [.str "either", .tup (D.toXs (List.zipWith _ ns (Fo.encs fs)))] = _
      rw [zip_x]
    rw [e]
    refine ⟨hs_yes (show (("either" : Str), 2) ∈ words by simp [words]) (shp_either.trans (ei_of h.1 l h.2.2.1 h.2.2.2.1)), lm_few (.inr rfl) ?_, ?_⟩
    · show ((ns.zip fs).map _).length < 64
      rw [List.length_map, List.length_zip]
      have := h.2.1
      omega
    · rw [inn_either]
      show ((ns.zip fs).map _).map Dx.f1 = fs.map _
      rw [List.map_map]
      have := congrArg (fun l => List.map (fun g : Fo => g.enc.toX) l) (zip_fst l).2
      rw [List.map_map] at this
      exact this
  | .again f, h, ok => ⟨hs_yes (show (("again" : Str), 3) ∈ words by simp [words]) (shp_again.trans rfl), lm_again True.intro, inn_again⟩
  | .between f g, h, ok => by
    have bare : RT.hs 2 g.enc.toX = true ∧ lm 2 g.enc.toX ∧ (g.enc.toX.wd = "text" ∨ g.enc.toX.wd = "skip") ∧ g.enc.toX.isN = false := by
      have hb := h.2.2
      have hg := h.2.1
      cases g with
      | leaf w r =>
        obtain ⟨h1, h2, _⟩ := leaf_hs hg 1
        exact ⟨h1, h2, .inl hb, rfl⟩
      | one w f r =>
        have hb : w = "skip" := hb
        subst hb
        rcases hg.2 with ⟨_, rfl⟩ | ⟨z, _⟩ | ⟨z, _⟩
        · exact ⟨hs_yes (show (("skip" : Str), 2) ∈ words by simp [words]) shp_skip, lm_plain (by decide +kernel), .inr rfl, rfl⟩
        · exact absurd z (by decide +kernel)
        · exact absurd z (by decide +kernel)
      | _ => exact hb.elim
    obtain ⟨b1, b2, b3, b4⟩ := bare
    refine ⟨hs_yes (show (("again" : Str), 3) ∈ words by simp [words]) (shp_again.trans ?_), lm_again b2, ?_⟩
    · show agB (RT.hs 2) g.enc.toX = true
      unfold agB
      rw [b1, decide_eq_true b3, b4]
      rfl
    · show (Dx.tup [.str "again", f.enc.toX, g.enc.toX]).inn = _
      rw [inn_again, b4]
      rfl
  | .counted z f, h, ok => ⟨hs_yes (show (("counted" : Str), 3) ∈ words by simp [words]) (shp_counted.trans (to_of h.1)), lm_plain (by decide +kernel), inn_counted⟩
  | .named x, h, ok => ⟨hs_yes (show (("named" : Str), 2) ∈ words by simp [words]) (shp_named.trans (nmx_of h)), lm_plain (by decide +kernel), rfl⟩
theorem oks_mem {N : List Str} : ∀ {fs : List Fo}, Fo.oks N fs → ∀ f ∈ fs, f.ok N
  | _ :: _, h, f, m => by
    rcases List.mem_cons.mp m with rfl | m
    · exact h.1
    · exact oks_mem h.2 f m
theorem wfs_mem : ∀ {fs : List Fo}, Fo.wfs fs → ∀ f ∈ fs, f.wf
  | _ :: _, h, f, m => by
    rcases List.mem_cons.mp m with rfl | m
    · exact h.1
    · exact wfs_mem h.2 f m
theorem fsize_mem : ∀ {fs : List Fo} {f : Fo}, f ∈ fs → f.size ≤ Fo.sizes fs
  | x :: r, f, m => by
    rcases List.mem_cons.mp m with rfl | m
    · simp only [Fo.sizes]; omega
    · have := fsize_mem m
      simp only [Fo.sizes]; omega
theorem good_n {N : List Str} : ∀ (n : Nat) (f : Fo), f.size ≤ n → f.wf → f.ok N → GoodG f.enc.toX
  | 0, f, h, _, _ => by have := f.size_pos; omega
  | n + 1, f, h, wf, ok => by
    obtain ⟨h1, h2, h3⟩ := hs_fo f wf ok
    have ih : ∀ g ∈ f.inner, GoodG g.enc.toX := fun g m => good_n n g (by have := f.inner_size; have := fsize_mem m; omega) (wfs_mem (f.inner_wf wf) g m) (oks_mem (f.inner_ok ok) g m)
    refine ⟨?_, .mk h2 fun _ e m => ?_⟩
    · rw [foB_eq, h1, h3, List.all_map, Bool.true_and]
      exact List.all_eq_true.mpr fun g m => (ih g m).yes
    · rw [h3] at m
      obtain ⟨g, mg, rfl⟩ := List.mem_map.mp m
      exact (ih g mg).lim
theorem good_fo {N : List Str} (f : Fo) (wf : f.wf) (ok : f.ok N) : GoodG f.enc.toX := good_n f.size f (Nat.le_refl _) wf ok
end RT

set_option maxHeartbeats 1000000
/-! forms within forms -/
namespace RT
open PySem PySem.Spec PyProof.Rows L2
mutual
theorem enc_size : ∀ {f : Fo}, f.wf → f.enc.size ≤ 300 * f.size
  | .leaf w r, h => by
    show 1 + (1 + D.sizes r) ≤ 300 * 1
    rcases h with ⟨rfl, z, rfl, _⟩ | ⟨h, z, rfl, _⟩ | ⟨rfl, rfl⟩ | ⟨rfl, ps, rfl, hp⟩
    · simp only [D.sizes, D.size]; omega
    · simp only [D.sizes, D.size]; omega
    · simp only [D.sizes]; omega
    · have h1 := sizes_le (n := 3) (ps.map fun p => RT.D.tup [.str p.1, p.2]) fun d m => by
        obtain ⟨p, mp, rfl⟩ := List.mem_map.mp m
        have := (hp.ok p mp).2
        have e : p.2.size = 1 := by
          cases hq : p.2 with
          | str z => rfl
          | int i => rfl
          | _ => rw [hq] at this; exact this.elim
        show 1 + (1 + (p.2.size + 0)) ≤ 3
        omega
      rw [List.length_map] at h1
      have := hp.few
      show 1 + (1 + ((1 + D.sizes (ps.map _)) + 0)) ≤ _
      omega
  | .one w f r, h => by
    have ih := enc_size h.1
    show 1 + (1 + (f.enc.size + D.sizes r)) ≤ 300 * (1 + f.size)
    have hr : D.sizes r ≤ 290 := by
      rcases h.2 with ⟨rfl, rfl⟩ | ⟨rfl, rfl, hs⟩ | ⟨rfl, prs, rfl, ht⟩
      · exact Nat.zero_le _
      · exact Nat.zero_le _
      · have h1 := sizes_le (n := 41) (prs.map fun p => RT.D.tup [p.1, p.2]) fun d m => by
          obtain ⟨p, mp, rfl⟩ := List.mem_map.mp m
          have q := (ht.ok p mp).2.2
          show 1 + (p.1.size + (p.2.size + 0)) ≤ 41
          omega
        rw [List.length_map] at h1
        have := ht.few
        show (1 + D.sizes (prs.map _)) + 0 ≤ _
        omega
    omega
  | .row fs, h => by
    have ih := encs_size (fs := fs) h
    show 1 + (1 + ((1 + D.sizes (Fo.encs fs)) + 0)) ≤ 300 * (1 + Fo.sizes fs)
    omega
  | .either ns fs, h => by
    have ih := encs_size (fs := fs) h.2.2.2.2
    have z := zip_size ns (Fo.encs fs)
    have := h.2.1
    show 1 + (1 + ((1 + D.sizes (List.zipWith _ ns (Fo.encs fs))) + 0)) ≤ 300 * (1 + Fo.sizes fs)
    omega
  | .again f, h => by
    have ih := enc_size (f := f) h
    show 1 + (1 + (f.enc.size + (1 + 0))) ≤ 300 * (1 + f.size)
    omega
  | .between f g, h => by
    have i1 := enc_size h.1
    have i2 := enc_size h.2.1
    show 1 + (1 + (f.enc.size + (g.enc.size + 0))) ≤ 300 * (1 + f.size + g.size)
    omega
  | .counted z f, h => by
    have ih := enc_size h.2
    show 1 + (1 + (1 + (f.enc.size + 0))) ≤ 300 * (1 + f.size)
    omega
  | .named x, h => by
    show 1 + (1 + (1 + 0)) ≤ 300 * 1
    omega
theorem encs_size : ∀ {fs : List Fo}, Fo.wfs fs → D.sizes (Fo.encs fs) ≤ 300 * Fo.sizes fs
  | [], _ => Nat.le_refl _
  | f :: r, h => by
    have i1 := enc_size h.1
    have i2 := encs_size h.2
    show f.enc.size + D.sizes (Fo.encs r) ≤ 300 * (f.size + Fo.sizes r)
    omega
theorem zip_size : ∀ (ns : List Str) (ds : List RT.D), D.sizes (List.zipWith (fun n d => RT.D.tup [.str n, d]) ns ds) ≤ 2 * ns.length + D.sizes ds
  | [], ds => Nat.zero_le _
  | n :: r, [] => Nat.zero_le _
  | n :: r, d :: t => by
    have := zip_size r t
    show (1 + (1 + (d.size + 0))) + D.sizes (List.zipWith _ r t) ≤ 2 * (r.length + 1) + (d.size + D.sizes t)
    omega
end
abbrev sWi : Stmt := topS 50
theorem scWi : FnScope ["_law_pot_here", "_law_thing", "_law_deep", "_law_other", "_law_k", "_law_some"] ["_law_pot_here", "_law_thing", "_law_deep"] (defScope sWi) := ⟨rfl, rfl, rfl, by decide +kernel, rfl, by decide +kernel, by decide +kernel⟩
def otherX : Dx := .tup [.str "text", .str "q"]
/-- one form within another one -/
structure Ctx (d c : Dx) : Prop where
  eq : foB c = foB d
  lim : Lim c
  size : c.size ≤ d.size + 30
theorem lim_other : Lim otherX ∧ foB otherX = true := by
  have h : hs 3 otherX = true := by decide +kernel
  exact ⟨.mk (lm_plain (by decide +kernel)) fun _ e m => (by cases m), by rw [foB_eq, h]; rfl⟩
theorem ctx_of {d c : Dx} (h : hs 3 c = true) (l : lm 3 c) (e : c.inn.all foB = foB d) (li : ∀ e ∈ c.inn, Lim e) (s : c.size ≤ d.size + 30) : Ctx d c := ⟨by rw [foB_eq, h, e, Bool.true_and], .mk l fun _ => li, s⟩
section
variable {d : Dx}
theorem lim1 (L : Lim d) {e : Dx} (m : e ∈ [d]) : Lim e := by rw [List.mem_singleton.mp m]; exact L
theorem lim2 (L : Lim d) {e : Dx} (m : e ∈ [otherX, d]) : Lim e := by
  rcases List.mem_cons.mp m with rfl | m
  · exact lim_other.1
  · exact lim1 L m
theorem all1 : [d].all foB = foB d := by rw [List.all_cons, List.all_nil, Bool.and_true]
theorem all2 : [otherX, d].all foB = foB d := by rw [List.all_cons, lim_other.2, Bool.true_and]; exact all1
theorem cx1 (L : Lim d) : Ctx d (.tup [.str "row", .tup [otherX, d]]) := ctx_of (hs_yes (show (("row" : Str), 2) ∈ words by simp [words]) (shp_row.trans rfl)) (lm_plain (by decide +kernel)) (by rw [inn_row]; exact all2) (fun e m => by rw [inn_row] at m; exact lim2 L m) (by simp only [otherX, Dx.size, Dx.sizes]; omega)
theorem cx2 (L : Lim d) : Ctx d (.tup [.str "row", .tup [d]]) := ctx_of (hs_yes (show (("row" : Str), 2) ∈ words by simp [words]) (shp_row.trans rfl)) (lm_plain (by decide +kernel)) (by rw [inn_row]; exact all1) (fun e m => by rw [inn_row] at m; exact lim1 L m) (by simp only [Dx.size, Dx.sizes]; omega)
theorem cx3 (L : Lim d) : Ctx d (.tup [.str "either", .tup [.tup [.str "a", otherX], .tup [.str "b", d]]]) := ctx_of (hs_yes (show (("either" : Str), 2) ∈ words by simp [words]) (shp_either.trans (by
    show (true && ((Dx.nm (.str "a") && (Dx.nm (.str "b") && true)) && decide (([Sum.inr ("a" : Str), Sum.inr ("b" : Str)] : List Key).Nodup))) = true
    rw [show Dx.nm (.str "a") = true by decide +kernel, show Dx.nm (.str "b") = true by decide +kernel]
    decide +kernel))) (lm_few (.inr rfl) (show (2 : Nat) < 64 by decide)) (by rw [inn_either]; exact all2) (fun e m => by rw [inn_either] at m; exact lim2 L m) (by simp only [otherX, Dx.size, Dx.sizes]; omega)
theorem cx4 (L : Lim d) : Ctx d (.tup [.str "again", d, .non]) := ctx_of (hs_yes (show (("again" : Str), 3) ∈ words by simp [words]) (shp_again.trans rfl)) (lm_again True.intro) (by rw [inn_again]; exact all1) (fun e m => by rw [inn_again] at m; exact lim1 L m) (by simp only [Dx.size, Dx.sizes]; omega)
theorem cx5 (L : Lim d) : Ctx d (.tup [.str "counted", .str ":", d]) := ctx_of (hs_yes (show (("counted" : Str), 3) ∈ words by simp [words]) (shp_counted.trans (show (Dx.str ":").to = true by decide +kernel))) (lm_plain (by decide +kernel)) (by rw [inn_counted]; exact all1) (fun e m => by rw [inn_counted] at m; exact lim1 L m) (by simp only [Dx.size, Dx.sizes]; omega)
theorem cx6 (L : Lim d) : Ctx d (.tup [.str "skip", d]) := ctx_of (hs_yes (show (("skip" : Str), 2) ∈ words by simp [words]) shp_skip) (lm_plain (by decide +kernel)) (by rw [inn_skip]; exact all1) (fun e m => by rw [inn_skip] at m; exact lim1 L m) (by simp only [Dx.size, Dx.sizes]; omega)
theorem cx7 (L : Lim d) : Ctx d (.tup [.str "turned", d, .tup [.tup [.str "a", .str "b"]]]) := ctx_of (hs_yes (show (("turned" : Str), 3) ∈ words by simp [words]) (shp_turned.trans (by
    show tuB (.tup [.tup [.str "a", .str "b"]]) = true
    have a : ∀ i : Decidable (flx [Dx.tup [.str "a", .str "b"]]).Nodup, @decide _ i = true := fun i => decide_eq_true (by
      show [Dx.str "a", Dx.str "b"].Nodup
      refine List.nodup_cons.mpr ⟨fun z => ?_, by simp⟩
      exact absurd (Dx.str.inj (List.mem_singleton.mp z)) (by decide +kernel))
    unfold tuB
    rw [show (Dx.tup [.tup [.str "a", .str "b"]]).items = [Dx.tup [.str "a", .str "b"]] from rfl, a]
    decide +kernel))) (lm_turned (show Small (.tup [.tup [.str "a", .str "b"]]) from small_c (by decide +kernel) (by decide +kernel) (by decide +kernel))) (by rw [inn_turned]; exact all1) (fun e m => by rw [inn_turned] at m; exact lim1 L m) (by simp only [Dx.size, Dx.sizes]; omega)
theorem cx8 (L : Lim d) : Ctx d (.tup [.str "again", otherX, .tup [.str "skip", d]]) := by
  have c6 := cx6 L
  refine ctx_of (hs_yes (show (("again" : Str), 3) ∈ words by simp [words]) (shp_again.trans ?_)) (lm_again (lm_plain (by decide +kernel))) ?_ (fun e m => ?_) (by simp only [otherX, Dx.size, Dx.sizes]; omega)
  · show agB (hs 2) (.tup [.str "skip", d]) = true
    unfold agB
    rw [hs_yes (show (("skip" : Str), 2) ∈ words by simp [words]) shp_skip]
    show (false || (true && decide (("skip" : Str) = "text" ∨ ("skip" : Str) = "skip"))) = true
    decide +kernel
  · rw [inn_again]
    show [otherX, .tup [.str "skip", d]].all foB = _
    rw [all2, c6.eq]
  · rw [inn_again] at m
    exact lim2 c6.lim m
end
end RT

set_option maxHeartbeats 1000000
/-! the law's forms within forms -/
namespace RT
open PySem PySem.Spec PyProof.Rows L2
def rhoW (d : Dx) : Nat → Dx
  | 1 => d
  | 3 => otherX
  | _ => .non
abbrev W0 : List LX := [.tup [.str "row", .tup [.var 3, .var 1]], .tup [.str "row", .tup [.var 1]], .tup [.str "either", .tup [.tup [.str "a", .var 3], .tup [.str "b", .var 1]]]]
abbrev W1 : List LX := [.tup [.str "again", .var 1, .non], .tup [.str "counted", .str ":", .var 1], .tup [.str "skip", .var 1]]
abbrev W2 : List LX := [.tup [.str "turned", .var 1, .tup [.tup [.str "a", .str "b"]]], .tup [.str "again", .var 3, .tup [.str "skip", .var 1]]]
def ctxs (d : Dx) : List Dx := LX.dens (rhoW d) W0 ++ LX.dens (rhoW d) W1 ++ LX.dens (rhoW d) W2
theorem ctxs_all {d : Dx} (L : Lim d) : ∀ c ∈ ctxs d, Ctx d c := by
  show ∀ c ∈ [Dx.tup [.str "row", .tup [otherX, d]], .tup [.str "row", .tup [d]], .tup [.str "either", .tup [.tup [.str "a", otherX], .tup [.str "b", d]]], .tup [.str "again", d, .non], .tup [.str "counted", .str ":", d], .tup [.str "skip", d], .tup [.str "turned", d, .tup [.tup [.str "a", .str "b"]]], .tup [.str "again", otherX, .tup [.str "skip", d]]], Ctx d c
  intro c m
  simp only [List.mem_cons, List.not_mem_nil, or_false] at m
  rcases m with rfl | rfl | rfl | rfl | rfl | rfl | rfl | rfl
  · exact cx1 L
  · exact cx2 L
  · exact cx3 L
  · exact cx4 L
  · exact cx5 L
  · exact cx6 L
  · exact cx7 L
  · exact cx8 L
theorem Rqs.mem {H : Hp} {vs : List V} {ds : List Dx} (r : Rqs H vs ds) {v : V} (m : v ∈ vs) : ∃ d ∈ ds, Rq H v d := by
  obtain ⟨i, e⟩ := List.mem_iff_getElem?.mp m
  obtain ⟨d, ed, rd⟩ := r.get i v e
  exact ⟨d, List.mem_of_getElem? ed, rd⟩
theorem pot_some {H : Hp} {pd po : Addr} {t : Nat} {ex : Ex} (P : Pot H pd po t ex) : ∀ b, PM pd po b → H b ≠ none := fun b m e => by
  obtain ⟨s, _, _, e1⟩ := P.d
  obtain ⟨ns, _, _, e2⟩ := P.o
  rcases m with z | z
  · rw [z, e1] at e
    cases e
  · rw [z, e2] at e
    cases e
theorem pot_po {H : Hp} {pd po l : Addr} {t : Nat} {ex : Ex} (P : Pot H pd po t ex) (n : H l = none) : l ≠ po := fun z => pot_some P po (.inr rfl) (z ▸ n)
section
variable {P : Program} {w : World} {K : PySem.W.Frag} {mg : Str → Option Value} {base : Heap}
def spPickT (K : PySem.W.Frag) : Sp := fun vs H Q _ => ∃ (pd po : Addr) (t : Nat) (ex : Ex) (l : Addr) (xs : List V), vs = [.ref pd, .ref l] ∧ Pot H pd po t ex ∧ t < 2 ^ 50 ∧ H l = some (.tup xs) ∧ 1 ≤ xs.length ∧ xs.length ≤ 1000 ∧
  ∀ (v : V) (H' : Hp) (t' : Nat), t' ≤ t + 1 → v ∈ xs → Pot H' pd po t' ex → Kp (PM pd po) H H' → Q v H'
theorem ok_pickT {f fn : Addr} {fd fdn : FuncData} {k : Nat} (F : Fun K "_law_pick" "_law_pick" sPick f fd) (G : FnOk P w K mg base CX0 k fn fdn ["_law_pot_here", "_law_many"] spNext) (kn : PySem.W.keepIn K (.ref fn) = true) (bn : Binds K fdn ["_law_pot_here", "_law_many"] []) (gn : mg "_law_next" = some (.ref fn)) (ml : mg "len" = none) :
    FnOk P w K mg base CX0 (k + 1) f fd ["_law_pot_here", "_law_some"] (spPickT K) := by
  refine F.ok scPick (fun vs H Q E h => ?_) (fun cdv A outer s H vs Q E hr h => ?_)
  · obtain ⟨pd, po, t, ex, x, R, rfl, _⟩ := h
    rfl
  · obtain ⟨pd, po, t, ex, l, xs, rfl, hP, ht, hl, h1, h2, q⟩ := h
    refine ⟨_, pss_one (ps_ret (pe_ix ix_seq (pv 1) (pe_call G hr (by rfl) gn kn bn .nil pass0 (pa_cons (pv 0) (pa_cons (pe_callB call_len (by rfl) ml PySem.boot_len (pa_cons (pv 1) pa_nil)) pa_nil))) (fun _ _ => rfl))), ?_⟩
    refine ⟨_, rfl, _, rfl, _, rfl, _, xs.length, rfl, .inr ⟨xs, SqT.of hl, rfl⟩, pd, po, t, ex, _, rfl, hP, ht, by omega, by omega, fun d H' t' ht' d0 d1 hP' hk => ?_⟩
    obtain ⟨v, hv, hm⟩ := at_some (xs := xs) d0 d1
    exact .inr (.inl ⟨l, xs, d, v, rfl, rfl, SqT.of (hk l _ (fun m => hP.noT l _ m hl) hl), hv, q _ _ t' ht' hm hP' hk⟩)
def spPk2 (K : PySem.W.Frag) : Sp := fun vs H Q E => ∃ b : Bool, (match b with | true => spPick K | false => spPickT K) vs H Q E
theorem ok_pk2 {f fn : Addr} {fd fdn : FuncData} {k : Nat} (F : Fun K "_law_pick" "_law_pick" sPick f fd) (G : FnOk P w K mg base CX0 k fn fdn ["_law_pot_here", "_law_many"] spNext) (kn : PySem.W.keepIn K (.ref fn) = true) (bn : Binds K fdn ["_law_pot_here", "_law_many"] []) (gn : mg "_law_next" = some (.ref fn)) (ml : mg "len" = none) :
    FnOk P w K mg base CX0 (k + 1) f fd ["_law_pot_here", "_law_some"] (spPk2 K) := FnOk.ex (sp := fun b : Bool => match b with | true => spPick K | false => spPickT K) fun b => match b with
  | true => ok_pick F G kn bn gn ml
  | false => ok_pickT F G kn bn gn ml
def spWi : Sp := fun vs H Q _ => ∃ (pd po : Addr) (t : Nat) (ex : Ex) (v : V) (d : Dx) (n : Nat), vs = [.ref pd, v, .int n] ∧ Pot H pd po t ex ∧ t < 2 ^ 49 ∧ Rq (cut (PM pd po) H) v d ∧ Lim d ∧ n ≤ 3 ∧
  ∀ (v' : V) (d' : Dx) (H' : Hp) (t' : Nat), t' ≤ t + 3 → Rq (cut (PM pd po) H') v' d' → foB d' = foB d → Lim d' → d'.size ≤ d.size + 90 → Pot H' pd po t' ex → Kp (PM pd po) H H' → Q v' H'
theorem cons_ok {te : TE} {ta : TA} {σ : L2.St} {H : Hp} {Q : List V → Hp → Prop} (h : te σ H fun x H1 => ta σ H1 fun xs H2 => Q (x :: xs) H2) : tCons te ta σ H Q := h
theorem nil_ok {σ : L2.St} {H : Hp} {Q : List V → Hp → Prop} (h : Q [] H) : tNil σ H Q := h
theorem ok_wi {f fk : Addr} {fd fdk : FuncData} {k : Nat} (F : Fun K "_law_within" "_law_within" sWi f fd)
    (GK : FnOk P w K mg base CX0 k fk fdk ["_law_pot_here", "_law_some"] (spPick K)) (kk : PySem.W.keepIn K (.ref fk) = true) (bk : Binds K fdk ["_law_pot_here", "_law_some"] []) (gk : mg "_law_pick" = some (.ref fk)) (mr : mg "range" = none) :
    FnOk P w K mg base CX0 (k + 1) f fd ["_law_pot_here", "_law_thing", "_law_deep"] spWi := by
  refine F.ok scWi (fun vs H Q E h => ?_) (fun cdv A outer s H vs Q E hr h => ?_)
  · obtain ⟨pd, po, t, ex, x, R, n, rfl, _⟩ := h
    rfl
  · obtain ⟨pd, po, t, ex, v, d, n, rfl, hP, ht, rv, hl, hn, q⟩ := h
    refine ⟨_, (pss_cons (ps_set (i := 3) scWi.nd rfl (.inl rfl) (pe_tup (pa_cons pe_str (pa_cons pe_str pa_nil))))
      (pss_cons (ps_for PassesOwn.never rfl (pi_range1 (by rfl) mr (pa_cons (pv 2) pa_nil)) (pg_name (i := 4) scWi.nd rfl (.inl rfl)) (pss_cons (ps_set (i := 5) scWi.nd rfl (.inl rfl) (pe_lst (pa_cons (pe_tup (pa_cons pe_str (pa_cons (pe_tup (pa_cons (pv 3) (pa_cons (pv 1) pa_nil))) pa_nil))) (pa_cons (pe_tup (pa_cons pe_str (pa_cons (pe_tup (pa_cons (pv 1) pa_nil)) pa_nil))) (pa_cons (pe_tup (pa_cons pe_str (pa_cons (pe_tup (pa_cons (pe_tup (pa_cons pe_str (pa_cons (pv 3) pa_nil))) (pa_cons (pe_tup (pa_cons pe_str (pa_cons (pv 1) pa_nil))) pa_nil))) pa_nil))) pa_nil)))))
      (pss_cons (ps_set (i := 5) scWi.nd rfl (.inl rfl) (pe_op op_cat (pv 5) (pe_lst (pa_cons (pe_tup (pa_cons pe_str (pa_cons (pv 1) (pa_cons pe_non pa_nil)))) (pa_cons (pe_tup (pa_cons pe_str (pa_cons pe_str (pa_cons (pv 1) pa_nil)))) (pa_cons (pe_tup (pa_cons pe_str (pa_cons (pv 1) pa_nil))) pa_nil))))))
      (pss_one (ps_set (i := 1) scWi.nd rfl (.inl rfl) (pe_call GK hr (by rfl) gk kk bk .nil pass0 (pa_cons (pv 0) (pa_cons (pe_op op_cat (pv 5) (pe_lst (pa_cons (pe_tup (pa_cons pe_str (pa_cons (pv 1) (pa_cons (pe_tup (pa_cons (pe_tup (pa_cons pe_str (pa_cons pe_str pa_nil))) pa_nil)) pa_nil)))) (pa_cons (pe_tup (pa_cons pe_str (pa_cons (pv 3) (pa_cons (pe_tup (pa_cons pe_str (pa_cons (pv 1) pa_nil))) pa_nil)))) pa_nil)))) pa_nil))))))))
      (pss_one (ps_ret (pv 1))))), ?_⟩
    have h49 : (2 : Nat) ^ 49 = 562949953421312 := by decide
    have h50 : (2 : Nat) ^ 50 = 1125899906842624 := by decide
    refine seq_set (litX_run (PM pd po) (.tup [.str "text", .str "q"]) (by simp only [LX.te, LX.ta]) (ρ := fun _ => .non) (by decide +kernel) (pot_some hP) (fun i m => by simp [LX.vars, LX.varss] at m) fun vo H1 ro k1 => ?_)
    have ro : Rq (cut (PM pd po) H1) vo otherX := ro
    have P1 := hP.keep k1 (fun z => z) (fun z => z)
    have rv1 := rv.tl (tl2_c0 (M := PM pd po) k1)
    have k01 : Kp (PM pd po) H H1 := k1.mono fun _ z => z.elim
    clear k1 rv hP
    refine seq_for ?_
    refine ⟨_, rfl, n, rfl, by omega, ?_, ?_⟩
    · have : (3 : Int) < 2 ^ 62 := by decide
      omega
    refine for_range (lo := 0) (n := n) (fun i σ H2 => ∃ (v2 : V) (d2 : Dx) (t2 : Nat) (y4 y5 : Option V), σ = [some (.ref pd), some v2, some (.int n), some vo, y4, y5] ∧ i ≤ n ∧ t2 ≤ t + i ∧ Pot H2 pd po t2 ex ∧ Kp (PM pd po) H H2 ∧ Rq (cut (PM pd po) H2) vo otherX ∧ Rq (cut (PM pd po) H2) v2 d2 ∧ Lim d2 ∧ foB d2 = foB d ∧ d2.size ≤ d.size + 30 * i) ?_ ?_ ?_
    · exact ⟨v, d, t, none, none, rfl, Nat.zero_le _, by omega, P1, k01, ro, rv1, hl, rfl, by omega⟩
    · rintro i σ H2 hi ⟨v2, d2, t2, y4, y5, rfl, _, ht2, P2, k2, ro2, rv2, hl2, he2, hs2⟩
      have hv2 : ∀ {σ : L2.St} {H3 : Hp}, σ[1]? = some (some v2) → σ[3]? = some (some vo) → Kp M0 H2 H3 → ∀ i, i = 1 ∨ i = 3 → ∃ v, σ[i]? = some (some v) ∧ Rq (cut (PM pd po) H3) v (rhoW d2 i) := fun e1 e3 k i m => by
        rcases m with rfl | rfl
        · exact ⟨v2, e1, rv2.tl (tl2_c0 k)⟩
        · exact ⟨vo, e3, ro2.tl (tl2_c0 k)⟩
      refine seq_set (litXL_run (PM pd po) W0 (by simp only [W0, LX.te, LX.ta]) (ρ := rhoW d2) (by decide +kernel) (by decide) (pot_some P2) (fun i m => hv2 rfl rfl Kp.refl i (by simp [LX.vars, LX.varss] at m; omega)) fun l3 vs3 H3 e3 n3 r3 k3 => ?_)
      have r3' : Rqs (cut (PM pd po) H3) vs3 (LX.dens (rhoW d2) W0) := r3.tl (tl2_mono fun b m => .inl m)
      have P3 := P2.keep k3 (fun z => z) (fun z => z)
      refine seq_set (catX_run (PM pd po) 5 W1 (by simp only [W1, LX.te, LX.ta]) (ρ := rhoW d2) (by decide +kernel) (by rw [LX.dens_len]; decide) (pot_some P3) rfl e3 r3' (fun i m => hv2 rfl rfl k3 i (by simp [LX.vars, LX.varss] at m; omega)) fun l4 vs4 H4 e4 n4 r4 k4 => ?_)
      have k34 := k3.trans k4
      have r4' := r4.tl (tl2_mono (N := PM pd po) fun b m => .inl m)
      have P4 := P3.keep k4 (fun z => z) (fun z => z)
      refine one_set ?_
      refine ⟨_, rfl, ?_⟩
      refine cons_ok (catX_run (PM pd po) 5 W2 (by simp only [W2, LX.te, LX.ta]) (ρ := rhoW d2) (by decide +kernel) (by rw [List.length_append, LX.dens_len, LX.dens_len]; decide) (pot_some P4) rfl e4 r4' (fun i m => hv2 rfl rfl k34 i (by simp [LX.vars, LX.varss] at m; omega)) fun l5 vs5 H5 e5 n5 r5 k5 => nil_ok ?_)
      have k35 := k34.trans k5
      have r5' : Rqs (cut (PM pd po) H5) vs5 (ctxs d2) := r5.tl (tl2_mono fun b m => .inl m)
      have P5 := P4.keep k5 (fun z => z) (fun z => z)
      have l5l : vs5.length = 8 := r5'.len
      refine ⟨pd, po, t2, ex, .ref l5, fun v => ∃ c ∈ ctxs d2, Rq (cut (PM pd po) H5) v c, rfl, P5, by omega, .inr ⟨l5, vs5, rfl, e5, pot_po P4 n5, by omega, by omega, fun v m => r5'.mem m⟩, fun v6 H6 t6 ht6 ⟨c, mc, rc⟩ P6 k6 => ?_⟩
      have C := ctxs_all hl2 c mc
      have lift := tl2_kp (M := PM pd po) (fun b m => m) k6
      have sz := C.size
      exact ⟨v6, c, t6, _, _, rfl, by omega, by omega, P6, (k2.trans (k35.mono fun _ z => z.elim)).trans k6, (ro2.tl (tl2_c0 k35)).tl lift, rc.tl lift, C.lim, C.eq.trans he2, by omega⟩
    · rintro σ H2 ⟨v2, d2, t2, y4, y5, rfl, _, ht2, P2, k2, ro2, rv2, hl2, he2, hs2⟩
      exact ⟨_, rfl, q v2 d2 H2 t2 (by omega) rv2 he2 hl2 (by omega) P2 k2⟩
end
end RT

set_option maxHeartbeats 1000000
/-! the law -/
namespace RT
open PySem PySem.Spec PyProof.Rows L2
abbrev sLaw : Stmt := topS 51
theorem scLaw : FnScope ["_law_script", "_law_pot_here", "_law_form_here", "_law_bad", "_law_turn", "_law_deep"] ["_law_script"] (defScope sLaw) := ⟨rfl, rfl, rfl, by decide +kernel, rfl, by decide +kernel, by decide +kernel⟩
theorem bads_len (g : Dx) : (bads g).length ≤ 1000 ∧ 1 ≤ (bads g).length := by
  simp only [bads, List.length_append, LX.dens_len, es3_len]
  decide
section
variable {P : Program} {w : World} {K : PySem.W.Frag} {mg : Str → Option Value} {base : Heap}
def spLaw (K : PySem.W.Frag) (TT : List Addr) : Sp := fun vs H Q _ => ∃ (a : Addr) (ns : List Int), vs = [.ref a] ∧ SqL K H a (ns.map V.int) ∧ Tabs TT H ∧ ∀ H', Q (.bl true) H'
theorem pot_tabs {TT : List Addr} {H H' : Hp} {pd po : Addr} {t : Nat} {ex : Ex} (P : Pot H pd po t ex) (T : Tabs TT H) (k : Kp (TM TT) H H') : Pot H' pd po t ex := P.keep k (fun m => tab_off (T pd m) P (.inl rfl)) (fun m => tab_off (T po m) P (.inr rfl))
theorem tabs_pot {TT : List Addr} {H H' : Hp} {pd po : Addr} {t : Nat} {ex : Ex} (P : Pot H pd po t ex) (T : Tabs TT H) (k : Kp (PM pd po) H H') : Tabs TT H' := T.off k fun S m => tab_off (T S m) P
theorem ok_law {TT : List Addr} {f fpo fbk fk fn fbd fw ff : Addr} {fd fdpo fdbk fdk fdn fdbd fdw fdf : FuncData} {k : Nat} (F : Fun K "law" "law" sLaw f fd)
    (GPo : FnOk P w K mg base CX0 k fpo fdpo ["_law_script"] (spPot K)) (kpo : PySem.W.keepIn K (.ref fpo) = true) (bpo : Binds K fdpo ["_law_script"] []) (gpo : mg "_law_pot" = some (.ref fpo))
    (GBk : FnOk P w K mg base CX0 k fbk fdbk ["_law_pot_here"] spBk) (kbk : PySem.W.keepIn K (.ref fbk) = true) (bbk : Binds K fdbk ["_law_pot_here"] []) (gbk : mg "_law_book" = some (.ref fbk))
    (GK : FnOk P w K mg base CX0 k fk fdk ["_law_pot_here", "_law_some"] (spPk2 K)) (kk : PySem.W.keepIn K (.ref fk) = true) (bk : Binds K fdk ["_law_pot_here", "_law_some"] []) (gk : mg "_law_pick" = some (.ref fk))
    (GN : FnOk P w K mg base CX0 k fn fdn ["_law_pot_here", "_law_many"] spNext) (kn : PySem.W.keepIn K (.ref fn) = true) (bn : Binds K fdn ["_law_pot_here", "_law_many"] []) (gn : mg "_law_next" = some (.ref fn))
    (GBd : FnOk P w K mg base CX0 k fbd fdbd ["_law_form_here"] spBd) (kbd : PySem.W.keepIn K (.ref fbd) = true) (bbd : Binds K fdbd ["_law_form_here"] []) (gbd : mg "_law_bad_forms" = some (.ref fbd))
    (GW : FnOk P w K mg base CX0 k fw fdw ["_law_pot_here", "_law_thing", "_law_deep"] spWi) (kw : PySem.W.keepIn K (.ref fw) = true) (bw : Binds K fdw ["_law_pot_here", "_law_thing", "_law_deep"] []) (gw : mg "_law_within" = some (.ref fw))
    (GF : FnOk P w K mg base CX0 k ff fdf ["x"] (spFox TT)) (kf : PySem.W.keepIn K (.ref ff) = true) (bf : Binds K fdf ["x"] []) (gf : mg "is_form" = some (.ref ff))
    (mr : mg "range" = none) : FnOk P w K mg base CX0 (k + 1) f fd ["_law_script"] (spLaw K TT) := by
  refine F.ok scLaw (fun vs H Q E h => ?_) (fun cdv A outer s H vs Q E hr h => ?_)
  · obtain ⟨a, ns, rfl, _⟩ := h
    rfl
  · obtain ⟨a, ns, rfl, hS, hT, q⟩ := h
    refine ⟨_, (pss_cons (ps_set (i := 1) scLaw.nd rfl (.inl rfl) (pe_call GPo hr (by rfl) gpo kpo bpo .nil pass0 (pa_cons (pv 0) pa_nil)))
      (pss_cons (ps_set (i := 2) scLaw.nd rfl (.inl rfl) (pe_ix ix_tup (pe_call GK hr (by rfl) gk kk bk .nil pass0 (pa_cons (pv 1) (pa_cons (pe_ix ix_tup (pe_call GBk hr (by rfl) gbk kbk bbk .nil pass0 (pa_cons (pv 1) pa_nil)) pe_int (fun _ _ => rfl)) pa_nil))) pe_int (fun _ _ => rfl)))
      (pss_cons (ps_for PassesOwn.never rfl (pi_list (pe_call GBd hr (by rfl) gbd kbd bbd .nil pass0 (pa_cons (pv 2) pa_nil))) (pg_name (i := 3) scLaw.nd rfl (.inl rfl)) (pss_one (ps_if (pt_cmpR op_isnot_bl (pe_call GF hr (by rfl) gf kf bf .nil pass0 (pa_cons (pv 3) pa_nil)) pe_bl (nomark _)) (pss_one (ps_ret pe_bl)) pss_nil)))
      (pss_cons (ps_for PassesOwn.never rfl (pi_range1 (by rfl) mr (pa_cons pe_int pa_nil)) (pg_name (i := 4) scLaw.nd rfl (.inl rfl)) (pss_cons (ps_set (i := 3) scLaw.nd rfl (.inl rfl) (pe_call GK hr (by rfl) gk kk bk .nil pass0 (pa_cons (pv 1) (pa_cons (pe_call GBd hr (by rfl) gbd kbd bbd .nil pass0 (pa_cons (pv 2) pa_nil)) pa_nil))))
      (pss_cons (ps_set (i := 5) scLaw.nd rfl (.inl rfl) (pe_op op_add pe_int (pe_call GN hr (by rfl) gn kn bn .nil pass0 (pa_cons (pv 1) (pa_cons pe_int pa_nil)))))
      (pss_one (ps_if (PW.pt (pw_or (pt_cmpR op_isnot_bl (pe_call GF hr (by rfl) gf kf bf .nil pass0 (pa_cons (pe_call GW hr (by rfl) gw kw bw .nil pass0 (pa_cons (pv 1) (pa_cons (pv 3) (pa_cons (pv 5) pa_nil)))) pa_nil)) pe_bl (nomark _)) (pw_or1 (pt_cmpR op_isnot_bl (pe_call GF hr (by rfl) gf kf bf .nil pass0 (pa_cons (pe_call GW hr (by rfl) gw kw bw .nil pass0 (pa_cons (pv 1) (pa_cons (pv 2) (pa_cons (pv 5) pa_nil)))) pa_nil)) pe_bl (nomark _))))) (pss_one (ps_ret pe_bl)) pss_nil)))))
      (pss_one (ps_ret (pe_cmpR op_is_bl (pe_call GF hr (by rfl) gf kf bf .nil pass0 (pa_cons (pv 2) pa_nil)) pe_bl (nomark _)))))))), ?_⟩
    have h49 : (2 : Nat) ^ 49 = 562949953421312 := by decide
    have h50 : (2 : Nat) ^ 50 = 1125899906842624 := by decide
    refine seq_set ⟨_, rfl, a, ns, rfl, hS, fun pd po H1 k1 nd no hne P1 => ?_⟩
    have t1 : Tabs TT H1 := hT.off k1 fun _ _ z => z
    refine seq_set ⟨_, rfl, _, rfl, pd, po, 0, _, rfl, P1, by decide, fun b rows s ps bs H2 t2 r o g ht2 eb er hR few hbs hnm hs P2 k2 => ?_⟩
    have T2 : Tabs TT H2 := tabs_pot P1 t1 k2
    refine ⟨b, _, 1, .ref rows, rfl, rfl, SqT.of eb, atI_nat (j := 1) rfl, ?_⟩
    have n0 : 1 ≤ bs.length := by
      obtain ⟨p, mp, _⟩ := List.mem_map.mp hs
      exact List.length_pos_of_mem mp
    have pl := hR.1
    refine ⟨false, pd, po, t2, _, rows, _, rfl, P2, by omega, er, by rw [List.length_map]; omega, by rw [List.length_map]; omega, fun v H3 t3 ht3 mv P3 k3 => ?_⟩
    obtain ⟨p, mp, rfl⟩ := List.mem_map.mp mv
    obtain ⟨i, ep⟩ := List.mem_iff_getElem?.mp mp
    have li : i < bs.length := by
      rw [← pl]
      exact (List.getElem?_eq_some_iff.mp ep).1
    obtain ⟨u, eu, ru⟩ := hR.2 i p _ ep (List.getElem?_eq_getElem li)
    obtain ⟨hok, hwf, hsz⟩ := hbs bs[i].1 bs[i].2 (List.getElem_mem li)
    have T3 : Tabs TT H3 := tabs_pot P2 T2 k3
    have eu3 := k3 p _ (fun m => P2.noT p _ m eu) eu
    have rg : Rq (cut (PM pd po) H3) u bs[i].2.enc.toX := (ru.toX (M := PM pd po) P2.noT).tl (tl2_kp (fun b m => m) k3)
    have G : GoodG bs[i].2.enc.toX := good_fo _ hwf hok
    have gsz : bs[i].2.enc.toX.size ≤ 1200000 := by
      rw [toX_size]
      have := enc_size hwf
      omega
    have B := (all_bads _ G).mem
    have bl := bads_len bs[i].2.enc.toX
    refine ⟨p, _, 1, u, rfl, rfl, SqT.of eu3, atI_nat (j := 1) rfl, ?_⟩
    have t3b : t3 < 2 ^ 48 := by
      have : (2 : Nat) ^ 48 = 281474976710656 := by decide
      omega
    generalize bs[i].2.enc.toX = gg at rg G gsz B bl
    clear hok hwf hsz ru eu eu3 hbs hR er eb k3 P2 T2 k2 P1 t1 hnm hs
    have h48 : (2 : Nat) ^ 48 = 281474976710656 := by decide
    -- each bad form
    refine seq_for ?_
    refine ⟨_, rfl, PM pd po, u, gg, rfl, pot_some P3, rg, fun l us H4 BD => ?_⟩
    have T4 : Tabs TT H4 := T3.off BD.k fun _ _ z => z
    have P4 := P3.keep BD.k (fun z => z) (fun z => z)
    have rg4 := rg.tl (tl2_c0 (M := PM pd po) BD.k)
    have tell : ∀ {H5 : Hp} {Q5 : VK} {d : Dx} {c : Bool}, foB d = c → Tabs TT H5 → (∀ H', Kp (TM TT) H5 H' → Tabs TT H' → Q5 (.bl c) H') → Tell TT H5 Q5 (foB d) := fun e t q => by
      rw [e]
      exact ⟨t, q⟩
    refine ⟨l, rfl, ⟨_, SqL.of BD.e⟩, ?_⟩
    refine for_list (xs := us) (fun i σ H5 => ∃ y3 y4 y5, σ = [some (.ref a), some (.ref pd), some u, y3, y4, y5] ∧ Kp (TM TT) H4 H5 ∧ Tabs TT H5) ?_ ?_ ?_ ?_
    · exact ⟨_, _, _, rfl, Kp.refl, T4⟩
    · rintro i σ H5 _ ⟨_, _, _, _, k5, _⟩
      exact SqL.of (T4.lst k5 BD.e)
    · rintro i x σ H5 hx ⟨y3, y4, y5, rfl, k5, T5⟩
      obtain ⟨d, md, rd⟩ := BD.r.mem (List.mem_of_getElem? hx)
      have b := B d md
      have bs := b.size
      have rd5 := (rd.tl tl2_out).tl (tl2_tabs T4 k5)
      exact ⟨_, rfl, x, d, rfl, rd5, b.lim, by omega, tell b.no T5 fun H6 k6 T6 => ⟨false, false, rfl, rfl, _, rfl, iteF' rfl ⟨_, _, _, rfl, k5.trans k6, T6⟩⟩⟩
    · rintro σ H5 ⟨y3, y4, y5, rfl, k5, T5⟩
      have P5 := pot_tabs P4 T4 k5
      have rg5 := rg4.tl (tl2_cut (M := PM pd po) (tl2_tabs T4 k5))
      clear rg4 P4 T4 k5
      refine ⟨6, rfl, by decide, by decide, ?_⟩
      refine for_range (lo := 0) (n := 6) (fun i σ H6 => ∃ (t6 : Nat) (ex : Ex) (y3 y4 y5 : Option V), σ = [some (.ref a), some (.ref pd), some u, y3, y4, y5] ∧ t6 ≤ t3 + i * 10 ∧ Pot H6 pd po t6 ex ∧ Rq (cut (PM pd po) H6) u gg ∧ Tabs TT H6) ?_ ?_ ?_
      · exact ⟨t3, _, _, _, _, rfl, by omega, P5, rg5, T5⟩
      · rintro i σ H6 hi ⟨t6, ex, y3, y4, y5, rfl, ht6, P6, rg6, T6⟩
        have t6b : t6 < 2 ^ 48 + 60 := by omega
        refine seq_set ⟨_, rfl, _, rfl, PM pd po, u, gg, rfl, pot_some P6, rg6, fun l us H7 BD => ?_⟩
        have T7 : Tabs TT H7 := T6.off BD.k fun _ _ z => z
        have P7 := P6.keep BD.k (fun z => z) (fun z => z)
        have rg7 := rg6.tl (tl2_c0 (M := PM pd po) BD.k)
        have ul := BD.r.len
        refine ⟨true, pd, po, t6, ex, .ref l, fun v => ∃ d, Rq (cut (PM pd po) H7) v d ∧ Bad gg d, rfl, P7, by omega, .inr ⟨l, us, rfl, BD.e, pot_po P6 BD.n, by omega, by omega, fun v m => ?_⟩, fun v H8 t8 ht8 ⟨d, rd, bd⟩ P8 k8 => ?_⟩
        · obtain ⟨d, md, rd⟩ := BD.r.mem m
          exact ⟨d, rd.tl (tl2_mono fun b m => .inl m), B d md⟩
        have l8 := tl2_kp (M := PM pd po) (fun b m => m) k8
        have T8 := tabs_pot P7 T7 k8
        have rg8 := rg7.tl l8
        have rd8 := rd.tl l8
        have bsz := bd.size
        refine seq_set ⟨_, rfl, pd, po, t8, ex, 3, rfl, P8, by omega, by decide, by decide, fun dd H9 t9 ht9 d0 d1 P9 k9 => ?_⟩
        obtain ⟨n9, rfl⟩ := Int.eq_ofNat_of_zero_le d0
        have l9 := tl2_kp (M := PM pd po) (fun b m => m) k9
        have T9 := tabs_pot P8 T8 k9
        have rg9 := rg8.tl l9
        have rd9 := rd8.tl l9
        refine ⟨_, _, rfl, rfl, ?_⟩
        have en : (1 : Int) + (n9 : Int) = ((1 + n9 : Nat) : Int) := by omega
        refine ⟨_, rfl, _, rfl, _, rfl, pd, po, t9, ex, v, d, 1 + n9, (by show [V.ref pd, v, V.int (1 + (n9 : Int))] = _; rw [en]), P9, by omega, rd9, bd.lim, by omega, fun v' d' H10 t10 ht10 rd' e' l' s' P10 k10 => ?_⟩
        have T10 := tabs_pot P9 T9 k10
        have rg10 := rg9.tl (tl2_kp (M := PM pd po) (fun b m => m) k10)
        refine ⟨v', d', rfl, rd'.tl tl2_out, l', by omega, tell (e'.trans bd.no) T10 fun H11 k11 T11 => ⟨false, false, rfl, rfl, _, rfl, iteF' rfl ?_⟩⟩
        have P11 := pot_tabs P10 T10 k11
        have rg11 := rg10.tl (tl2_cut (M := PM pd po) (tl2_tabs T10 k11))
        refine ⟨_, rfl, _, rfl, _, rfl, pd, po, t10, ex, u, gg, 1 + n9, (by show [V.ref pd, u, V.int (1 + (n9 : Int))] = _; rw [en]), P11, by omega, rg11, G.lim, by omega, fun v2 d2 H12 t12 ht12 rd2 e2 l2 s2 P12 k12 => ?_⟩
        have T12 := tabs_pot P11 T11 k12
        have rg12 := rg11.tl (tl2_kp (M := PM pd po) (fun b m => m) k12)
        refine ⟨v2, d2, rfl, rd2.tl tl2_out, l2, by omega, tell (e2.trans G.yes) T12 fun H13 k13 T13 => ⟨true, true, rfl, rfl, _, rfl, iteF' rfl ?_⟩⟩
        exact ⟨t12, ex, _, _, _, rfl, by omega, pot_tabs P12 T12 k13, rg12.tl (tl2_cut (M := PM pd po) (tl2_tabs T12 k13)), T13⟩
      · rintro σ H6 ⟨t6, ex, y3, y4, y5, rfl, ht6, P6, rg6, T6⟩
        exact ⟨_, rfl, u, gg, rfl, rg6.tl tl2_out, G.lim, by omega, tell G.yes T6 fun H7 _ _ => ⟨true, true, rfl, rfl, q H7⟩⟩
end
end RT

/-! ### the end -/
namespace RT
open PySem PySem.Spec PyProof.Rows L2
section
variable {P : Program} {w : World} {K : PySem.W.Frag} {mg : Str → Option Value} {base : Heap} {TT : List Addr}
theorem at_x {n m j k : Nat} {S g : Addr} {fd : FuncData} {ps : List Str} {W : Str} {L : List Dx → Prop} {b : List Dx → Bool} (ns : PySem.W.nsIn K S W = some (some (.ref g))) (kp : PySem.W.keepIn K (.ref g) = true) (F : FnOk P w K mg base CX0 j g fd ps (spShx W m L b TT)) (hb : Binds K fd ps []) (h : j ≤ k) (hL : ∀ ds, lm (n + 1) (.tup (.str W :: ds)) → L ds) (e : ∀ ds, shp (hs n) W ds = b ds) :
    ∃ g, PySem.W.nsIn K S W = some (some (.ref g)) ∧ PySem.W.keepIn K (.ref g) = true ∧ FnR P w K mg base CX0 k g (spShx W m (fun ds => lm (n + 1) (.tup (.str W :: ds))) (shp (hs n) W) TT) :=
  ⟨g, ns, kp, ((F.raw hb .nil).mono h).imp fun vs H Q E ⟨v, ds, e0, r, ln, hl, t⟩ => by
    rw [List.append_nil]
    refine ⟨v, ds, e0, r, ln, hL ds hl, ?_⟩
    rw [e ds] at t
    exact t⟩
theorem none_hsx {f : Addr} {fd : FuncData} {k : Nat} : FnOk P w K mg base CX0 k f fd ["x"] (spHsx 0 TT) :=
  ⟨fun vs H Q E h => by obtain ⟨_, _, _, _, h, _⟩ := h; exact h.elim, fun A outer s H args us vs Q E _ _ _ _ h => by obtain ⟨_, _, _, _, h, _⟩ := h; exact h.elim⟩
end
theorem tabIn_of {K : PySem.W.Frag} {x : Str} {f c P : Addr} {oc e : Value} {od dd : Option Addr} {fd : FuncData} {sl sl2 : Array (Option Value)} {vs : Array Value} (a : PySem.W.nsIn K mainGlobals x = some (some (.ref f))) (l : K.lookup f = some ⟨oc, od, .func fd, sl⟩) (h : fd.code = .ref c)
    (t : K.lookup c = some ⟨e, dd, .fields vs, sl2⟩) (p : vs[11]? = some (.ref P)) : PySem.W.tabIn K x = some (c, P) := by
  unfold PySem.W.tabIn
  rw [a]
  simp only [l, h, t, p]
/-- the end of a law row, where tables of code objects are known by their defs' names -/
theorem walk_tab {l : PySem.W.OpenLaw} {n k : Nat} {q : Program} {loose : List Str} {XP : (Str → Option Value) → Heap → Prop} {YP : World → Heap → Prop} {d : DefRec} {K : Params → PySem.W.Frag} {x : Str}
    (hn : l.most = some n) (hn2 : n ≤ sizeLine) (hdf : d.params.defaults = []) (hr : Room k callerA) (hY : ∀ (w : World) (h : Heap), YP w h → (K w.params).In h)
    (F : ∀ (w : World) (mg : Str → Option Value) (fa : Addr) (h : Heap), (K w.params).In h → h.Ns mainGlobals mg → mg d.name = some (.ref fa) →
      (∀ (y : Str) (e : DefRec) (c P : Addr), (recsOf q).find? (fun e => e.name == y) = some e → PySem.W.tabIn (K w.params) y = some (c, P) → PySem.W.CodeHd h c P ∧ h.get? P = some { cls := .none, data := .fields #[] }) →
      LamX.LawAtS l w (K w.params) CX0 k n x mg fa h) :
    PySem.W.WalkO q loose XP YP l.row.toRowW d [] (fun f vs => PySem.call f vs) := by
  refine Att.attach_callB hn hdf fun w s₀ s₁ mg mb fa o pm cd doc a vs ns G Y ho hd hcd hmg hobj hints hlen hbits hg => ?_
  have KX := hY w _ Y
  obtain ⟨fd, cs, sp, hT, nT, C, hb, hsp, hF⟩ := F w mg fa _ KX G.T.g hmg (fun y e c P h1 h2 => PySem.W.tab_of G.T KX h1 h2)
  refine LamX.law_callTs (CX := CX0) KX G.T.g G.T.b G.T.builtins G.T.nolimit hg hT nT C G.T.bmain hobj hints ?_ hr hF hb ?_ ?_
  · exact Nat.le_trans hlen hn2
  · exact fun H hH hS => hsp H a ns hlen hbits hH hS
  · exact fun H e s' z => z
set_option maxHeartbeats 0 in
theorem all_mk {l : PySem.W.OpenLaw} {q : Program} {w : World} {K : PySem.W.Frag} {h : Heap} {mg : Str → Option Value} {fa : Addr} (X : K.In h) (G : h.Ns mainGlobals mg) (hfa : mg "law" = some (.ref fa))
    (hq : ∀ (y : Str) (e : DefRec) (c P : Addr), (recsOf q).find? (fun e => e.name == y) = some e → PySem.W.tabIn K y = some (c, P) → PySem.W.CodeHd h c P ∧ h.get? P = some { cls := .none, data := .fields #[] })
    (w2 : ((recsOf q).find? (fun e => e.name == ("is_text" : Str))).isSome = true) (w4 : ((recsOf q).find? (fun e => e.name == ("is_set" : Str))).isSome = true) (w7 : ((recsOf q).find? (fun e => e.name == ("is_name" : Str))).isSome = true) (w16 : ((recsOf q).find? (fun e => e.name == ("_spelt_shape" : Str))).isSome = true) (w18 : ((recsOf q).find? (fun e => e.name == ("_either_shape" : Str))).isSome = true) (w22 : ((recsOf q).find? (fun e => e.name == ("_are_pairs" : Str))).isSome = true) (w24 : ((recsOf q).find? (fun e => e.name == ("none_begins_another" : Str))).isSome = true)
    {f1 : Addr} {od1 an1 : Option Addr} {sl1 : Array (Option Value)} {oc1 kV1 dc1 pm1 ct1 : Value} {cd1 : Value} {f2 : Addr} {od2 an2 : Option Addr} {sl2 : Array (Option Value)} {oc2 kV2 dc2 pm2 ct2 : Value} {cd2 : Addr} {P2 : Addr} {te2 : Value} {td2 : Option Addr} {tv2 : Array Value} {ts2 : Array (Option Value)} {f3 : Addr} {od3 an3 : Option Addr} {sl3 : Array (Option Value)} {oc3 kV3 dc3 pm3 ct3 : Value} {cd3 : Value} {f4 : Addr} {od4 an4 : Option Addr} {sl4 : Array (Option Value)} {oc4 kV4 dc4 pm4 ct4 : Value} {cd4 : Addr} {P4 : Addr} {te4 : Value} {td4 : Option Addr} {tv4 : Array Value} {ts4 : Array (Option Value)} {f5 : Addr} {od5 an5 : Option Addr} {sl5 : Array (Option Value)} {oc5 kV5 dc5 pm5 ct5 : Value} {cd5 : Value} {f6 : Addr} {od6 an6 : Option Addr} {sl6 : Array (Option Value)} {oc6 kV6 dc6 pm6 ct6 : Value} {cd6 : Value} {f7 : Addr} {od7 an7 : Option Addr} {sl7 : Array (Option Value)} {oc7 kV7 dc7 pm7 ct7 : Value} {cd7 : Addr} {P7 : Addr} {te7 : Value} {td7 : Option Addr} {tv7 : Array Value} {ts7 : Array (Option Value)} {f8 : Addr} {od8 an8 : Option Addr} {sl8 : Array (Option Value)} {oc8 kV8 dc8 pm8 ct8 : Value} {cd8 : Value} {f9 : Addr} {od9 an9 : Option Addr} {sl9 : Array (Option Value)} {oc9 kV9 dc9 pm9 ct9 : Value} {cd9 : Value} {f10 : Addr} {od10 an10 : Option Addr} {sl10 : Array (Option Value)} {oc10 kV10 dc10 pm10 ct10 : Value} {cd10 : Value} {f11 : Addr} {od11 an11 : Option Addr} {sl11 : Array (Option Value)} {oc11 kV11 dc11 pm11 ct11 : Value} {cd11 : Value} {f12 : Addr} {od12 an12 : Option Addr} {sl12 : Array (Option Value)} {oc12 kV12 dc12 pm12 ct12 : Value} {cd12 : Value} {f13 : Addr} {od13 an13 : Option Addr} {sl13 : Array (Option Value)} {oc13 kV13 dc13 pm13 ct13 : Value} {cd13 : Value} {f14 : Addr} {od14 an14 : Option Addr} {sl14 : Array (Option Value)} {oc14 kV14 dc14 pm14 ct14 : Value} {cd14 : Value} {f15 : Addr} {od15 an15 : Option Addr} {sl15 : Array (Option Value)} {oc15 kV15 dc15 pm15 ct15 : Value} {cd15 : Value} {f16 : Addr} {od16 an16 : Option Addr} {sl16 : Array (Option Value)} {oc16 kV16 dc16 pm16 ct16 : Value} {cd16 : Addr} {P16 : Addr} {te16 : Value} {td16 : Option Addr} {tv16 : Array Value} {ts16 : Array (Option Value)} {f17 : Addr} {od17 an17 : Option Addr} {sl17 : Array (Option Value)} {oc17 kV17 dc17 pm17 ct17 : Value} {cd17 : Value} {f18 : Addr} {od18 an18 : Option Addr} {sl18 : Array (Option Value)} {oc18 kV18 dc18 pm18 ct18 : Value} {cd18 : Addr} {P18 : Addr} {te18 : Value} {td18 : Option Addr} {tv18 : Array Value} {ts18 : Array (Option Value)} {f19 : Addr} {od19 an19 : Option Addr} {sl19 : Array (Option Value)} {oc19 kV19 dc19 pm19 ct19 : Value} {cd19 : Value} {f20 : Addr} {od20 an20 : Option Addr} {sl20 : Array (Option Value)} {oc20 kV20 dc20 pm20 ct20 : Value} {cd20 : Value} {f21 : Addr} {od21 an21 : Option Addr} {sl21 : Array (Option Value)} {oc21 kV21 dc21 pm21 ct21 : Value} {cd21 : Value} {f22 : Addr} {od22 an22 : Option Addr} {sl22 : Array (Option Value)} {oc22 kV22 dc22 pm22 ct22 : Value} {cd22 : Addr} {P22 : Addr} {te22 : Value} {td22 : Option Addr} {tv22 : Array Value} {ts22 : Array (Option Value)} {f23 : Addr} {od23 an23 : Option Addr} {sl23 : Array (Option Value)} {oc23 kV23 dc23 pm23 ct23 : Value} {cd23 : Value} {f24 : Addr} {od24 an24 : Option Addr} {sl24 : Array (Option Value)} {oc24 kV24 dc24 pm24 ct24 : Value} {cd24 : Addr} {P24 : Addr} {te24 : Value} {td24 : Option Addr} {tv24 : Array Value} {ts24 : Array (Option Value)} {f25 : Addr} {od25 an25 : Option Addr} {sl25 : Array (Option Value)} {oc25 kV25 dc25 pm25 ct25 : Value} {cd25 : Value} {f26 : Addr} {od26 an26 : Option Addr} {sl26 : Array (Option Value)} {oc26 kV26 dc26 pm26 ct26 : Value} {cd26 : Value} {f27 : Addr} {od27 an27 : Option Addr} {sl27 : Array (Option Value)} {oc27 kV27 dc27 pm27 ct27 : Value} {cd27 : Value} {f28 : Addr} {od28 an28 : Option Addr} {sl28 : Array (Option Value)} {oc28 kV28 dc28 pm28 ct28 : Value} {cd28 : Value} {f29 : Addr} {od29 an29 : Option Addr} {sl29 : Array (Option Value)} {oc29 kV29 dc29 pm29 ct29 : Value} {cd29 : Value} {f30 : Addr} {od30 an30 : Option Addr} {sl30 : Array (Option Value)} {oc30 kV30 dc30 pm30 ct30 : Value} {cd30 : Value} {f31 : Addr} {od31 an31 : Option Addr} {sl31 : Array (Option Value)} {oc31 kV31 dc31 pm31 ct31 : Value} {cd31 : Value} {f32 : Addr} {od32 an32 : Option Addr} {sl32 : Array (Option Value)} {oc32 kV32 dc32 pm32 ct32 : Value} {cd32 : Value} {f33 : Addr} {od33 an33 : Option Addr} {sl33 : Array (Option Value)} {oc33 kV33 dc33 pm33 ct33 : Value} {cd33 : Value} {f34 : Addr} {od34 an34 : Option Addr} {sl34 : Array (Option Value)} {oc34 kV34 dc34 pm34 ct34 : Value} {cd34 : Value} {f35 : Addr} {od35 an35 : Option Addr} {sl35 : Array (Option Value)} {oc35 kV35 dc35 pm35 ct35 : Value} {cd35 : Value} {f36 : Addr} {od36 an36 : Option Addr} {sl36 : Array (Option Value)} {oc36 kV36 dc36 pm36 ct36 : Value} {cd36 : Value} {f37 : Addr} {od37 an37 : Option Addr} {sl37 : Array (Option Value)} {oc37 kV37 dc37 pm37 ct37 : Value} {cd37 : Value} {f38 : Addr} {od38 an38 : Option Addr} {sl38 : Array (Option Value)} {oc38 kV38 dc38 pm38 ct38 : Value} {cd38 : Value} {f39 : Addr} {od39 an39 : Option Addr} {sl39 : Array (Option Value)} {oc39 kV39 dc39 pm39 ct39 : Value} {cd39 : Value} {f40 : Addr} {od40 an40 : Option Addr} {sl40 : Array (Option Value)} {oc40 kV40 dc40 pm40 ct40 : Value} {cd40 : Value} {f41 : Addr} {od41 an41 : Option Addr} {sl41 : Array (Option Value)} {oc41 kV41 dc41 pm41 ct41 : Value} {cd41 : Value} {f42 : Addr} {od42 an42 : Option Addr} {sl42 : Array (Option Value)} {oc42 kV42 dc42 pm42 ct42 : Value} {cd42 : Value} {f43 : Addr} {od43 an43 : Option Addr} {sl43 : Array (Option Value)} {oc43 kV43 dc43 pm43 ct43 : Value} {cd43 : Value} {CT : Addr} {fm1 : Addr} {odm1 anm1 : Option Addr} {slm1 : Array (Option Value)} {ocm1 kVm1 dcm1 pmm1 cdm1 ctm1 : Value} {fm2 : Addr} {odm2 anm2 : Option Addr} {slm2 : Array (Option Value)} {ocm2 kVm2 dcm2 pmm2 cdm2 ctm2 : Value} {fm3 : Addr} {odm3 anm3 : Option Addr} {slm3 : Array (Option Value)} {ocm3 kVm3 dcm3 pmm3 cdm3 ctm3 : Value}
    (a1 : PySem.W.nsIn K mainGlobals "is_sign" = some (some (.ref f1)))
    (l1 : K.lookup f1 = some ⟨oc1, od1, .func (PySem.W.fnOf "is_sign" "is_sign" (defArgs sSg) (defBody sSg) (defScope sSg) .none kV1 dc1 pm1 an1 cd1 ct1), sl1⟩)
    (c1 : PySem.W.codeIn K cd1 "is_sign" = true)
    (k1 : PySem.W.keepIn K (.ref f1) = true)
    (a2 : PySem.W.nsIn K mainGlobals "is_text" = some (some (.ref f2)))
    (l2 : K.lookup f2 = some ⟨oc2, od2, .func (PySem.W.fnOf "is_text" "is_text" (defArgs sTx) (defBody sTx) (defScope sTx) .none kV2 dc2 pm2 an2 (.ref cd2) ct2), sl2⟩)
    (c2 : PySem.W.codeIn K (.ref cd2) "is_text" = true)
    (k2 : PySem.W.keepIn K (.ref f2) = true)
    (t2 : K.lookup cd2 = some ⟨te2, td2, .fields tv2, ts2⟩)
    (p2 : tv2[11]? = some (.ref P2))
    (n2 : K.lookup P2 = none)
    (a3 : PySem.W.nsIn K mainGlobals "is_told" = some (some (.ref f3)))
    (l3 : K.lookup f3 = some ⟨oc3, od3, .func (PySem.W.fnOf "is_told" "is_told" (defArgs sTo) (defBody sTo) (defScope sTo) .none kV3 dc3 pm3 an3 cd3 ct3), sl3⟩)
    (c3 : PySem.W.codeIn K cd3 "is_told" = true)
    (k3 : PySem.W.keepIn K (.ref f3) = true)
    (a4 : PySem.W.nsIn K mainGlobals "is_set" = some (some (.ref f4)))
    (l4 : K.lookup f4 = some ⟨oc4, od4, .func (PySem.W.fnOf "is_set" "is_set" (defArgs sSe) (defBody sSe) (defScope sSe) .none kV4 dc4 pm4 an4 (.ref cd4) ct4), sl4⟩)
    (c4 : PySem.W.codeIn K (.ref cd4) "is_set" = true)
    (k4 : PySem.W.keepIn K (.ref f4) = true)
    (t4 : K.lookup cd4 = some ⟨te4, td4, .fields tv4, ts4⟩)
    (p4 : tv4[11]? = some (.ref P4))
    (n4 : K.lookup P4 = none)
    (a5 : PySem.W.nsIn K mainGlobals "is_int" = some (some (.ref f5)))
    (l5 : K.lookup f5 = some ⟨oc5, od5, .func (PySem.W.fnOf "is_int" "is_int" (defArgs sIn) (defBody sIn) (defScope sIn) .none kV5 dc5 pm5 an5 cd5 ct5), sl5⟩)
    (c5 : PySem.W.codeIn K cd5 "is_int" = true)
    (k5 : PySem.W.keepIn K (.ref f5) = true)
    (a6 : PySem.W.nsIn K mainGlobals "is_number" = some (some (.ref f6)))
    (l6 : K.lookup f6 = some ⟨oc6, od6, .func (PySem.W.fnOf "is_number" "is_number" (defArgs sNu) (defBody sNu) (defScope sNu) .none kV6 dc6 pm6 an6 cd6 ct6), sl6⟩)
    (c6 : PySem.W.codeIn K cd6 "is_number" = true)
    (k6 : PySem.W.keepIn K (.ref f6) = true)
    (a7 : PySem.W.nsIn K mainGlobals "is_name" = some (some (.ref f7)))
    (l7 : K.lookup f7 = some ⟨oc7, od7, .func (PySem.W.fnOf "is_name" "is_name" (defArgs sNm) (defBody sNm) (defScope sNm) .none kV7 dc7 pm7 an7 (.ref cd7) ct7), sl7⟩)
    (c7 : PySem.W.codeIn K (.ref cd7) "is_name" = true)
    (k7 : PySem.W.keepIn K (.ref f7) = true)
    (t7 : K.lookup cd7 = some ⟨te7, td7, .fields tv7, ts7⟩)
    (p7 : tv7[11]? = some (.ref P7))
    (n7 : K.lookup P7 = none)
    (a8 : PySem.W.nsIn K mainGlobals "is_thing" = some (some (.ref f8)))
    (l8 : K.lookup f8 = some ⟨oc8, od8, .func (PySem.W.fnOf "is_thing" "is_thing" (defArgs sThing) (defBody sThing) (defScope sThing) .none kV8 dc8 pm8 an8 cd8 ct8), sl8⟩)
    (c8 : PySem.W.codeIn K cd8 "is_thing" = true)
    (k8 : PySem.W.keepIn K (.ref f8) = true)
    (a9 : PySem.W.nsIn K mainGlobals "is_form" = some (some (.ref f9)))
    (l9 : K.lookup f9 = some ⟨oc9, od9, .func (PySem.W.fnOf "is_form" "is_form" (defArgs sForm) (defBody sForm) (defScope sForm) .none kV9 dc9 pm9 an9 cd9 ct9), sl9⟩)
    (c9 : PySem.W.codeIn K cd9 "is_form" = true)
    (k9 : PySem.W.keepIn K (.ref f9) = true)
    (a10 : PySem.W.nsIn K mainGlobals "inner_forms" = some (some (.ref f10)))
    (l10 : K.lookup f10 = some ⟨oc10, od10, .func (PySem.W.fnOf "inner_forms" "inner_forms" (defArgs sInner) (defBody sInner) (defScope sInner) .none kV10 dc10 pm10 an10 cd10 ct10), sl10⟩)
    (c10 : PySem.W.codeIn K cd10 "inner_forms" = true)
    (k10 : PySem.W.keepIn K (.ref f10) = true)
    (a11 : PySem.W.nsIn K mainGlobals "_has_shape" = some (some (.ref f11)))
    (l11 : K.lookup f11 = some ⟨oc11, od11, .func (PySem.W.fnOf "_has_shape" "_has_shape" (defArgs sHs) (defBody sHs) (defScope sHs) .none kV11 dc11 pm11 an11 cd11 ct11), sl11⟩)
    (c11 : PySem.W.codeIn K cd11 "_has_shape" = true)
    (k11 : PySem.W.keepIn K (.ref f11) = true)
    (a12 : PySem.W.nsIn K mainGlobals "_any_shape" = some (some (.ref f12)))
    (l12 : K.lookup f12 = some ⟨oc12, od12, .func (PySem.W.fnOf "_any_shape" "_any_shape" (defArgs sAny) (defBody sAny) (defScope sAny) .none kV12 dc12 pm12 an12 cd12 ct12), sl12⟩)
    (c12 : PySem.W.codeIn K cd12 "_any_shape" = true)
    (k12 : PySem.W.keepIn K (.ref f12) = true)
    (a13 : PySem.W.nsIn K mainGlobals "_text_shape" = some (some (.ref f13)))
    (l13 : K.lookup f13 = some ⟨oc13, od13, .func (PySem.W.fnOf "_text_shape" "_text_shape" (defArgs sTsh) (defBody sTsh) (defScope sTsh) .none kV13 dc13 pm13 an13 cd13 ct13), sl13⟩)
    (c13 : PySem.W.codeIn K cd13 "_text_shape" = true)
    (k13 : PySem.W.keepIn K (.ref f13) = true)
    (a14 : PySem.W.nsIn K mainGlobals "_set_shape" = some (some (.ref f14)))
    (l14 : K.lookup f14 = some ⟨oc14, od14, .func (PySem.W.fnOf "_set_shape" "_set_shape" (defArgs sSsh) (defBody sSsh) (defScope sSsh) .none kV14 dc14 pm14 an14 cd14 ct14), sl14⟩)
    (c14 : PySem.W.codeIn K cd14 "_set_shape" = true)
    (k14 : PySem.W.keepIn K (.ref f14) = true)
    (a15 : PySem.W.nsIn K mainGlobals "_pick_shape" = some (some (.ref f15)))
    (l15 : K.lookup f15 = some ⟨oc15, od15, .func (PySem.W.fnOf "_pick_shape" "_pick_shape" (defArgs sPsh) (defBody sPsh) (defScope sPsh) .none kV15 dc15 pm15 an15 cd15 ct15), sl15⟩)
    (c15 : PySem.W.codeIn K cd15 "_pick_shape" = true)
    (k15 : PySem.W.keepIn K (.ref f15) = true)
    (a16 : PySem.W.nsIn K mainGlobals "_spelt_shape" = some (some (.ref f16)))
    (l16 : K.lookup f16 = some ⟨oc16, od16, .func (PySem.W.fnOf "_spelt_shape" "_spelt_shape" (defArgs sSpsh) (defBody sSpsh) (defScope sSpsh) .none kV16 dc16 pm16 an16 (.ref cd16) ct16), sl16⟩)
    (c16 : PySem.W.codeIn K (.ref cd16) "_spelt_shape" = true)
    (k16 : PySem.W.keepIn K (.ref f16) = true)
    (t16 : K.lookup cd16 = some ⟨te16, td16, .fields tv16, ts16⟩)
    (p16 : tv16[11]? = some (.ref P16))
    (n16 : K.lookup P16 = none)
    (a17 : PySem.W.nsIn K mainGlobals "_row_shape" = some (some (.ref f17)))
    (l17 : K.lookup f17 = some ⟨oc17, od17, .func (PySem.W.fnOf "_row_shape" "_row_shape" (defArgs sRsh) (defBody sRsh) (defScope sRsh) .none kV17 dc17 pm17 an17 cd17 ct17), sl17⟩)
    (c17 : PySem.W.codeIn K cd17 "_row_shape" = true)
    (k17 : PySem.W.keepIn K (.ref f17) = true)
    (a18 : PySem.W.nsIn K mainGlobals "_either_shape" = some (some (.ref f18)))
    (l18 : K.lookup f18 = some ⟨oc18, od18, .func (PySem.W.fnOf "_either_shape" "_either_shape" (defArgs sEsh) (defBody sEsh) (defScope sEsh) .none kV18 dc18 pm18 an18 (.ref cd18) ct18), sl18⟩)
    (c18 : PySem.W.codeIn K (.ref cd18) "_either_shape" = true)
    (k18 : PySem.W.keepIn K (.ref f18) = true)
    (t18 : K.lookup cd18 = some ⟨te18, td18, .fields tv18, ts18⟩)
    (p18 : tv18[11]? = some (.ref P18))
    (n18 : K.lookup P18 = none)
    (a19 : PySem.W.nsIn K mainGlobals "_again_shape" = some (some (.ref f19)))
    (l19 : K.lookup f19 = some ⟨oc19, od19, .func (PySem.W.fnOf "_again_shape" "_again_shape" (defArgs sAsh) (defBody sAsh) (defScope sAsh) .none kV19 dc19 pm19 an19 cd19 ct19), sl19⟩)
    (c19 : PySem.W.codeIn K cd19 "_again_shape" = true)
    (k19 : PySem.W.keepIn K (.ref f19) = true)
    (a20 : PySem.W.nsIn K mainGlobals "_turned_shape" = some (some (.ref f20)))
    (l20 : K.lookup f20 = some ⟨oc20, od20, .func (PySem.W.fnOf "_turned_shape" "_turned_shape" (defArgs sTsh2) (defBody sTsh2) (defScope sTsh2) .none kV20 dc20 pm20 an20 cd20 ct20), sl20⟩)
    (c20 : PySem.W.codeIn K cd20 "_turned_shape" = true)
    (k20 : PySem.W.keepIn K (.ref f20) = true)
    (a21 : PySem.W.nsIn K mainGlobals "_named_shape" = some (some (.ref f21)))
    (l21 : K.lookup f21 = some ⟨oc21, od21, .func (PySem.W.fnOf "_named_shape" "_named_shape" (defArgs sNsh) (defBody sNsh) (defScope sNsh) .none kV21 dc21 pm21 an21 cd21 ct21), sl21⟩)
    (c21 : PySem.W.codeIn K cd21 "_named_shape" = true)
    (k21 : PySem.W.keepIn K (.ref f21) = true)
    (a22 : PySem.W.nsIn K mainGlobals "_are_pairs" = some (some (.ref f22)))
    (l22 : K.lookup f22 = some ⟨oc22, od22, .func (PySem.W.fnOf "_are_pairs" "_are_pairs" (defArgs sAp) (defBody sAp) (defScope sAp) .none kV22 dc22 pm22 an22 (.ref cd22) ct22), sl22⟩)
    (c22 : PySem.W.codeIn K (.ref cd22) "_are_pairs" = true)
    (k22 : PySem.W.keepIn K (.ref f22) = true)
    (t22 : K.lookup cd22 = some ⟨te22, td22, .fields tv22, ts22⟩)
    (p22 : tv22[11]? = some (.ref P22))
    (n22 : K.lookup P22 = none)
    (a23 : PySem.W.nsIn K mainGlobals "_unlike" = some (some (.ref f23)))
    (l23 : K.lookup f23 = some ⟨oc23, od23, .func (PySem.W.fnOf "_unlike" "_unlike" (defArgs sUn) (defBody sUn) (defScope sUn) .none kV23 dc23 pm23 an23 cd23 ct23), sl23⟩)
    (c23 : PySem.W.codeIn K cd23 "_unlike" = true)
    (k23 : PySem.W.keepIn K (.ref f23) = true)
    (a24 : PySem.W.nsIn K mainGlobals "none_begins_another" = some (some (.ref f24)))
    (l24 : K.lookup f24 = some ⟨oc24, od24, .func (PySem.W.fnOf "none_begins_another" "none_begins_another" (defArgs sNb) (defBody sNb) (defScope sNb) .none kV24 dc24 pm24 an24 (.ref cd24) ct24), sl24⟩)
    (c24 : PySem.W.codeIn K (.ref cd24) "none_begins_another" = true)
    (k24 : PySem.W.keepIn K (.ref f24) = true)
    (t24 : K.lookup cd24 = some ⟨te24, td24, .fields tv24, ts24⟩)
    (p24 : tv24[11]? = some (.ref P24))
    (n24 : K.lookup P24 = none)
    (a25 : PySem.W.nsIn K mainGlobals "_law_pot" = some (some (.ref f25)))
    (l25 : K.lookup f25 = some ⟨oc25, od25, .func (PySem.W.fnOf "_law_pot" "_law_pot" (defArgs sPot) (defBody sPot) (defScope sPot) .none kV25 dc25 pm25 an25 cd25 ct25), sl25⟩)
    (c25 : PySem.W.codeIn K cd25 "_law_pot" = true)
    (k25 : PySem.W.keepIn K (.ref f25) = true)
    (a26 : PySem.W.nsIn K mainGlobals "_law_next" = some (some (.ref f26)))
    (l26 : K.lookup f26 = some ⟨oc26, od26, .func (PySem.W.fnOf "_law_next" "_law_next" (defArgs sNext) (defBody sNext) (defScope sNext) .none kV26 dc26 pm26 an26 cd26 ct26), sl26⟩)
    (c26 : PySem.W.codeIn K cd26 "_law_next" = true)
    (k26 : PySem.W.keepIn K (.ref f26) = true)
    (a27 : PySem.W.nsIn K mainGlobals "_law_pick" = some (some (.ref f27)))
    (l27 : K.lookup f27 = some ⟨oc27, od27, .func (PySem.W.fnOf "_law_pick" "_law_pick" (defArgs sPick) (defBody sPick) (defScope sPick) .none kV27 dc27 pm27 an27 cd27 ct27), sl27⟩)
    (c27 : PySem.W.codeIn K cd27 "_law_pick" = true)
    (k27 : PySem.W.keepIn K (.ref f27) = true)
    (a28 : PySem.W.nsIn K mainGlobals "_law_size" = some (some (.ref f28)))
    (l28 : K.lookup f28 = some ⟨oc28, od28, .func (PySem.W.fnOf "_law_size" "_law_size" (defArgs sSize) (defBody sSize) (defScope sSize) .none kV28 dc28 pm28 an28 cd28 ct28), sl28⟩)
    (c28 : PySem.W.codeIn K cd28 "_law_size" = true)
    (k28 : PySem.W.keepIn K (.ref f28) = true)
    (a29 : PySem.W.nsIn K mainGlobals "_law_signs" = some (some (.ref f29)))
    (l29 : K.lookup f29 = some ⟨oc29, od29, .func (PySem.W.fnOf "_law_signs" "_law_signs" (defArgs sSigns) (defBody sSigns) (defScope sSigns) .none kV29 dc29 pm29 an29 cd29 ct29), sl29⟩)
    (c29 : PySem.W.codeIn K cd29 "_law_signs" = true)
    (k29 : PySem.W.keepIn K (.ref f29) = true)
    (a30 : PySem.W.nsIn K mainGlobals "_law_text" = some (some (.ref f30)))
    (l30 : K.lookup f30 = some ⟨oc30, od30, .func (PySem.W.fnOf "_law_text" "_law_text" (defArgs sText) (defBody sText) (defScope sText) .none kV30 dc30 pm30 an30 cd30 ct30), sl30⟩)
    (c30 : PySem.W.codeIn K cd30 "_law_text" = true)
    (k30 : PySem.W.keepIn K (.ref f30) = true)
    (a31 : PySem.W.nsIn K mainGlobals "_law_set" = some (some (.ref f31)))
    (l31 : K.lookup f31 = some ⟨oc31, od31, .func (PySem.W.fnOf "_law_set" "_law_set" (defArgs sSet) (defBody sSet) (defScope sSet) .none kV31 dc31 pm31 an31 cd31 ct31), sl31⟩)
    (c31 : PySem.W.codeIn K cd31 "_law_set" = true)
    (k31 : PySem.W.keepIn K (.ref f31) = true)
    (a32 : PySem.W.nsIn K mainGlobals "_law_pick_form" = some (some (.ref f32)))
    (l32 : K.lookup f32 = some ⟨oc32, od32, .func (PySem.W.fnOf "_law_pick_form" "_law_pick_form" (defArgs sPf) (defBody sPf) (defScope sPf) .none kV32 dc32 pm32 an32 cd32 ct32), sl32⟩)
    (c32 : PySem.W.codeIn K cd32 "_law_pick_form" = true)
    (k32 : PySem.W.keepIn K (.ref f32) = true)
    (a33 : PySem.W.nsIn K mainGlobals "_law_names" = some (some (.ref f33)))
    (l33 : K.lookup f33 = some ⟨oc33, od33, .func (PySem.W.fnOf "_law_names" "_law_names" (defArgs sNames) (defBody sNames) (defScope sNames) .none kV33 dc33 pm33 an33 cd33 ct33), sl33⟩)
    (c33 : PySem.W.codeIn K cd33 "_law_names" = true)
    (k33 : PySem.W.keepIn K (.ref f33) = true)
    (a34 : PySem.W.nsIn K mainGlobals "_law_bit" = some (some (.ref f34)))
    (l34 : K.lookup f34 = some ⟨oc34, od34, .func (PySem.W.fnOf "_law_bit" "_law_bit" (defArgs sBit) (defBody sBit) (defScope sBit) .none kV34 dc34 pm34 an34 cd34 ct34), sl34⟩)
    (c34 : PySem.W.codeIn K cd34 "_law_bit" = true)
    (k34 : PySem.W.keepIn K (.ref f34) = true)
    (a35 : PySem.W.nsIn K mainGlobals "_law_plain" = some (some (.ref f35)))
    (l35 : K.lookup f35 = some ⟨oc35, od35, .func (PySem.W.fnOf "_law_plain" "_law_plain" (defArgs sPl) (defBody sPl) (defScope sPl) .none kV35 dc35 pm35 an35 cd35 ct35), sl35⟩)
    (c35 : PySem.W.codeIn K cd35 "_law_plain" = true)
    (k35 : PySem.W.keepIn K (.ref f35) = true)
    (a36 : PySem.W.nsIn K mainGlobals "_law_bare_form" = some (some (.ref f36)))
    (l36 : K.lookup f36 = some ⟨oc36, od36, .func (PySem.W.fnOf "_law_bare_form" "_law_bare_form" (defArgs sBf) (defBody sBf) (defScope sBf) .none kV36 dc36 pm36 an36 cd36 ct36), sl36⟩)
    (c36 : PySem.W.codeIn K cd36 "_law_bare_form" = true)
    (k36 : PySem.W.keepIn K (.ref f36) = true)
    (a37 : PySem.W.nsIn K mainGlobals "_law_turned_form" = some (some (.ref f37)))
    (l37 : K.lookup f37 = some ⟨oc37, od37, .func (PySem.W.fnOf "_law_turned_form" "_law_turned_form" (defArgs sTf) (defBody sTf) (defScope sTf) .none kV37 dc37 pm37 an37 cd37 ct37), sl37⟩)
    (c37 : PySem.W.codeIn K cd37 "_law_turned_form" = true)
    (k37 : PySem.W.keepIn K (.ref f37) = true)
    (a38 : PySem.W.nsIn K mainGlobals "_law_form" = some (some (.ref f38)))
    (l38 : K.lookup f38 = some ⟨oc38, od38, .func (PySem.W.fnOf "_law_form" "_law_form" (defArgs sFm) (defBody sFm) (defScope sFm) .none kV38 dc38 pm38 an38 cd38 ct38), sl38⟩)
    (c38 : PySem.W.codeIn K cd38 "_law_form" = true)
    (k38 : PySem.W.keepIn K (.ref f38) = true)
    (a39 : PySem.W.nsIn K mainGlobals "_law_book_of" = some (some (.ref f39)))
    (l39 : K.lookup f39 = some ⟨oc39, od39, .func (PySem.W.fnOf "_law_book_of" "_law_book_of" (defArgs sBo) (defBody sBo) (defScope sBo) .none kV39 dc39 pm39 an39 cd39 ct39), sl39⟩)
    (c39 : PySem.W.codeIn K cd39 "_law_book_of" = true)
    (k39 : PySem.W.keepIn K (.ref f39) = true)
    (a40 : PySem.W.nsIn K mainGlobals "_law_book" = some (some (.ref f40)))
    (l40 : K.lookup f40 = some ⟨oc40, od40, .func (PySem.W.fnOf "_law_book" "_law_book" (defArgs sBk) (defBody sBk) (defScope sBk) .none kV40 dc40 pm40 an40 cd40 ct40), sl40⟩)
    (c40 : PySem.W.codeIn K cd40 "_law_book" = true)
    (k40 : PySem.W.keepIn K (.ref f40) = true)
    (a41 : PySem.W.nsIn K mainGlobals "_law_bad_forms" = some (some (.ref f41)))
    (l41 : K.lookup f41 = some ⟨oc41, od41, .func (PySem.W.fnOf "_law_bad_forms" "_law_bad_forms" (defArgs sBd) (defBody sBd) (defScope sBd) .none kV41 dc41 pm41 an41 cd41 ct41), sl41⟩)
    (c41 : PySem.W.codeIn K cd41 "_law_bad_forms" = true)
    (k41 : PySem.W.keepIn K (.ref f41) = true)
    (a42 : PySem.W.nsIn K mainGlobals "_law_within" = some (some (.ref f42)))
    (l42 : K.lookup f42 = some ⟨oc42, od42, .func (PySem.W.fnOf "_law_within" "_law_within" (defArgs sWi) (defBody sWi) (defScope sWi) .none kV42 dc42 pm42 an42 cd42 ct42), sl42⟩)
    (c42 : PySem.W.codeIn K cd42 "_law_within" = true)
    (k42 : PySem.W.keepIn K (.ref f42) = true)
    (a43 : PySem.W.nsIn K mainGlobals "law" = some (some (.ref f43)))
    (l43 : K.lookup f43 = some ⟨oc43, od43, .func (PySem.W.fnOf "law" "law" (defArgs sLaw) (defBody sLaw) (defScope sLaw) .none kV43 dc43 pm43 an43 cd43 ct43), sl43⟩)
    (c43 : PySem.W.codeIn K cd43 "law" = true)
    (k43 : PySem.W.keepIn K (.ref f43) = true)
    (z1 : PySem.W.nsIn K mainGlobals "range" = some none)
    (z2 : PySem.W.nsIn K mainGlobals "len" = some none)
    (z3 : PySem.W.nsIn K mainGlobals "sorted" = some none)
    (z4 : PySem.W.nsIn K mainGlobals "set" = some none)
    (z5 : PySem.W.nsIn K mainGlobals "int" = some none)
    (z6 : PySem.W.nsIn K mainGlobals "list" = some none)
    (z7 : PySem.W.nsIn K mainGlobals "zip" = some none)
    (z8 : PySem.W.nsIn K mainGlobals "tuple" = some none)
    (z9 : PySem.W.nsIn K mainGlobals "enumerate" = some none)
    (z10 : PySem.W.nsIn K mainGlobals "max" = some none)
    (z11 : PySem.W.nsIn K mainGlobals "min" = some none)
    (z12 : PySem.W.nsIn K mainGlobals "abs" = some none)
    (z13 : PySem.W.nsIn K mainGlobals "isinstance" = some none)
    (z14 : PySem.W.nsIn K mainGlobals "str" = some none)
    (z15 : PySem.W.nsIn K mainGlobals "bool" = some none)
    (z16 : PySem.W.nsIn K mainGlobals "ord" = some none)
    (z17 : PySem.W.nsIn K mainGlobals "all" = some none)
    (z18 : PySem.W.nsIn K mainGlobals "any" = some none)
    (aCm : PySem.W.nsIn K mainGlobals "ThingNumbers" = some (some (.ref CT)))
    (am1 : PySem.W.findIn K (.ref CT) "__init__" = some (some (.ref fm1))) (im1 : PySem.W.isFn K (.ref fm1) = true) (lm1 : K.lookup fm1 = some ⟨ocm1, odm1, .func (PySem.W.fnOf "__init__" "ThingNumbers.__init__" (defArgs sTNi) (defBody sTNi) (defScope sTNi) .none kVm1 dcm1 pmm1 anm1 cdm1 ctm1), slm1⟩) (cm1 : PySem.W.codeIn K cdm1 "ThingNumbers.__init__" = true) (km1 : PySem.W.keepIn K (.ref fm1) = true)
    (am2 : PySem.W.findIn K (.ref CT) "number" = some (some (.ref fm2))) (im2 : PySem.W.isFn K (.ref fm2) = true) (lm2 : K.lookup fm2 = some ⟨ocm2, odm2, .func (PySem.W.fnOf "number" "ThingNumbers.number" (defArgs sTNn) (defBody sTNn) (defScope sTNn) .none kVm2 dcm2 pmm2 anm2 cdm2 ctm2), slm2⟩) (cm2 : PySem.W.codeIn K cdm2 "ThingNumbers.number" = true) (km2 : PySem.W.keepIn K (.ref fm2) = true)
    (am3 : PySem.W.findIn K (.ref CT) "keyed" = some (some (.ref fm3))) (im3 : PySem.W.isFn K (.ref fm3) = true) (lm3 : K.lookup fm3 = some ⟨ocm3, odm3, .func (PySem.W.fnOf "keyed" "ThingNumbers.keyed" (defArgs sTNk) (defBody sTNk) (defScope sTNk) .none kVm3 dcm3 pmm3 anm3 cdm3 ctm3), slm3⟩) (cm3 : PySem.W.codeIn K cdm3 "ThingNumbers.keyed" = true) (km3 : PySem.W.keepIn K (.ref fm3) = true)
    (pg_m : PySem.W.plainGet K CT Str.empty = true) (hd_m : PySem.W.hasDictIn K CT = true) (po_m : PySem.W.plainOver K CT = true) (sa_m : PySem.W.findIn K (.ref CT) "__setattr__" = some (some (.builtin "object.__setattr__"))) (mk_m : PySem.W.makesIn K CT = true) (kc_m : PySem.W.keepIn K (.ref CT) = true)
    (n_known : PySem.W.findIn K (.ref CT) "known" = some none)
    {tp : Tok} (hpc : PySem.W.nsIn K mainGlobals "_PERCENT" = some (some (.int 37 tp)))
    {L S B : Addr} {eL eS : Array DictEntry} {nL nS nB : Nat} {odB : Option Addr} {slB : Array (Option Value)} {tb1 tb2 : Tok} {u0 : Tok} {u1 : Tok} {u2 : Tok} {u3 : Tok} {u4 : Tok} {u5 : Tok} {u6 : Tok} {u7 : Tok} {u8 : Tok} {u9 : Tok} {u10 : Tok} {u11 : Tok} {u12 : Tok}
    (hL : PySem.W.nsIn K mainGlobals "LENGTHS" = some (some (.ref L)))
    (dL : K.lookup L = some ⟨.type "dict", none, .dict eL nL, #[]⟩)
    (lL : PySem.W.KeysLit w.params eL.toList)
    (wL : (L == sysModules) = false)
    (yL : eL.toList.all (keyNot (words.map (·.1))) = true)
    (hS : PySem.W.nsIn K mainGlobals "_SHAPES" = some (some (.ref S)))
    (dS : K.lookup S = some ⟨.type "dict", none, .dict eS nS, #[]⟩)
    (lS : PySem.W.KeysLit w.params eS.toList)
    (wS : (S == sysModules) = false)
    (hB : PySem.W.nsIn K mainGlobals "BARE" = some (some (.ref B)))
    (dB : K.lookup B = some ⟨.type "tuple", odB, .seq #[.str "text" tb1, .str "skip" tb2] nB, slB⟩)
    (q0 : PySem.W.nsIn K L "text" = some (some (.int 2 u0)))
    (s0 : PySem.W.nsIn K S "text" = some (some (.ref f13)))
    (q1 : PySem.W.nsIn K L "skip" = some (some (.int 2 u1)))
    (s1 : PySem.W.nsIn K S "skip" = some (some (.ref f12)))
    (q2 : PySem.W.nsIn K L "sign" = some (some (.int 2 u2)))
    (s2 : PySem.W.nsIn K S "sign" = some (some (.ref f14)))
    (q3 : PySem.W.nsIn K L "word" = some (some (.int 2 u3)))
    (s3 : PySem.W.nsIn K S "word" = some (some (.ref f14)))
    (q4 : PySem.W.nsIn K L "number" = some (some (.int 1 u4)))
    (s4 : PySem.W.nsIn K S "number" = some (some (.ref f12)))
    (q5 : PySem.W.nsIn K L "pick" = some (some (.int 2 u5)))
    (s5 : PySem.W.nsIn K S "pick" = some (some (.ref f15)))
    (q6 : PySem.W.nsIn K L "spelt" = some (some (.int 2 u6)))
    (s6 : PySem.W.nsIn K S "spelt" = some (some (.ref f16)))
    (q7 : PySem.W.nsIn K L "row" = some (some (.int 2 u7)))
    (s7 : PySem.W.nsIn K S "row" = some (some (.ref f17)))
    (q8 : PySem.W.nsIn K L "either" = some (some (.int 2 u8)))
    (s8 : PySem.W.nsIn K S "either" = some (some (.ref f18)))
    (q9 : PySem.W.nsIn K L "again" = some (some (.int 3 u9)))
    (s9 : PySem.W.nsIn K S "again" = some (some (.ref f19)))
    (q10 : PySem.W.nsIn K L "counted" = some (some (.int 3 u10)))
    (s10 : PySem.W.nsIn K S "counted" = some (some (.ref f13)))
    (q11 : PySem.W.nsIn K L "turned" = some (some (.int 3 u11)))
    (s11 : PySem.W.nsIn K S "turned" = some (some (.ref f20)))
    (q12 : PySem.W.nsIn K L "named" = some (some (.int 2 u12)))
    (s12 : PySem.W.nsIn K S "named" = some (some (.ref f21))) :
    LamX.LawAtS l w K CX0 16 63 "_law_script" mg fa h := by
  have e := hfa.symm.trans (PySem.W.mg_of X G a43)
  cases e
  have F1 := fun_mk (st := sSg) l1 c1 k1
  have F2 : FunT K "is_text" "is_text" sTx f2 _ cd2 := ⟨⟨oc2, od2, kV2, dc2, pm2, an2, ct2, sl2, rfl, l2, c2⟩, k2⟩
  have F3 := fun_mk (st := sTo) l3 c3 k3
  have F4 : FunT K "is_set" "is_set" sSe f4 _ cd4 := ⟨⟨oc4, od4, kV4, dc4, pm4, an4, ct4, sl4, rfl, l4, c4⟩, k4⟩
  have F5 := fun_mk (st := sIn) l5 c5 k5
  have F6 := fun_mk (st := sNu) l6 c6 k6
  have F7 : FunT K "is_name" "is_name" sNm f7 _ cd7 := ⟨⟨oc7, od7, kV7, dc7, pm7, an7, ct7, sl7, rfl, l7, c7⟩, k7⟩
  have F8 := fun_mk (st := sThing) l8 c8 k8
  have F9 := fun_mk (st := sForm) l9 c9 k9
  have F10 := fun_mk (st := sInner) l10 c10 k10
  have F11 := fun_mk (st := sHs) l11 c11 k11
  have F12 := fun_mk (st := sAny) l12 c12 k12
  have F13 := fun_mk (st := sTsh) l13 c13 k13
  have F14 := fun_mk (st := sSsh) l14 c14 k14
  have F15 := fun_mk (st := sPsh) l15 c15 k15
  have F16 : FunT K "_spelt_shape" "_spelt_shape" sSpsh f16 _ cd16 := ⟨⟨oc16, od16, kV16, dc16, pm16, an16, ct16, sl16, rfl, l16, c16⟩, k16⟩
  have F17 := fun_mk (st := sRsh) l17 c17 k17
  have F18 : FunT K "_either_shape" "_either_shape" sEsh f18 _ cd18 := ⟨⟨oc18, od18, kV18, dc18, pm18, an18, ct18, sl18, rfl, l18, c18⟩, k18⟩
  have F19 := fun_mk (st := sAsh) l19 c19 k19
  have F20 := fun_mk (st := sTsh2) l20 c20 k20
  have F21 := fun_mk (st := sNsh) l21 c21 k21
  have F22 : FunT K "_are_pairs" "_are_pairs" sAp f22 _ cd22 := ⟨⟨oc22, od22, kV22, dc22, pm22, an22, ct22, sl22, rfl, l22, c22⟩, k22⟩
  have F23 := fun_mk (st := sUn) l23 c23 k23
  have F24 : FunT K "none_begins_another" "none_begins_another" sNb f24 _ cd24 := ⟨⟨oc24, od24, kV24, dc24, pm24, an24, ct24, sl24, rfl, l24, c24⟩, k24⟩
  have F25 := fun_mk (st := sPot) l25 c25 k25
  have F26 := fun_mk (st := sNext) l26 c26 k26
  have F27 := fun_mk (st := sPick) l27 c27 k27
  have F28 := fun_mk (st := sSize) l28 c28 k28
  have F29 := fun_mk (st := sSigns) l29 c29 k29
  have F30 := fun_mk (st := sText) l30 c30 k30
  have F31 := fun_mk (st := sSet) l31 c31 k31
  have F32 := fun_mk (st := sPf) l32 c32 k32
  have F33 := fun_mk (st := sNames) l33 c33 k33
  have F34 := fun_mk (st := sBit) l34 c34 k34
  have F35 := fun_mk (st := sPl) l35 c35 k35
  have F36 := fun_mk (st := sBf) l36 c36 k36
  have F37 := fun_mk (st := sTf) l37 c37 k37
  have F38 := fun_mk (st := sFm) l38 c38 k38
  have F39 := fun_mk (st := sBo) l39 c39 k39
  have F40 := fun_mk (st := sBk) l40 c40 k40
  have F41 := fun_mk (st := sBd) l41 c41 k41
  have F42 := fun_mk (st := sWi) l42 c42 k42
  have F43 := fun_mk (st := sLaw) l43 c43 k43
  have b1 := (fun_mk (st := sSg) l1 c1 k1).binds (ps := ["letter"]) fun _ _ _ _ _ _ us hl => match us, hl with | [_], _ => rfl
  have g1 := PySem.W.mg_of X G a1
  have b2 := (fun_mk (st := sTx) l2 c2 k2).binds (ps := ["x"]) fun _ _ _ _ _ _ us hl => match us, hl with | [_], _ => rfl
  have g2 := PySem.W.mg_of X G a2
  have b3 := (fun_mk (st := sTo) l3 c3 k3).binds (ps := ["x"]) fun _ _ _ _ _ _ us hl => match us, hl with | [_], _ => rfl
  have g3 := PySem.W.mg_of X G a3
  have b4 := (fun_mk (st := sSe) l4 c4 k4).binds (ps := ["x"]) fun _ _ _ _ _ _ us hl => match us, hl with | [_], _ => rfl
  have g4 := PySem.W.mg_of X G a4
  have b5 := (fun_mk (st := sIn) l5 c5 k5).binds (ps := ["x"]) fun _ _ _ _ _ _ us hl => match us, hl with | [_], _ => rfl
  have g5 := PySem.W.mg_of X G a5
  have b6 := (fun_mk (st := sNu) l6 c6 k6).binds (ps := ["x"]) fun _ _ _ _ _ _ us hl => match us, hl with | [_], _ => rfl
  have g6 := PySem.W.mg_of X G a6
  have b7 := (fun_mk (st := sNm) l7 c7 k7).binds (ps := ["x"]) fun _ _ _ _ _ _ us hl => match us, hl with | [_], _ => rfl
  have g7 := PySem.W.mg_of X G a7
  have b8 := (fun_mk (st := sThing) l8 c8 k8).binds (ps := ["x"]) fun _ _ _ _ _ _ us hl => match us, hl with | [_], _ => rfl
  have g8 := PySem.W.mg_of X G a8
  have b9 := (fun_mk (st := sForm) l9 c9 k9).binds (ps := ["x"]) fun _ _ _ _ _ _ us hl => match us, hl with | [_], _ => rfl
  have g9 := PySem.W.mg_of X G a9
  have b10 := (fun_mk (st := sInner) l10 c10 k10).binds (ps := ["form"]) fun _ _ _ _ _ _ us hl => match us, hl with | [_], _ => rfl
  have g10 := PySem.W.mg_of X G a10
  have b11 := (fun_mk (st := sHs) l11 c11 k11).binds (ps := ["x"]) fun _ _ _ _ _ _ us hl => match us, hl with | [_], _ => rfl
  have g11 := PySem.W.mg_of X G a11
  have b12 := (fun_mk (st := sAny) l12 c12 k12).binds (ps := ["_"]) fun _ _ _ _ _ _ us hl => match us, hl with | [_], _ => rfl
  have g12 := PySem.W.mg_of X G a12
  have b13 := (fun_mk (st := sTsh) l13 c13 k13).binds (ps := ["form"]) fun _ _ _ _ _ _ us hl => match us, hl with | [_], _ => rfl
  have g13 := PySem.W.mg_of X G a13
  have b14 := (fun_mk (st := sSsh) l14 c14 k14).binds (ps := ["form"]) fun _ _ _ _ _ _ us hl => match us, hl with | [_], _ => rfl
  have g14 := PySem.W.mg_of X G a14
  have b15 := (fun_mk (st := sPsh) l15 c15 k15).binds (ps := ["form"]) fun _ _ _ _ _ _ us hl => match us, hl with | [_], _ => rfl
  have g15 := PySem.W.mg_of X G a15
  have b16 := (fun_mk (st := sSpsh) l16 c16 k16).binds (ps := ["form"]) fun _ _ _ _ _ _ us hl => match us, hl with | [_], _ => rfl
  have g16 := PySem.W.mg_of X G a16
  have b17 := (fun_mk (st := sRsh) l17 c17 k17).binds (ps := ["form"]) fun _ _ _ _ _ _ us hl => match us, hl with | [_], _ => rfl
  have g17 := PySem.W.mg_of X G a17
  have b18 := (fun_mk (st := sEsh) l18 c18 k18).binds (ps := ["form"]) fun _ _ _ _ _ _ us hl => match us, hl with | [_], _ => rfl
  have g18 := PySem.W.mg_of X G a18
  have b19 := (fun_mk (st := sAsh) l19 c19 k19).binds (ps := ["form"]) fun _ _ _ _ _ _ us hl => match us, hl with | [_], _ => rfl
  have g19 := PySem.W.mg_of X G a19
  have b20 := (fun_mk (st := sTsh2) l20 c20 k20).binds (ps := ["form"]) fun _ _ _ _ _ _ us hl => match us, hl with | [_], _ => rfl
  have g20 := PySem.W.mg_of X G a20
  have b21 := (fun_mk (st := sNsh) l21 c21 k21).binds (ps := ["form"]) fun _ _ _ _ _ _ us hl => match us, hl with | [_], _ => rfl
  have g21 := PySem.W.mg_of X G a21
  have b22 := (fun_mk (st := sAp) l22 c22 k22).binds (ps := ["x"]) fun _ _ _ _ _ _ us hl => match us, hl with | [_], _ => rfl
  have g22 := PySem.W.mg_of X G a22
  have b23 := (fun_mk (st := sUn) l23 c23 k23).binds (ps := ["many"]) fun _ _ _ _ _ _ us hl => match us, hl with | [_], _ => rfl
  have g23 := PySem.W.mg_of X G a23
  have b24 := (fun_mk (st := sNb) l24 c24 k24).binds (ps := ["texts"]) fun _ _ _ _ _ _ us hl => match us, hl with | [_], _ => rfl
  have g24 := PySem.W.mg_of X G a24
  have b25 := (fun_mk (st := sPot) l25 c25 k25).binds (ps := ["_law_script"]) fun _ _ _ _ _ _ us hl => match us, hl with | [_], _ => rfl
  have g25 := PySem.W.mg_of X G a25
  have b26 := (fun_mk (st := sNext) l26 c26 k26).binds (ps := ["_law_pot_here", "_law_many"]) fun _ _ _ _ _ _ us hl => match us, hl with | [_, _], _ => rfl
  have g26 := PySem.W.mg_of X G a26
  have b27 := (fun_mk (st := sPick) l27 c27 k27).binds (ps := ["_law_pot_here", "_law_some"]) fun _ _ _ _ _ _ us hl => match us, hl with | [_, _], _ => rfl
  have g27 := PySem.W.mg_of X G a27
  have b28 := (fun_mk (st := sSize) l28 c28 k28).binds (ps := ["_law_pot_here", "_law_few", "_law_most"]) fun _ _ _ _ _ _ us hl => match us, hl with | [_, _, _], _ => rfl
  have g28 := PySem.W.mg_of X G a28
  have b29 := (fun_mk (st := sSigns) l29 c29 k29).binds (ps := []) fun _ _ _ _ _ _ us hl => match us, hl with | [], _ => rfl
  have g29 := PySem.W.mg_of X G a29
  have b30 := (fun_mk (st := sText) l30 c30 k30).binds (ps := ["_law_pot_here", "_law_few", "_law_most"]) fun _ _ _ _ _ _ us hl => match us, hl with | [_, _, _], _ => rfl
  have g30 := PySem.W.mg_of X G a30
  have b31 := (fun_mk (st := sSet) l31 c31 k31).binds (ps := ["_law_pot_here"]) fun _ _ _ _ _ _ us hl => match us, hl with | [_], _ => rfl
  have g31 := PySem.W.mg_of X G a31
  have b32 := (fun_mk (st := sPf) l32 c32 k32).binds (ps := ["_law_pot_here", "_law_short"]) fun _ _ _ _ _ _ us hl => match us, hl with | [_, _], _ => rfl
  have g32 := PySem.W.mg_of X G a32
  have b33 := (fun_mk (st := sNames) l33 c33 k33).binds (ps := ["_law_pot_here", "_law_many"]) fun _ _ _ _ _ _ us hl => match us, hl with | [_, _], _ => rfl
  have g33 := PySem.W.mg_of X G a33
  have b34 := (fun_mk (st := sBit) l34 c34 k34).binds (ps := ["_law_pot_here", "_law_few", "_law_most"]) fun _ _ _ _ _ _ us hl => match us, hl with | [_, _, _], _ => rfl
  have g34 := PySem.W.mg_of X G a34
  have b35 := (fun_mk (st := sPl) l35 c35 k35).binds (ps := ["_law_pot_here"]) fun _ _ _ _ _ _ us hl => match us, hl with | [_], _ => rfl
  have g35 := PySem.W.mg_of X G a35
  have b36 := (fun_mk (st := sBf) l36 c36 k36).binds (ps := ["_law_pot_here"]) fun _ _ _ _ _ _ us hl => match us, hl with | [_], _ => rfl
  have g36 := PySem.W.mg_of X G a36
  have b37 := (fun_mk (st := sTf) l37 c37 k37).binds (ps := ["_law_pot_here"]) fun _ _ _ _ _ _ us hl => match us, hl with | [_], _ => rfl
  have g37 := PySem.W.mg_of X G a37
  have b38 := (fun_mk (st := sFm) l38 c38 k38).binds (ps := ["_law_pot_here", "_law_names_here", "_law_leaves", "_law_deep"]) fun _ _ _ _ _ _ us hl => match us, hl with | [_, _, _, _], _ => rfl
  have g38 := PySem.W.mg_of X G a38
  have b39 := (fun_mk (st := sBo) l39 c39 k39).binds (ps := ["_law_pot_here", "_law_few", "_law_most", "_law_room"]) fun _ _ _ _ _ _ us hl => match us, hl with | [_, _, _, _], _ => rfl
  have g39 := PySem.W.mg_of X G a39
  have b40 := (fun_mk (st := sBk) l40 c40 k40).binds (ps := ["_law_pot_here"]) fun _ _ _ _ _ _ us hl => match us, hl with | [_], _ => rfl
  have g40 := PySem.W.mg_of X G a40
  have b41 := (fun_mk (st := sBd) l41 c41 k41).binds (ps := ["_law_form_here"]) fun _ _ _ _ _ _ us hl => match us, hl with | [_], _ => rfl
  have g41 := PySem.W.mg_of X G a41
  have b42 := (fun_mk (st := sWi) l42 c42 k42).binds (ps := ["_law_pot_here", "_law_thing", "_law_deep"]) fun _ _ _ _ _ _ us hl => match us, hl with | [_, _, _], _ => rfl
  have g42 := PySem.W.mg_of X G a42
  have m_range := PySem.W.mg_none_of X G z1
  have m_len := PySem.W.mg_none_of X G z2
  have m_sorted := PySem.W.mg_none_of X G z3
  have m_set := PySem.W.mg_none_of X G z4
  have m_int := PySem.W.mg_none_of X G z5
  have m_list := PySem.W.mg_none_of X G z6
  have m_zip := PySem.W.mg_none_of X G z7
  have m_tuple := PySem.W.mg_none_of X G z8
  have m_enumerate := PySem.W.mg_none_of X G z9
  have m_max := PySem.W.mg_none_of X G z10
  have m_min := PySem.W.mg_none_of X G z11
  have m_abs := PySem.W.mg_none_of X G z12
  have m_isinstance := PySem.W.mg_none_of X G z13
  have m_str := PySem.W.mg_none_of X G z14
  have m_bool := PySem.W.mg_none_of X G z15
  have m_ord := PySem.W.mg_none_of X G z16
  have m_all := PySem.W.mg_none_of X G z17
  have m_any := PySem.W.mg_none_of X G z18
  have mp := PySem.W.mg_of X G hpc
  have mL := PySem.W.mg_of X G hL
  have mS := PySem.W.mg_of X G hS
  have mB := PySem.W.mg_of X G hB
  have DL : KDict K w L eL nL := ⟨dL, lL, wL⟩
  have DS : KDict K w S eS nS := ⟨dS, lS, wS⟩
  have HB : BareAt K B := fun H => .inr ⟨_, _, _, dB, rfl, rfl, by show 2 ≤ sizeLine; decide, .cons ⟨_, rfl⟩ (.cons ⟨_, rfl⟩ .nil)⟩
  have HL : ∀ p ∈ words, ∃ t, PySem.W.nsIn K L p.1 = some (some (.int p.2 t)) := fun p m => by
    simp only [words, List.mem_cons, List.not_mem_nil, or_false] at m
    rcases m with rfl | rfl | rfl | rfl | rfl | rfl | rfl | rfl | rfl | rfl | rfl | rfl | rfl
    · exact ⟨_, q0⟩
    · exact ⟨_, q1⟩
    · exact ⟨_, q2⟩
    · exact ⟨_, q3⟩
    · exact ⟨_, q4⟩
    · exact ⟨_, q5⟩
    · exact ⟨_, q6⟩
    · exact ⟨_, q7⟩
    · exact ⟨_, q8⟩
    · exact ⟨_, q9⟩
    · exact ⟨_, q10⟩
    · exact ⟨_, q11⟩
    · exact ⟨_, q12⟩
  have TC : TnCls K mg CT := ⟨⟨pg_m, hd_m, po_m, sa_m⟩, n_known⟩
  have gCT := PySem.W.mg_of X G aCm
  have MkT : Mk K CT fm1 := ⟨mk_m, am1, im1, kc_m⟩
  have Mnu : Meth K CT "number" fm2 := ⟨am2, im2, km2⟩
  have Mke : Meth K CT "keyed" fm3 := ⟨am3, im3, km3⟩
  have Fm1 := fun_mk (st := sTNi) lm1 cm1 km1
  have bm1 := Fm1.binds (ps := ["self"]) fun _ _ _ _ _ _ us hl => match us, hl with | [_], _ => rfl
  have Fm2 := fun_mk (st := sTNn) lm2 cm2 km2
  have bm2 := Fm2.binds (ps := ["self", "thing"]) fun _ _ _ _ _ _ us hl => match us, hl with | [_, _], _ => rfl
  have Fm3 := fun_mk (st := sTNk) lm3 cm3 km3
  have bm3 := Fm3.binds (ps := ["self", "key"]) fun _ _ _ _ _ _ us hl => match us, hl with | [_, _], _ => rfl
  obtain ⟨r2, hr2⟩ := Option.isSome_iff_exists.mp w2
  have V2 := hq "is_text" r2 cd2 P2 hr2 (tabIn_of a2 l2 rfl t2 p2)
  obtain ⟨r4, hr4⟩ := Option.isSome_iff_exists.mp w4
  have V4 := hq "is_set" r4 cd4 P4 hr4 (tabIn_of a4 l4 rfl t4 p4)
  obtain ⟨r7, hr7⟩ := Option.isSome_iff_exists.mp w7
  have V7 := hq "is_name" r7 cd7 P7 hr7 (tabIn_of a7 l7 rfl t7 p7)
  obtain ⟨r16, hr16⟩ := Option.isSome_iff_exists.mp w16
  have V16 := hq "_spelt_shape" r16 cd16 P16 hr16 (tabIn_of a16 l16 rfl t16 p16)
  obtain ⟨r18, hr18⟩ := Option.isSome_iff_exists.mp w18
  have V18 := hq "_either_shape" r18 cd18 P18 hr18 (tabIn_of a18 l18 rfl t18 p18)
  obtain ⟨r22, hr22⟩ := Option.isSome_iff_exists.mp w22
  have V22 := hq "_are_pairs" r22 cd22 P22 hr22 (tabIn_of a22 l22 rfl t22 p22)
  obtain ⟨r24, hr24⟩ := Option.isSome_iff_exists.mp w24
  have V24 := hq "none_begins_another" r24 cd24 P24 hr24 (tabIn_of a24 l24 rfl t24 p24)
  refine ⟨PySem.W.fnOf "law" "law" (defArgs sLaw) (defBody sLaw) (defScope sLaw) .none kV43 dc43 pm43 an43 cd43 ct43, [(cd2, P2), (cd4, P4), (cd7, P7), (cd16, P16), (cd18, P18), (cd22, P22), (cd24, P24)], spLaw K [P2, P4, P7, P16, P18, P22, P24], fun p hp => ?_, fun p hp => ?_, fun p hp => ?_, fun s v => .of_eq rfl, fun H a ns h1 h2 hH hS => ?_, fun base hK hN hTB => ?_⟩
  · simp only [List.mem_cons, List.not_mem_nil, or_false] at hp
    rcases hp with rfl | rfl | rfl | rfl | rfl | rfl | rfl
    · exact V2.2
    · exact V4.2
    · exact V7.2
    · exact V16.2
    · exact V18.2
    · exact V22.2
    · exact V24.2
  · simp only [List.mem_cons, List.not_mem_nil, or_false] at hp
    rcases hp with rfl | rfl | rfl | rfl | rfl | rfl | rfl
    · exact n2
    · exact n4
    · exact n7
    · exact n16
    · exact n18
    · exact n22
    · exact n24
  · simp only [List.mem_cons, List.not_mem_nil, or_false] at hp
    rcases hp with rfl | rfl | rfl | rfl | rfl | rfl | rfl
    · exact V2.1
    · exact V4.1
    · exact V7.1
    · exact V16.1
    · exact V18.1
    · exact V22.1
    · exact V24.1
  · refine ⟨a, ns, rfl, hS, fun T m => ?_, fun _ => rfl⟩
    have hT : ∃ c, (c, T) ∈ [(cd2, P2), (cd4, P4), (cd7, P7), (cd16, P16), (cd18, P18), (cd22, P22), (cd24, P24)] := by
      simp only [List.mem_cons, List.not_mem_nil, or_false] at m
      rcases m with rfl | rfl | rfl | rfl | rfl | rfl | rfl
      · exact ⟨cd2, by simp⟩
      · exact ⟨cd4, by simp⟩
      · exact ⟨cd7, by simp⟩
      · exact ⟨cd16, by simp⟩
      · exact ⟨cd18, by simp⟩
      · exact ⟨cd22, by simp⟩
      · exact ⟨cd24, by simp⟩
    obtain ⟨c, hc⟩ := hT
    exact ⟨#[], hH _ hc, trivial⟩
  · have tb2 := hTB (cd2, P2) (by simp)
    have T2 : GxR.TabB base mg cd2 P2 := ⟨tb2.code, tb2.bm, tb2.gP⟩
    have M2 : P2 ∈ [P2, P4, P7, P16, P18, P22, P24] := by simp
    have tb4 := hTB (cd4, P4) (by simp)
    have T4 : GxR.TabB base mg cd4 P4 := ⟨tb4.code, tb4.bm, tb4.gP⟩
    have M4 : P4 ∈ [P2, P4, P7, P16, P18, P22, P24] := by simp
    have tb7 := hTB (cd7, P7) (by simp)
    have T7 : GxR.TabB base mg cd7 P7 := ⟨tb7.code, tb7.bm, tb7.gP⟩
    have M7 : P7 ∈ [P2, P4, P7, P16, P18, P22, P24] := by simp
    have tb16 := hTB (cd16, P16) (by simp)
    have T16 : GxR.TabB base mg cd16 P16 := ⟨tb16.code, tb16.bm, tb16.gP⟩
    have M16 : P16 ∈ [P2, P4, P7, P16, P18, P22, P24] := by simp
    have tb18 := hTB (cd18, P18) (by simp)
    have T18 : GxR.TabB base mg cd18 P18 := ⟨tb18.code, tb18.bm, tb18.gP⟩
    have M18 : P18 ∈ [P2, P4, P7, P16, P18, P22, P24] := by simp
    have tb22 := hTB (cd22, P22) (by simp)
    have T22 : GxR.TabB base mg cd22 P22 := ⟨tb22.code, tb22.bm, tb22.gP⟩
    have M22 : P22 ∈ [P2, P4, P7, P16, P18, P22, P24] := by simp
    have tb24 := hTB (cd24, P24) (by simp)
    have T24 : GxR.TabB base mg cd24 P24 := ⟨tb24.code, tb24.bm, tb24.gP⟩
    have M24 : P24 ∈ [P2, P4, P7, P16, P18, P22, P24] := by simp
    have GSg := ok_sgx (P := l.prog) (w := w) (mg := mg) (base := base) (k := 0) F1 mp m_ord
    have GTx := ok_txx (TT := [P2, P4, P7, P16, P18, P22, P24]) (k := 4) F2 (by decide) M2 T2 (GSg.mono (by decide)) k1 b1 g1 m_all m_isinstance m_str
    have GTo := ok_tox (k := 5) F3 GTx k2 b2 g2 m_len
    have GSe := ok_sex (k := 6) F4 (by decide) M4 T4 GTo k3 b3 g3 m_len m_all m_range
    have GIn := ok_inx (P := l.prog) (w := w) (mg := mg) (base := base) (k := 0) F5 m_isinstance m_int m_bool
    have GNu := ok_nux (k := 1) F6 GIn k5 b5 g5
    have GNm := ok_nmx (P := l.prog) (w := w) (mg := mg) (base := base) (TT := [P2, P4, P7, P16, P18, P22, P24]) (k := 3) F7 (by decide) M7 T7 m_len m_all m_isinstance m_str
    have GTh := ok_thx (k := 5) F8 GTx k2 b2 g2 (GNu.mono (by decide)) k6 b6 g6 m_isinstance m_tuple
    have GAp := ok_apx (P := l.prog) (w := w) (mg := mg) (base := base) (TT := [P2, P4, P7, P16, P18, P22, P24]) (k := 3) F22 (by decide) M22 T22 m_len m_all m_isinstance m_tuple
    have GUn := ok_unx (P := l.prog) (w := w) (mg := mg) (base := base) (k := 0) F23 m_len m_set
    have GNb := ok_nbx (P := l.prog) (w := w) (mg := mg) (base := base) (TT := [P2, P4, P7, P16, P18, P22, P24]) (k := 3) F24 (by decide) M24 T24 m_len m_any m_range m_sorted
    have GAny : ∀ (W : Str) (n : Nat), FnOk l.prog w K mg base CX0 1 _ _ _ (spShx W n RT.Any (fun _ => true) [P2, P4, P7, P16, P18, P22, P24]) := fun W n => ok_anyx (k := 0) F12
    have GTs : ∀ (W : Str) (n : Nat), 0 < n → FnOk l.prog w K mg base CX0 7 _ _ _ (spShx W n RT.Any (fun ds => (RT.a1 ds).to) [P2, P4, P7, P16, P18, P22, P24]) := fun W n h => ok_tshx (k := 6) h F13 GTo k3 b3 g3
    have GSs : ∀ (W : Str) (n : Nat), 0 < n → FnOk l.prog w K mg base CX0 8 _ _ _ (spShx W n RT.Any (fun ds => (RT.a1 ds).se) [P2, P4, P7, P16, P18, P22, P24]) := fun W n h => ok_sshx (k := 7) h F14 GSe k4 b4 g4
    have GNs : FnOk l.prog w K mg base CX0 5 _ _ _ (spShx "named" 1 RT.Any (fun ds => (RT.a1 ds).nm) [P2, P4, P7, P16, P18, P22, P24]) := ok_nshx (k := 4) (by decide) F21 GNm k7 b7 g7
    have GRs : FnOk l.prog w K mg base CX0 1 _ _ _ (spShx "row" 1 RT.Any (fun ds => (RT.a1 ds).isT) [P2, P4, P7, P16, P18, P22, P24]) := ok_rshx (k := 0) (by decide) F17 m_isinstance m_tuple
    have GPs := ok_pshx (k := 6) F15 (GAp.mono (by decide)) k22 b22 g22 GTo k3 b3 g3 (GTx.mono (by decide)) k2 b2 g2 (GNu.mono (by decide)) k6 b6 g6 (GNb.mono (by decide)) k24 b24 g24 (GUn.mono (by decide)) k23 b23 g23
    have GEs := ok_eshx (k := 7) F18 (by decide) M18 T18 (GAp.mono (by decide)) k22 b22 g22 GNm k7 b7 g7 (GUn.mono (by decide)) k23 b23 g23 m_all
    have GTi := ok_tni (P := l.prog) (w := w) (mg := mg) (base := base) (k := 0) Fm1 TC
    have GTk := ok_tnk (P := l.prog) (w := w) (mg := mg) (base := base) (k := 0) Fm3 TC m_len
    have GTn := ok_tnn Fm2 TC GTk Mke bm3 m_isinstance m_tuple m_len
    have GTu := ok_tsh2x (k := 5) F20 (GAp.mono (by decide)) k22 b22 g22 GTh k8 b8 g8 (GUn.mono (by decide)) k23 b23 g23 TC gCT MkT (GTi.mono (by decide)) bm1 Mnu (GTn.mono (by decide)) bm2
    have GH0 : FnOk l.prog w K mg base CX0 8 _ _ _ (spHsx 0 [P2, P4, P7, P16, P18, P22, P24]) := none_hsx (f := f11) (fd := PySem.W.fnOf "_has_shape" "_has_shape" (defArgs sHs) (defBody sHs) (defScope sHs) .none kV11 dc11 pm11 an11 cd11 ct11)
    have GSp0 := ok_spshx (n := 0) (k := 8) F16 (by decide) M16 T16 GH0 k11 b11 g11 m_all m_len m_isinstance m_str
    have GAg0 := ok_ashx (n := 0) (k := 8) F19 GH0 k11 b11 g11 mB HB
    have HS0 : ∀ p ∈ words, ∃ g, PySem.W.nsIn K S p.1 = some (some (.ref g)) ∧ PySem.W.keepIn K (.ref g) = true ∧ FnR l.prog w K mg base CX0 9 g (spShx p.1 (p.2 - 1) (fun ds => lm (0 + 1) (.tup (.str p.1 :: ds))) (shp (hs 0) p.1) [P2, P4, P7, P16, P18, P22, P24]) := fun p m => by
      simp only [words, List.mem_cons, List.not_mem_nil, or_false] at m
      rcases m with rfl | rfl | rfl | rfl | rfl | rfl | rfl | rfl | rfl | rfl | rfl | rfl | rfl
      · exact at_x (n := 0) (W := "text") (m := 1) s0 k13 (GTs "text" 1 (by decide)) b13 (by decide) (fun ds h => trivial) (fun ds => shp_text)
      · exact at_x (n := 0) (W := "skip") (m := 1) s1 k12 (GAny "skip" 1) b12 (by decide) (fun ds h => trivial) (fun ds => shp_skip)
      · exact at_x (n := 0) (W := "sign") (m := 1) s2 k14 (GSs "sign" 1 (by decide)) b14 (by decide) (fun ds h => trivial) (fun ds => shp_sign)
      · exact at_x (n := 0) (W := "word") (m := 1) s3 k14 (GSs "word" 1 (by decide)) b14 (by decide) (fun ds h => trivial) (fun ds => shp_word)
      · exact at_x (n := 0) (W := "number") (m := 0) s4 k12 (GAny "number" 0) b12 (by decide) (fun ds h => trivial) (fun ds => shp_number)
      · exact at_x (n := 0) (W := "pick") (m := 1) s5 k15 GPs b15 (by decide) (fun ds h => h.1 (.inl rfl)) (fun ds => shp_pick)
      · exact at_x (n := 0) (W := "spelt") (m := 1) s6 k16 GSp0 b16 (by decide) (fun ds h => h.2.1 rfl) (fun ds => shp_spelt)
      · exact at_x (n := 0) (W := "row") (m := 1) s7 k17 GRs b17 (by decide) (fun ds h => trivial) (fun ds => shp_row)
      · exact at_x (n := 0) (W := "either") (m := 1) s8 k18 GEs b18 (by decide) (fun ds h => h.1 (.inr rfl)) (fun ds => shp_either)
      · exact at_x (n := 0) (W := "again") (m := 2) s9 k19 GAg0 b19 (by decide) (fun ds h => h.2.2.1 rfl) (fun ds => shp_again)
      · exact at_x (n := 0) (W := "counted") (m := 2) s10 k13 (GTs "counted" 2 (by decide)) b13 (by decide) (fun ds h => trivial) (fun ds => shp_counted)
      · exact at_x (n := 0) (W := "turned") (m := 2) s11 k20 GTu b20 (by decide) (fun ds h => h.2.2.2 rfl) (fun ds => shp_turned)
      · exact at_x (n := 0) (W := "named") (m := 1) s12 k21 GNs b21 (by decide) (fun ds h => trivial) (fun ds => shp_named)
    have GH1 := ok_hsx (n := 0) (k := 9) F11 mL DL HL yL mS DS HS0 m_isinstance m_tuple m_str m_len
    have GSp1 := ok_spshx (n := 1) (k := 10) F16 (by decide) M16 T16 GH1 k11 b11 g11 m_all m_len m_isinstance m_str
    have GAg1 := ok_ashx (n := 1) (k := 10) F19 GH1 k11 b11 g11 mB HB
    have HS1 : ∀ p ∈ words, ∃ g, PySem.W.nsIn K S p.1 = some (some (.ref g)) ∧ PySem.W.keepIn K (.ref g) = true ∧ FnR l.prog w K mg base CX0 11 g (spShx p.1 (p.2 - 1) (fun ds => lm (1 + 1) (.tup (.str p.1 :: ds))) (shp (hs 1) p.1) [P2, P4, P7, P16, P18, P22, P24]) := fun p m => by
      simp only [words, List.mem_cons, List.not_mem_nil, or_false] at m
      rcases m with rfl | rfl | rfl | rfl | rfl | rfl | rfl | rfl | rfl | rfl | rfl | rfl | rfl
      · exact at_x (n := 1) (W := "text") (m := 1) s0 k13 (GTs "text" 1 (by decide)) b13 (by decide) (fun ds h => trivial) (fun ds => shp_text)
      · exact at_x (n := 1) (W := "skip") (m := 1) s1 k12 (GAny "skip" 1) b12 (by decide) (fun ds h => trivial) (fun ds => shp_skip)
      · exact at_x (n := 1) (W := "sign") (m := 1) s2 k14 (GSs "sign" 1 (by decide)) b14 (by decide) (fun ds h => trivial) (fun ds => shp_sign)
      · exact at_x (n := 1) (W := "word") (m := 1) s3 k14 (GSs "word" 1 (by decide)) b14 (by decide) (fun ds h => trivial) (fun ds => shp_word)
      · exact at_x (n := 1) (W := "number") (m := 0) s4 k12 (GAny "number" 0) b12 (by decide) (fun ds h => trivial) (fun ds => shp_number)
      · exact at_x (n := 1) (W := "pick") (m := 1) s5 k15 GPs b15 (by decide) (fun ds h => h.1 (.inl rfl)) (fun ds => shp_pick)
      · exact at_x (n := 1) (W := "spelt") (m := 1) s6 k16 GSp1 b16 (by decide) (fun ds h => h.2.1 rfl) (fun ds => shp_spelt)
      · exact at_x (n := 1) (W := "row") (m := 1) s7 k17 GRs b17 (by decide) (fun ds h => trivial) (fun ds => shp_row)
      · exact at_x (n := 1) (W := "either") (m := 1) s8 k18 GEs b18 (by decide) (fun ds h => h.1 (.inr rfl)) (fun ds => shp_either)
      · exact at_x (n := 1) (W := "again") (m := 2) s9 k19 GAg1 b19 (by decide) (fun ds h => h.2.2.1 rfl) (fun ds => shp_again)
      · exact at_x (n := 1) (W := "counted") (m := 2) s10 k13 (GTs "counted" 2 (by decide)) b13 (by decide) (fun ds h => trivial) (fun ds => shp_counted)
      · exact at_x (n := 1) (W := "turned") (m := 2) s11 k20 GTu b20 (by decide) (fun ds h => h.2.2.2 rfl) (fun ds => shp_turned)
      · exact at_x (n := 1) (W := "named") (m := 1) s12 k21 GNs b21 (by decide) (fun ds h => trivial) (fun ds => shp_named)
    have GH2 := ok_hsx (n := 1) (k := 11) F11 mL DL HL yL mS DS HS1 m_isinstance m_tuple m_str m_len
    have GSp2 := ok_spshx (n := 2) (k := 12) F16 (by decide) M16 T16 GH2 k11 b11 g11 m_all m_len m_isinstance m_str
    have GAg2 := ok_ashx (n := 2) (k := 12) F19 GH2 k11 b11 g11 mB HB
    have HS2 : ∀ p ∈ words, ∃ g, PySem.W.nsIn K S p.1 = some (some (.ref g)) ∧ PySem.W.keepIn K (.ref g) = true ∧ FnR l.prog w K mg base CX0 13 g (spShx p.1 (p.2 - 1) (fun ds => lm (2 + 1) (.tup (.str p.1 :: ds))) (shp (hs 2) p.1) [P2, P4, P7, P16, P18, P22, P24]) := fun p m => by
      simp only [words, List.mem_cons, List.not_mem_nil, or_false] at m
      rcases m with rfl | rfl | rfl | rfl | rfl | rfl | rfl | rfl | rfl | rfl | rfl | rfl | rfl
      · exact at_x (n := 2) (W := "text") (m := 1) s0 k13 (GTs "text" 1 (by decide)) b13 (by decide) (fun ds h => trivial) (fun ds => shp_text)
      · exact at_x (n := 2) (W := "skip") (m := 1) s1 k12 (GAny "skip" 1) b12 (by decide) (fun ds h => trivial) (fun ds => shp_skip)
      · exact at_x (n := 2) (W := "sign") (m := 1) s2 k14 (GSs "sign" 1 (by decide)) b14 (by decide) (fun ds h => trivial) (fun ds => shp_sign)
      · exact at_x (n := 2) (W := "word") (m := 1) s3 k14 (GSs "word" 1 (by decide)) b14 (by decide) (fun ds h => trivial) (fun ds => shp_word)
      · exact at_x (n := 2) (W := "number") (m := 0) s4 k12 (GAny "number" 0) b12 (by decide) (fun ds h => trivial) (fun ds => shp_number)
      · exact at_x (n := 2) (W := "pick") (m := 1) s5 k15 GPs b15 (by decide) (fun ds h => h.1 (.inl rfl)) (fun ds => shp_pick)
      · exact at_x (n := 2) (W := "spelt") (m := 1) s6 k16 GSp2 b16 (by decide) (fun ds h => h.2.1 rfl) (fun ds => shp_spelt)
      · exact at_x (n := 2) (W := "row") (m := 1) s7 k17 GRs b17 (by decide) (fun ds h => trivial) (fun ds => shp_row)
      · exact at_x (n := 2) (W := "either") (m := 1) s8 k18 GEs b18 (by decide) (fun ds h => h.1 (.inr rfl)) (fun ds => shp_either)
      · exact at_x (n := 2) (W := "again") (m := 2) s9 k19 GAg2 b19 (by decide) (fun ds h => h.2.2.1 rfl) (fun ds => shp_again)
      · exact at_x (n := 2) (W := "counted") (m := 2) s10 k13 (GTs "counted" 2 (by decide)) b13 (by decide) (fun ds h => trivial) (fun ds => shp_counted)
      · exact at_x (n := 2) (W := "turned") (m := 2) s11 k20 GTu b20 (by decide) (fun ds h => h.2.2.2 rfl) (fun ds => shp_turned)
      · exact at_x (n := 2) (W := "named") (m := 1) s12 k21 GNs b21 (by decide) (fun ds h => trivial) (fun ds => shp_named)
    have GH3 := ok_hsx (n := 2) (k := 13) F11 mL DL HL yL mS DS HS2 m_isinstance m_tuple m_str m_len
    have GI := ok_innx (P := l.prog) (w := w) (mg := mg) (base := base) (n := 3) (k := 0) F10 m_list
    have GFo := ok_fox (k := 14) F9 GH3 k11 b11 g11 (GI.mono (by decide)) k10 b10 g10
    have GPo := ok_pot (P := l.prog) (w := w) (mg := mg) (base := base) (k := 0) F25 m_abs
    have GN := ok_next (P := l.prog) (w := w) (mg := mg) (base := base) (k := 0) F26
    have GK := ok_pick F27 GN k26 b26 g26 m_len
    have GZ := ok_size F28 GN k26 b26 g26 m_int
    have GSi := ok_signs (P := l.prog) (w := w) (mg := mg) (base := base) (k := 0) F29
    have GX := ok_text F30 GN k26 b26 g26 GK k27 b27 g27 GZ k28 b28 g28 GSi k29 b29 g29 m_range
    have GE := ok_set F31 GX k30 b30 g30 m_sorted m_set
    have GB := ok_bit F34 GX k30 b30 g30 m_max m_len
    have GM := ok_names (k := 0) F33 GN k26 b26 g26 GK k27 b27 g27 m_range m_len m_sorted m_int
    have GF := ok_pf (k := 2) F32 (GN.mono (by decide)) k26 b26 g26 GK k27 b27 g27 GZ k28 b28 g28 (GSi.mono (by decide)) k29 b29 g29 m_range m_len m_int m_list m_zip m_tuple m_enumerate
    have GP : ∀ N, FnOk l.prog w K mg base CX0 5 _ _ _ (spPl N) := fun N => ok_pl (N := N) (k := 4) F35 (GN.mono (by decide)) k26 b26 g26 GB k34 b34 g34 GE k31 b31 g31 (GF.mono (by decide)) k32 b32 g32 m_int
    have GBF : ∀ N, FnOk l.prog w K mg base CX0 6 _ _ _ (spBf N) := fun N => ok_bf (N := N) (k := 5) F36 (GN.mono (by decide)) k26 b26 g26 (GB.mono (by decide)) k34 b34 g34 (GP N) k35 b35 g35
    have GTF : ∀ N, FnOk l.prog w K mg base CX0 4 _ _ _ (spTf N) := fun N => ok_tf (N := N) (k := 3) F37 (GN.mono (by decide)) k26 b26 g26 (GZ.mono (by decide)) k28 b28 g28 GM k33 b33 g33 m_range m_tuple
    have GR0 : ∀ N, FnOk l.prog w K mg base CX0 6 _ _ _ (spFm N 0) := fun N => none_fm (f := f38) (fd := PySem.W.fnOf "_law_form" "_law_form" (defArgs sFm) (defBody sFm) (defScope sFm) .none kV38 dc38 pm38 an38 cd38 ct38)
    have GR1 : ∀ N, FnOk l.prog w K mg base CX0 7 _ _ _ (spFm N 1) := fun N => ok_fm (N := N) (n := 0) (k := 6) F38 (GN.mono (by decide)) k26 b26 g26 (GZ.mono (by decide)) k28 b28 g28 (GM.mono (by decide)) k33 b33 g33 ((GP N).mono (by decide)) k35 b35 g35 ((GBF N).mono (by decide)) k36 b36 g36 ((GTF N).mono (by decide)) k37 b37 g37 (GB.mono (by decide)) k34 b34 g34 (GK.mono (by decide)) k27 b27 g27 (GR0 N) k38 b38 g38 m_range m_tuple m_min m_len m_list m_zip
    have GR2 : ∀ N, FnOk l.prog w K mg base CX0 8 _ _ _ (spFm N 2) := fun N => ok_fm (N := N) (n := 1) (k := 7) F38 (GN.mono (by decide)) k26 b26 g26 (GZ.mono (by decide)) k28 b28 g28 (GM.mono (by decide)) k33 b33 g33 ((GP N).mono (by decide)) k35 b35 g35 ((GBF N).mono (by decide)) k36 b36 g36 ((GTF N).mono (by decide)) k37 b37 g37 (GB.mono (by decide)) k34 b34 g34 (GK.mono (by decide)) k27 b27 g27 (GR1 N) k38 b38 g38 m_range m_tuple m_min m_len m_list m_zip
    have GR3 : ∀ N, FnOk l.prog w K mg base CX0 9 _ _ _ (spFm N 3) := fun N => ok_fm (N := N) (n := 2) (k := 8) F38 (GN.mono (by decide)) k26 b26 g26 (GZ.mono (by decide)) k28 b28 g28 (GM.mono (by decide)) k33 b33 g33 ((GP N).mono (by decide)) k35 b35 g35 ((GBF N).mono (by decide)) k36 b36 g36 ((GTF N).mono (by decide)) k37 b37 g37 (GB.mono (by decide)) k34 b34 g34 (GK.mono (by decide)) k27 b27 g27 (GR2 N) k38 b38 g38 m_range m_tuple m_min m_len m_list m_zip
    have GR4 : ∀ N, FnOk l.prog w K mg base CX0 10 _ _ _ (spFm N 4) := fun N => ok_fm (N := N) (n := 3) (k := 9) F38 (GN.mono (by decide)) k26 b26 g26 (GZ.mono (by decide)) k28 b28 g28 (GM.mono (by decide)) k33 b33 g33 ((GP N).mono (by decide)) k35 b35 g35 ((GBF N).mono (by decide)) k36 b36 g36 ((GTF N).mono (by decide)) k37 b37 g37 (GB.mono (by decide)) k34 b34 g34 (GK.mono (by decide)) k27 b27 g27 (GR3 N) k38 b38 g38 m_range m_tuple m_min m_len m_list m_zip
    have GPA : FnOk l.prog w K mg base CX0 10 _ _ _ spPlA := (FnOk.ex GP).mono (by decide)
    have GRA : FnOk l.prog w K mg base CX0 10 _ _ _ spFmA := FnOk.ex GR4
    have GO := ok_bo (k := 10) F39 (GZ.mono (by decide)) k28 b28 g28 (GM.mono (by decide)) k33 b33 g33 GPA k35 b35 g35 GRA k38 b38 g38 (GK.mono (by decide)) k27 b27 g27 m_tuple m_len
    have GBk := ok_bk (k := 11) F40 GO k39 b39 g39
    have GK2 := ok_pk2 F27 GN k26 b26 g26 m_len
    have GBd := ok_bd (P := l.prog) (w := w) (mg := mg) (base := base) (k := 0) F41
    have GW := ok_wi F42 GK k27 b27 g27 m_range
    exact ok_law (k := 15) F43 (GPo.mono (by decide)) k25 b25 g25 (GBk.mono (by decide)) k40 b40 g40 (GK2.mono (by decide)) k27 b27 g27 (GN.mono (by decide)) k26 b26 g26 (GBd.mono (by decide)) k41 b41 g41 (GW.mono (by decide)) k42 b42 g42 GFo k9 b9 g9 m_range
end RT
open PySem PySem.W PyProof.Rows
set_option maxRecDepth 100000 in
set_option maxHeartbeats 0 in
theorem PySem.Challenge.cw_readtell_k04_forms_spoilt_holds : PySem.Challenge.rw_readtell_k04_forms_spoilt.Holds := by
  w_on; o_law; k_head; (case hw => w_witness2)
  k_fill
  refine RT.walk_tab (l := PySem.Challenge.rw_readtell_k04_forms_spoilt) (n := 63) (k := 16) (x := "_law_script") rfl (by decide) rfl ⟨rfl, by decide, by decide⟩ (fun w h Y => PySem.W.kIn_of Y) ?F
  case F =>
    intro w mg fa h KX G hmg hq
    refine' RT.all_mk KX G hmg hq ?w2 ?w4 ?w7 ?w16 ?w18 ?w22 ?w24 ?a1 ?l1 ?c1 ?k1 ?a2 ?l2 ?c2 ?k2 ?t2 ?p2 ?n2 ?a3 ?l3 ?c3 ?k3 ?a4 ?l4 ?c4 ?k4 ?t4 ?p4 ?n4 ?a5 ?l5 ?c5 ?k5 ?a6 ?l6 ?c6 ?k6 ?a7 ?l7 ?c7 ?k7 ?t7 ?p7 ?n7 ?a8 ?l8 ?c8 ?k8 ?a9 ?l9 ?c9 ?k9 ?a10 ?l10 ?c10 ?k10 ?a11 ?l11 ?c11 ?k11 ?a12 ?l12 ?c12 ?k12 ?a13 ?l13 ?c13 ?k13 ?a14 ?l14 ?c14 ?k14 ?a15 ?l15 ?c15 ?k15 ?a16 ?l16 ?c16 ?k16 ?t16 ?p16 ?n16 ?a17 ?l17 ?c17 ?k17 ?a18 ?l18 ?c18 ?k18 ?t18 ?p18 ?n18 ?a19 ?l19 ?c19 ?k19 ?a20 ?l20 ?c20 ?k20 ?a21 ?l21 ?c21 ?k21 ?a22 ?l22 ?c22 ?k22 ?t22 ?p22 ?n22 ?a23 ?l23 ?c23 ?k23 ?a24 ?l24 ?c24 ?k24 ?t24 ?p24 ?n24 ?a25 ?l25 ?c25 ?k25 ?a26 ?l26 ?c26 ?k26 ?a27 ?l27 ?c27 ?k27 ?a28 ?l28 ?c28 ?k28 ?a29 ?l29 ?c29 ?k29 ?a30 ?l30 ?c30 ?k30 ?a31 ?l31 ?c31 ?k31 ?a32 ?l32 ?c32 ?k32 ?a33 ?l33 ?c33 ?k33 ?a34 ?l34 ?c34 ?k34 ?a35 ?l35 ?c35 ?k35 ?a36 ?l36 ?c36 ?k36 ?a37 ?l37 ?c37 ?k37 ?a38 ?l38 ?c38 ?k38 ?a39 ?l39 ?c39 ?k39 ?a40 ?l40 ?c40 ?k40 ?a41 ?l41 ?c41 ?k41 ?a42 ?l42 ?c42 ?k42 ?a43 ?l43 ?c43 ?k43 ?z1 ?z2 ?z3 ?z4 ?z5 ?z6 ?z7 ?z8 ?z9 ?z10 ?z11 ?z12 ?z13 ?z14 ?z15 ?z16 ?z17 ?z18 ?aCm ?am1 ?im1 ?lm1 ?cm1 ?km1 ?am2 ?im2 ?lm2 ?cm2 ?km2 ?am3 ?im3 ?lm3 ?cm3 ?km3 ?pg_m ?hd_m ?po_m ?sa_m ?mk_m ?kc_m ?n_known ?hpc ?hL ?dL ?lL ?wL ?yL ?hS ?dS ?lS ?wS ?hB ?dB ?q0 ?s0 ?q1 ?s1 ?q2 ?s2 ?q3 ?s3 ?q4 ?s4 ?q5 ?s5 ?q6 ?s6 ?q7 ?s7 ?q8 ?s8 ?q9 ?s9 ?q10 ?s10 ?q11 ?s11 ?q12 ?s12
    (case w2 => rfl)
    (case w4 => rfl)
    (case w7 => rfl)
    (case w16 => rfl)
    (case w18 => rfl)
    (case w22 => rfl)
    (case w24 => rfl)
    (case a1 => k_is)
    (case l1 => k_is)
    (case c1 => k_is)
    (case k1 => k_is)
    (case a2 => k_is)
    (case l2 => k_is)
    (case c2 => k_is)
    (case k2 => k_is)
    (case t2 => k_is)
    (case p2 => rfl)
    (case n2 => rfl)
    (case a3 => k_is)
    (case l3 => k_is)
    (case c3 => k_is)
    (case k3 => k_is)
    (case a4 => k_is)
    (case l4 => k_is)
    (case c4 => k_is)
    (case k4 => k_is)
    (case t4 => k_is)
    (case p4 => rfl)
    (case n4 => rfl)
    (case a5 => k_is)
    (case l5 => k_is)
    (case c5 => k_is)
    (case k5 => k_is)
    (case a6 => k_is)
    (case l6 => k_is)
    (case c6 => k_is)
    (case k6 => k_is)
    (case a7 => k_is)
    (case l7 => k_is)
    (case c7 => k_is)
    (case k7 => k_is)
    (case t7 => k_is)
    (case p7 => rfl)
    (case n7 => rfl)
    (case a8 => k_is)
    (case l8 => k_is)
    (case c8 => k_is)
    (case k8 => k_is)
    (case a9 => k_is)
    (case l9 => k_is)
    (case c9 => k_is)
    (case k9 => k_is)
    (case a10 => k_is)
    (case l10 => k_is)
    (case c10 => k_is)
    (case k10 => k_is)
    (case a11 => k_is)
    (case l11 => k_is)
    (case c11 => k_is)
    (case k11 => k_is)
    (case a12 => k_is)
    (case l12 => k_is)
    (case c12 => k_is)
    (case k12 => k_is)
    (case a13 => k_is)
    (case l13 => k_is)
    (case c13 => k_is)
    (case k13 => k_is)
    (case a14 => k_is)
    (case l14 => k_is)
    (case c14 => k_is)
    (case k14 => k_is)
    (case a15 => k_is)
    (case l15 => k_is)
    (case c15 => k_is)
    (case k15 => k_is)
    (case a16 => k_is)
    (case l16 => k_is)
    (case c16 => k_is)
    (case k16 => k_is)
    (case t16 => k_is)
    (case p16 => rfl)
    (case n16 => rfl)
    (case a17 => k_is)
    (case l17 => k_is)
    (case c17 => k_is)
    (case k17 => k_is)
    (case a18 => k_is)
    (case l18 => k_is)
    (case c18 => k_is)
    (case k18 => k_is)
    (case t18 => k_is)
    (case p18 => rfl)
    (case n18 => rfl)
    (case a19 => k_is)
    (case l19 => k_is)
    (case c19 => k_is)
    (case k19 => k_is)
    (case a20 => k_is)
    (case l20 => k_is)
    (case c20 => k_is)
    (case k20 => k_is)
    (case a21 => k_is)
    (case l21 => k_is)
    (case c21 => k_is)
    (case k21 => k_is)
    (case a22 => k_is)
    (case l22 => k_is)
    (case c22 => k_is)
    (case k22 => k_is)
    (case t22 => k_is)
    (case p22 => rfl)
    (case n22 => rfl)
    (case a23 => k_is)
    (case l23 => k_is)
    (case c23 => k_is)
    (case k23 => k_is)
    (case a24 => k_is)
    (case l24 => k_is)
    (case c24 => k_is)
    (case k24 => k_is)
    (case t24 => k_is)
    (case p24 => rfl)
    (case n24 => rfl)
    (case a25 => k_is)
    (case l25 => k_is)
    (case c25 => k_is)
    (case k25 => k_is)
    (case a26 => k_is)
    (case l26 => k_is)
    (case c26 => k_is)
    (case k26 => k_is)
    (case a27 => k_is)
    (case l27 => k_is)
    (case c27 => k_is)
    (case k27 => k_is)
    (case a28 => k_is)
    (case l28 => k_is)
    (case c28 => k_is)
    (case k28 => k_is)
    (case a29 => k_is)
    (case l29 => k_is)
    (case c29 => k_is)
    (case k29 => k_is)
    (case a30 => k_is)
    (case l30 => k_is)
    (case c30 => k_is)
    (case k30 => k_is)
    (case a31 => k_is)
    (case l31 => k_is)
    (case c31 => k_is)
    (case k31 => k_is)
    (case a32 => k_is)
    (case l32 => k_is)
    (case c32 => k_is)
    (case k32 => k_is)
    (case a33 => k_is)
    (case l33 => k_is)
    (case c33 => k_is)
    (case k33 => k_is)
    (case a34 => k_is)
    (case l34 => k_is)
    (case c34 => k_is)
    (case k34 => k_is)
    (case a35 => k_is)
    (case l35 => k_is)
    (case c35 => k_is)
    (case k35 => k_is)
    (case a36 => k_is)
    (case l36 => k_is)
    (case c36 => k_is)
    (case k36 => k_is)
    (case a37 => k_is)
    (case l37 => k_is)
    (case c37 => k_is)
    (case k37 => k_is)
    (case a38 => k_is)
    (case l38 => k_is)
    (case c38 => k_is)
    (case k38 => k_is)
    (case a39 => k_is)
    (case l39 => k_is)
    (case c39 => k_is)
    (case k39 => k_is)
    (case a40 => k_is)
    (case l40 => k_is)
    (case c40 => k_is)
    (case k40 => k_is)
    (case a41 => k_is)
    (case l41 => k_is)
    (case c41 => k_is)
    (case k41 => k_is)
    (case a42 => k_is)
    (case l42 => k_is)
    (case c42 => k_is)
    (case k42 => k_is)
    (case a43 => k_is)
    (case l43 => k_is)
    (case c43 => k_is)
    (case k43 => k_is)
    (case z1 => k_is)
    (case z2 => k_is)
    (case z3 => k_is)
    (case z4 => k_is)
    (case z5 => k_is)
    (case z6 => k_is)
    (case z7 => k_is)
    (case z8 => k_is)
    (case z9 => k_is)
    (case z10 => k_is)
    (case z11 => k_is)
    (case z12 => k_is)
    (case z13 => k_is)
    (case z14 => k_is)
    (case z15 => k_is)
    (case z16 => k_is)
    (case z17 => k_is)
    (case z18 => k_is)
    (case aCm => k_is)
    (case am1 => k_is)
    (case im1 => k_is)
    (case lm1 => k_is)
    (case cm1 => k_is)
    (case km1 => k_is)
    (case am2 => k_is)
    (case im2 => k_is)
    (case lm2 => k_is)
    (case cm2 => k_is)
    (case km2 => k_is)
    (case am3 => k_is)
    (case im3 => k_is)
    (case lm3 => k_is)
    (case cm3 => k_is)
    (case km3 => k_is)
    (case pg_m => k_is)
    (case hd_m => k_is)
    (case po_m => k_is)
    (case sa_m => k_is)
    (case mk_m => k_is)
    (case kc_m => k_is)
    (case n_known => k_is)
    (case hpc => k_is)
    (case hL => k_is)
    (case dL => k_is)
    (case lL => exact ⟨⟨_, _, rfl, rfl⟩, ⟨_, _, rfl, rfl⟩, ⟨_, _, rfl, rfl⟩, ⟨_, _, rfl, rfl⟩, ⟨_, _, rfl, rfl⟩, ⟨_, _, rfl, rfl⟩, ⟨_, _, rfl, rfl⟩, ⟨_, _, rfl, rfl⟩, ⟨_, _, rfl, rfl⟩, ⟨_, _, rfl, rfl⟩, ⟨_, _, rfl, rfl⟩, ⟨_, _, rfl, rfl⟩, ⟨_, _, rfl, rfl⟩, trivial⟩)
    (case wL => rfl)
    (case yL => rfl)
    (case hS => k_is)
    (case dS => k_is)
    (case lS => exact ⟨⟨_, _, rfl, rfl⟩, ⟨_, _, rfl, rfl⟩, ⟨_, _, rfl, rfl⟩, ⟨_, _, rfl, rfl⟩, ⟨_, _, rfl, rfl⟩, ⟨_, _, rfl, rfl⟩, ⟨_, _, rfl, rfl⟩, ⟨_, _, rfl, rfl⟩, ⟨_, _, rfl, rfl⟩, ⟨_, _, rfl, rfl⟩, ⟨_, _, rfl, rfl⟩, ⟨_, _, rfl, rfl⟩, ⟨_, _, rfl, rfl⟩, trivial⟩)
    (case wS => rfl)
    (case hB => k_is)
    (case dB => k_is)
    (case q0 => k_is)
    (case s0 => k_is)
    (case q1 => k_is)
    (case s1 => k_is)
    (case q2 => k_is)
    (case s2 => k_is)
    (case q3 => k_is)
    (case s3 => k_is)
    (case q4 => k_is)
    (case s4 => k_is)
    (case q5 => k_is)
    (case s5 => k_is)
    (case q6 => k_is)
    (case s6 => k_is)
    (case q7 => k_is)
    (case s7 => k_is)
    (case q8 => k_is)
    (case s8 => k_is)
    (case q9 => k_is)
    (case s9 => k_is)
    (case q10 => k_is)
    (case s10 => k_is)
    (case q11 => k_is)
    (case s11 => k_is)
    (case q12 => k_is)
    (case s12 => k_is)
