import PyProof.Rows.All
import Wide.All
import OpenK.AllK
import Wide.FinOn
import PySem.Challenge.RW_readtell_k01_what_is_a_name
import HandS.ForMost
import HandS.Wide
import HandS.IsInst
import HandS.TupLe
import HandS.AnyAll
import HandS.EndTab
set_option Elab.async false
set_option linter.all false
set_option maxRecDepth 100000
/-! the drawing words of the law, by hand -/
namespace RT
open PySem PySem.Spec PyProof.Rows L2
def topS (i : Nat) : Stmt := PySem.Challenge.pw_readtell_k01_what_is_a_name.main.body.getD i (.Pass ⟨0, 0, 0, 0⟩)
abbrev sPot : Stmt := topS 3
abbrev sNext : Stmt := topS 4
abbrev sPick : Stmt := topS 5
/-! ### frames -/
/-- all but the places M stays -/
def Kp (M : Addr → Prop) (H H' : Hp) : Prop := ∀ b o, ¬ M b → H b = some o → H' b = some o
theorem Kp.refl {M : Addr → Prop} {H : Hp} : Kp M H H := fun _ _ _ e => e
theorem Kp.trans {M : Addr → Prop} {H H1 H2 : Hp} (a : Kp M H H1) (b : Kp M H1 H2) : Kp M H H2 := fun c o h e => b c o h (a c o h e)
theorem Kp.mono {M N : Addr → Prop} {H H1 : Hp} (a : Kp M H H1) (h : ∀ b, M b → N b) : Kp N H H1 := fun c o k e => a c o (fun z => k (h c z)) e
theorem Kp.new {M : Addr → Prop} {H : Hp} {p : Addr} {o : HO} (h : H p = none) : Kp M H (upd H p o) := fun b u _ e => by rw [upd_ne (ne_of_none e h)]; exact e
theorem Kp.put {M : Addr → Prop} {H : Hp} {p : Addr} {o : HO} (h : M p) : Kp M H (upd H p o) := fun b u k e => by rw [upd_ne (fun z => k (by rw [z]; exact h))]; exact e
abbrev M0 : Addr → Prop := fun _ => False
theorem sqL_keep {K : PySem.W.Frag} {H H' : Hp} {a : Addr} {xs : List V} (k : Kp M0 H H') (h : SqL K H a xs) : SqL K H' a xs := by
  rcases h with (h | ⟨o, h⟩) | h
  · exact .inl (.inl (k _ _ (fun z => z) h))
  · exact .inl (.inr ⟨o, k _ _ (fun z => z) h⟩)
  · exact .inr h
/-! ### the pot -/
def potD (po : Addr) (s t : Int) : HO := .dK [(.inr "own", .ref po), (.inr "seed", .int s), (.inr "turn", .int t)]
structure Pot (H : Hp) (pd po : Addr) (t : Nat) : Prop where
  d : ∃ s : Int, 0 ≤ s ∧ s < 2305843009213693951 ∧ H pd = some (potD po s t)
  o : ∃ ns : List Int, ns.length ≤ 63 ∧ (∀ n ∈ ns, 0 ≤ n) ∧ H po = some (.lst (ns.map V.int))
theorem Pot.keep {M : Addr → Prop} {H H' : Hp} {pd po : Addr} {t : Nat} (P : Pot H pd po t) (k : Kp M H H') (hd : ¬ M pd) (ho : ¬ M po) : Pot H' pd po t := by
  obtain ⟨⟨s, h0, h1, e⟩, ns, h2, h3, e2⟩ := P
  exact ⟨⟨s, h0, h1, k _ _ hd e⟩, ns, h2, h3, k _ _ ho e2⟩
/-- what the drawing words may change -/
abbrev PM (pd po : Addr) : Addr → Prop := fun b => b = pd ∨ b = po
theorem scPot : FnScope ["_law_script", "_law_seed", "_law_own", "_law_far", "_law_cell"] ["_law_script"] (defScope sPot) := ⟨rfl, rfl, rfl, by decide +kernel, rfl, by decide +kernel, by decide +kernel⟩
theorem scNext : FnScope ["_law_pot_here", "_law_many", "_law_digit", "_law_turn", "_law_mixed"] ["_law_pot_here", "_law_many"] (defScope sNext) := ⟨rfl, rfl, rfl, by decide +kernel, rfl, by decide +kernel, by decide +kernel⟩
theorem scPick : FnScope ["_law_pot_here", "_law_some"] ["_law_pot_here", "_law_some"] (defScope sPick) := ⟨rfl, rfl, rfl, by decide +kernel, rfl, by decide +kernel, by decide +kernel⟩
section
variable {P : Program} {w : World} {K : PySem.W.Frag} {mg : Str → Option Value} {base : Heap}
def spPot (K : PySem.W.Frag) : Sp := fun vs H Q _ => ∃ (a : Addr) (ns : List Int), vs = [.ref a] ∧ SqL K H a (ns.map V.int) ∧
  ∀ (pd po : Addr) (H' : Hp), Kp M0 H H' → H pd = none → H po = none → pd ≠ po → Pot H' pd po 0 → Q (.ref pd) H'
theorem cut63 (xs : List V) : cutV xs none (some 63) = xs.take 63 := by
  unfold cutV
  rw [HT.sIx_none, show HT.sIx xs.length xs.length (some 63) = min 63 xs.length from HT.sIx_nat xs.length xs.length 63]
  rw [List.drop_zero, Nat.sub_zero]
  by_cases h : xs.length ≤ 63
  · rw [Nat.min_eq_right h, List.take_length, List.take_of_length_le h]
  · rw [Nat.min_eq_left (by omega)]
theorem ok_pot {f : Addr} {fd : FuncData} {k : Nat} (F : Fun K "_law_pot" "_law_pot" sPot f fd) (mabs : mg "abs" = none) : FnOk P w K mg base CX0 (k + 1) f fd ["_law_script"] (spPot K) := by
  refine F.ok scPot (fun vs H Q E h => ?_) (fun cdv A outer s H vs Q E hr h => ?_)
  · obtain ⟨a, ns, rfl, _⟩ := h
    rfl
  · obtain ⟨a, ns, rfl, hS, q⟩ := h
    refine ⟨_, pss_cons (ps_set (i := 1) scPot.nd rfl (.inl rfl) pe_int)
      (pss_cons (ps_set (i := 2) scPot.nd rfl (.inl rfl) (pe_lst pa_nil))
      (pss_cons (ps_set (i := 3) scPot.nd rfl (.inl rfl) (pe_op op_mulW (pe_op op_mulW (pe_op op_pow pe_int pe_int) (pe_op op_pow pe_int pe_int)) (pe_op op_pow pe_int pe_int)))
      (pss_cons (ps_for PassesOwn.never rfl (pi_list (pe_slice sl_list (pv 0) po_none (po_some pe_int))) (pg_name (i := 4) scPot.nd rfl (.inl rfl))
        (pss_cons (ps_set (i := 1) scPot.nd rfl (.inl rfl) (pe_op op_mod (pe_op op_add (pe_op op_add (pe_op op_mul (pv 1) pe_int) (pe_op op_mod (pv 4) (pe_op op_pow pe_int pe_int))) pe_int) pe_int))
        (pss_one (ps_if (pt_cmpR op_ge (pe_callB call_abs (by rfl) mabs (by decide +kernel) (pa_cons (pv 4) pa_nil)) (pe_op op_pow pe_int pe_int) (nomark _))
          (pss_one (ps_expr (pe_bm PySem.F.plainAttrs_list PySem.F.slot_list_append PySem.F.type_list_append mt_append (pv 2)
            (pa_cons (pe_op op_mod (pe_callB call_abs (by rfl) mabs (by decide +kernel) (pa_cons (pv 4) pa_nil)) (pv 3)) pa_nil)))) pss_nil))))
      (pss_one (ps_ret (pe_disp (pps_cons pe_str (pv 2) (pps_cons pe_str (pv 1) (pps_cons pe_str pe_int pps_nil))) (by rfl) (by rfl) (fun z => by cases z) (by decide))))))), ?_⟩
    -- own = []
    refine ⟨Nat.zero_le _, fun o no => ?_⟩
    have k1 : Kp M0 H (upd H o (.lst [])) := Kp.new no
    -- far
    refine ⟨_, _, rfl, rfl, ⟨by decide, by decide, by decide⟩, _, _, rfl, rfl, ⟨by decide, by decide, by decide⟩, _, _, rfl, rfl, wide_mul (a := 200) (b := 200) (by decide +kernel) (by decide +kernel) (by decide) (by decide) (by decide), _, _, rfl, rfl, ⟨by decide, by decide, by decide⟩, _, _, rfl, rfl, wide_mul (a := 400) (b := 200) (by decide +kernel) (by decide +kernel) (by decide) (by decide) (by decide), ?_⟩
    -- script[:63]
    refine ⟨.ref a, rfl, 63, rfl, a, ns.map V.int, rfl, sqL_keep k1 hS, fun c nc => ?_⟩
    have nco : c ≠ o := fun e => by
      rw [e, upd_same] at nc
      cases nc
    have k2 : Kp M0 H (upd (upd H o (.lst [])) c (.lst (cutV (ns.map V.int) none (some 63)))) := k1.trans (Kp.new nc)
    rw [cut63, ← List.map_take] at k2 ⊢
    generalize hns : ns.take 63 = ms at k2 ⊢
    have hms : ms.length ≤ 63 := by rw [← hns, List.length_take]; omega
    have hc : SqL K (upd (upd H o (.lst [])) c (.lst (ms.map V.int))) c (ms.map V.int) := .inl (.inl upd_same)
    refine ⟨c, rfl, ⟨_, hc⟩, for_list (xs := ms.map V.int) (fun i σ H3 => ∃ (s : Int) (os : List Int) (y4 : Option V), σ = [some (.ref a), some (.int s), some (.ref o), some (.int (10 ^ 60 * 10 ^ 60 * 10 ^ 60)), y4] ∧ 0 ≤ s ∧ s < 2305843009213693951 ∧ os.length ≤ i ∧ (∀ n ∈ os, 0 ≤ n) ∧
      H3 o = some (.lst (os.map V.int)) ∧ H3 c = some (.lst (ms.map V.int)) ∧ Kp M0 H H3) ?_ ?_ ?_ ?_⟩
    · exact ⟨17, [], none, rfl, by decide, by decide, Nat.le_refl _, fun _ z => (nomatch z), by rw [upd_ne nco.symm, upd_same] <;> rfl, upd_same, k2⟩
    · rintro i σ H3 _ ⟨s, os, y4, rfl, _, _, _, _, _, e2, _⟩
      exact .inl (.inl e2)
    · rintro i x σ H3 hx ⟨s, os, y4, rfl, h0, h1, h2, h3, e1, e2, k3⟩
      have hi : i < ms.length := by
        have z := (List.getElem?_eq_some_iff.mp hx).1
        rw [List.length_map] at z
        exact z
      obtain ⟨n, rfl⟩ : ∃ n : Int, x = .int n := by
        rw [List.getElem?_map, List.getElem?_eq_getElem hi] at hx
        exact ⟨_, (Option.some.inj hx).symm⟩
      refine ⟨_, rfl, _, _, rfl, rfl, .inl ⟨by omega, by omega⟩, _, rfl, _, _, rfl, rfl, ⟨by decide, by decide, by decide⟩, _, _, rfl, rfl, (by show (0 : Int) < 10 ^ 40; decide +kernel), _, _, rfl, rfl, _, _, rfl, rfl, _, _, rfl, rfl, (by show (0 : Int) < 2305843009213693951; decide), ?_⟩
      refine ⟨_, rfl, _, rfl, _, _, rfl, rfl, ⟨by decide, by decide, by decide⟩, _, _, rfl, rfl, _, rfl, ite2 (fun c => ?_) (fun c => ?_)⟩
      · refine ⟨_, rfl, .inl ⟨rfl, _, .inl (.inl e1)⟩, _, rfl, _, rfl, _, rfl, _, _, rfl, rfl, (by show (0 : Int) < 10 ^ 60 * 10 ^ 60 * 10 ^ 60; decide +kernel), o, _, _, rfl, rfl, e1, ?_, ?_⟩
        · rw [List.length_map]
          exact small1000 (by omega)
        · refine ⟨_, os ++ [_], _, rfl, Int.emod_nonneg _ (by decide), Int.emod_lt_of_pos _ (by decide), by rw [List.length_append]; simp; omega, ?_, by rw [upd_same, List.map_append] <;> rfl, ?_, ?_⟩
          · intro n hn
            rcases List.mem_append.mp hn with z | z
            · exact h3 n z
            · rw [List.mem_singleton.mp z]
              exact Int.emod_nonneg _ (by decide +kernel)
          · rw [upd_ne nco]
            exact e2
          · intro b u _ e
            have nb : b ≠ o := ne_of_none e no
            rw [upd_ne nb]
            exact k3 b u (fun z => z) e
      · exact ⟨_, os, _, rfl, Int.emod_nonneg _ (by decide), Int.emod_lt_of_pos _ (by decide), by omega, h3, e1, e2, k3⟩
    · rintro σ H3 ⟨s, os, y4, rfl, h0, h1, h2, h3, e1, e2, k3⟩
      rw [List.length_map] at h2
      intro p np
      refine ⟨_, rfl, _, rfl, upd_same, [(.inr "own", .ref o), (.inr "seed", .int s), (.inr "turn", .int 0)], rfl, (by show 3 ≤ 15; decide), ?_⟩
      have hp : p ≠ o := fun z => by
        rw [z, e1] at np
        cases np
      have hpn : H p = none := by
        cases z : H p with
        | none => rfl
        | some u =>
          rw [k3 p u (fun z => z) z] at np
          cases np
      refine q p o _ ?_ hpn no hp ⟨⟨s, h0, h1, ?_⟩, os, by omega, h3, ?_⟩
      · intro b u _ e
        have nb : b ≠ p := fun z => by
          rw [z, hpn] at e
          cases e
        rw [upd_ne nb, upd_ne nb]
        exact k3 b u (fun z => z) e
      · rw [upd_same]
        rfl
      · rw [upd_ne hp.symm, upd_ne hp.symm]
        exact e1

/-! ### _law_next -/
theorem shaped_ints : ∀ ns : List Int, SeqAt.shaped (.list (ns.map PyData.int)) = true := by
  have a : ∀ ns : List Int, PyData.canLayAll0 (ns.map PyData.int) = true := fun ns => by
    induction ns with
    | nil => rfl
    | cons n r ih => simp only [List.map_cons, PyData.canLayAll0, PyData.canLay0, ih, Bool.and_self]
  have b : ∀ ns : List Int, PyData.depthAll (ns.map PyData.int) = 0 := fun ns => by
    induction ns with
    | nil => rfl
    | cons n r ih => simp only [List.map_cons, PyData.depthAll, PyData.depth, ih, Nat.max_self]
  intro ns
  unfold SeqAt.shaped
  simp only [PyData.canLay0, a ns, PyData.depth, b ns, Bool.true_and]
  rfl
theorem dpAll_ints {K : PySem.W.Frag} {H : Hp} : ∀ ns : List Int, DpAll K H (ns.map V.int) (ns.map PyData.int)
  | [] => .nil
  | n :: r => .cons (.int n) (dpAll_ints r)
theorem dp_ints {K : PySem.W.Frag} {H : Hp} {a : Addr} {ns : List Int} (h : SqL K H a (ns.map V.int)) : Dp K H (.ref a) (.list (ns.map PyData.int)) := .lst h (dpAll_ints ns)
/-- the pot told out -/
structure PotE (H : Hp) (pd po : Addr) (t : Nat) (s : Int) (ns : List Int) : Prop where
  s0 : 0 ≤ s
  s1 : s < 2305843009213693951
  d : H pd = some (potD po s t)
  len : ns.length ≤ 63
  nn : ∀ n ∈ ns, 0 ≤ n
  o : H po = some (.lst (ns.map V.int))
theorem PotE.pot {H : Hp} {pd po : Addr} {t : Nat} {s : Int} {ns : List Int} (E : PotE H pd po t s ns) : Pot H pd po t := ⟨⟨s, E.s0, E.s1, E.d⟩, ns, E.len, E.nn, E.o⟩
theorem Pot.e {H : Hp} {pd po : Addr} {t : Nat} (P : Pot H pd po t) : ∃ s ns, PotE H pd po t s ns := by
  obtain ⟨⟨s, h0, h1, e⟩, ns, h2, h3, e2⟩ := P
  exact ⟨s, ns, h0, h1, e, h2, h3, e2⟩
theorem PotE.ne {H : Hp} {pd po : Addr} {t : Nat} {s : Int} {ns : List Int} (E : PotE H pd po t s ns) : pd ≠ po := ne_of E.d E.o (fun z => by cases z)
theorem PotE.new {H : Hp} {pd po : Addr} {t : Nat} {s : Int} {ns : List Int} (E : PotE H pd po t s ns) {p : Addr} {o : HO} (n : H p = none) : PotE (upd H p o) pd po t s ns :=
  ⟨E.s0, E.s1, by rw [upd_ne (ne_of_none E.d n)]; exact E.d, E.len, E.nn, by rw [upd_ne (ne_of_none E.o n)]; exact E.o⟩
theorem PotE.own {H : Hp} {pd po : Addr} {t : Nat} {s : Int} {ns : List Int} (E : PotE H pd po t s ns) {ms : List Int} (h : ms.length ≤ 63) (h2 : ∀ n ∈ ms, 0 ≤ n) : PotE (upd H po (.lst (ms.map V.int))) pd po t s ms :=
  ⟨E.s0, E.s1, by rw [upd_ne E.ne]; exact E.d, h, h2, upd_same⟩
theorem eqv_nil_of (ns : List Int) : PyData.eqv (.list (ns.map PyData.int)) (.list []) = ns.isEmpty := by
  cases ns <;> simp [PyData.eqv, PyData.eqvAll]
theorem wide_add {i j : Int} {a : Nat} (ha : i.natAbs < 2 ^ a) (hb : j.natAbs < 2 ^ a) : (i + j).natAbs < 2 ^ (a + 1) := by
  have h := Int.natAbs_add_le i j
  rw [Nat.pow_succ]
  omega
theorem wide_up {i : Int} {a b : Nat} (ha : i.natAbs < 2 ^ a) (h : a ≤ b) : i.natAbs < 2 ^ b := Nat.lt_of_lt_of_le ha (Nat.pow_le_pow_right (by decide) h)
theorem mod_small (x : Int) : (x % 2305843009213693921).natAbs < 2 ^ 64 := by
  have := Int.emod_nonneg x (show (2305843009213693921 : Int) ≠ 0 by decide)
  have := Int.emod_lt_of_pos x (show (0 : Int) < 2305843009213693921 by decide)
  show _ < 18446744073709551616
  omega
theorem mod_small2 (x : Int) : (x % 1000003 + 69621).natAbs < 2 ^ 64 := by
  have := Int.emod_nonneg x (show (1000003 : Int) ≠ 0 by decide)
  have := Int.emod_lt_of_pos x (show (0 : Int) < 1000003 by decide)
  show _ < 18446744073709551616
  omega
def spNext : Sp := fun vs H Q _ => ∃ (pd po : Addr) (t : Nat) (m : Int), vs = [.ref pd, .int m] ∧ Pot H pd po t ∧ t < 2 ^ 50 ∧ 1 ≤ m ∧ m < 1073741824 ∧
  ∀ (d : Int) (H' : Hp) (t' : Nat), t' ≤ t + 1 → 0 ≤ d → d < m → Pot H' pd po t' → Kp (PM pd po) H H' → Q (.int d) H'
theorem ok_next {f : Addr} {fd : FuncData} {k : Nat} (F : Fun K "_law_next" "_law_next" sNext f fd) : FnOk P w K mg base CX0 (k + 1) f fd ["_law_pot_here", "_law_many"] spNext := by
  refine F.ok scNext (fun vs H Q E h => ?_) (fun cdv A outer s H vs Q E hr h => ?_)
  · obtain ⟨pd, po, t, m, rfl, _⟩ := h
    rfl
  · obtain ⟨pd, po, t, m, rfl, hP, ht, hm1, hm2, q⟩ := h
    refine ⟨_, pss_cons (ps_while PassesOwn.never (PW.pt (pw_and (pt_cmpR (op_neD hr.units) (pe_dget (hu_of hr) (pv 0) pe_str (fun _ _ => rfl)) (pe_lst pa_nil) (nomark _))
        (pw_and1 (pt_cmpR op_eq (pe_ix ix_list (pe_dget (hu_of hr) (pv 0) pe_str (fun _ _ => rfl)) pe_int (fun _ _ => rfl)) pe_int (nomark _)))))
        (pss_one (ps_expr (pe_bm PySem.F.plainAttrs_list PySem.F.slot_list_pop PySem.F.type_list_pop mt_popAt (pe_dget (hu_of hr) (pv 0) pe_str (fun _ _ => rfl)) (pa_cons pe_int pa_nil)))))
      (pss_cons (ps_if (pt_cmpR (op_neD hr.units) (pe_dget (hu_of hr) (pv 0) pe_str (fun _ _ => rfl)) (pe_lst pa_nil) (nomark _))
        (pss_cons (ps_set (i := 2) scNext.nd rfl (.inl rfl) (pe_op op_mod (pe_ix ix_list (pe_dget (hu_of hr) (pv 0) pe_str (fun _ _ => rfl)) pe_int (fun _ _ => rfl)) (pv 1)))
        (pss_cons (ps_asg (pe_op op_fdiv (pe_ix ix_list (pe_dget (hu_of hr) (pv 0) pe_str (fun _ _ => rfl)) pe_int (fun _ _ => rfl)) (pv 1)) (pg_sub (pe_dget (hu_of hr) (pv 0) pe_str (fun _ _ => rfl)) pe_int set_list))
        (pss_one (ps_ret (pv 2))))) pss_nil)
      (pss_cons (ps_dput (hu_of hr) (pv 0) pe_str (pe_op op_add (pe_dget (hu_of hr) (pv 0) pe_str (fun _ _ => rfl)) pe_int) rfl)
      (pss_cons (ps_set (i := 3) scNext.nd rfl (.inl rfl) (pe_dget (hu_of hr) (pv 0) pe_str (fun _ _ => rfl)))
      (pss_cons (ps_set (i := 4) scNext.nd rfl (.inl rfl) (pe_op op_add (pe_op op_add (pe_dget (hu_of hr) (pv 0) pe_str (fun _ _ => rfl)) (pe_op op_mulW (pe_op op_mulW (pv 3) (pv 3)) pe_int)) (pe_op op_mulW (pv 3) pe_int)))
      (pss_cons (ps_set (i := 4) scNext.nd rfl (.inl rfl) (pe_op op_mod (pe_op op_mulW (pv 4) pe_int) pe_int))
      (pss_cons (ps_set (i := 4) scNext.nd rfl (.inl rfl) (pe_op op_mod (pe_op op_mulW (pv 4) (pe_op op_add (pe_op op_mod (pv 4) pe_int) pe_int)) pe_int))
      (pss_one (ps_ret (pe_op op_mod (pe_op op_fdiv (pv 4) pe_int) (pv 1)))))))))), ?_⟩
    obtain ⟨s0, ns0, E0⟩ := hP.e
    refine ⟨fun n σ H2 => ∃ ns : List Int, σ = [some (.ref pd), some (.int m), none, none, none] ∧ n = ns.length ∧ Kp (PM pd po) H H2 ∧ PotE H2 pd po t s0 ns, ⟨_, ns0, rfl, rfl, Kp.refl, E0⟩, ?_⟩
    rintro n σ H2 ⟨ns, rfl, rfl, k2, E2⟩
    refine ⟨_, rfl, pd, _, rfl, DGet.k (k := .inr "own") E2.d, Nat.zero_le _, fun p np => ?_⟩
    have E3 := E2.new (o := .lst []) np
    have k3 : Kp (PM pd po) H (upd H2 p (.lst [])) := k2.trans (Kp.new np)
    refine ⟨_, .list [], dp_ints (SqL.of E3.o), .lst (SqL.of upd_same) .nil, shaped_ints _, rfl, _, rfl, ?_⟩
    cases ns with
    | nil =>
      refine iteF (iteF ?_)
      -- the second test
      refine ⟨_, rfl, pd, _, rfl, DGet.k (k := .inr "own") E3.d, Nat.zero_le _, fun p2 np2 => ?_⟩
      have E4 := E3.new (o := .lst []) np2
      have k4 : Kp (PM pd po) H (upd (upd H2 p (.lst [])) p2 (.lst [])) := k3.trans (Kp.new np2)
      have hp2 : upd (upd H2 p (.lst [])) p2 (.lst []) p2 = some (.lst []) := upd_same
      generalize upd (upd H2 p (.lst [])) p2 (.lst []) = H4 at E4 k4 hp2 ⊢
      refine ⟨_, .list [], dp_ints (SqL.of E4.o), .lst (SqL.of hp2) .nil, shaped_ints _, rfl, _, rfl, iteF ?_⟩
      -- turn + 1
      refine ⟨_, rfl, pd, _, rfl, DGet.k (k := .inr "turn") E4.d, _, _, rfl, rfl, _, rfl, pd, _, rfl, DPut.k (k := .inr "turn") E4.d (by show 3 < sizeLine; decide), ?_⟩
      have E5 : PotE (upd H4 pd (.dK (putK [(.inr "own", V.ref po), (.inr "seed", V.int s0), (.inr "turn", V.int t)] (.inr "turn") (.int ((t : Int) + 1))))) pd po (t + 1) s0 [] :=
        ⟨E4.s0, E4.s1, by rw [upd_same]; rfl, E4.len, E4.nn, by rw [upd_ne E4.ne.symm]; exact E4.o⟩
      have k5 : Kp (PM pd po) H (upd H4 pd (.dK (putK [(.inr "own", V.ref po), (.inr "seed", V.int s0), (.inr "turn", V.int t)] (.inr "turn") (.int ((t : Int) + 1))))) := k4.trans (Kp.put (.inl rfl))
      generalize upd H4 pd (.dK (putK [(.inr "own", V.ref po), (.inr "seed", V.int s0), (.inr "turn", V.int t)] (.inr "turn") (.int ((t : Int) + 1)))) = H5 at E5 k5 ⊢
      have hx : (((t + 1 : Nat) : Int)).natAbs < 2 ^ 64 := by
        show _ < 18446744073709551616
        have h50 : t < 1125899906842624 := ht
        omega
      have hs : s0.natAbs < 2 ^ 64 := by
        show _ < 18446744073709551616
        have := E5.s0
        have := E5.s1
        omega
      have hxx := wide_lt hx hx
      have hxx2 := wide_lt hxx (show (7919 : Int).natAbs < 2 ^ 13 by decide)
      have hx2 := wide_lt hx (show (104729 : Int).natAbs < 2 ^ 17 by decide)
      refine ⟨_, rfl, pd, _, rfl, DGet.k (k := .inr "turn") E5.d, ?_⟩
      refine ⟨_, rfl, pd, _, rfl, DGet.k (k := .inr "seed") E5.d, _, rfl, _, rfl, _, _, rfl, rfl, wide_mul hx hx (by decide) (by decide) (by decide), _, _, rfl, rfl, wide_mul hxx (show (7919 : Int).natAbs < 2 ^ 13 by decide) (by decide) (by decide) (by decide), _, _, rfl, rfl,
        _, rfl, _, _, rfl, rfl, wide_mul hx (show (104729 : Int).natAbs < 2 ^ 17 by decide) (by decide) (by decide) (by decide), _, _, rfl, rfl, ?_⟩
      have hm3 := wide_add (wide_add (wide_up hs (show 64 ≤ 141 by decide)) (wide_up hxx2 (show 64 + 64 + 13 ≤ 141 by decide))) (wide_up hx2 (show 64 + 17 ≤ 141 + 1 by decide))
      refine ⟨_, rfl, _, _, rfl, rfl, wide_mul hm3 (show (48271 : Int).natAbs < 2 ^ 16 by decide) (by decide) (by decide) (by decide), _, _, rfl, rfl, (by show (0 : Int) < 2305843009213693921; decide), ?_⟩
      refine ⟨_, rfl, _, rfl, _, _, rfl, rfl, (by show (0 : Int) < 1000003; decide), _, _, rfl, rfl, _, _, rfl, rfl, wide_mul (mod_small _) (mod_small2 _) (by decide) (by decide) (by decide), _, _, rfl, rfl, (by show (0 : Int) < 2305843009213693907; decide), ?_⟩
      refine ⟨_, rfl, _, _, rfl, rfl, ⟨by decide, by decide⟩, _, rfl, _, _, rfl, rfl, (by show (0 : Int) < m; omega), ?_⟩
      exact q _ _ (t + 1) (Nat.le_refl _) (Int.emod_nonneg _ (by omega)) (Int.emod_lt_of_pos _ (by omega)) E5.pot k5
    | cons n r =>
      refine iteT ?_
      refine ⟨_, rfl, pd, _, rfl, DGet.k (k := .inr "own") E3.d, po, _, 0, .int n, rfl, rfl, SqL.of E3.o, atI_nat (j := 0) rfl, rfl, _, rfl, ite2 (fun c => ?_) (fun c => ?_)⟩
      · -- a nought goes
        have l63 : r.length ≤ 63 := by
          have := E3.len
          rw [List.length_cons] at this
          omega
        refine ⟨fun σ' H' => σ' = [some (.ref pd), some (.int m), none, none, none] ∧ Kp (PM pd po) H H' ∧ PotE H' pd po t s0 r, fun σ' H' ⟨e, k, E⟩ => ⟨r.length, Nat.lt_succ_self _, r, e, rfl, k, E⟩, ?_⟩
        refine ⟨_, rfl, pd, _, rfl, DGet.k (k := .inr "own") E3.d, .inl ⟨rfl, _, SqL.of E3.o⟩, po, _, 0, 0, .int n, rfl, rfl, E3.o, by decide, by decide, ?_, rfl, rfl, ?_, ?_⟩
        · unfold seqIndex?
          simp
        · exact k3.trans (Kp.put (.inr rfl))
        · exact E3.own l63 fun z hz => E3.nn z (List.mem_cons_of_mem _ hz)
      · -- the digit
        refine ⟨_, rfl, pd, _, rfl, DGet.k (k := .inr "own") E3.d, Nat.zero_le _, fun p2 np2 => ?_⟩
        have E4 := E3.new (o := .lst []) np2
        have k4 : Kp (PM pd po) H (upd (upd H2 p (.lst [])) p2 (.lst [])) := k3.trans (Kp.new np2)
        have hn : 0 ≤ n := E4.nn n (List.mem_cons_self ..)
        refine ⟨_, .list [], dp_ints (SqL.of E4.o), .lst (SqL.of upd_same) .nil, shaped_ints _, rfl, _, rfl, iteT ?_⟩
        refine ⟨_, rfl, pd, _, rfl, DGet.k (k := .inr "own") E4.d, po, _, 0, .int n, rfl, rfl, SqL.of E4.o, atI_nat (j := 0) rfl, _, rfl, _, _, rfl, rfl, (by show (0 : Int) < m; omega), ?_⟩
        refine ⟨_, rfl, pd, _, rfl, DGet.k (k := .inr "own") E4.d, po, _, 0, .int n, rfl, rfl, SqL.of E4.o, atI_nat (j := 0) rfl, _, rfl, _, _, rfl, rfl, ⟨by omega, by omega⟩, ?_⟩
        refine ⟨_, rfl, pd, _, rfl, DGet.k (k := .inr "own") E4.d, po, _, 0, 0, rfl, rfl, E4.o, by simp [ixN], ?_⟩
        have E5 : PotE (upd (upd (upd H2 p (.lst [])) p2 (.lst [])) po (.lst (((n / m) :: r).map V.int))) pd po t s0 ((n / m) :: r) := E4.own E4.len (fun z hz => by
          rcases List.mem_cons.mp hz with e | e
          · rw [e]
            exact Int.ediv_nonneg hn (by omega)
          · exact E4.nn z (List.mem_cons_of_mem _ e))
        refine ⟨_, rfl, ?_⟩
        exact q _ _ t (Nat.le_succ _) (Int.emod_nonneg _ (by omega)) (Int.emod_lt_of_pos _ (by omega)) E5.pot (k4.trans (Kp.put (.inr rfl)))

/-! ### _law_pick -/
/-- what is drawn from: a text or a list that is not the pot's -/
def Draws (K : PySem.W.Frag) (H : Hp) (po : Addr) (x : V) (R : V → Prop) : Prop :=
  (∃ z : Str, x = .str z ∧ 1 ≤ z.length ∧ z.length ≤ 1000 ∧ ∀ c ∈ z.cps.toList, R (.str ⟨#[c]⟩)) ∨
  (∃ (l : Addr) (xs : List V), x = .ref l ∧ H l = some (.lst xs) ∧ l ≠ po ∧ 1 ≤ xs.length ∧ xs.length ≤ 1000 ∧ ∀ v ∈ xs, R v)
def spPick (K : PySem.W.Frag) : Sp := fun vs H Q _ => ∃ (pd po : Addr) (t : Nat) (x : V) (R : V → Prop), vs = [.ref pd, x] ∧ Pot H pd po t ∧ t < 2 ^ 50 ∧ Draws K H po x R ∧
  ∀ (v : V) (H' : Hp) (t' : Nat), t' ≤ t + 1 → R v → Pot H' pd po t' → Kp (PM pd po) H H' → Q v H'
theorem at_some {α : Type} {xs : List α} {d : Int} (h0 : 0 ≤ d) (h1 : d < xs.length) : ∃ v, atI xs d = some v ∧ v ∈ xs := by
  obtain ⟨j, rfl⟩ := Int.eq_ofNat_of_zero_le h0
  have hj : j < xs.length := by omega
  exact ⟨xs[j], atI_nat (List.getElem?_eq_getElem hj), List.getElem_mem hj⟩
theorem ok_pick {f fn : Addr} {fd fdn : FuncData} {k : Nat} (F : Fun K "_law_pick" "_law_pick" sPick f fd) (G : FnOk P w K mg base CX0 k fn fdn ["_law_pot_here", "_law_many"] spNext) (kn : PySem.W.keepIn K (.ref fn) = true) (bn : Binds K fdn ["_law_pot_here", "_law_many"] []) (gn : mg "_law_next" = some (.ref fn)) (ml : mg "len" = none) :
    FnOk P w K mg base CX0 (k + 1) f fd ["_law_pot_here", "_law_some"] (spPick K) := by
  refine F.ok scPick (fun vs H Q E h => ?_) (fun cdv A outer s H vs Q E hr h => ?_)
  · obtain ⟨pd, po, t, x, R, rfl, _⟩ := h
    rfl
  · obtain ⟨pd, po, t, x, R, rfl, hP, ht, hD, q⟩ := h
    refine ⟨_, pss_one (ps_ret (pe_ix ix_seq (pv 1) (pe_call G hr (by rfl) gn kn bn .nil pass0 (pa_cons (pv 0) (pa_cons (pe_callB call_len (by rfl) ml PySem.boot_len (pa_cons (pv 1) pa_nil)) pa_nil))) (fun _ _ => rfl))), ?_⟩
    rcases hD with ⟨z, rfl, h1, h2, hR⟩ | ⟨l, xs, rfl, hl, hlo, h1, h2, hR⟩
    · have zl : z.length ≤ sizeLine := Nat.le_of_lt (small1000 h2)
      have el : z.length = z.cps.toList.length := by simp [Str.length]
      refine ⟨_, rfl, _, rfl, _, rfl, _, z.length, rfl, ⟨zl, rfl⟩, pd, po, t, _, rfl, hP, ht, by omega, by omega, fun d H' t' ht' d0 d1 hP' hk => ?_⟩
      obtain ⟨c, hc, hm⟩ := at_some (xs := z.cps.toList) d0 (by omega)
      exact .inr (.inr ⟨z, d, c, rfl, rfl, zl, hc, q _ _ t' ht' (hR c hm) hP' hk⟩)
    · refine ⟨_, rfl, _, rfl, _, rfl, _, xs.length, rfl, .inl ⟨xs, SqL.of hl, rfl⟩, pd, po, t, _, rfl, hP, ht, by omega, by omega, fun d H' t' ht' d0 d1 hP' hk => ?_⟩
      obtain ⟨v, hv, hm⟩ := at_some (xs := xs) d0 d1
      have hne : ¬ PM pd po l := fun z => by
        rcases z with z | z
        · obtain ⟨s, _, _, e⟩ := hP.d
          rw [z, e] at hl
          cases hl
        · exact hlo z
      exact .inl ⟨l, xs, d, v, rfl, rfl, SqL.of (hk l _ hne hl), hv, q _ _ t' ht' (hR v hm) hP' hk⟩
/-! ### texts of single signs -/
theorem joinL_nil : ∀ ps : List (List Nat), TL.joinL [] ps = ps.flatten
  | [] => rfl
  | [p] => by simp [TL.joinL]
  | p :: q :: r => by
    show p ++ ([] ++ TL.joinL [] (q :: r)) = _
    rw [joinL_nil (q :: r)]
    rfl
theorem join_signs (cs : List Nat) : Txt.join (Str.ofString "") (cs.map fun c => (⟨#[c]⟩ : Str)) = ⟨cs.toArray⟩ := by
  refine TL.ext_tl ?_
  rw [TL.join_eq, TL.tl_join]
  have e : TL.tl (Str.ofString "") = [] := rfl
  rw [e, joinL_nil, List.map_map, TL.tl_mk]
  induction cs with
  | nil => rfl
  | cons c r ih =>
    rw [List.map_cons, List.flatten_cons, ih]
    rfl
theorem sum_ones (cs : List Nat) : ((cs.map fun c => (⟨#[c]⟩ : Str)).map (·.length)).sum = cs.length := by
  induction cs with
  | nil => rfl
  | cons c r ih =>
    rw [List.map_cons, List.map_cons, List.sum_cons, ih, List.length_cons]
    show 1 + r.length = r.length + 1
    omega
end
end RT

namespace RT
open PySem PySem.Spec PyProof.Rows L2
abbrev sIsName : Stmt := topS 1
abbrev sName : Stmt := topS 6
/-! ### 'a' <= letter <= 'z' -/
theorem elt_between {prog : Program} {w : World} {scope : Scope} {x a z : Str} {j j' : Nat} {p1 p2 p3 p4 : Pos} (hk : scope.kind = .function) (hl : scope.names.lookup x = some .local) (hd : (x == ("__debug__" : Str)) = false := by decide)
    (hm : lastMarks [.LtE, .LtE] [Expr.Name x p2, .Constant (.str z) j' p3] = false := by with_unfolding_all rfl) :
    GxR.EltP prog w scope x (.Compare (.Constant (.str a) j p1) [.LtE, .LtE] [.Name x p2, .Constant (.str z) j' p3] p4) (fun c => !decide ([c] < a.cps.toList) && !decide (z.cps.toList < [c])) := by
  intro cenv A' E' c t s₂ m₂ hs hn hm2
  refine Compare_chain ?_ hm
  refine Calls.Constant_str ?_
  refine chain_link ?_
  refine wpAny_Name (wpAny_loadName_local (by rw [hs]; exact hk) (show cenv.scope.names.lookup x = some .local by rw [hs]; exact hl) hn hm2 ?_) hd
  refine PySem.P.le_str ?_
  refine wpAny_truthy_bool ?_
  refine ite2 (fun h => ?_) (fun h => ?_)
  · have h' : (!decide ([c] < a.cps.toList)) = true := h
    refine chain_last ?_
    refine Calls.Constant_str ?_
    refine PySem.P.le_str ?_
    refine ⟨?_, GxR.keeps_tok _ _⟩
    show Value.bool _ = Value.bool (!decide ([c] < a.cps.toList) && _)
    rw [h', Bool.true_and]
  · have h' : (!decide ([c] < a.cps.toList)) = false := Bool.eq_false_iff.mpr h
    refine ⟨?_, GxR.keeps_tok _ _⟩
    show Value.bool (!decide ([c] < a.cps.toList)) = Value.bool (!decide ([c] < a.cps.toList) && _)
    rw [h', Bool.false_and]
/-! ### a def whose code is known -/
structure FunT (K : PySem.W.Frag) (x qual : Str) (st : Stmt) (f : Addr) (fd : FuncData) (c : Addr) : Prop where
  ex : ∃ (oc : Value) (od : Option Addr) (kV doc pm : Value) (an : Option Addr) (ct : Value) (osl : Array (Option Value)),
    fd = PySem.W.fnOf x qual (defArgs st) (defBody st) (defScope st) .none kV doc pm an (.ref c) ct ∧ K.lookup f = some ⟨oc, od, .func fd, osl⟩ ∧ PySem.W.codeIn K (.ref c) qual = true
  kp : PySem.W.keepIn K (.ref f) = true
theorem nofree2 {a b : Str × NameKind} (ha : a.2 ≠ .free) (hb : b.2 ≠ .free) : ∀ y ∈ [a, b], y.2 = .free → False := fun y hy e => by
  rcases List.mem_cons.mp hy with z | z
  · rw [z] at e
    exact absurd e ha
  · rw [List.mem_singleton.mp z] at e
    exact absurd e hb
theorem scIsName : FnScope ["x"] ["x"] (defScope sIsName) := ⟨rfl, rfl, rfl, by decide +kernel, rfl, by decide +kernel, by decide +kernel⟩
def az (c : Nat) : Bool := !decide ([c] < (Str.ofString "a").cps.toList) && !decide ((Str.ofString "z").cps.toList < [c])
def nameB (z : Str) : Bool := decide (1 ≤ z.length) && decide (z.length ≤ 8) && z.cps.toList.all az
section
variable {P : Program} {w : World} {K : PySem.W.Frag} {mg : Str → Option Value} {base : Heap}
def spIsName (K : PySem.W.Frag) (T : Addr) : Sp := fun vs H Q _ => ∃ x : V, vs = [x] ∧ GxR.TabG H T ∧
  ((∃ z : Str, x = .str z ∧ z.length ≤ sizeLine ∧ ∀ H', GxR.Tabbed T H H' → Q (.bl (nameB z)) H') ∨ (∃ n : String, TyX K H x (.type n) ∧ kitB n "str" = some false ∧ ∀ H', GxR.Tabbed T H H' → Q (.bl false) H'))
theorem tabbed_refl {T : Addr} {H : Hp} (h : GxR.TabG H T) : GxR.Tabbed T H H := ⟨h, fun _ _ => rfl⟩
theorem ok_isName {f c T : Addr} {fd : FuncData} {k : Nat} (F : FunT K "is_name" "is_name" sIsName f fd c) (TB : GxR.TabB base mg c T) (mi : mg "isinstance" = none) (ms : mg "str" = none) (ml : mg "len" = none) (ma : mg "all" = none) :
    FnOk P w K mg base CX0 (k + 1) f fd ["x"] (spIsName K T) := by
  obtain ⟨oc, od, kV, doc, pm, an, ct, osl, rfl, lk, hcd⟩ := F.ex
  refine fn_of lk hcd scIsName (fun vs H Q E h => ?_) (fun A outer s H vs Q E hr h => ?_)
  · obtain ⟨x, rfl, _⟩ := h
    rfl
  · obtain ⟨x, rfl, hT, h⟩ := h
    refine ⟨_, (pss_one (ps_ret (pe_and (pe_callB call_isi (by rfl) mi (by decide +kernel) (pa_cons (pv 0) (pa_cons (pe_bltn (v := .ty "str") (by rfl) ms (by decide +kernel) rfl) pa_nil)))
      (pe_and (pe_chain op_le op_le pe_int (pe_callB call_len_str (by rfl) ml PySem.boot_len (pa_cons (pv 0) pa_nil)) pe_int)
        (pe_one (GxR.pe_allS hr (by rfl) ma (by decide +kernel) TB rfl ⟨rfl, rfl, by decide +kernel, rfl, rfl, by (intro y hy e; refine (nofree2 ?_ ?_ y hy e).elim <;> (intro z; cases z))⟩ (pv 0) (elt_between rfl rfl) (fun _ => rfl)))))) : PSs (cxOf CX0 P w K mg base ["x"] "is_name" (defScope sIsName) f (.ref c) A outer s H E) (defBody sIsName) _), ?_⟩
    rcases h with ⟨z, rfl, hz, q⟩ | ⟨n, ht, hk, q⟩
    · refine ⟨_, rfl, _, .ty "str", .type "str", .type "str", true, rfl, .ty _, .base (.str z), kit_ty (by decide +kernel), true, rfl, iteT ?_⟩
      refine ⟨_, rfl, z, rfl, hz, 1, _, rfl, rfl, _, rfl, ?_⟩
      unfold nameB at q
      by_cases h1 : 1 ≤ z.length
      · have e1 : decide ((1 : Int) ≤ z.length) = true := decide_eq_true (by omega)
        rw [decide_eq_true h1, Bool.true_and] at q
        rw [e1]
        refine iteT ⟨_, _, rfl, rfl, ?_⟩
        by_cases h8 : z.length ≤ 8
        · have e2 : decide ((z.length : Int) ≤ 8) = true := decide_eq_true (by omega)
          rw [decide_eq_true h8, Bool.true_and] at q
          exact ⟨true, congrArg V.bl e2, iteT ⟨_, rfl, z, rfl, hT, q⟩⟩
        · have e2 : decide ((z.length : Int) ≤ 8) = false := decide_eq_false (by omega)
          rw [decide_eq_false h8, Bool.false_and] at q
          exact ⟨false, congrArg V.bl e2, iteF (q _ (tabbed_refl hT))⟩
      · have e1 : decide ((1 : Int) ≤ z.length) = false := decide_eq_false (by omega)
        rw [decide_eq_false h1, Bool.false_and, Bool.false_and] at q
        rw [e1]
        exact iteF ⟨false, rfl, iteF (q _ (tabbed_refl hT))⟩
    · refine ⟨_, rfl, _, .ty "str", .type n, .type "str", false, rfl, .ty _, ht, kit_ty hk, false, rfl, iteF (q _ (tabbed_refl hT))⟩
end
end RT

namespace RT
open PySem PySem.Spec PyProof.Rows L2
/-! ### texts -/
theorem lt1 (a b : Nat) : ([a] < [b]) ↔ a < b := by
  constructor
  · intro h
    cases h with
    | rel h => exact h
    | cons h => cases h
  · exact fun h => List.Lex.rel h
theorem az_eq (c : Nat) : az c = (decide (97 ≤ c) && decide (c ≤ 122)) := by
  unfold az
  have e1 : (Str.ofString "a").cps.toList = [97] := rfl
  have e2 : (Str.ofString "z").cps.toList = [122] := rfl
  rw [e1, e2]
  have h1 : ([c] < [97]) ↔ c < 97 := lt1 c 97
  have h2 : ([122] < [c]) ↔ 122 < c := lt1 122 c
  rw [decide_eq_decide.mpr h1, decide_eq_decide.mpr h2]
  by_cases a : c < 97
  · rw [decide_eq_true a, decide_eq_false (show ¬ 97 ≤ c by omega)]
    rfl
  · rw [decide_eq_false a, decide_eq_true (show 97 ≤ c by omega)]
    by_cases b : 122 < c
    · rw [decide_eq_true b, decide_eq_false (show ¬ c ≤ 122 by omega)]
      rfl
    · rw [decide_eq_false b, decide_eq_true (show c ≤ 122 by omega)]
      rfl
theorem len_tl (z : Str) : z.length = z.cps.toList.length := by simp [Str.length]
theorem bad_len {z : Str} (h : z.length = 0 ∨ 9 ≤ z.length) : nameB z = false := by
  unfold nameB
  rcases h with h | h
  · rw [decide_eq_false (show ¬ 1 ≤ z.length by omega)]
    rfl
  · rw [decide_eq_false (show ¬ z.length ≤ 8 by omega), Bool.and_false]
    rfl
theorem bad_sign {z : Str} {c : Nat} (hc : c ∈ z.cps.toList) (h : az c = false) : nameB z = false := by
  unfold nameB
  have e : z.cps.toList.all az = false := by
    rw [Bool.eq_false_iff]
    intro k
    have := List.all_eq_true.mp k c hc
    rw [h] at this
    cases this
  rw [e, Bool.and_false]
theorem good_name {cs : List Nat} (h1 : 1 ≤ cs.length) (h2 : cs.length ≤ 8) (h : ∀ c ∈ cs, 97 ≤ c ∧ c ≤ 122) : nameB ⟨cs.toArray⟩ = true := by
  unfold nameB
  have el : (⟨cs.toArray⟩ : Str).length = cs.length := by simp [Str.length]
  rw [el, decide_eq_true h1, decide_eq_true h2]
  show cs.all az = true
  rw [List.all_eq_true]
  intro c hc
  rw [az_eq, decide_eq_true (h c hc).1, decide_eq_true (h c hc).2]
  rfl
theorem fold_app (xs : List (Array Nat)) : ∀ acc : Array Nat, (xs.foldl (· ++ ·) acc).size = acc.size + (xs.map (·.size)).sum := by
  induction xs with
  | nil => intro acc; simp
  | cons x r ih =>
    intro acc
    rw [List.foldl_cons, ih, List.map_cons, List.sum_cons, Array.size_append]
    omega
theorem mul_len {x : Str} {n : Int} (h : 1 ≤ n) : (Txt.mul x n).length = x.length * n.toNat := by
  unfold Txt.mul
  rw [if_neg (by omega)]
  by_cases k : (n == 1 || x.length == 0) = true
  · rw [if_pos k]
    rcases Bool.or_eq_true_iff.mp k with k | k
    · rw [eq_of_beq k]
      simp
    · rw [eq_of_beq k]
      simp
  · rw [if_neg k]
    show Array.size _ = _
    rw [fold_app, List.map_replicate, List.sum_replicate_nat]
    show 0 + n.toNat * x.cps.size = x.cps.size * n.toNat
    rw [Nat.zero_add, Nat.mul_comm]
theorem mulOk_small {x : Str} {n : Int} (h0 : 0 ≤ n) (h1 : n ≤ 1000) (hx : x.length ≤ 1000) : MulOk x n := by
  refine ⟨?_, fun a b => ?_, fun a b => ?_⟩
  · rw [decide_eq_false (by omega), decide_eq_false (by omega)]
    rfl
  · have h : (1000 : Int) ≤ (2 ^ 63 - 1) / n := (Int.le_ediv_iff_mul_le (by omega)).mpr (by omega)
    omega
  · have h : x.length * n.toNat ≤ 1000 * 1000 := Nat.mul_le_mul hx (by omega)
    have e : (1000000 : Nat) ≤ sizeLine := by decide
    unfold Builtin.Str.tooLong
    exact decide_eq_false (by omega)
section
variable {X : Cx}
theorem op_mul_str : OpR X (binaryOp .Mult) (fun x y H Q => ∃ (z : Str) (n : Int), x = .str z ∧ y = .int n ∧ MulOk z n ∧ Q (.str (Txt.mul z n)) H) := by
  intro pins s σ H x y v u Q I rx ry h
  obtain ⟨z, n, rfl, rfl, hm, q⟩ := h
  obtain ⟨t, rfl⟩ := rx
  obtain ⟨t', rfl⟩ := ry
  exact PySem.SB.mul hm fun t' k => ⟨.str _, H, I.tok _, ⟨_, rfl⟩, q⟩
end
end RT

namespace RT
open PySem PySem.Spec PyProof.Rows L2
theorem scName : FnScope ["_law_pot_here", "_law_letters", "_law_k"] ["_law_pot_here"] (defScope sName) := ⟨rfl, rfl, rfl, by decide +kernel, rfl, by decide +kernel, by decide +kernel⟩
theorem Kp.pot {H H' : Hp} {M : Addr → Prop} {pd po : Addr} {t : Nat} (P : Pot H pd po t) (k : Kp M H H') (h : ∀ b, M b → H b = none ∨ ∃ ps, H b = some (.tbl ps)) : Pot H' pd po t := by
  obtain ⟨s, _, _, e1⟩ := P.d
  obtain ⟨ns, _, _, e2⟩ := P.o
  refine P.keep k (fun z => ?_) (fun z => ?_)
  · rcases h _ z with q | ⟨ps, q⟩
    · rw [e1] at q
      cases q
    · rw [e1] at q
      cases q
  · rcases h _ z with q | ⟨ps, q⟩
    · rw [e2] at q
      cases q
    · rw [e2] at q
      cases q
theorem Pot.new {H : Hp} {pd po p : Addr} {t : Nat} {o : HO} (P : Pot H pd po t) (n : H p = none) : Pot (upd H p o) pd po t := P.keep (M := M0) (Kp.new n) (fun z => z) (fun z => z)
/-- a place that is tracked, neither the pot's dict nor its list -/
theorem off_pot {H : Hp} {pd po p : Addr} {t : Nat} (P : Pot H pd po t) (n : H p = none) : ¬ PM pd po p := fun z => by
  obtain ⟨s, _, _, e1⟩ := P.d
  obtain ⟨ns, _, _, e2⟩ := P.o
  rcases z with z | z
  · rw [z, e1] at n
    cases n
  · rw [z, e2] at n
    cases n
theorem tYes_ok {σ : L2.St} {H : Hp} {Q : Bool → Hp → Prop} (h : Q true H) : tYes σ H Q := h
section
variable {P : Program} {w : World} {K : PySem.W.Frag} {mg : Str → Option Value} {base : Heap}
def Letter (v : V) : Prop := ∃ c : Nat, v = .str ⟨#[c]⟩ ∧ 97 ≤ c ∧ c ≤ 122
def spName : Sp := fun vs H Q _ => ∃ (pd po : Addr) (t : Nat), vs = [.ref pd] ∧ Pot H pd po t ∧ t + 20 < 2 ^ 50 ∧
  ∀ (cs : List Nat) (H' : Hp) (t' : Nat), t' ≤ t + 10 → 1 ≤ cs.length → cs.length ≤ 8 → (∀ c ∈ cs, 97 ≤ c ∧ c ≤ 122) → Pot H' pd po t' → Kp (PM pd po) H H' → Q (.str ⟨cs.toArray⟩) H'
theorem letters_of {v : V} (h : v ∈ [V.str "ab", V.str "abcdefghijklmnopqrstuvwxyz"]) : ∃ z : Str, v = .str z ∧ 1 ≤ z.length ∧ z.length ≤ 1000 ∧ ∀ c ∈ z.cps.toList, Letter (.str ⟨#[c]⟩) := by
  have a : ∀ c ∈ (Str.ofString "ab").cps.toList, 97 ≤ c ∧ c ≤ 122 := by decide
  have b : ∀ c ∈ (Str.ofString "abcdefghijklmnopqrstuvwxyz").cps.toList, 97 ≤ c ∧ c ≤ 122 := by decide
  rcases List.mem_cons.mp h with e | e
  · exact ⟨_, e, by decide, by decide, fun c hc => ⟨c, rfl, a c hc⟩⟩
  · exact ⟨_, List.mem_singleton.mp e, by decide, by decide, fun c hc => ⟨c, rfl, b c hc⟩⟩
theorem ok_name {f fn fk : Addr} {fd fdn fdk : FuncData} {k : Nat} (F : Fun K "_law_name" "_law_name" sName f fd) (GN : FnOk P w K mg base CX0 k fn fdn ["_law_pot_here", "_law_many"] spNext) (kn : PySem.W.keepIn K (.ref fn) = true) (bn : Binds K fdn ["_law_pot_here", "_law_many"] []) (gn : mg "_law_next" = some (.ref fn))
    (GK : FnOk P w K mg base CX0 (k + 1) fk fdk ["_law_pot_here", "_law_some"] (spPick K)) (kk : PySem.W.keepIn K (.ref fk) = true) (bk : Binds K fdk ["_law_pot_here", "_law_some"] []) (gk : mg "_law_pick" = some (.ref fk)) (mr : mg "range" = none) :
    FnOk P w K mg base CX0 (k + 2) f fd ["_law_pot_here"] spName := by
  refine F.ok scName (fun vs H Q E h => ?_) (fun cdv A outer s H vs Q E hr h => ?_)
  · obtain ⟨pd, po, t, rfl, _⟩ := h
    rfl
  · obtain ⟨pd, po, t, rfl, hP, ht, q⟩ := h
    have hr0 := hr.mono (show k ≤ k + 1 by omega)
    refine ⟨_, pss_cons (ps_set (i := 1) scName.nd rfl (.inr rfl) (pe_ix ix_list (pe_lst (pa_cons pe_str (pa_cons pe_str pa_nil))) (pe_call GN hr0 (by rfl) gn kn bn .nil pass0 (pa_cons (pv 0) (pa_cons pe_int pa_nil))) (fun _ _ => rfl)))
      (pss_one (ps_ret (pe_join pe_str (pe_lc (own := [("_law_k", 2)]) (g := gName 2) (tt := tYes) rfl scName.nd (pi_range1 rfl mr (pa_cons (pe_op op_add pe_int (pe_call GN hr0 (by rfl) gn kn bn .nil pass0 (pa_cons (pv 0) (pa_cons pe_int pa_nil)))) pa_nil))
        (blkOk_by (N := ["_law_pot_here", "_law_letters", "_law_k"]) (sc := defScope sName) (by decide +kernel)) (fun _ _ _ _ _ => pg_name (i := 2) scName.nd rfl (.inl rfl)) (fun _ _ _ _ _ => pts_nil)
        (fun _ _ _ _ _ => pe_call GK hr (by rfl) gk kk bk .nil pass0 (pa_cons (pv 0) (pa_cons (pv 1) pa_nil))))))), ?_⟩
    refine ⟨by show 2 ≤ sizeLine; decide, fun p np => ?_⟩
    have hP1 := hP.new (o := .lst [V.str "ab", V.str "abcdefghijklmnopqrstuvwxyz"]) np
    have hp := off_pot hP np
    refine ⟨_, rfl, pd, po, t, 2, rfl, hP1, by omega, by decide, by decide, fun d H2 t2 ht2 d0 d1 hP2 k2 => ?_⟩
    obtain ⟨v, hv, hm⟩ := at_some (xs := [V.str "ab", V.str "abcdefghijklmnopqrstuvwxyz"]) d0 d1
    refine ⟨p, _, d, v, rfl, rfl, SqL.of (k2 p _ hp upd_same), hv, ?_⟩
    obtain ⟨z, rfl, z1, z2, hz⟩ := letters_of hm
    have k2' : Kp (PM pd po) H H2 := (Kp.new np).trans k2
    refine ⟨⟨_, rfl⟩, _, rfl, pd, po, t2, 8, rfl, hP2, by omega, by decide, by decide, fun d3 H3 t3 ht3 d30 d31 hP3 k3 => ?_⟩
    have k3' : Kp (PM pd po) H H3 := k2'.trans k3
    refine ⟨_, _, rfl, rfl, 1 + d3, rfl, by omega, by omega, fun D nD => ?_⟩
    have hD := off_pot hP3 nD
    refine lc_range (lo := 0) (n := (1 + d3).toNat) (fun i H4 => ∃ (t4 : Nat) (cs : List Nat), t4 ≤ t + 2 + i ∧ cs.length = i ∧ (∀ c ∈ cs, 97 ≤ c ∧ c ≤ 122) ∧ Pot H4 pd po t4 ∧ Kp (PM pd po) H H4 ∧ H4 D = some (.lst (cs.map fun c => V.str ⟨#[c]⟩))) ?_ ?_ ?_
    · exact ⟨t3, [], by omega, rfl, fun _ z => (nomatch z), hP3.new nD, k3'.trans (Kp.new nD), upd_same⟩
    · rintro i H4 hi ⟨t4, cs, ht4, hl, hc, hP4, k4, e4⟩
      refine ⟨rfl, tYes_ok (iteT ?_)⟩
      refine ⟨_, rfl, _, rfl, pd, po, t4, _, Letter, rfl, hP4, by omega, .inl ⟨z, rfl, z1, z2, hz⟩, fun v' H5 t5 ht5 ⟨c, ev, c1, c2⟩ hP5 k5 => ?_⟩
      subst ev
      have e5 := k5 D _ hD e4
      refine ⟨_, e5, by rw [List.length_map]; exact small1000 (by omega), t5, cs ++ [c], by omega, by rw [List.length_append, hl]; rfl, ?_, ?_, ?_, ?_⟩
      · intro b hb
        rcases List.mem_append.mp hb with h | h
        · exact hc b h
        · rw [List.mem_singleton.mp h]
          exact ⟨c1, c2⟩
      · exact hP5.keep (M := fun b => b = D) (Kp.put rfl) (fun h => hD (.inl h.symm)) (fun h => hD (.inr h.symm))
      · intro b u hb e
        have nb : b ≠ D := fun h => by
          have q2 := k3' b u hb e
          rw [h, nD] at q2
          cases q2
        rw [upd_ne nb]
        exact k5 b u hb (k4 b u hb e)
      · rw [upd_same, List.map_append]
        rfl
    · rintro H4 ⟨t4, cs, ht4, hl, hc, hP4, k4, e4⟩
      refine ⟨_, D, cs.map fun c => (⟨#[c]⟩ : Str), rfl, rfl, .inl (SqL.of (by rw [e4, List.map_map]; rfl)), ?_, ?_⟩
      · rw [sum_ones]
        show cs.length + _ * 0 ≤ _
        omega
      · rw [join_signs]
        exact q cs H4 t4 (by omega) (by omega) (by omega) hc hP4 k4
end
end RT

namespace RT
open PySem PySem.Spec PyProof.Rows L2
abbrev sLaw : Stmt := topS 7
abbrev nLaw : List Str := ["_law_script", "_law_pot_here", "_law_turn", "_law_name_here", "_law_at", "_law_sign", "_law_others", "_law_again", "_law_other"]
theorem scLaw : FnScope nLaw ["_law_script"] (defScope sLaw) := ⟨rfl, rfl, rfl, by decide +kernel, rfl, by decide +kernel, by decide +kernel⟩
/-! ### what is no name -/
inductive Bad (H : Hp) : V → Prop where
  | str {z : Str} (h : z.length ≤ sizeLine) (b : nameB z = false) : Bad H (.str z)
  | non : Bad H .non
  | bl (b : Bool) : Bad H (.bl b)
  | int (i : Int) : Bad H (.int i)
  | tup {a : Addr} {xs : List V} (e : H a = some (.tup xs)) : Bad H (.ref a)
  | lst {a : Addr} {xs : List V} (e : H a = some (.lst xs)) : Bad H (.ref a)
  | dK {a : Addr} {xs : List (Key × V)} (e : H a = some (.dK xs)) : Bad H (.ref a)
theorem Bad.keep {H H' : Hp} {M : Addr → Prop} {x : V} (b : Bad H x) (k : Kp M H H') (h : ∀ a, M a → H a = none ∨ ∃ ps, H a = some (.tbl ps)) : Bad H' x := by
  have off : ∀ {a : Addr} {o : HO}, H a = some o → (∀ ps, o ≠ .tbl ps) → ¬ M a := fun {a o} e n z => by
    rcases h a z with q | ⟨ps, q⟩
    · rw [e] at q
      cases q
    · rw [e] at q
      exact n ps (Option.some.inj q)
  cases b with
  | str h b => exact .str h b
  | non => exact .non
  | bl b => exact .bl b
  | int i => exact .int i
  | tup e => exact .tup (k _ _ (off e fun _ z => by cases z) e)
  | lst e => exact .lst (k _ _ (off e fun _ z => by cases z) e)
  | dK e => exact .dK (k _ _ (off e fun _ z => by cases z) e)
theorem Bad.new {H : Hp} {x : V} {p : Addr} {o : HO} (b : Bad H x) (n : H p = none) : Bad (upd H p o) x := b.keep (M := M0) (Kp.new n) (fun _ z => z.elim)
def AllBad (H : Hp) (xs : List V) : Prop := ∀ x ∈ xs, Bad H x
theorem AllBad.nil {H : Hp} : AllBad H [] := fun _ h => nomatch h
theorem AllBad.cons {H : Hp} {x : V} {xs : List V} (b : Bad H x) (r : AllBad H xs) : AllBad H (x :: xs) := fun y hy => by
  rcases List.mem_cons.mp hy with e | e
  · rw [e]
    exact b
  · exact r y e
theorem AllBad.app {H : Hp} {xs ys : List V} (a : AllBad H xs) (b : AllBad H ys) : AllBad H (xs ++ ys) := fun y hy => by
  rcases List.mem_append.mp hy with e | e
  · exact a y e
  · exact b y e
theorem AllBad.new {H : Hp} {xs : List V} {p : Addr} {o : HO} (a : AllBad H xs) (n : H p = none) : AllBad (upd H p o) xs := fun y hy => (a y hy).new n
theorem tabG_keep {H H' : Hp} {M : Addr → Prop} {T : Addr} (t : GxR.TabG H T) (k : Kp M H H') (h : ¬ M T) : GxR.TabG H' T := by
  obtain ⟨ps, e, r⟩ := t
  exact ⟨ps, k _ _ h e, r⟩
theorem tab_off {H : Hp} {pd po T : Addr} {t : Nat} (g : GxR.TabG H T) (P : Pot H pd po t) : ¬ PM pd po T := fun z => by
  obtain ⟨s, _, _, e1⟩ := P.d
  obtain ⟨ns, _, _, e2⟩ := P.o
  obtain ⟨ps, e, _⟩ := g
  rcases z with z | z
  · rw [z, e1] at e
    cases e
  · rw [z, e2] at e
    cases e
theorem tabbed_kp {H H' : Hp} {T : Addr} (t : GxR.Tabbed T H H') : Kp (fun b => b = T) H H' := fun b o h e => by rw [t.2 b h]; exact e
section
variable {P : Program} {w : World} {K : PySem.W.Frag} {mg : Str → Option Value} {base : Heap}
structure St6 (H : Hp) (pd po : Addr) (t : Nat) (T p : Addr) (O : List V) : Prop where
  pot : Pot H pd po t
  tab : GxR.TabG H T
  bad : AllBad H O
  here : H p = some (.lst O)
theorem St6.new {H : Hp} {pd po T p q : Addr} {t : Nat} {O : List V} {o : HO} (s : St6 H pd po t T p O) (n : H q = none) : St6 (upd H q o) pd po t T p O :=
  ⟨s.pot.new n, tabG_keep s.tab (Kp.new (M := M0) n) (fun z => z), s.bad.new n, by rw [upd_ne (ne_of_none s.here n)]; exact s.here⟩
theorem St6.at_ {H : Hp} {pd po T p q : Addr} {t : Nat} {O O' : List V} (s : St6 H pd po t T p O) (e : H q = some (.lst O')) (b : AllBad H O') : St6 H pd po t T q O' := ⟨s.pot, s.tab, b, e⟩
theorem off_tab {H : Hp} {T a : Addr} {o : HO} (t : GxR.TabG H T) (e : H a = some o) (n : ∀ ps, o ≠ .tbl ps) : a ≠ T := fun z => by
  obtain ⟨ps, e2, _⟩ := t
  rw [z, e2] at e
  exact n ps (Option.some.inj e).symm
theorem tab_lst {H H' : Hp} {T a : Addr} {xs : List V} (t : GxR.TabG H T) (tb : GxR.Tabbed T H H') (e : H a = some (.lst xs)) : H' a = some (.lst xs) := by
  rw [tb.2 a (off_tab t e fun _ z => by cases z)]
  exact e
theorem St6.tabbed {H H' : Hp} {pd po T p : Addr} {t : Nat} {O : List V} (s : St6 H pd po t T p O) (tb : GxR.Tabbed T H H') : St6 H' pd po t T p O := by
  have hM : ∀ a, a = T → H a = none ∨ ∃ ps, H a = some (.tbl ps) := fun a z => by
    obtain ⟨ps, e, _⟩ := s.tab
    exact .inr ⟨ps, by rw [z]; exact e⟩
  exact ⟨Kp.pot s.pot (tabbed_kp tb) hM, tb.1, fun x hx => (s.bad x hx).keep (tabbed_kp tb) hM, tab_lst s.tab tb s.here⟩
/-- the new list at D, laid behind the others, grows -/
theorem St6.put {H H0 : Hp} {pd po T p D : Addr} {t t0 : Nat} {O O0 xs : List V} {y : V} (s : St6 H pd po t T p O) (e : H D = some (.lst xs)) (h : D ≠ p) (n : H0 D = none) (s0 : St6 H0 pd po t0 T p O0) : St6 (upd H D (.lst (xs ++ [y]))) pd po t T p O := by
  have hp := off_pot s0.pot n
  refine ⟨s.pot.keep (M := fun b => b = D) (Kp.put rfl) (fun z => hp (.inl z.symm)) (fun z => hp (.inr z.symm)), ?_, ?_, by rw [upd_ne (fun z => h z.symm)]; exact s.here⟩
  · obtain ⟨ps, e2, r⟩ := s.tab
    have : T ≠ D := fun z => (off_tab s.tab e (fun _ z => by cases z)) z.symm
    exact ⟨ps, by rw [upd_ne this]; exact e2, r⟩
  · intro x hx
    cases s.bad x hx with
    | str h b => exact .str h b
    | non => exact .non
    | bl b => exact .bl b
    | int i => exact .int i
    | @tup a zs e3 => exact .tup (by rw [upd_ne (ne_of e3 e (fun z => by cases z))]; exact e3)
    | @lst a zs e3 =>
      by_cases ha : a = D
      · rw [ha]
        exact .lst upd_same
      · exact .lst (by rw [upd_ne ha]; exact e3)
    | @dK a zs e3 => exact .dK (by rw [upd_ne (ne_of e3 e (fun z => by cases z))]; exact e3)
theorem isName_bad {T : Addr} {H : Hp} {x : V} {Q : VK} {E : XK} (b : Bad H x) (g : GxR.TabG H T) (q : ∀ H', GxR.Tabbed T H H' → Q (.bl false) H') : spIsName K T [x] H Q E := by
  refine ⟨x, rfl, g, ?_⟩
  cases b with
  | str h b => exact .inl ⟨_, rfl, h, fun H' t => by rw [b]; exact q H' t⟩
  | non => exact .inr ⟨_, .base .non, by decide +kernel, q⟩
  | bl b => exact .inr ⟨_, .base (.bl b), by decide +kernel, q⟩
  | int i => exact .inr ⟨_, .base (.int i), by decide +kernel, q⟩
  | tup e => exact .inr ⟨_, .base (.tup e), by decide +kernel, q⟩
  | lst e => exact .inr ⟨_, .base (.lst e), by decide +kernel, q⟩
  | dK e => exact .inr ⟨_, .base (.dK e), by decide +kernel, q⟩
theorem dpAll_bls {H : Hp} : ∀ bs : List Bool, DpAll K H (bs.map V.bl) (bs.map PyData.bool)
  | [] => .nil
  | b :: r => .cons (.bl b) (dpAll_bls r)
theorem shaped_bls : ∀ bs : List Bool, SeqAt.shaped (.list (bs.map PyData.bool)) = true := by
  have a : ∀ ns : List Bool, PyData.canLayAll0 (ns.map PyData.bool) = true := fun ns => by
    induction ns with
    | nil => rfl
    | cons n r ih => simp only [List.map_cons, PyData.canLayAll0, PyData.canLay0, ih, Bool.and_self]
  have b : ∀ ns : List Bool, PyData.depthAll (ns.map PyData.bool) = 0 := fun ns => by
    induction ns with
    | nil => rfl
    | cons n r ih => simp only [List.map_cons, PyData.depthAll, PyData.depth, ih, Nat.max_self]
  intro ns
  unfold SeqAt.shaped
  simp only [PyData.canLay0, a ns, PyData.depth, b ns, Bool.true_and]
  rfl
theorem eqv_bls : ∀ bs : List Bool, PyData.eqv (.list (bs.map PyData.bool)) (.list (bs.map PyData.bool)) = true := by
  have a : ∀ bs : List Bool, PyData.eqvAll (bs.map PyData.bool) (bs.map PyData.bool) = true := fun bs => by
    induction bs with
    | nil => rfl
    | cons n r ih => simp [PyData.eqvAll, PyData.eqv, ih]
  intro bs
  show PyData.eqvAll _ _ = true
  exact a bs
def spLaw (K : PySem.W.Frag) (T : Addr) : Sp := fun vs H Q _ => ∃ (a : Addr) (ns : List Int), vs = [.ref a] ∧ SqL K H a (ns.map V.int) ∧ GxR.TabG H T ∧ ∀ H', Q (.bl true) H'
structure Laws (P : Program) (w : World) (K : PySem.W.Frag) (mg : Str → Option Value) (base : Heap) (T : Addr) where
  (fp fn fk fm fi : Addr) (dp dn dk dm di : FuncData)
  GP : FnOk P w K mg base CX0 1 fp dp ["_law_script"] (spPot K)
  GN : FnOk P w K mg base CX0 1 fn dn ["_law_pot_here", "_law_many"] spNext
  GK : FnOk P w K mg base CX0 2 fk dk ["_law_pot_here", "_law_some"] (spPick K)
  GM : FnOk P w K mg base CX0 3 fm dm ["_law_pot_here"] spName
  GI : FnOk P w K mg base CX0 1 fi di ["x"] (spIsName K T)
  kp : PySem.W.keepIn K (.ref fp) = true
  kn : PySem.W.keepIn K (.ref fn) = true
  kk : PySem.W.keepIn K (.ref fk) = true
  km : PySem.W.keepIn K (.ref fm) = true
  ki : PySem.W.keepIn K (.ref fi) = true
  bp : Binds K dp ["_law_script"] []
  bn : Binds K dn ["_law_pot_here", "_law_many"] []
  bk : Binds K dk ["_law_pot_here", "_law_some"] []
  bm : Binds K dm ["_law_pot_here"] []
  bi : Binds K di ["x"] []
  gp : mg "_law_pot" = some (.ref fp)
  gn : mg "_law_next" = some (.ref fn)
  gk : mg "_law_pick" = some (.ref fk)
  gm : mg "_law_name" = some (.ref fm)
  gi : mg "is_name" = some (.ref fi)
  ml : mg "len" = none
  mr : mg "range" = none
def NoAz (v : V) : Prop := ∃ c : Nat, v = .str ⟨#[c]⟩ ∧ az c = false
theorem ok_law {f T : Addr} {fd : FuncData} (F : Fun K "law" "law" sLaw f fd) (L : Laws P w K mg base T) : FnOk P w K mg base CX0 4 f fd ["_law_script"] (spLaw K T) := by
  refine F.ok scLaw (fun vs H Q E h => ?_) (fun cdv A outer s H vs Q E hr h => ?_)
  · obtain ⟨a, ns, rfl, _⟩ := h
    rfl
  · obtain ⟨a, ns, rfl, hS, hT, q⟩ := h
    have hr1 := hr.mono (show 1 ≤ 3 by decide)
    have hr2 := hr.mono (show 2 ≤ 3 by decide)
    refine ⟨_, (pss_cons (ps_set (i := 1) scLaw.nd rfl (.inl rfl) (pe_call L.GP hr1 (by rfl) L.gp L.kp L.bp .nil pass0 (pa_cons (pv 0) pa_nil)))
      (pss_cons (ps_for PassesOwn.never rfl (pi_range1 (by rfl) L.mr (pa_cons pe_int pa_nil)) (pg_name (i := 2) scLaw.nd rfl (.inl rfl)) (pss_cons (ps_set (i := 3) scLaw.nd rfl (.inl rfl) (pe_call L.GM hr (by rfl) L.gm L.km L.bm .nil pass0 (pa_cons (pv 1) pa_nil)))
      (pss_cons (ps_set (i := 4) scLaw.nd rfl (.inl rfl) (pe_call L.GN hr1 (by rfl) L.gn L.kn L.bn .nil pass0 (pa_cons (pv 1) (pa_cons (pe_op op_add (pe_callB call_len_str (by rfl) L.ml PySem.boot_len (pa_cons (pv 3) pa_nil)) pe_int) pa_nil))))
      (pss_cons (ps_set (i := 5) scLaw.nd rfl (.inl rfl) (pe_call L.GK hr2 (by rfl) L.gk L.kk L.bk .nil pass0 (pa_cons (pv 1) (pa_cons pe_str pa_nil))))
      (pss_cons (ps_set (i := 6) scLaw.nd rfl (.inl rfl) (pe_lst (pa_cons pe_str (pa_cons (pe_op op_add_str (pv 3) (pe_op op_mul_str pe_str (pe_op op_sub pe_int (pe_callB call_len_str (by rfl) L.ml PySem.boot_len (pa_cons (pv 3) pa_nil))))) (pa_cons (pe_op op_mul_str (pv 3) pe_int) (pa_cons (pe_upper (pv 3)) pa_nil))))))
      (pss_cons (ps_set (i := 6) scLaw.nd rfl (.inl rfl) (pe_op op_cat (pv 6) (pe_lst (pa_cons (pe_op op_add_str (pe_op op_add_str (pe_slice sl_str (pv 3) po_none (po_some (pv 4))) (pv 5)) (pe_slice sl_str (pv 3) (po_some (pv 4)) po_none)) (pa_cons (pe_op op_add_str (pe_slice sl_str (pv 3) po_none (po_some (pv 4))) (pv 5)) pa_nil)))))
      (pss_cons (ps_set (i := 6) scLaw.nd rfl (.inl rfl) (pe_op op_cat (pv 6) (pe_lst (pa_cons pe_non (pa_cons pe_bl (pa_cons pe_int (pa_cons (pe_tup (pa_cons (pv 3) pa_nil)) (pa_cons (pe_lst (pa_cons (pv 3) pa_nil)) (pa_cons (pe_disp (pps_cons (pv 3) pe_int pps_nil) (by rfl) (by rfl) (fun z => by cases z) (by decide)) (pa_cons pe_dnewK (pa_cons (pe_tup pa_nil) pa_nil)))))))))))
      (pss_one (ps_for PassesOwn.never rfl (pi_range1 (by rfl) L.mr (pa_cons pe_int pa_nil)) (pg_name (i := 7) scLaw.nd rfl (.inl rfl)) (pss_one (ps_if (PW.pt (pw_or (pt_cmpR op_isnot_bl (pe_call L.GI hr1 (by rfl) L.gi L.ki L.bi .nil pass0 (pa_cons (pv 3) pa_nil)) pe_bl (nomark _)) (pw_or1 (pt_cmpR (op_neD hr.units) (pe_lc (own := [("_law_other", 8)]) (g := gName 8) (tt := tYes) rfl scLaw.nd (pi_list (pv 6)) (blkOk_by (N := ["_law_script", "_law_pot_here", "_law_turn", "_law_name_here", "_law_at", "_law_sign", "_law_others", "_law_again", "_law_other"]) (sc := defScope sLaw) (by decide +kernel)) (fun _ _ _ _ _ => (pg_name (i := 8) scLaw.nd rfl (.inl rfl))) (fun _ _ _ _ _ => pts_nil) (fun _ _ _ _ _ => (pe_call L.GI hr1 (by rfl) L.gi L.ki L.bi .nil pass0 (pa_cons (pv 8) pa_nil)))) (pe_op op_rep (pe_lst (pa_cons pe_bl pa_nil)) (pe_callB call_len_seq (by rfl) L.ml PySem.boot_len (pa_cons (pv 6) pa_nil))) (nomark _))))) (pss_one (ps_ret pe_bl)) pss_nil)))))))))))
      (pss_one (ps_ret pe_bl)))), ?_⟩
    refine ⟨_, rfl, a, ns, rfl, hS, fun pd po H1 k1 nd no hne hP1 => ?_⟩
    have hT1 := tabG_keep hT k1 (fun z => z)
    refine ⟨8, rfl, by decide, by decide, for_range (lo := 0) (n := 8) (fun i σ H2 => ∃ (t : Nat) (y2 y3 y4 y5 y6 y7 y8 : Option V), σ = [some (.ref a), some (.ref pd), y2, y3, y4, y5, y6, y7, y8] ∧ t ≤ 20 * i ∧ Pot H2 pd po t ∧ GxR.TabG H2 T) ?_ ?_ ?_⟩
    · exact ⟨0, none, none, none, none, none, none, none, rfl, by omega, hP1, hT1⟩
    · rintro i σ H2 hi ⟨t, y2, y3, y4, y5, y6, y7, y8, rfl, ht, hP2, hT2⟩
      have t50 : (2 : Nat) ^ 50 = 1125899906842624 := by decide
      refine ⟨_, rfl, pd, po, t, rfl, hP2, by omega, fun cs H3 t3 ht3 c1 c8 hcs hP3 k3 => ?_⟩
      have hT3 := tabG_keep hT2 k3 (tab_off hT2 hP2)
      have zlen : (⟨cs.toArray⟩ : Str).length = cs.length := by simp [Str.length]
      have zline : (⟨cs.toArray⟩ : Str).length ≤ sizeLine := by rw [zlen]; exact Nat.le_of_lt (small1000 (by omega))
      have zname := good_name c1 c8 hcs
      refine ⟨_, rfl, _, rfl, ⟨cs.toArray⟩, rfl, zline, _, _, rfl, rfl, pd, po, t3, _, rfl, hP3, by omega, by omega, by omega, fun at_ H4 t4 ht4 a0 a1 hP4 k4 => ?_⟩
      have hT4 := tabG_keep hT3 k4 (tab_off hT3 hP3)
      refine ⟨_, rfl, pd, po, t4, _, NoAz, rfl, hP4, by omega, .inl ⟨_, rfl, by decide, by decide, ?_⟩, fun v H5 t5 ht5 ⟨c, ev, hc⟩ hP5 k5 => ?_⟩
      · have hb : ∀ c ∈ (Str.ofString "AZ09 _-.\n~").cps.toList, az c = false := by decide
        exact fun c hc => ⟨c, rfl, hb c hc⟩
      · subst ev
        have hT5 := tabG_keep hT4 k5 (tab_off hT4 hP4)
        have el : ((⟨cs.toArray⟩ : Str).length : Int) = cs.length := by rw [zlen]
        have lz : (Str.ofString "a").length = 1 := rfl
        have len1 : (⟨#[c]⟩ : Str).length = 1 := rfl
        have lcut : ∀ lo hi : Option Int, (cutS ⟨cs.toArray⟩ lo hi).length ≤ 8 := fun lo hi => by
          have h := cutS_length ⟨cs.toArray⟩ lo hi
          rw [zlen] at h
          omega
        have lapp : ∀ x y : Str, (x ++ y).length = x.length + y.length := fun x y => by
          rw [len_tl, len_tl x, len_tl y]
          show (TL.tl (x ++ y)).length = _
          rw [TL.tl_append, List.length_append]
        have lmul : (Txt.mul (Str.ofString "a") (9 - ((⟨cs.toArray⟩ : Str).length : Int))).length = 9 - cs.length := by
          rw [mul_len (by omega), lz, Nat.one_mul, el]
          omega
        have lmul2 : (Txt.mul ⟨cs.toArray⟩ 9).length = cs.length * 9 := by
          rw [mul_len (by decide), zlen]
          rfl
        have up : Txt.upper ⟨cs.toArray⟩ = SX.S (cs.map PyProof.Rows.up1) := SX.upper_S (List.all_eq_true.mpr fun c hc => decide_eq_true (by have := hcs c hc; omega))
        have lup : (Txt.upper ⟨cs.toArray⟩).length = cs.length := by
          rw [up, len_tl]
          show (cs.map PyProof.Rows.up1).length = _
          rw [List.length_map]
        have line : ∀ n : Nat, n ≤ 1000 → n ≤ sizeLine := fun n h => Nat.le_of_lt (small1000 h)
        have b2 : nameB (⟨cs.toArray⟩ ++ Txt.mul (Str.ofString "a") (9 - ((⟨cs.toArray⟩ : Str).length : Int))) = false := bad_len (.inr (by rw [lapp, lmul, zlen]; omega))
        have b3 : nameB (Txt.mul ⟨cs.toArray⟩ 9) = false := bad_len (.inr (by rw [lmul2]; omega))
        have b4 : nameB (Txt.upper ⟨cs.toArray⟩) = false := by
          obtain ⟨x, r, rfl⟩ : ∃ x r, cs = x :: r := by
            cases cs with
            | nil => exact absurd c1 (by decide)
            | cons x r => exact ⟨x, r, rfl⟩
          have hx := hcs x (List.mem_cons_self ..)
          rw [up]
          refine bad_sign (c := PyProof.Rows.up1 x) (by show _ ∈ List.map _ _; exact List.mem_map.mpr ⟨x, List.mem_cons_self .., rfl⟩) ?_
          rw [az_eq]
          unfold PyProof.Rows.up1
          rw [if_pos hx, decide_eq_false (by omega)]
          rfl
        have inapp : ∀ (x y : Str), c ∈ (x ++ ⟨#[c]⟩ : Str).cps.toList := fun x y => by
          show c ∈ TL.tl (x ++ ⟨#[c]⟩)
          rw [TL.tl_append]
          exact List.mem_append.mpr (.inr (List.mem_singleton.mpr rfl))
        have b5 : ∀ x y : Str, nameB (x ++ ⟨#[c]⟩ ++ y) = false := fun x y => bad_sign (c := c) (by
          show c ∈ TL.tl (x ++ ⟨#[c]⟩ ++ y)
          rw [TL.tl_append]
          exact List.mem_append.mpr (.inl (inapp x y))) hc
        have b6 : ∀ x : Str, nameB (x ++ ⟨#[c]⟩) = false := fun x => bad_sign (inapp x x) hc
        -- the first four
        refine ⟨_, rfl, _, rfl, _, rfl, zline, _, _, rfl, rfl, _, _, rfl, rfl, mulOk_small (by omega) (by omega) (by decide), _, _, rfl, rfl, line _ (by rw [lmul, zlen]; omega), ?_⟩
        refine ⟨_, rfl, _, _, rfl, rfl, mulOk_small (by decide) (by decide) (by rw [zlen]; omega), _, rfl, ⟨_, rfl⟩, _, rfl, rfl, by rw [zlen]; omega, by show 4 ≤ sizeLine; decide, fun p1 n1 => ?_⟩
        have hP6 := hP5.new (o := .lst [V.str "", V.str (⟨cs.toArray⟩ ++ Txt.mul (Str.ofString "a") (9 - ((⟨cs.toArray⟩ : Str).length : Int))), V.str (Txt.mul ⟨cs.toArray⟩ 9), V.str (Txt.upper ⟨cs.toArray⟩)]) n1
        have hT6 := tabG_keep hT5 (Kp.new (M := M0) (o := .lst [V.str "", V.str (⟨cs.toArray⟩ ++ Txt.mul (Str.ofString "a") (9 - ((⟨cs.toArray⟩ : Str).length : Int))), V.str (Txt.mul ⟨cs.toArray⟩ 9), V.str (Txt.upper ⟨cs.toArray⟩)]) n1) (fun z => z)
        have B1 : AllBad (upd H5 p1 (.lst [V.str "", V.str (⟨cs.toArray⟩ ++ Txt.mul (Str.ofString "a") (9 - ((⟨cs.toArray⟩ : Str).length : Int))), V.str (Txt.mul ⟨cs.toArray⟩ 9), V.str (Txt.upper ⟨cs.toArray⟩)])) [V.str "", V.str (⟨cs.toArray⟩ ++ Txt.mul (Str.ofString "a") (9 - ((⟨cs.toArray⟩ : Str).length : Int))), V.str (Txt.mul ⟨cs.toArray⟩ 9), V.str (Txt.upper ⟨cs.toArray⟩)] :=
          .cons (.str (by decide) (bad_len (.inl rfl))) (.cons (.str (line _ (by rw [lapp, lmul, zlen]; omega)) b2) (.cons (.str (line _ (by rw [lmul2]; omega)) b3) (.cons (.str (line _ (by rw [lup]; omega)) b4) .nil)))
        have e6 : (upd H5 p1 (.lst [V.str "", V.str (⟨cs.toArray⟩ ++ Txt.mul (Str.ofString "a") (9 - ((⟨cs.toArray⟩ : Str).length : Int))), V.str (Txt.mul ⟨cs.toArray⟩ 9), V.str (Txt.upper ⟨cs.toArray⟩)])) p1 = some (.lst [V.str "", V.str (⟨cs.toArray⟩ ++ Txt.mul (Str.ofString "a") (9 - ((⟨cs.toArray⟩ : Str).length : Int))), V.str (Txt.mul ⟨cs.toArray⟩ 9), V.str (Txt.upper ⟨cs.toArray⟩)]) := upd_same
        have l4 : [V.str "", V.str (⟨cs.toArray⟩ ++ Txt.mul (Str.ofString "a") (9 - ((⟨cs.toArray⟩ : Str).length : Int))), V.str (Txt.mul ⟨cs.toArray⟩ 9), V.str (Txt.upper ⟨cs.toArray⟩)].length = 4 := rfl
        change (fun x (H : Hp) => _) (V.ref p1) (upd H5 p1 (.lst [V.str "", V.str (⟨cs.toArray⟩ ++ Txt.mul (Str.ofString "a") (9 - ((⟨cs.toArray⟩ : Str).length : Int))), V.str (Txt.mul ⟨cs.toArray⟩ 9), V.str (Txt.upper ⟨cs.toArray⟩)]))
        generalize upd H5 p1 (.lst [V.str "", V.str (⟨cs.toArray⟩ ++ Txt.mul (Str.ofString "a") (9 - ((⟨cs.toArray⟩ : Str).length : Int))), V.str (Txt.mul ⟨cs.toArray⟩ 9), V.str (Txt.upper ⟨cs.toArray⟩)]) = H6 at hP6 hT6 B1 e6 ⊢
        generalize [V.str "", V.str (⟨cs.toArray⟩ ++ Txt.mul (Str.ofString "a") (9 - ((⟨cs.toArray⟩ : Str).length : Int))), V.str (Txt.mul ⟨cs.toArray⟩ 9), V.str (Txt.upper ⟨cs.toArray⟩)] = O1 at B1 e6 l4
        -- two more
        refine ⟨_, rfl, _, rfl, _, rfl, _, rfl, _, rfl, zline, _, rfl, _, _, rfl, rfl, line _ ?_, _, rfl, _, rfl, _, rfl, _, rfl, zline, _, _, rfl, rfl, line _ ?_, _, rfl, _, rfl, _, rfl, _, rfl, zline, _, rfl, _, _, rfl, rfl, line _ ?_, by show 2 ≤ sizeLine; decide, fun p2 n2 => ?_⟩
        · have := lcut none (some at_)
          rw [len1]
          omega
        · have := lcut none (some at_)
          have := lcut (some at_) none
          rw [lapp, len1]
          omega
        · have := lcut none (some at_)
          rw [len1]
          omega
        refine ⟨p1, p2, O1, _, rfl, rfl, by rw [upd_ne (ne_of_none e6 n2)]; exact e6, upd_same, by rw [l4]; show 4 + 2 ≤ sizeLine; decide, fun p3 n3 => ?_⟩
        have S6 : St6 H6 pd po t5 T p1 O1 := ⟨hP6, hT6, B1, e6⟩
        have S7 := ((S6.new n2).new n3).at_ (O' := O1 ++ [V.str (cutS ⟨cs.toArray⟩ none (some at_) ++ ⟨#[c]⟩ ++ cutS ⟨cs.toArray⟩ (some at_) none), V.str (cutS ⟨cs.toArray⟩ none (some at_) ++ ⟨#[c]⟩)]) upd_same (((B1.new n2).new n3).app (.cons (.str (line _ (by
          have := lcut none (some at_)
          have := lcut (some at_) none
          rw [lapp, lapp, len1]
          omega)) (b5 _ _)) (.cons (.str (line _ (by
          have := lcut none (some at_)
          rw [lapp, len1]
          omega)) (b6 _)) .nil)))
        -- eight more
        refine ⟨_, rfl, _, rfl, by show 1 ≤ sizeLine; decide, fun pt nt => ?_⟩
        have S8 := S7.new (o := .tup [V.str ⟨cs.toArray⟩]) nt
        refine ⟨_, rfl, by show 1 ≤ sizeLine; decide, fun pl nl => ?_⟩
        have S9 := S8.new (o := .lst [V.str ⟨cs.toArray⟩]) nl
        intro pc nc
        have S10 := S9.new (o := .dK []) nc
        refine ⟨_, rfl, upd_same, [(.inr ⟨cs.toArray⟩, .int 1)], rfl, by show 1 ≤ 15; decide, ?_⟩
        rw [upd_upd]
        have S11 := S9.new (o := .dK (mergeK [] [(.inr ⟨cs.toArray⟩, .int 1)])) nc
        intro p5 n5
        have S12 := S11.new (o := .dK []) n5
        refine ⟨by show 0 ≤ sizeLine; decide, fun p6 n6 => ?_⟩
        have S13 := S12.new (o := .tup []) n6
        refine ⟨by show 8 ≤ sizeLine; decide, fun p7 n7 => ?_⟩
        have S14 := S13.new (o := .lst [V.non, V.bl true, V.int 7, V.ref pt, V.ref pl, V.ref pc, V.ref p5, V.ref p6]) n7
        refine ⟨p3, p7, _, _, rfl, rfl, S14.here, upd_same, by rw [List.length_append, l4]; show 4 + 2 + 8 ≤ sizeLine; decide, fun p8 n8 => ?_⟩
        have S15 := (S14.new n8).at_ (O' := O1 ++ [V.str (cutS ⟨cs.toArray⟩ none (some at_) ++ ⟨#[c]⟩ ++ cutS ⟨cs.toArray⟩ (some at_) none), V.str (cutS ⟨cs.toArray⟩ none (some at_) ++ ⟨#[c]⟩)] ++ [V.non, V.bl true, V.int 7, V.ref pt, V.ref pl, V.ref pc, V.ref p5, V.ref p6]) upd_same
          ((S14.new n8).bad.app (.cons .non (.cons (.bl _) (.cons (.int _)
            (.cons (((((((Bad.tup (H := upd _ pt (.tup _)) upd_same).new nl).new nc).new n5).new n6).new n7).new n8)
            (.cons ((((((Bad.lst (H := upd _ pl (.lst _)) upd_same).new nc).new n5).new n6).new n7).new n8)
            (.cons (((((Bad.dK (H := upd _ pc (.dK _)) upd_same).new n5).new n6).new n7).new n8)
            (.cons ((((Bad.dK (H := upd _ p5 (.dK _)) upd_same).new n6).new n7).new n8)
            (.cons (((Bad.tup (H := upd _ p6 (.tup _)) upd_same).new n7).new n8) .nil)))))))))
        have l14 : (O1 ++ [V.str (cutS ⟨cs.toArray⟩ none (some at_) ++ ⟨#[c]⟩ ++ cutS ⟨cs.toArray⟩ (some at_) none), V.str (cutS ⟨cs.toArray⟩ none (some at_) ++ ⟨#[c]⟩)] ++ [V.non, V.bl true, V.int 7, V.ref pt, V.ref pl, V.ref pc, V.ref p5, V.ref p6]).length = 14 := by
          rw [List.length_append, List.length_append, l4]
          rfl
        generalize O1 ++ [V.str (cutS ⟨cs.toArray⟩ none (some at_) ++ ⟨#[c]⟩ ++ cutS ⟨cs.toArray⟩ (some at_) none), V.str (cutS ⟨cs.toArray⟩ none (some at_) ++ ⟨#[c]⟩)] ++ [V.non, V.bl true, V.int 7, V.ref pt, V.ref pl, V.ref pc, V.ref p5, V.ref p6] = O at S15 l14
        refine ⟨2, rfl, by decide, by decide, ?_⟩
        refine for_range (lo := 0) (n := 2) (fun i2 σ H9 => ∃ (y7 y8 : Option V), σ = [some (.ref a), some (.ref pd), some (.int (0 + i)), some (.str ⟨cs.toArray⟩), some (.int at_), some (.str ⟨#[c]⟩), some (.ref p8), y7, y8] ∧ St6 H9 pd po t5 T p8 O) ?_ ?_ ?_
        · exact ⟨_, _, rfl, S15⟩
        · rintro i2 σ H9 hi2 ⟨y7, y8, rfl, S⟩
          refine ⟨_, rfl, _, rfl, S.tab, .inl ⟨_, rfl, zline, fun H10 tb => ?_⟩⟩
          rw [zname]
          have S16 := S.tabbed tb
          refine ⟨true, true, rfl, rfl, false, rfl, iteF ?_⟩
          refine ⟨_, rfl, p8, rfl, ⟨_, SqL.of S16.here⟩, fun D nD => ?_⟩
          refine lc_list (K := K) (a := p8) (xs := O) (fun i3 H11 => St6 H11 pd po t5 T p8 O ∧ H11 D = some (.lst (List.replicate i3 (.bl false)))) ?_ ?_ ?_ ?_
          · exact ⟨S16.new nD, upd_same⟩
          · rintro i3 H11 _ ⟨S17, _⟩
            exact SqL.of S17.here
          · rintro i3 x H11 hx ⟨S17, eD⟩
            have hi3 : i3 < O.length := (List.getElem?_eq_some_iff.mp hx).1
            refine ⟨rfl, tYes_ok (iteT ⟨_, rfl, ?_⟩)⟩
            refine isName_bad (Q := fun y H4 => ∃ acc, H4 D = some (.lst acc) ∧ acc.length < sizeLine ∧ St6 (upd H4 D (.lst (acc ++ [y]))) pd po t5 T p8 O ∧ upd H4 D (.lst (acc ++ [y])) D = some (.lst (List.replicate (i3 + 1) (V.bl false)))) (E := E0)
              (S17.bad x (List.mem_of_getElem? hx)) S17.tab fun H12 tb2 => ?_
            have S18 := S17.tabbed tb2
            have eD2 := tab_lst S17.tab tb2 eD
            have hD8 : D ≠ p8 := fun z => by
              rw [z, S16.here] at nD
              cases nD
            refine ⟨_, eD2, by rw [List.length_replicate]; exact small1000 (by omega), ?_, ?_⟩
            · exact S18.put eD2 hD8 nD S16
            · rw [upd_same, ← List.replicate_succ']
          · rintro H11 ⟨S17, eD⟩
            refine ⟨by show 1 ≤ sizeLine; decide, fun p9 n9 => ?_⟩
            have S18 := S17.new (o := .lst [V.bl false]) n9
            refine ⟨_, rfl, p8, O, rfl, .inl (SqL.of S18.here), p9, _, _, rfl, rfl, upd_same, by rw [l14]; decide, by rw [l14]; decide, by rw [l14]; show 1 * 14 ≤ sizeLine; decide, fun p10 n10 => ?_⟩
            have eD3 : upd (upd H11 p9 (.lst [V.bl false])) p10 (.lst (List.replicate ((O.length : Int)).toNat [V.bl false]).flatten) D = some (.lst ((List.replicate O.length false).map V.bl)) := by
              have h1 : D ≠ p9 := ne_of_none eD n9
              have h2 : D ≠ p10 := ne_of_none (by rw [upd_ne h1]; exact eD) n10
              rw [upd_ne h2, upd_ne h1, eD, List.map_replicate]
            have eR : upd (upd H11 p9 (.lst [V.bl false])) p10 (.lst (List.replicate ((O.length : Int)).toNat [V.bl false]).flatten) p10 = some (.lst ((List.replicate O.length false).map V.bl)) := by
              rw [upd_same, List.map_replicate, List.flatten_replicate_singleton, Int.toNat_natCast]
            refine ⟨_, _, .lst (SqL.of eD3) (dpAll_bls _), .lst (SqL.of eR) (dpAll_bls _), shaped_bls _, shaped_bls _, ?_⟩
            rw [eqv_bls]
            exact ⟨false, rfl, iteF ⟨_, _, rfl, S18.new n10⟩⟩
        · rintro σ H9 ⟨y7, y8, rfl, S⟩
          exact ⟨t5, _, _, _, _, _, _, _, rfl, by omega, S.pot, S.tab⟩
    · rintro σ H2 ⟨t, y2, y3, y4, y5, y6, y7, y8, rfl, ht, hP2, hT2⟩
      exact q H2
end
end RT

/-! ### the end -/
namespace RT
open PySem PySem.Spec PyProof.Rows L2
theorem tabIn_of {K : PySem.W.Frag} {x : Str} {f c P : Addr} {oc e : Value} {od dd : Option Addr} {fd : FuncData} {sl sl2 : Array (Option Value)} {vs : Array Value} (a : PySem.W.nsIn K mainGlobals x = some (some (.ref f))) (l : K.lookup f = some ⟨oc, od, .func fd, sl⟩) (h : fd.code = .ref c)
    (t : K.lookup c = some ⟨e, dd, .fields vs, sl2⟩) (p : vs[11]? = some (.ref P)) : PySem.W.tabIn K x = some (c, P) := by
  unfold PySem.W.tabIn
  rw [a]
  simp only [l, h, t, p]
/-- the end of a law row, where tables of code objects are known by their defs' names -/
theorem walk_tab {l : PySem.W.OpenLaw} {n k : Nat} {q : Program} {loose : List Str} {XP : (Str → Option Value) → Heap → Prop} {YP : World → Heap → Prop} {d : DefRec} {K : Params → PySem.W.Frag} {x : Str}
    (hn : l.most = some n) (hn2 : n ≤ sizeLine) (hdf : d.params.defaults = []) (hr : Room k callerA) (hY : ∀ (w : World) (h : Heap), YP w h → (K w.params).In h)
    (F : ∀ (w : World) (mg : Str → Option Value) (fa : Addr) (h : Heap), (K w.params).In h → h.Ns mainGlobals mg → mg d.name = some (.ref fa) →
      (∀ (y : Str) (e : DefRec) (c P : Addr), (recsOf q).find? (fun e => e.name == y) = some e → PySem.W.tabIn (K w.params) y = some (c, P) → PySem.W.CodeHd h c P ∧ h.get? P = some { cls := .none, data := .fields #[] }) →
      LamX.LawAtS l w (K w.params) CX0 k n x mg fa h) :
    PySem.W.WalkO q loose XP YP l.row.toRowW d [] (fun f vs => PySem.call f vs) := by
  refine Att.attach_callB hn hdf fun w s₀ s₁ mg mb fa o pm cd doc a vs ns G Y ho hd hcd hmg hobj hints hlen hbits hg => ?_
  have KX := hY w _ Y
  obtain ⟨fd, cs, sp, hT, nT, C, hb, hsp, hF⟩ := F w mg fa _ KX G.T.g hmg (fun y e c P h1 h2 => PySem.W.tab_of G.T KX h1 h2)
  refine LamX.law_callTs (CX := CX0) KX G.T.g G.T.b G.T.builtins G.T.nolimit hg hT nT C G.T.bmain hobj hints ?_ hr hF hb ?_ ?_
  · exact Nat.le_trans hlen hn2
  · exact fun H hH hS => hsp H a ns hlen hbits hH hS
  · exact fun H e s' z => z
theorem all_mk {l : PySem.W.OpenLaw} {q : Program} {w : World} {K : PySem.W.Frag} {h : Heap} {mg : Str → Option Value} {fa : Addr} (X : K.In h) (G : h.Ns mainGlobals mg) (hfa : mg "law" = some (.ref fa))
    (hq : ∀ (y : Str) (e : DefRec) (c P : Addr), (recsOf q).find? (fun e => e.name == y) = some e → PySem.W.tabIn K y = some (c, P) → PySem.W.CodeHd h c P ∧ h.get? P = some { cls := .none, data := .fields #[] })
    (hrec : ((recsOf q).find? (fun e => e.name == ("is_name" : Str))).isSome = true)
    {f1 : Addr} {od1 an1 : Option Addr} {sl1 : Array (Option Value)} {oc1 kV1 dc1 pm1 ct1 : Value} {cd1 : Addr} {P1 : Addr} {te1 : Value} {td1 : Option Addr} {tv1 : Array Value} {ts1 : Array (Option Value)} {f2 : Addr} {od2 an2 : Option Addr} {sl2 : Array (Option Value)} {oc2 kV2 dc2 pm2 ct2 : Value} {cd2 : Value} {f3 : Addr} {od3 an3 : Option Addr} {sl3 : Array (Option Value)} {oc3 kV3 dc3 pm3 ct3 : Value} {cd3 : Value} {f4 : Addr} {od4 an4 : Option Addr} {sl4 : Array (Option Value)} {oc4 kV4 dc4 pm4 ct4 : Value} {cd4 : Value} {f5 : Addr} {od5 an5 : Option Addr} {sl5 : Array (Option Value)} {oc5 kV5 dc5 pm5 ct5 : Value} {cd5 : Value} {f6 : Addr} {od6 an6 : Option Addr} {sl6 : Array (Option Value)} {oc6 kV6 dc6 pm6 ct6 : Value} {cd6 : Value}
    (a1 : PySem.W.nsIn K mainGlobals "is_name" = some (some (.ref f1)))
    (l1 : K.lookup f1 = some ⟨oc1, od1, .func (PySem.W.fnOf "is_name" "is_name" (defArgs sIsName) (defBody sIsName) (defScope sIsName) .none kV1 dc1 pm1 an1 (.ref cd1) ct1), sl1⟩)
    (c1 : PySem.W.codeIn K (.ref cd1) "is_name" = true)
    (k1 : PySem.W.keepIn K (.ref f1) = true)
    (t1 : K.lookup cd1 = some ⟨te1, td1, .fields tv1, ts1⟩)
    (p1 : tv1[11]? = some (.ref P1))
    (n1 : K.lookup P1 = none)
    (a2 : PySem.W.nsIn K mainGlobals "_law_pot" = some (some (.ref f2)))
    (l2 : K.lookup f2 = some ⟨oc2, od2, .func (PySem.W.fnOf "_law_pot" "_law_pot" (defArgs sPot) (defBody sPot) (defScope sPot) .none kV2 dc2 pm2 an2 cd2 ct2), sl2⟩)
    (c2 : PySem.W.codeIn K cd2 "_law_pot" = true)
    (k2 : PySem.W.keepIn K (.ref f2) = true)
    (a3 : PySem.W.nsIn K mainGlobals "_law_next" = some (some (.ref f3)))
    (l3 : K.lookup f3 = some ⟨oc3, od3, .func (PySem.W.fnOf "_law_next" "_law_next" (defArgs sNext) (defBody sNext) (defScope sNext) .none kV3 dc3 pm3 an3 cd3 ct3), sl3⟩)
    (c3 : PySem.W.codeIn K cd3 "_law_next" = true)
    (k3 : PySem.W.keepIn K (.ref f3) = true)
    (a4 : PySem.W.nsIn K mainGlobals "_law_pick" = some (some (.ref f4)))
    (l4 : K.lookup f4 = some ⟨oc4, od4, .func (PySem.W.fnOf "_law_pick" "_law_pick" (defArgs sPick) (defBody sPick) (defScope sPick) .none kV4 dc4 pm4 an4 cd4 ct4), sl4⟩)
    (c4 : PySem.W.codeIn K cd4 "_law_pick" = true)
    (k4 : PySem.W.keepIn K (.ref f4) = true)
    (a5 : PySem.W.nsIn K mainGlobals "_law_name" = some (some (.ref f5)))
    (l5 : K.lookup f5 = some ⟨oc5, od5, .func (PySem.W.fnOf "_law_name" "_law_name" (defArgs sName) (defBody sName) (defScope sName) .none kV5 dc5 pm5 an5 cd5 ct5), sl5⟩)
    (c5 : PySem.W.codeIn K cd5 "_law_name" = true)
    (k5 : PySem.W.keepIn K (.ref f5) = true)
    (a6 : PySem.W.nsIn K mainGlobals "law" = some (some (.ref f6)))
    (l6 : K.lookup f6 = some ⟨oc6, od6, .func (PySem.W.fnOf "law" "law" (defArgs sLaw) (defBody sLaw) (defScope sLaw) .none kV6 dc6 pm6 an6 cd6 ct6), sl6⟩)
    (c6 : PySem.W.codeIn K cd6 "law" = true)
    (k6 : PySem.W.keepIn K (.ref f6) = true)
    (z1 : PySem.W.nsIn K mainGlobals "isinstance" = some none)
    (z2 : PySem.W.nsIn K mainGlobals "str" = some none)
    (z3 : PySem.W.nsIn K mainGlobals "len" = some none)
    (z4 : PySem.W.nsIn K mainGlobals "all" = some none)
    (z5 : PySem.W.nsIn K mainGlobals "abs" = some none)
    (z6 : PySem.W.nsIn K mainGlobals "range" = some none) :
    LamX.LawAtS l w K CX0 4 63 "_law_script" mg fa h := by
  have e := hfa.symm.trans (PySem.W.mg_of X G a6)
  cases e
  have F1 : FunT K "is_name" "is_name" sIsName f1 _ cd1 := ⟨⟨oc1, od1, kV1, dc1, pm1, an1, ct1, sl1, rfl, l1, c1⟩, k1⟩
  have F2 := fun_mk (st := sPot) l2 c2 k2
  have F3 := fun_mk (st := sNext) l3 c3 k3
  have F4 := fun_mk (st := sPick) l4 c4 k4
  have F5 := fun_mk (st := sName) l5 c5 k5
  have F6 := fun_mk (st := sLaw) l6 c6 k6
  have b1 := (fun_mk (st := sIsName) l1 c1 k1).binds (ps := ["x"]) fun _ _ _ _ _ _ us hl => match us, hl with | [_], _ => rfl
  have b2 := F2.binds (ps := ["_law_script"]) fun _ _ _ _ _ _ us hl => match us, hl with | [_], _ => rfl
  have b3 := F3.binds (ps := ["_law_pot_here", "_law_many"]) fun _ _ _ _ _ _ us hl => match us, hl with | [_, _], _ => rfl
  have b4 := F4.binds (ps := ["_law_pot_here", "_law_some"]) fun _ _ _ _ _ _ us hl => match us, hl with | [_, _], _ => rfl
  have b5 := F5.binds (ps := ["_law_pot_here"]) fun _ _ _ _ _ _ us hl => match us, hl with | [_], _ => rfl
  obtain ⟨r, hr⟩ := Option.isSome_iff_exists.mp hrec
  have T1 := hq "is_name" r cd1 P1 hr (tabIn_of a1 l1 rfl t1 p1)
  have ml := PySem.W.mg_none_of X G z3
  have mr := PySem.W.mg_none_of X G z6
  refine ⟨PySem.W.fnOf "law" "law" (defArgs sLaw) (defBody sLaw) (defScope sLaw) .none kV6 dc6 pm6 an6 cd6 ct6, [(cd1, P1)], spLaw K P1, fun p hp => ?_, fun p hp => ?_, fun p hp => ?_, fun s v => .of_eq rfl, fun H a ns h1 h2 hH hS => ?_, fun base hK hN hTB => ?_⟩
  · rw [List.mem_singleton.mp hp]
    exact T1.2
  · rw [List.mem_singleton.mp hp]
    exact n1
  · rw [List.mem_singleton.mp hp]
    exact T1.1
  · exact ⟨a, ns, rfl, hS, ⟨#[], hH _ (List.mem_singleton.mpr rfl), trivial⟩, fun _ => rfl⟩
  · have tb := hTB _ (List.mem_singleton.mpr rfl)
    have GI := ok_isName (P := l.prog) (w := w) (base := base) (k := 0) F1 ⟨tb.code, tb.bm, tb.gP⟩ (PySem.W.mg_none_of X G z1) (PySem.W.mg_none_of X G z2) ml (PySem.W.mg_none_of X G z4)
    have GP := ok_pot (P := l.prog) (w := w) (base := base) (k := 0) F2 (PySem.W.mg_none_of X G z5)
    have GN := ok_next (P := l.prog) (w := w) (mg := mg) (base := base) (k := 0) F3
    have GK := ok_pick F4 GN k3 b3 (PySem.W.mg_of X G a3) ml
    have GM := ok_name F5 GN k3 b3 (PySem.W.mg_of X G a3) GK k4 b4 (PySem.W.mg_of X G a4) mr
    exact ok_law F6 { fp := f2, fn := f3, fk := f4, fm := f5, fi := f1, dp := _, dn := _, dk := _, dm := _, di := _, GP := GP, GN := GN, GK := GK, GM := GM, GI := GI, kp := k2, kn := k3, kk := k4, km := k5, ki := k1, bp := b2, bn := b3, bk := b4, bm := b5, bi := b1, gp := PySem.W.mg_of X G a2, gn := PySem.W.mg_of X G a3, gk := PySem.W.mg_of X G a4, gm := PySem.W.mg_of X G a5, gi := PySem.W.mg_of X G a1, ml := ml, mr := mr }
end RT
open PySem PySem.W PyProof.Rows
set_option maxRecDepth 100000 in
set_option maxHeartbeats 0 in
theorem PySem.Challenge.cw_readtell_k01_what_is_a_name_holds : PySem.Challenge.rw_readtell_k01_what_is_a_name.Holds := by
  w_on; o_law; k_head; (case hw => w_witness2)
  k_fill
  refine RT.walk_tab (l := PySem.Challenge.rw_readtell_k01_what_is_a_name) (n := 63) (k := 4) (x := "_law_script") rfl (by decide) rfl ⟨rfl, by decide, by decide⟩ (fun w h Y => PySem.W.kIn_of Y) ?F
  case F =>
    intro w mg fa h KX G hmg hq
    refine' RT.all_mk KX G hmg hq ?hrec ?a1 ?l1 ?c1 ?k1 ?t1 ?p1 ?n1 ?a2 ?l2 ?c2 ?k2 ?a3 ?l3 ?c3 ?k3 ?a4 ?l4 ?c4 ?k4 ?a5 ?l5 ?c5 ?k5 ?a6 ?l6 ?c6 ?k6 ?z1 ?z2 ?z3 ?z4 ?z5 ?z6
    (case hrec => rfl)
    (case a1 => k_is)
    (case l1 => k_is)
    (case c1 => k_is)
    (case k1 => k_is)
    (case t1 => k_is)
    (case p1 => rfl)
    (case n1 => rfl)
    (case a2 => k_is)
    (case l2 => k_is)
    (case c2 => k_is)
    (case k2 => k_is)
    (case a3 => k_is)
    (case l3 => k_is)
    (case c3 => k_is)
    (case k3 => k_is)
    (case a4 => k_is)
    (case l4 => k_is)
    (case c4 => k_is)
    (case k4 => k_is)
    (case a5 => k_is)
    (case l5 => k_is)
    (case c5 => k_is)
    (case k5 => k_is)
    (case a6 => k_is)
    (case l6 => k_is)
    (case c6 => k_is)
    (case k6 => k_is)
    (case z1 => k_is)
    (case z2 => k_is)
    (case z3 => k_is)
    (case z4 => k_is)
    (case z5 => k_is)
    (case z6 => k_is)
