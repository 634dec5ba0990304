import PyProof.Rows.All
import Wide.All
import OpenK.AllK
import Wide.FinOn
import PySem.Challenge.RW_readtell_k02_what_is_a_thing
import HandS.ForMost
import HandS.Wide
import HandS.IsInst
import HandS.TupLe
import HandS.AnyAll
import HandS.EndTab
import HandS.TupAny
set_option Elab.async false
set_option linter.all false
set_option maxRecDepth 100000
/-! the drawing words of the law, by hand -/
namespace RT
open PySem PySem.Spec PyProof.Rows L2
def topS (i : Nat) : Stmt := PySem.Challenge.pw_readtell_k02_what_is_a_thing.main.body.getD i (.Pass ⟨0, 0, 0, 0⟩)
abbrev sPot : Stmt := topS 9
abbrev sNext : Stmt := topS 10
abbrev sPick : Stmt := topS 11
/-! ### frames -/
/-- all but the places M stays -/
def Kp (M : Addr → Prop) (H H' : Hp) : Prop := ∀ b o, ¬ M b → H b = some o → H' b = some o
theorem Kp.refl {M : Addr → Prop} {H : Hp} : Kp M H H := fun _ _ _ e => e
theorem Kp.trans {M : Addr → Prop} {H H1 H2 : Hp} (a : Kp M H H1) (b : Kp M H1 H2) : Kp M H H2 := fun c o h e => b c o h (a c o h e)
theorem Kp.mono {M N : Addr → Prop} {H H1 : Hp} (a : Kp M H H1) (h : ∀ b, M b → N b) : Kp N H H1 := fun c o k e => a c o (fun z => k (h c z)) e
theorem Kp.new {M : Addr → Prop} {H : Hp} {p : Addr} {o : HO} (h : H p = none) : Kp M H (upd H p o) := fun b u _ e => by rw [upd_ne (ne_of_none e h)]; exact e
theorem Kp.put {M : Addr → Prop} {H : Hp} {p : Addr} {o : HO} (h : M p) : Kp M H (upd H p o) := fun b u k e => by rw [upd_ne (fun z => k (by rw [z]; exact h))]; exact e
abbrev M0 : Addr → Prop := fun _ => False
theorem sqL_keep {K : PySem.W.Frag} {H H' : Hp} {a : Addr} {xs : List V} (k : Kp M0 H H') (h : SqL K H a xs) : SqL K H' a xs := by
  rcases h with (h | ⟨o, h⟩) | h
  · exact .inl (.inl (k _ _ (fun z => z) h))
  · exact .inl (.inr ⟨o, k _ _ (fun z => z) h⟩)
  · exact .inr h
/-! ### the pot -/
def potD (po : Addr) (s t : Int) : HO := .dK [(.inr "own", .ref po), (.inr "seed", .int s), (.inr "turn", .int t)]
structure Pot (H : Hp) (pd po : Addr) (t : Nat) : Prop where
  d : ∃ s : Int, 0 ≤ s ∧ s < 2305843009213693951 ∧ H pd = some (potD po s t)
  o : ∃ ns : List Int, ns.length ≤ 63 ∧ (∀ n ∈ ns, 0 ≤ n) ∧ H po = some (.lst (ns.map V.int))
theorem Pot.keep {M : Addr → Prop} {H H' : Hp} {pd po : Addr} {t : Nat} (P : Pot H pd po t) (k : Kp M H H') (hd : ¬ M pd) (ho : ¬ M po) : Pot H' pd po t := by
  obtain ⟨⟨s, h0, h1, e⟩, ns, h2, h3, e2⟩ := P
  exact ⟨⟨s, h0, h1, k _ _ hd e⟩, ns, h2, h3, k _ _ ho e2⟩
/-- what the drawing words may change -/
abbrev PM (pd po : Addr) : Addr → Prop := fun b => b = pd ∨ b = po
theorem scPot : FnScope ["_law_script", "_law_seed", "_law_own", "_law_far", "_law_cell"] ["_law_script"] (defScope sPot) := ⟨rfl, rfl, rfl, by decide +kernel, rfl, by decide +kernel, by decide +kernel⟩
theorem scNext : FnScope ["_law_pot_here", "_law_many", "_law_digit", "_law_turn", "_law_mixed"] ["_law_pot_here", "_law_many"] (defScope sNext) := ⟨rfl, rfl, rfl, by decide +kernel, rfl, by decide +kernel, by decide +kernel⟩
theorem scPick : FnScope ["_law_pot_here", "_law_some"] ["_law_pot_here", "_law_some"] (defScope sPick) := ⟨rfl, rfl, rfl, by decide +kernel, rfl, by decide +kernel, by decide +kernel⟩
section
variable {P : Program} {w : World} {K : PySem.W.Frag} {mg : Str → Option Value} {base : Heap}
def spPot (K : PySem.W.Frag) : Sp := fun vs H Q _ => ∃ (a : Addr) (ns : List Int), vs = [.ref a] ∧ SqL K H a (ns.map V.int) ∧
  ∀ (pd po : Addr) (H' : Hp), Kp M0 H H' → H pd = none → H po = none → pd ≠ po → Pot H' pd po 0 → Q (.ref pd) H'
theorem cut63 (xs : List V) : cutV xs none (some 63) = xs.take 63 := by
  unfold cutV
  rw [HT.sIx_none, show HT.sIx xs.length xs.length (some 63) = min 63 xs.length from HT.sIx_nat xs.length xs.length 63]
  rw [List.drop_zero, Nat.sub_zero]
  by_cases h : xs.length ≤ 63
  · rw [Nat.min_eq_right h, List.take_length, List.take_of_length_le h]
  · rw [Nat.min_eq_left (by omega)]
theorem ok_pot {f : Addr} {fd : FuncData} {k : Nat} (F : Fun K "_law_pot" "_law_pot" sPot f fd) (mabs : mg "abs" = none) : FnOk P w K mg base CX0 (k + 1) f fd ["_law_script"] (spPot K) := by
  refine F.ok scPot (fun vs H Q E h => ?_) (fun cdv A outer s H vs Q E hr h => ?_)
  · obtain ⟨a, ns, rfl, _⟩ := h
    rfl
  · obtain ⟨a, ns, rfl, hS, q⟩ := h
    refine ⟨_, pss_cons (ps_set (i := 1) scPot.nd rfl (.inl rfl) pe_int)
      (pss_cons (ps_set (i := 2) scPot.nd rfl (.inl rfl) (pe_lst pa_nil))
      (pss_cons (ps_set (i := 3) scPot.nd rfl (.inl rfl) (pe_op op_mulW (pe_op op_mulW (pe_op op_pow pe_int pe_int) (pe_op op_pow pe_int pe_int)) (pe_op op_pow pe_int pe_int)))
      (pss_cons (ps_for PassesOwn.never rfl (pi_list (pe_slice sl_list (pv 0) po_none (po_some pe_int))) (pg_name (i := 4) scPot.nd rfl (.inl rfl))
        (pss_cons (ps_set (i := 1) scPot.nd rfl (.inl rfl) (pe_op op_mod (pe_op op_add (pe_op op_add (pe_op op_mul (pv 1) pe_int) (pe_op op_mod (pv 4) (pe_op op_pow pe_int pe_int))) pe_int) pe_int))
        (pss_one (ps_if (pt_cmpR op_ge (pe_callB call_abs (by rfl) mabs (by decide +kernel) (pa_cons (pv 4) pa_nil)) (pe_op op_pow pe_int pe_int) (nomark _))
          (pss_one (ps_expr (pe_bm PySem.F.plainAttrs_list PySem.F.slot_list_append PySem.F.type_list_append mt_append (pv 2)
            (pa_cons (pe_op op_mod (pe_callB call_abs (by rfl) mabs (by decide +kernel) (pa_cons (pv 4) pa_nil)) (pv 3)) pa_nil)))) pss_nil))))
      (pss_one (ps_ret (pe_disp (pps_cons pe_str (pv 2) (pps_cons pe_str (pv 1) (pps_cons pe_str pe_int pps_nil))) (by rfl) (by rfl) (fun z => by cases z) (by decide))))))), ?_⟩
    -- own = []
    refine ⟨Nat.zero_le _, fun o no => ?_⟩
    have k1 : Kp M0 H (upd H o (.lst [])) := Kp.new no
    -- far
    refine ⟨_, _, rfl, rfl, ⟨by decide, by decide, by decide⟩, _, _, rfl, rfl, ⟨by decide, by decide, by decide⟩, _, _, rfl, rfl, wide_mul (a := 200) (b := 200) (by decide +kernel) (by decide +kernel) (by decide) (by decide) (by decide), _, _, rfl, rfl, ⟨by decide, by decide, by decide⟩, _, _, rfl, rfl, wide_mul (a := 400) (b := 200) (by decide +kernel) (by decide +kernel) (by decide) (by decide) (by decide), ?_⟩
    -- script[:63]
    refine ⟨.ref a, rfl, 63, rfl, a, ns.map V.int, rfl, sqL_keep k1 hS, fun c nc => ?_⟩
    have nco : c ≠ o := fun e => by
      rw [e, upd_same] at nc
      cases nc
    have k2 : Kp M0 H (upd (upd H o (.lst [])) c (.lst (cutV (ns.map V.int) none (some 63)))) := k1.trans (Kp.new nc)
    rw [cut63, ← List.map_take] at k2 ⊢
    generalize hns : ns.take 63 = ms at k2 ⊢
    have hms : ms.length ≤ 63 := by rw [← hns, List.length_take]; omega
    have hc : SqL K (upd (upd H o (.lst [])) c (.lst (ms.map V.int))) c (ms.map V.int) := .inl (.inl upd_same)
    refine ⟨c, rfl, ⟨_, hc⟩, for_list (xs := ms.map V.int) (fun i σ H3 => ∃ (s : Int) (os : List Int) (y4 : Option V), σ = [some (.ref a), some (.int s), some (.ref o), some (.int (10 ^ 60 * 10 ^ 60 * 10 ^ 60)), y4] ∧ 0 ≤ s ∧ s < 2305843009213693951 ∧ os.length ≤ i ∧ (∀ n ∈ os, 0 ≤ n) ∧
      H3 o = some (.lst (os.map V.int)) ∧ H3 c = some (.lst (ms.map V.int)) ∧ Kp M0 H H3) ?_ ?_ ?_ ?_⟩
    · exact ⟨17, [], none, rfl, by decide, by decide, Nat.le_refl _, fun _ z => (nomatch z), by rw [upd_ne nco.symm, upd_same] <;> rfl, upd_same, k2⟩
    · rintro i σ H3 _ ⟨s, os, y4, rfl, _, _, _, _, _, e2, _⟩
      exact .inl (.inl e2)
    · rintro i x σ H3 hx ⟨s, os, y4, rfl, h0, h1, h2, h3, e1, e2, k3⟩
      have hi : i < ms.length := by
        have z := (List.getElem?_eq_some_iff.mp hx).1
        rw [List.length_map] at z
        exact z
      obtain ⟨n, rfl⟩ : ∃ n : Int, x = .int n := by
        rw [List.getElem?_map, List.getElem?_eq_getElem hi] at hx
        exact ⟨_, (Option.some.inj hx).symm⟩
      refine ⟨_, rfl, _, _, rfl, rfl, .inl ⟨by omega, by omega⟩, _, rfl, _, _, rfl, rfl, ⟨by decide, by decide, by decide⟩, _, _, rfl, rfl, (by show (0 : Int) < 10 ^ 40; decide +kernel), _, _, rfl, rfl, _, _, rfl, rfl, _, _, rfl, rfl, (by show (0 : Int) < 2305843009213693951; decide), ?_⟩
      refine ⟨_, rfl, _, rfl, _, _, rfl, rfl, ⟨by decide, by decide, by decide⟩, _, _, rfl, rfl, _, rfl, ite2 (fun c => ?_) (fun c => ?_)⟩
      · refine ⟨_, rfl, .inl ⟨rfl, _, .inl (.inl e1)⟩, _, rfl, _, rfl, _, rfl, _, _, rfl, rfl, (by show (0 : Int) < 10 ^ 60 * 10 ^ 60 * 10 ^ 60; decide +kernel), o, _, _, rfl, rfl, e1, ?_, ?_⟩
        · rw [List.length_map]
          exact small1000 (by omega)
        · refine ⟨_, os ++ [_], _, rfl, Int.emod_nonneg _ (by decide), Int.emod_lt_of_pos _ (by decide), by rw [List.length_append]; simp; omega, ?_, by rw [upd_same, List.map_append] <;> rfl, ?_, ?_⟩
          · intro n hn
            rcases List.mem_append.mp hn with z | z
            · exact h3 n z
            · rw [List.mem_singleton.mp z]
              exact Int.emod_nonneg _ (by decide +kernel)
          · rw [upd_ne nco]
            exact e2
          · intro b u _ e
            have nb : b ≠ o := ne_of_none e no
            rw [upd_ne nb]
            exact k3 b u (fun z => z) e
      · exact ⟨_, os, _, rfl, Int.emod_nonneg _ (by decide), Int.emod_lt_of_pos _ (by decide), by omega, h3, e1, e2, k3⟩
    · rintro σ H3 ⟨s, os, y4, rfl, h0, h1, h2, h3, e1, e2, k3⟩
      rw [List.length_map] at h2
      intro p np
      refine ⟨_, rfl, _, rfl, upd_same, [(.inr "own", .ref o), (.inr "seed", .int s), (.inr "turn", .int 0)], rfl, (by show 3 ≤ 15; decide), ?_⟩
      have hp : p ≠ o := fun z => by
        rw [z, e1] at np
        cases np
      have hpn : H p = none := by
        cases z : H p with
        | none => rfl
        | some u =>
          rw [k3 p u (fun z => z) z] at np
          cases np
      refine q p o _ ?_ hpn no hp ⟨⟨s, h0, h1, ?_⟩, os, by omega, h3, ?_⟩
      · intro b u _ e
        have nb : b ≠ p := fun z => by
          rw [z, hpn] at e
          cases e
        rw [upd_ne nb, upd_ne nb]
        exact k3 b u (fun z => z) e
      · rw [upd_same]
        rfl
      · rw [upd_ne hp.symm, upd_ne hp.symm]
        exact e1

/-! ### _law_next -/
theorem shaped_ints : ∀ ns : List Int, SeqAt.shaped (.list (ns.map PyData.int)) = true := by
  have a : ∀ ns : List Int, PyData.canLayAll0 (ns.map PyData.int) = true := fun ns => by
    induction ns with
    | nil => rfl
    | cons n r ih => simp only [List.map_cons, PyData.canLayAll0, PyData.canLay0, ih, Bool.and_self]
  have b : ∀ ns : List Int, PyData.depthAll (ns.map PyData.int) = 0 := fun ns => by
    induction ns with
    | nil => rfl
    | cons n r ih => simp only [List.map_cons, PyData.depthAll, PyData.depth, ih, Nat.max_self]
  intro ns
  unfold SeqAt.shaped
  simp only [PyData.canLay0, a ns, PyData.depth, b ns, Bool.true_and]
  rfl
theorem dpAll_ints {K : PySem.W.Frag} {H : Hp} : ∀ ns : List Int, DpAll K H (ns.map V.int) (ns.map PyData.int)
  | [] => .nil
  | n :: r => .cons (.int n) (dpAll_ints r)
theorem dp_ints {K : PySem.W.Frag} {H : Hp} {a : Addr} {ns : List Int} (h : SqL K H a (ns.map V.int)) : Dp K H (.ref a) (.list (ns.map PyData.int)) := .lst h (dpAll_ints ns)
/-- the pot told out -/
structure PotE (H : Hp) (pd po : Addr) (t : Nat) (s : Int) (ns : List Int) : Prop where
  s0 : 0 ≤ s
  s1 : s < 2305843009213693951
  d : H pd = some (potD po s t)
  len : ns.length ≤ 63
  nn : ∀ n ∈ ns, 0 ≤ n
  o : H po = some (.lst (ns.map V.int))
theorem PotE.pot {H : Hp} {pd po : Addr} {t : Nat} {s : Int} {ns : List Int} (E : PotE H pd po t s ns) : Pot H pd po t := ⟨⟨s, E.s0, E.s1, E.d⟩, ns, E.len, E.nn, E.o⟩
theorem Pot.e {H : Hp} {pd po : Addr} {t : Nat} (P : Pot H pd po t) : ∃ s ns, PotE H pd po t s ns := by
  obtain ⟨⟨s, h0, h1, e⟩, ns, h2, h3, e2⟩ := P
  exact ⟨s, ns, h0, h1, e, h2, h3, e2⟩
theorem PotE.ne {H : Hp} {pd po : Addr} {t : Nat} {s : Int} {ns : List Int} (E : PotE H pd po t s ns) : pd ≠ po := ne_of E.d E.o (fun z => by cases z)
theorem PotE.new {H : Hp} {pd po : Addr} {t : Nat} {s : Int} {ns : List Int} (E : PotE H pd po t s ns) {p : Addr} {o : HO} (n : H p = none) : PotE (upd H p o) pd po t s ns :=
  ⟨E.s0, E.s1, by rw [upd_ne (ne_of_none E.d n)]; exact E.d, E.len, E.nn, by rw [upd_ne (ne_of_none E.o n)]; exact E.o⟩
theorem PotE.own {H : Hp} {pd po : Addr} {t : Nat} {s : Int} {ns : List Int} (E : PotE H pd po t s ns) {ms : List Int} (h : ms.length ≤ 63) (h2 : ∀ n ∈ ms, 0 ≤ n) : PotE (upd H po (.lst (ms.map V.int))) pd po t s ms :=
  ⟨E.s0, E.s1, by rw [upd_ne E.ne]; exact E.d, h, h2, upd_same⟩
theorem eqv_nil_of (ns : List Int) : PyData.eqv (.list (ns.map PyData.int)) (.list []) = ns.isEmpty := by
  cases ns <;> simp [PyData.eqv, PyData.eqvAll]
theorem wide_add {i j : Int} {a : Nat} (ha : i.natAbs < 2 ^ a) (hb : j.natAbs < 2 ^ a) : (i + j).natAbs < 2 ^ (a + 1) := by
  have h := Int.natAbs_add_le i j
  rw [Nat.pow_succ]
  omega
theorem wide_up {i : Int} {a b : Nat} (ha : i.natAbs < 2 ^ a) (h : a ≤ b) : i.natAbs < 2 ^ b := Nat.lt_of_lt_of_le ha (Nat.pow_le_pow_right (by decide) h)
theorem mod_small (x : Int) : (x % 2305843009213693921).natAbs < 2 ^ 64 := by
  have := Int.emod_nonneg x (show (2305843009213693921 : Int) ≠ 0 by decide)
  have := Int.emod_lt_of_pos x (show (0 : Int) < 2305843009213693921 by decide)
  show _ < 18446744073709551616
  omega
theorem mod_small2 (x : Int) : (x % 1000003 + 69621).natAbs < 2 ^ 64 := by
  have := Int.emod_nonneg x (show (1000003 : Int) ≠ 0 by decide)
  have := Int.emod_lt_of_pos x (show (0 : Int) < 1000003 by decide)
  show _ < 18446744073709551616
  omega
def spNext : Sp := fun vs H Q _ => ∃ (pd po : Addr) (t : Nat) (m : Int), vs = [.ref pd, .int m] ∧ Pot H pd po t ∧ t < 2 ^ 50 ∧ 1 ≤ m ∧ m < 1073741824 ∧
  ∀ (d : Int) (H' : Hp) (t' : Nat), t' ≤ t + 1 → 0 ≤ d → d < m → Pot H' pd po t' → Kp (PM pd po) H H' → Q (.int d) H'
theorem ok_next {f : Addr} {fd : FuncData} {k : Nat} (F : Fun K "_law_next" "_law_next" sNext f fd) : FnOk P w K mg base CX0 (k + 1) f fd ["_law_pot_here", "_law_many"] spNext := by
  refine F.ok scNext (fun vs H Q E h => ?_) (fun cdv A outer s H vs Q E hr h => ?_)
  · obtain ⟨pd, po, t, m, rfl, _⟩ := h
    rfl
  · obtain ⟨pd, po, t, m, rfl, hP, ht, hm1, hm2, q⟩ := h
    refine ⟨_, pss_cons (ps_while PassesOwn.never (PW.pt (pw_and (pt_cmpR (op_neD hr.units) (pe_dget (hu_of hr) (pv 0) pe_str (fun _ _ => rfl)) (pe_lst pa_nil) (nomark _))
        (pw_and1 (pt_cmpR op_eq (pe_ix ix_list (pe_dget (hu_of hr) (pv 0) pe_str (fun _ _ => rfl)) pe_int (fun _ _ => rfl)) pe_int (nomark _)))))
        (pss_one (ps_expr (pe_bm PySem.F.plainAttrs_list PySem.F.slot_list_pop PySem.F.type_list_pop mt_popAt (pe_dget (hu_of hr) (pv 0) pe_str (fun _ _ => rfl)) (pa_cons pe_int pa_nil)))))
      (pss_cons (ps_if (pt_cmpR (op_neD hr.units) (pe_dget (hu_of hr) (pv 0) pe_str (fun _ _ => rfl)) (pe_lst pa_nil) (nomark _))
        (pss_cons (ps_set (i := 2) scNext.nd rfl (.inl rfl) (pe_op op_mod (pe_ix ix_list (pe_dget (hu_of hr) (pv 0) pe_str (fun _ _ => rfl)) pe_int (fun _ _ => rfl)) (pv 1)))
        (pss_cons (ps_asg (pe_op op_fdiv (pe_ix ix_list (pe_dget (hu_of hr) (pv 0) pe_str (fun _ _ => rfl)) pe_int (fun _ _ => rfl)) (pv 1)) (pg_sub (pe_dget (hu_of hr) (pv 0) pe_str (fun _ _ => rfl)) pe_int set_list))
        (pss_one (ps_ret (pv 2))))) pss_nil)
      (pss_cons (ps_dput (hu_of hr) (pv 0) pe_str (pe_op op_add (pe_dget (hu_of hr) (pv 0) pe_str (fun _ _ => rfl)) pe_int) rfl)
      (pss_cons (ps_set (i := 3) scNext.nd rfl (.inl rfl) (pe_dget (hu_of hr) (pv 0) pe_str (fun _ _ => rfl)))
      (pss_cons (ps_set (i := 4) scNext.nd rfl (.inl rfl) (pe_op op_add (pe_op op_add (pe_dget (hu_of hr) (pv 0) pe_str (fun _ _ => rfl)) (pe_op op_mulW (pe_op op_mulW (pv 3) (pv 3)) pe_int)) (pe_op op_mulW (pv 3) pe_int)))
      (pss_cons (ps_set (i := 4) scNext.nd rfl (.inl rfl) (pe_op op_mod (pe_op op_mulW (pv 4) pe_int) pe_int))
      (pss_cons (ps_set (i := 4) scNext.nd rfl (.inl rfl) (pe_op op_mod (pe_op op_mulW (pv 4) (pe_op op_add (pe_op op_mod (pv 4) pe_int) pe_int)) pe_int))
      (pss_one (ps_ret (pe_op op_mod (pe_op op_fdiv (pv 4) pe_int) (pv 1)))))))))), ?_⟩
    obtain ⟨s0, ns0, E0⟩ := hP.e
    refine ⟨fun n σ H2 => ∃ ns : List Int, σ = [some (.ref pd), some (.int m), none, none, none] ∧ n = ns.length ∧ Kp (PM pd po) H H2 ∧ PotE H2 pd po t s0 ns, ⟨_, ns0, rfl, rfl, Kp.refl, E0⟩, ?_⟩
    rintro n σ H2 ⟨ns, rfl, rfl, k2, E2⟩
    refine ⟨_, rfl, pd, _, rfl, DGet.k (k := .inr "own") E2.d, Nat.zero_le _, fun p np => ?_⟩
    have E3 := E2.new (o := .lst []) np
    have k3 : Kp (PM pd po) H (upd H2 p (.lst [])) := k2.trans (Kp.new np)
    refine ⟨_, .list [], dp_ints (SqL.of E3.o), .lst (SqL.of upd_same) .nil, shaped_ints _, rfl, _, rfl, ?_⟩
    cases ns with
    | nil =>
      refine iteF (iteF ?_)
      -- the second test
      refine ⟨_, rfl, pd, _, rfl, DGet.k (k := .inr "own") E3.d, Nat.zero_le _, fun p2 np2 => ?_⟩
      have E4 := E3.new (o := .lst []) np2
      have k4 : Kp (PM pd po) H (upd (upd H2 p (.lst [])) p2 (.lst [])) := k3.trans (Kp.new np2)
      have hp2 : upd (upd H2 p (.lst [])) p2 (.lst []) p2 = some (.lst []) := upd_same
      generalize upd (upd H2 p (.lst [])) p2 (.lst []) = H4 at E4 k4 hp2 ⊢
      refine ⟨_, .list [], dp_ints (SqL.of E4.o), .lst (SqL.of hp2) .nil, shaped_ints _, rfl, _, rfl, iteF ?_⟩
      -- turn + 1
      refine ⟨_, rfl, pd, _, rfl, DGet.k (k := .inr "turn") E4.d, _, _, rfl, rfl, _, rfl, pd, _, rfl, DPut.k (k := .inr "turn") E4.d (by show 3 < sizeLine; decide), ?_⟩
      have E5 : PotE (upd H4 pd (.dK (putK [(.inr "own", V.ref po), (.inr "seed", V.int s0), (.inr "turn", V.int t)] (.inr "turn") (.int ((t : Int) + 1))))) pd po (t + 1) s0 [] :=
        ⟨E4.s0, E4.s1, by rw [upd_same]; rfl, E4.len, E4.nn, by rw [upd_ne E4.ne.symm]; exact E4.o⟩
      have k5 : Kp (PM pd po) H (upd H4 pd (.dK (putK [(.inr "own", V.ref po), (.inr "seed", V.int s0), (.inr "turn", V.int t)] (.inr "turn") (.int ((t : Int) + 1))))) := k4.trans (Kp.put (.inl rfl))
      generalize upd H4 pd (.dK (putK [(.inr "own", V.ref po), (.inr "seed", V.int s0), (.inr "turn", V.int t)] (.inr "turn") (.int ((t : Int) + 1)))) = H5 at E5 k5 ⊢
      have hx : (((t + 1 : Nat) : Int)).natAbs < 2 ^ 64 := by
        show _ < 18446744073709551616
        have h50 : t < 1125899906842624 := ht
        omega
      have hs : s0.natAbs < 2 ^ 64 := by
        show _ < 18446744073709551616
        have := E5.s0
        have := E5.s1
        omega
      have hxx := wide_lt hx hx
      have hxx2 := wide_lt hxx (show (7919 : Int).natAbs < 2 ^ 13 by decide)
      have hx2 := wide_lt hx (show (104729 : Int).natAbs < 2 ^ 17 by decide)
      refine ⟨_, rfl, pd, _, rfl, DGet.k (k := .inr "turn") E5.d, ?_⟩
      refine ⟨_, rfl, pd, _, rfl, DGet.k (k := .inr "seed") E5.d, _, rfl, _, rfl, _, _, rfl, rfl, wide_mul hx hx (by decide) (by decide) (by decide), _, _, rfl, rfl, wide_mul hxx (show (7919 : Int).natAbs < 2 ^ 13 by decide) (by decide) (by decide) (by decide), _, _, rfl, rfl,
        _, rfl, _, _, rfl, rfl, wide_mul hx (show (104729 : Int).natAbs < 2 ^ 17 by decide) (by decide) (by decide) (by decide), _, _, rfl, rfl, ?_⟩
      have hm3 := wide_add (wide_add (wide_up hs (show 64 ≤ 141 by decide)) (wide_up hxx2 (show 64 + 64 + 13 ≤ 141 by decide))) (wide_up hx2 (show 64 + 17 ≤ 141 + 1 by decide))
      refine ⟨_, rfl, _, _, rfl, rfl, wide_mul hm3 (show (48271 : Int).natAbs < 2 ^ 16 by decide) (by decide) (by decide) (by decide), _, _, rfl, rfl, (by show (0 : Int) < 2305843009213693921; decide), ?_⟩
      refine ⟨_, rfl, _, rfl, _, _, rfl, rfl, (by show (0 : Int) < 1000003; decide), _, _, rfl, rfl, _, _, rfl, rfl, wide_mul (mod_small _) (mod_small2 _) (by decide) (by decide) (by decide), _, _, rfl, rfl, (by show (0 : Int) < 2305843009213693907; decide), ?_⟩
      refine ⟨_, rfl, _, _, rfl, rfl, ⟨by decide, by decide⟩, _, rfl, _, _, rfl, rfl, (by show (0 : Int) < m; omega), ?_⟩
      exact q _ _ (t + 1) (Nat.le_refl _) (Int.emod_nonneg _ (by omega)) (Int.emod_lt_of_pos _ (by omega)) E5.pot k5
    | cons n r =>
      refine iteT ?_
      refine ⟨_, rfl, pd, _, rfl, DGet.k (k := .inr "own") E3.d, po, _, 0, .int n, rfl, rfl, SqL.of E3.o, atI_nat (j := 0) rfl, rfl, _, rfl, ite2 (fun c => ?_) (fun c => ?_)⟩
      · -- a nought goes
        have l63 : r.length ≤ 63 := by
          have := E3.len
          rw [List.length_cons] at this
          omega
        refine ⟨fun σ' H' => σ' = [some (.ref pd), some (.int m), none, none, none] ∧ Kp (PM pd po) H H' ∧ PotE H' pd po t s0 r, fun σ' H' ⟨e, k, E⟩ => ⟨r.length, Nat.lt_succ_self _, r, e, rfl, k, E⟩, ?_⟩
        refine ⟨_, rfl, pd, _, rfl, DGet.k (k := .inr "own") E3.d, .inl ⟨rfl, _, SqL.of E3.o⟩, po, _, 0, 0, .int n, rfl, rfl, E3.o, by decide, by decide, ?_, rfl, rfl, ?_, ?_⟩
        · unfold seqIndex?
          simp
        · exact k3.trans (Kp.put (.inr rfl))
        · exact E3.own l63 fun z hz => E3.nn z (List.mem_cons_of_mem _ hz)
      · -- the digit
        refine ⟨_, rfl, pd, _, rfl, DGet.k (k := .inr "own") E3.d, Nat.zero_le _, fun p2 np2 => ?_⟩
        have E4 := E3.new (o := .lst []) np2
        have k4 : Kp (PM pd po) H (upd (upd H2 p (.lst [])) p2 (.lst [])) := k3.trans (Kp.new np2)
        have hn : 0 ≤ n := E4.nn n (List.mem_cons_self ..)
        refine ⟨_, .list [], dp_ints (SqL.of E4.o), .lst (SqL.of upd_same) .nil, shaped_ints _, rfl, _, rfl, iteT ?_⟩
        refine ⟨_, rfl, pd, _, rfl, DGet.k (k := .inr "own") E4.d, po, _, 0, .int n, rfl, rfl, SqL.of E4.o, atI_nat (j := 0) rfl, _, rfl, _, _, rfl, rfl, (by show (0 : Int) < m; omega), ?_⟩
        refine ⟨_, rfl, pd, _, rfl, DGet.k (k := .inr "own") E4.d, po, _, 0, .int n, rfl, rfl, SqL.of E4.o, atI_nat (j := 0) rfl, _, rfl, _, _, rfl, rfl, ⟨by omega, by omega⟩, ?_⟩
        refine ⟨_, rfl, pd, _, rfl, DGet.k (k := .inr "own") E4.d, po, _, 0, 0, rfl, rfl, E4.o, by simp [ixN], ?_⟩
        have E5 : PotE (upd (upd (upd H2 p (.lst [])) p2 (.lst [])) po (.lst (((n / m) :: r).map V.int))) pd po t s0 ((n / m) :: r) := E4.own E4.len (fun z hz => by
          rcases List.mem_cons.mp hz with e | e
          · rw [e]
            exact Int.ediv_nonneg hn (by omega)
          · exact E4.nn z (List.mem_cons_of_mem _ e))
        refine ⟨_, rfl, ?_⟩
        exact q _ _ t (Nat.le_succ _) (Int.emod_nonneg _ (by omega)) (Int.emod_lt_of_pos _ (by omega)) E5.pot (k4.trans (Kp.put (.inr rfl)))

/-! ### _law_pick -/
/-- what is drawn from: a text or a list that is not the pot's -/
def Draws (K : PySem.W.Frag) (H : Hp) (po : Addr) (x : V) (R : V → Prop) : Prop :=
  (∃ z : Str, x = .str z ∧ 1 ≤ z.length ∧ z.length ≤ 1000 ∧ ∀ c ∈ z.cps.toList, R (.str ⟨#[c]⟩)) ∨
  (∃ (l : Addr) (xs : List V), x = .ref l ∧ H l = some (.lst xs) ∧ l ≠ po ∧ 1 ≤ xs.length ∧ xs.length ≤ 1000 ∧ ∀ v ∈ xs, R v)
def spPick (K : PySem.W.Frag) : Sp := fun vs H Q _ => ∃ (pd po : Addr) (t : Nat) (x : V) (R : V → Prop), vs = [.ref pd, x] ∧ Pot H pd po t ∧ t < 2 ^ 50 ∧ Draws K H po x R ∧
  ∀ (v : V) (H' : Hp) (t' : Nat), t' ≤ t + 1 → R v → Pot H' pd po t' → Kp (PM pd po) H H' → Q v H'
theorem at_some {α : Type} {xs : List α} {d : Int} (h0 : 0 ≤ d) (h1 : d < xs.length) : ∃ v, atI xs d = some v ∧ v ∈ xs := by
  obtain ⟨j, rfl⟩ := Int.eq_ofNat_of_zero_le h0
  have hj : j < xs.length := by omega
  exact ⟨xs[j], atI_nat (List.getElem?_eq_getElem hj), List.getElem_mem hj⟩
theorem ok_pick {f fn : Addr} {fd fdn : FuncData} {k : Nat} (F : Fun K "_law_pick" "_law_pick" sPick f fd) (G : FnOk P w K mg base CX0 k fn fdn ["_law_pot_here", "_law_many"] spNext) (kn : PySem.W.keepIn K (.ref fn) = true) (bn : Binds K fdn ["_law_pot_here", "_law_many"] []) (gn : mg "_law_next" = some (.ref fn)) (ml : mg "len" = none) :
    FnOk P w K mg base CX0 (k + 1) f fd ["_law_pot_here", "_law_some"] (spPick K) := by
  refine F.ok scPick (fun vs H Q E h => ?_) (fun cdv A outer s H vs Q E hr h => ?_)
  · obtain ⟨pd, po, t, x, R, rfl, _⟩ := h
    rfl
  · obtain ⟨pd, po, t, x, R, rfl, hP, ht, hD, q⟩ := h
    refine ⟨_, pss_one (ps_ret (pe_ix ix_seq (pv 1) (pe_call G hr (by rfl) gn kn bn .nil pass0 (pa_cons (pv 0) (pa_cons (pe_callB call_len (by rfl) ml PySem.boot_len (pa_cons (pv 1) pa_nil)) pa_nil))) (fun _ _ => rfl))), ?_⟩
    rcases hD with ⟨z, rfl, h1, h2, hR⟩ | ⟨l, xs, rfl, hl, hlo, h1, h2, hR⟩
    · have zl : z.length ≤ sizeLine := Nat.le_of_lt (small1000 h2)
      have el : z.length = z.cps.toList.length := by simp [Str.length]
      refine ⟨_, rfl, _, rfl, _, rfl, _, z.length, rfl, ⟨zl, rfl⟩, pd, po, t, _, rfl, hP, ht, by omega, by omega, fun d H' t' ht' d0 d1 hP' hk => ?_⟩
      obtain ⟨c, hc, hm⟩ := at_some (xs := z.cps.toList) d0 (by omega)
      exact .inr (.inr ⟨z, d, c, rfl, rfl, zl, hc, q _ _ t' ht' (hR c hm) hP' hk⟩)
    · refine ⟨_, rfl, _, rfl, _, rfl, _, xs.length, rfl, .inl ⟨xs, SqL.of hl, rfl⟩, pd, po, t, _, rfl, hP, ht, by omega, by omega, fun d H' t' ht' d0 d1 hP' hk => ?_⟩
      obtain ⟨v, hv, hm⟩ := at_some (xs := xs) d0 d1
      have hne : ¬ PM pd po l := fun z => by
        rcases z with z | z
        · obtain ⟨s, _, _, e⟩ := hP.d
          rw [z, e] at hl
          cases hl
        · exact hlo z
      exact .inl ⟨l, xs, d, v, rfl, rfl, SqL.of (hk l _ hne hl), hv, q _ _ t' ht' (hR v hm) hP' hk⟩
/-! ### texts of single signs -/
theorem joinL_nil : ∀ ps : List (List Nat), TL.joinL [] ps = ps.flatten
  | [] => rfl
  | [p] => by simp [TL.joinL]
  | p :: q :: r => by
    show p ++ ([] ++ TL.joinL [] (q :: r)) = _
    rw [joinL_nil (q :: r)]
    rfl
theorem join_signs (cs : List Nat) : Txt.join (Str.ofString "") (cs.map fun c => (⟨#[c]⟩ : Str)) = ⟨cs.toArray⟩ := by
  refine TL.ext_tl ?_
  rw [TL.join_eq, TL.tl_join]
  have e : TL.tl (Str.ofString "") = [] := rfl
  rw [e, joinL_nil, List.map_map, TL.tl_mk]
  induction cs with
  | nil => rfl
  | cons c r ih =>
    rw [List.map_cons, List.flatten_cons, ih]
    rfl
theorem sum_ones (cs : List Nat) : ((cs.map fun c => (⟨#[c]⟩ : Str)).map (·.length)).sum = cs.length := by
  induction cs with
  | nil => rfl
  | cons c r ih =>
    rw [List.map_cons, List.map_cons, List.sum_cons, ih, List.length_cons]
    show 1 + r.length = r.length + 1
    omega
end
end RT

namespace RT
open PySem PySem.Spec PyProof.Rows L2
/-! ### a def whose code is known -/
structure FunT (K : PySem.W.Frag) (x qual : Str) (st : Stmt) (f : Addr) (fd : FuncData) (c : Addr) : Prop where
  ex : ∃ (oc : Value) (od : Option Addr) (kV doc pm : Value) (an : Option Addr) (ct : Value) (osl : Array (Option Value)),
    fd = PySem.W.fnOf x qual (defArgs st) (defBody st) (defScope st) .none kV doc pm an (.ref c) ct ∧ K.lookup f = some ⟨oc, od, .func fd, osl⟩ ∧ PySem.W.codeIn K (.ref c) qual = true
  kp : PySem.W.keepIn K (.ref f) = true
theorem nofree2 {a b : Str × NameKind} (ha : a.2 ≠ .free) (hb : b.2 ≠ .free) : ∀ y ∈ [a, b], y.2 = .free → False := fun y hy e => by
  rcases List.mem_cons.mp hy with z | z
  · rw [z] at e
    exact absurd e ha
  · rw [List.mem_singleton.mp z] at e
    exact absurd e hb
theorem nofree3 {a b c : Str × NameKind} (ha : a.2 ≠ .free) (hb : b.2 ≠ .free) (hc : c.2 ≠ .free) : ∀ y ∈ [a, b, c], y.2 = .free → False := fun y hy e => by
  rcases List.mem_cons.mp hy with z | z
  · rw [z] at e
    exact absurd e ha
  · exact nofree2 hb hc y z e
theorem lt1 (a b : Nat) : ([a] < [b]) ↔ a < b := by
  constructor
  · intro h
    cases h with
    | rel h => exact h
    | cons h => cases h
  · exact fun h => List.Lex.rel h
theorem len_tl (z : Str) : z.length = z.cps.toList.length := by simp [Str.length]
theorem Kp.pot {H H' : Hp} {M : Addr → Prop} {pd po : Addr} {t : Nat} (P : Pot H pd po t) (k : Kp M H H') (h : ∀ b, M b → H b = none ∨ ∃ ps, H b = some (.tbl ps)) : Pot H' pd po t := by
  obtain ⟨s, _, _, e1⟩ := P.d
  obtain ⟨ns, _, _, e2⟩ := P.o
  refine P.keep k (fun z => ?_) (fun z => ?_)
  · rcases h _ z with q | ⟨ps, q⟩
    · rw [e1] at q
      cases q
    · rw [e1] at q
      cases q
  · rcases h _ z with q | ⟨ps, q⟩
    · rw [e2] at q
      cases q
    · rw [e2] at q
      cases q
theorem Pot.new {H : Hp} {pd po p : Addr} {t : Nat} {o : HO} (P : Pot H pd po t) (n : H p = none) : Pot (upd H p o) pd po t := P.keep (M := M0) (Kp.new n) (fun z => z) (fun z => z)
/-- a place that is tracked, neither the pot's dict nor its list -/
theorem off_pot {H : Hp} {pd po p : Addr} {t : Nat} (P : Pot H pd po t) (n : H p = none) : ¬ PM pd po p := fun z => by
  obtain ⟨s, _, _, e1⟩ := P.d
  obtain ⟨ns, _, _, e2⟩ := P.o
  rcases z with z | z
  · rw [z, e1] at n
    cases n
  · rw [z, e2] at n
    cases n
theorem tYes_ok {σ : L2.St} {H : Hp} {Q : Bool → Hp → Prop} (h : Q true H) : tYes σ H Q := h
theorem tabG_keep {H H' : Hp} {M : Addr → Prop} {T : Addr} (t : GxR.TabG H T) (k : Kp M H H') (h : ¬ M T) : GxR.TabG H' T := by
  obtain ⟨ps, e, r⟩ := t
  exact ⟨ps, k _ _ h e, r⟩
theorem tab_off {H : Hp} {pd po T : Addr} {t : Nat} (g : GxR.TabG H T) (P : Pot H pd po t) : ¬ PM pd po T := fun z => by
  obtain ⟨s, _, _, e1⟩ := P.d
  obtain ⟨ns, _, _, e2⟩ := P.o
  obtain ⟨ps, e, _⟩ := g
  rcases z with z | z
  · rw [z, e1] at e
    cases e
  · rw [z, e2] at e
    cases e
theorem tabbed_kp {H H' : Hp} {T : Addr} (t : GxR.Tabbed T H H') : Kp (fun b => b = T) H H' := fun b o h e => by rw [t.2 b h]; exact e
theorem off_tab {H : Hp} {T a : Addr} {o : HO} (t : GxR.TabG H T) (e : H a = some o) (n : ∀ ps, o ≠ .tbl ps) : a ≠ T := fun z => by
  obtain ⟨ps, e2, _⟩ := t
  rw [z, e2] at e
  exact n ps (Option.some.inj e).symm
theorem tab_lst {H H' : Hp} {T a : Addr} {xs : List V} (t : GxR.TabG H T) (tb : GxR.Tabbed T H H') (e : H a = some (.lst xs)) : H' a = some (.lst xs) := by
  rw [tb.2 a (off_tab t e fun _ z => by cases z)]
  exact e
theorem tabbed_refl {T : Addr} {H : Hp} (h : GxR.TabG H T) : GxR.Tabbed T H H := ⟨h, fun _ _ => rfl⟩
end RT

namespace RT
open PySem PySem.Spec PyProof.Rows L2
abbrev sSign : Stmt := topS 2
def signB (c : Nat) : Bool := if c = 10 then true else (!decide ([c] < (Str.ofString " ").cps.toList) && !decide ((Str.ofString "~").cps.toList < [c])) && !decide ((c : Int) = 37)
/-- what stands at the law's entry, seen from a heap that has grown out of it -/
structure Ground0 (K : PySem.W.Frag) (mg : Str → Option Value) (h : Heap) : Prop where
  kin : K.In h
  glob : h.Ns mainGlobals mg
  blt : ∃ mb, h.Ns builtinsNs mb ∧ ∀ x : Str, x ≠ "__name__" → mb x = bootBuiltins x
  lim : h.NoLimit
theorem Ground0.keeps {K : PySem.W.Frag} {mg : Str → Option Value} {h h' : Heap} (g : Ground0 K mg h) (k : ∀ b o, h.get? b = some o → h'.get? b = some o) : Ground0 K mg h' := by
  obtain ⟨mb, h1, h2⟩ := g.blt
  exact ⟨g.kin.keeps k, g.glob.keeps k, ⟨mb, h1.keeps k, h2⟩, g.lim.keeps k⟩
section
variable {prog : Program} {w : World} {K : PySem.W.Frag} {mg : Str → Option Value}
/-- is_sign(letter) of one letter, from any surroundings -/
theorem sign_run {f : Addr} {fd : FuncData} {A : Around} {R : Result → Shared → Prop} {s : Shared} {c : Nat} {t tp : Tok} (F : Fun K "is_sign" "is_sign" sSign f fd) (b : Binds K fd ["letter"] []) (G : Ground0 K mg s.heap) (hd : A.depth + 1 < recursionLimit)
    (mp : mg "_PERCENT" = some (.int 37 tp)) (mo : mg "ord" = none) (h : ∀ s', Keeps s s' → R (.ok (.ret (.bool (signB c)))) s') :
    codeAny (model prog w) A (.call (.ref f) ⟨[.str ⟨#[c]⟩ t], []⟩) R s := by
  obtain ⟨oc, od, kV, doc, pm, an, cdv, ct, osl, rfl, lk, hcd⟩ := F.ex
  refine Att.call_fn G.kin G.lim lk hcd (by omega) (b s [.str ⟨#[c]⟩ t] G.kin rfl) (by rfl) (fun s₁ x => ?_) rfl rfl rfl
  have hm : (bindL (envOfC "is_sign" (defScope sSign) s.heap.objs.size f cdv).kindOf ([("letter" : Str)].zip ([Value.str ⟨#[c]⟩ t] ++ [])) fun _ => none) "letter" = some (.str ⟨#[c]⟩ t) := bindL_get (P := ["letter"]) (vs := [Value.str ⟨#[c]⟩ t] ++ []) (i := 0) (by decide) rfl rfl rfl
  have ns := x.toInCall.ns
  have G1 := G.keeps x.toInCall.keep
  obtain ⟨mb, hmb, hbb⟩ := G1.blt
  obtain ⟨h', tk, e1, kp⟩ := x.done
  have fin : ∀ k : Nat, Keeps s { s₁ with toks := k } := fun k => ⟨h', k, by rw [e1], kp⟩
  have hz : ∀ b : Bool, b = signB c → ∀ k : Nat, R (.ok (.ret (.bool b))) { s₁ with toks := k } := fun b e k => by rw [e]; exact h _ (fin k)
  refine wpAny_execs_cons (wpAny_If (wpAny_isTrue_Compare1 ?_ rfl))
  refine wpAny_Name (wpAny_loadName_local rfl rfl ns hm ?_) (by decide)
  refine Calls.Constant_str ?_
  refine PySem.P.eq_str ?_
  refine wpAny_truthy_bool ?_
  refine ite2 (fun hb => ?_) (fun hb => ?_)
  · have h10 : c = 10 := by
      have e : [c] = (Str.ofString "\n").cps.toList := eq_of_beq hb
      exact List.head_eq_of_cons_eq e
    refine wpAny_execs_cons (wpAny_Return_some (PyProof.Rows.Constant_bool ?_))
    exact hz true (by unfold signB; rw [if_pos h10]) _
  · have h10 : c ≠ 10 := fun e => hb (by rw [e]; rfl)
    have es : signB c = ((!decide ([c] < (Str.ofString " ").cps.toList) && !decide ((Str.ofString "~").cps.toList < [c])) && !decide ((c : Int) = 37)) := by
      unfold signB
      rw [if_neg h10]
    rw [es] at hz
    refine wpAny_execs_nil ?_
    refine wpAny_execs_cons (wpAny_Return_some (BoolOp_and (Compare_chain ?_ rfl)))
    refine Calls.Constant_str ?_
    refine chain_link ?_
    refine wpAny_Name (wpAny_loadName_local rfl rfl ns hm ?_) (by decide)
    refine PySem.P.le_str ?_
    refine wpAny_truthy_bool ?_
    refine ite2 (fun h1 => ?_) (fun h1 => ?_)
    · have h1' : (!decide ([c] < (Str.ofString " ").cps.toList)) = true := h1
      rw [h1', Bool.true_and] at hz
      refine chain_last ?_
      refine Calls.Constant_str ?_
      refine PySem.P.le_str ?_
      refine wpAny_truthy_bool ?_
      refine ite2 (fun h2 => ?_) (fun h2 => ?_)
      · have h2' : (!decide ((Str.ofString "~").cps.toList < [c])) = true := h2
        rw [h2', Bool.true_and] at hz
        refine BoolOp_one (wpAny_Compare1 ?_ rfl)
        refine wpAny_Call_Name_kw (Calls.Name_function_global rfl rfl (Calls.loadGlobal_builtin G1.glob mo hmb ((hbb _ (by decide)).trans (show bootBuiltins "ord" = some (.builtin "ord") by decide +kernel)) ?_))
        refine callWith_builtin1 ?_ rfl rfl
        refine Calls.spliced_cons ?_
        refine wpAny_Name (wpAny_loadName_local rfl rfl ns hm ?_) (by decide)
        refine Calls.spliced_nil ?_
        refine ord_of_one rfl ?_
        refine Calls.Name_function_global rfl rfl (Calls.loadGlobal_global G1.glob mp ?_)
        refine ne_int ?_
        exact hz _ rfl _
      · have h2' : (!decide ((Str.ofString "~").cps.toList < [c])) = false := Bool.eq_false_iff.mpr h2
        rw [h2', Bool.false_and] at hz
        exact hz _ (Bool.eq_false_iff.mpr h2) _
    · have h1' : (!decide ([c] < (Str.ofString " ").cps.toList)) = false := Bool.eq_false_iff.mpr h1
      rw [h1', Bool.false_and, Bool.false_and] at hz
      exact wpAny_truthy_bool (ite2 (fun z => absurd z h1) (fun _ => hz _ (Bool.eq_false_iff.mpr h1) _))
end
end RT

set_option maxHeartbeats 2000000
namespace RT
open PySem PySem.Spec PyProof.Rows L2
/-- a generator expression's element over the signs of a text: it may call defs that change nothing -/
def EltC (X : Cx) (scope : Scope) (x : Str) (elt : Expr) (pb : Nat → Bool) : Prop :=
  ∀ (cl : List (Str × Addr)) (L : Addr) (code : Value) (B : Around) (E : Value → Shared → Prop) (c : Nat) (t : Tok) (s2 : Shared) (m : Str → Option Value),
    B.handled = none → B.depth ≤ X.A.depth + 1 → s2.heap.Ns L m → m x = some (.str ⟨#[c]⟩ t) → Ground0 X.K X.mg s2.heap →
    wpAny (model X.prog X.w) B (eval elt (genEnv scope cl L code builtinsNs X.env)) (fun y s3 => y = .bool (pb c) ∧ Keeps s2 s3) E s2
section
variable {X : Cx} {pins : List (Addr × Obj)} {σ : L2.St} {H : Hp} {s : Shared}
theorem ground_of (I : Inv X pins σ H s) : Ground0 X.K X.mg X.base := ⟨I.mod.kin, I.mod.glob, I.mod.blt, I.mod.nolimit⟩
theorem gen_textC {c T : Addr} {elt iter : Expr} {x : Str} {px gpos : Pos} {scope : Scope} {pb : Nat → Bool} {te : TE} {k : Nat} {W : Value → Shared → Prop} {R : Str → Hp → Prop}
    (hr : Room k X.A) (TB : GxR.TabB X.base X.mg c T) (hcode : X.env.code = .ref c) (S : GxR.GenS X.env scope x) (hi : PE X iter te) (hel : EltC X scope x elt pb)
    (hs : ∀ v, genFold iter X.env v = pure v) (I : Inv X pins σ H s) (h : te σ H fun v H1 => ∃ a : Str, v = .str a ∧ GxR.TabG H1 T ∧ R a H1)
    (hW : ∀ a H1 g s5, R a H1 → GxR.Ready X pins σ H1 T a pb g s5 → W (.ref g) s5) :
    wpAny (model X.prog X.w) X.A (eval (.GeneratorExp elt [⟨.Name x px, iter, [], 0⟩] scope gpos) X.env) W X.xe s := by
  have dep : X.A.depth < recursionLimit := hr.depth
  refine wpAny_GeneratorExp_walksQD hr.hd S.co (closure_ok S.free) S.cell S.dot S.loc S.kind dep
    (thn (hi.run pins s σ H _ I h) ?_) hs
  rintro xv s1 ⟨v, H1, J, rel, a, rfl, ⟨ps, eT, okT⟩, hR⟩
  obtain ⟨tk, rfl⟩ := _root_.id rel
  refine wpAny_pyIter_str fun ob St0 Wk st0 => ?_
  -- the heap with the iterator
  have size1 : (s1.heap.push ob).objs.size = s1.heap.objs.size + 1 := Heap.size_push ..
  have kp1 : ∀ b u, s1.heap.get? b = some u → (s1.heap.push ob).get? b = some u := fun b u e => Heap.get?_push_of_some _ e
  have tab1 : s1.heap.get? T = some { cls := .none, data := .fields ps } := J.hok T _ eT
  have hTlt : T < s1.heap.objs.size := Heap.lt_size tab1
  have code1 : PySem.W.CodeHd (s1.heap.push ob) c T := TB.code.keeps fun b u e => kp1 b u (J.bk b u e)
  have noT : ∀ b u, X.base.get? b = some u → b ≠ T := fun b u e z => by
    have q := (J.bs b u e).2
    rw [z, eT] at q
    cases q
  refine ⟨J.nolimit.push ob, ?_⟩
  -- what follows the code object, found or new
  suffices go : ∀ (cv : Value) (h3 : Heap) (tk3 : Nat) (ps3 : Array Value), Heap.ExtBut T (s1.heap.push ob) h3 → (s1.heap.push ob).objs.size ≤ h3.objs.size → h3.get? T = some { cls := .none, data := .fields ps3 } →
      (∃ more, ps3 = ps ++ more) → TriplesOk ps3.toList →
      wpAny (model X.prog X.w) X.A (builtinsFor X.env.globals X.env.builtins) (fun bi s4 =>
        ∃ I0 fp wr n0 Pf St00 pz F, Value.ref s1.heap.objs.size = .ref I0 ∧ (∀ B : Around, B.handled = none → Walks X.prog X.w B I0 fp wr n0 Pf St00) ∧ St00 0 s4.heap ∧ (∀ b ∈ fp, b < s4.heap.objs.size) ∧ s4.heap.NoLimit ∧ cStatics ∉ wr ∧
          (∀ href : Heap, (∀ b o, s4.heap.get? b = some o → href.get? b = some o) →
            QuietGenD X.prog X.w (genEnv scope (cloFrom X.env.cells scope.names []) s4.heap.objs.size cv bi X.env) x [] elt (List.range s4.heap.objs.size) wr Pf pz F href (X.A.depth + 1) (X.A.units + 8)) ∧
          (∀ g h5 tk5 gs, gs.bare = true → s4.heap.objs.size < g → h5.objs.size = g + 1 → (∀ b o, s4.heap.get? b = some o → h5.get? b = some o) →
            WalksS X.prog X.w X.A.in4 g (g :: s4.heap.objs.size :: List.range s4.heap.objs.size) (s4.heap.objs.size :: wr) (GenOnlyQ s4.gens.size) (passing pz n0 0).length
              (fun j y => ∃ i, (passing pz n0 0)[j]? = some i ∧ F i y) (GenAt X.prog X.w X.A.in4 g s4.gens.size s4.heap.objs.size (List.range s4.heap.objs.size) wr pz n0 F) →
            GenAt X.prog X.w X.A.in4 g s4.gens.size s4.heap.objs.size (List.range s4.heap.objs.size) wr pz n0 F 0 { s4 with gens := s4.gens.push gs, toks := tk5, heap := h5 } →
            W (.ref g) { s4 with gens := s4.gens.push gs, toks := tk5, heap := h5 })) X.xe { s1 with heap := h3, toks := tk3 } by
    cases found : codeAmong gpos ps.toList with
    | some cv => exact wpAny_genexprCode_hit hcode (code1.code (kp1 _ _ tab1) okT) found (go cv _ s1.toks ps (Heap.ExtBut.refl _ _) (Nat.le_refl _) (kp1 _ _ tab1) ⟨#[], by simp⟩ okT)
    | none =>
      refine wpAny_genexprCodeX hcode (code1.code (kp1 _ _ tab1) okT) (code1.tab (kp1 _ _ tab1)) found ?_
      intro c' h3 tk3 ext le1 lt1 isC _ tabT _
      have ok3 : TriplesOk (ps ++ #[rawInt gpos.line, rawInt gpos.col, .ref c']).toList := by
        obtain ⟨_, _, _, _, _, _, _, _, _, _, _, _, _, _, _, _, _, _, _, r, _⟩ := isC
        exact r
      exact go _ h3 tk3 _ ext (Nat.le_trans le1 (Nat.le_of_lt lt1)) tabT.2 ⟨_, rfl⟩ ok3
  intro cv h3 tk3 ps3 ext hsz tab3 hmore ok3
  obtain ⟨bm, ob4, b1, b2, b3, b4, b5, b6, b7, b8⟩ := TB.bm
  have keep3 : ∀ b u, b ≠ T → s1.heap.get? b = some u → h3.get? b = some u := fun b u nb e => ext b u nb (kp1 b u e)
  have glob3 : h3.Ns X.env.globals X.mg := by
    rw [J.ok.glob]
    exact ((J.mod.glob.keeps J.bk).push ob).extBut ext TB.gP
  refine wpAny_builtinsFor (m := X.mg) glob3 b1 b2 (keep3 _ _ b4 (J.bk _ _ b5)) b6 b7 b8 ?_
  have statT : cStatics ≠ T := fun z => by
    obtain ⟨_, q, _⟩ := J.nolimit
    obtain ⟨o', es, ep, e, hd, _⟩ := q
    rw [z, tab1] at e
    cases e
    cases hd
  have statLt : cStatics < s1.heap.objs.size := by
    obtain ⟨_, q, _⟩ := J.nolimit
    exact q.lt
  refine ⟨s1.heap.objs.size, [s1.heap.objs.size], [s1.heap.objs.size], a.cps.size, SignAt a, St0, fun _ => true, fun i y => ∃ cc, a.cps[i]? = some cc ∧ y = .bool (pb cc), rfl, Wk, ?_, ?_, (J.nolimit.push ob).extBut ext statT, ?_, ?_, ?_⟩
  · refine (Wk X.A hr.hd).frame _ _ _ st0 fun b hb u e => ext b u (fun z => ?_) e
    have z2 := List.mem_singleton.mp hb
    exact absurd (z2.symm.trans z) (Nat.ne_of_gt hTlt)
  · intro b hb
    rw [List.mem_singleton.mp hb]
    show s1.heap.objs.size < h3.objs.size
    omega
  · intro z
    exact Nat.ne_of_lt statLt (List.mem_singleton.mp z)
  · intro href hh
    refine ⟨fun B E i v s2 m hB _ _ _ _ _ _ => ?_, fun B E i v s2 m hB hD _ hv _ hn hm hk => ?_⟩
    · simp only [List.forIn_nil]
      exact wpAny_pure ⟨rfl, GxR.keeps_refl _⟩
    · obtain ⟨cc, u, hcc, rfl⟩ := hv
      have g2 : Ground0 X.K X.mg s2.heap := (ground_of J).keeps fun b o e => by
        have lt := Heap.lt_size (J.bk b o e)
        refine hk b (List.mem_range.mpr ?_) (fun z => ?_) o (hh b o (keep3 b o (noT b o e) (J.bk b o e)))
        · exact Nat.lt_of_lt_of_le lt (show s1.heap.objs.size ≤ h3.objs.size by omega)
        · rw [List.mem_singleton.mp z] at lt
          exact Nat.lt_irrefl _ lt
      exact wpAny_mono (hel _ _ cv B E cc u s2 m hB hD hn hm g2) (fun y s3 r => ⟨⟨cc, hcc, r.1⟩, r.2⟩) fun _ _ e => e
  · intro g h5 tk5 gs bare lt5 sz5 kp5 W5 at5
    simp only [GxR.passing_true, List.length_range] at W5
    refine hW a H1 g _ hR ⟨_, _, _, _, _, W5.in4_1, at5, ?_, fun s' mv => ?_⟩
    · rintro j y sj Qj Ej ⟨i, eij, cc, hcc, rfl⟩ hQj
      obtain ⟨hj, ej⟩ := List.getElem?_eq_some_iff.mp eij
      rw [List.getElem_range] at ej
      subst ej
      have e9 : a.cps.toList[j]? = some cc := by
        rw [Array.getElem?_toList]
        exact hcc
      have q2 : Qj (GxR.trF pb a.cps.toList j) sj := hQj
      rw [GxR.trF_some e9] at q2
      exact wpAny_truthy_bool q2
    · obtain ⟨more, em⟩ := hmore
      have away : ∀ b u, s1.heap.get? b = some u → b ∉ h3.objs.size :: [s1.heap.objs.size] := fun b u e z => by
        have l1 := Heap.lt_size e
        rcases List.mem_cons.mp z with z | z
        · have l2 : h3.objs.size < s1.heap.objs.size := z ▸ l1
          omega
        · rw [List.mem_singleton.mp z] at l1
          exact Nat.lt_irrefl _ l1
      have stays : ∀ b u, b ≠ T → s1.heap.get? b = some u → s'.heap.get? b = some u := fun b u nb e => mv.heap b u (away b u e) (kp5 b u (keep3 b u nb e))
      have J2 := GxR.inv_tab (more := more) (h' := s'.heap) (g' := s'.gens) (d' := s'.drawn) (t' := s'.toks) J eT stays (by rw [← em]; exact mv.heap T _ (away T _ tab1) (kp5 T _ tab3)) (AllBare.movedS (J.bare.push bare) mv)
      rw [GxR.sh_eta s1 s' mv.os] at J2
      exact ⟨_, ⟨⟨ps ++ more, upd_same, by rw [← em]; exact ok3⟩, fun b hb => upd_ne hb⟩, J2⟩

/-- all(f(x) for x in e), e a text: the element may call defs that change nothing -/
theorem pe_allC {c T : Addr} {elt iter : Expr} {x : Str} {px p pos gpos : Pos} {scope : Scope} {pb : Nat → Bool} {te : TE} {k : Nat}
    (hr : Room k X.A) (hg : Gl X "all") (hm : X.mg "all" = none) (TB : GxR.TabB X.base X.mg c T) (hcode : X.env.code = .ref c) (S : GxR.GenS X.env scope x) (hi : PE X iter te) (hel : EltC X scope x elt pb)
    (hs : ∀ v, genFold iter X.env v = pure v)
    (he : starEach [.GeneratorExp elt [⟨.Name x px, iter, [], 0⟩] scope gpos] X.env = [(false, eval (.GeneratorExp elt [⟨.Name x px, iter, [], 0⟩] scope gpos) X.env)] := by rfl) :
    PE X (.Call (.Name "all" p) [.GeneratorExp elt [⟨.Name x px, iter, [], 0⟩] scope gpos] [] pos) (GxR.tAllS T pb te) := by
  refine ⟨fun pins s σ H Q I h => ?_⟩
  refine wpAny_Call_Name_kw (ld_blt I hg hm (show bootBuiltins "all" = some (.builtin "all") by decide +kernel) ?_)
  refine PyProof.Rows.callWith_builtin1 ?_ he (by rfl)
  rw [he]
  refine Calls.spliced_cons (gen_textC (R := fun a H1 => ∀ H2, GxR.Tabbed T H1 H2 → Q (.bl (a.cps.toList.all pb)) H2) hr TB hcode S hi hel hs I h ?_)
  rintro a H1 g s5 hR ⟨fp, wr, G, F, St, Wk, st, tru, fin⟩
  refine Calls.spliced_nil (call_all_walkS (Wk.self 0 _ _ _ st ⟨g, fp, wr, G, _, F, St, _, rfl, Wk, st, tru, fun s' mv => ?_⟩))
  obtain ⟨H2, tb, J⟩ := fin s' mv
  refine ⟨.bl _, H2, J, rfl, ?_⟩
  rw [GxR.all_signs a pb]
  exact hR H2 tb
end
end RT

set_option maxHeartbeats 2000000
namespace RT
open PySem PySem.Spec PyProof.Rows L2

/-- xs.extend(t), t a tuple at any place -/
theorem extend_tuple (l b : Addr) (xs ys : Array Value) (n m : Nat) (dd : Option Addr) (sl : Array (Option Value)) (h0 : ¬(!xs.isEmpty && Builtin.List.listTooLong (xs.size + ys.size)) = true) (h1 : xs.size ≤ sizeLine) (h2 : xs.size + ys.size ≤ sizeLine + 1) :
    Meets (Builtin.«list.extend» ⟨[.ref l, .ref b], []⟩) (fun _ R s => s.heap.get? l = some { cls := .type "list", dict := none, data := .seq xs n, slots := #[] } ∧ s.heap.get? b = some { cls := .type "tuple", dict := dd, data := .seq ys m, slots := sl } ∧
      R (.ok (.ret Value.none)) { s with heap := s.heap.update l (Obj.mapSeq fun x => x ++ ys), toks := s.toks }) := by
  refine .of_wp fun prog w A R s h => ?_
  obtain ⟨hp, g, d, tk, os⟩ := s
  obtain ⟨hl, hb, h⟩ := h
  have f1 := PySem.AutoSeq1.idx_int
  have f2 := PySem.AutoSeq1.sub_tuple_tuple
  have f3 := PySem.AutoSeq1.sub_list_list
  have f4 := PySem.AutoSeq1.sub_tuple_list
  have f5 := PySem.AutoSeq1.sub_list_tuple
  have hz : (xs ++ ys).size ≤ sizeLine + 1 := by rw [Array.size_append]; exact h2
  wp_walk using (wpAny_updateSeq hl rfl (hz := h1) (_hz' := hz)), wpAny_loadPart' hl, wpAny_loadPart' hb
  exact ⟨_, rfl, h⟩
section
variable {X : Cx}
def rExtT : V → List V → Hp → VK → Prop := fun x vs H Q => ∃ l b xs zs, x = .ref l ∧ vs = [.ref b] ∧ H l = some (.lst xs) ∧ H b = some (.tup zs) ∧ xs.length + zs.length ≤ sizeLine ∧ Q .non (upd H l (.lst (xs ++ zs)))
theorem mt_extT : MtR X "list.extend" rExtT := by
  intro pins s σ H x vs v us Q I rx rv h
  obtain ⟨l, b, xs, zs, rfl, rfl, hH, hB, hz, q⟩ := h
  cases rx
  obtain ⟨u, rfl, ru⟩ := rv.one
  cases ru
  obtain ⟨z, its, n, r, hl, e⟩ := I.lstM hH
  obtain ⟨z2, its2, r2, ob, e2, c2, m, d2⟩ := (show ObjOk X.prog X.w H s.heap b (.tup zs) from I.hok b _ hB)
  obtain ⟨oc, od, dt, sl⟩ := ob
  simp only at c2 d2
  subst c2 d2
  have hsz : its.toArray.size + its2.toArray.size ≤ sizeLine := by
    rw [List.size_toArray, List.size_toArray]
    have := r.length
    have := r2.length
    omega
  have hlong : ¬ (!its.toArray.isEmpty && Builtin.List.listTooLong (its.toArray.size + its2.toArray.size)) = true := by
    rw [notLongL hsz, Bool.and_false]
    exact Bool.false_ne_true
  refine call_meets F.slot_list_extend ⟨_, e, rfl⟩ F.entry_list_extend (F.args_list_extend_2 _ _) (extend_tuple l b its.toArray its2.toArray n m od sl hlong (by omega) (by omega)) ⟨e, e2, ?_⟩
  refine ⟨.non, _, I.lset (its' := its ++ its2) hH e (by simp) (r.append r2) ?_, rfl, q⟩
  rw [List.length_append]
  exact hz
end
end RT

namespace RT
open PySem PySem.Spec PyProof.Rows L2
abbrev sIsText : Stmt := topS 3
abbrev sIsInt : Stmt := topS 4
abbrev sIsNumber : Stmt := topS 5
abbrev sIsThing : Stmt := topS 7
theorem scTxt : FnScope ["x"] ["x"] (defScope sIsText) := ⟨rfl, rfl, rfl, by decide +kernel, rfl, by decide +kernel, by decide +kernel⟩
theorem scInt : FnScope ["x"] ["x"] (defScope sIsInt) := ⟨rfl, rfl, rfl, by decide +kernel, rfl, by decide +kernel, by decide +kernel⟩
theorem scNum : FnScope ["x"] ["x"] (defScope sIsNumber) := ⟨rfl, rfl, rfl, by decide +kernel, rfl, by decide +kernel, by decide +kernel⟩
theorem scThing : FnScope ["x", "todo", "part"] ["x"] (defScope sIsThing) := ⟨rfl, rfl, rfl, by decide +kernel, rfl, by decide +kernel, by decide +kernel⟩
/-! ### values of any kind -/
/-- v is no tuple; b: whether it is a thing -/
inductive Leaf (H : Hp) : V → Bool → Prop where
  | str {z : Str} (h : z.length ≤ sizeLine) : Leaf H (.str z) (z.cps.toList.all signB)
  | int (i : Int) : Leaf H (.int i) (decide (0 ≤ i))
  | non : Leaf H .non false
  | bl (b : Bool) : Leaf H (.bl b) false
  | lst {a : Addr} {xs : List V} (e : H a = some (.lst xs)) : Leaf H (.ref a) false
  | dK {a : Addr} {xs : List (Key × V)} (e : H a = some (.dK xs)) : Leaf H (.ref a) false
inductive Tr where
  | leaf (v : V) (b : Bool)
  | tup (ts : List Tr)
mutual
inductive Rep (H : Hp) : V → Tr → Prop where
  | leaf {v : V} {b : Bool} (l : Leaf H v b) : Rep H v (.leaf v b)
  | tup {a : Addr} {vs : List V} {ts : List Tr} (e : H a = some (.tup vs)) (r : RepAll H vs ts) : Rep H (.ref a) (.tup ts)
inductive RepAll (H : Hp) : List V → List Tr → Prop where
  | nil : RepAll H [] []
  | cons {v : V} {vs : List V} {t : Tr} {ts : List Tr} (h : Rep H v t) (r : RepAll H vs ts) : RepAll H (v :: vs) (t :: ts)
end
mutual
def Tr.good : Tr → Bool
  | .leaf _ b => b
  | .tup ts => Tr.goodAll ts
def Tr.goodAll : List Tr → Bool
  | [] => true
  | t :: ts => t.good && Tr.goodAll ts
end
mutual
def Tr.size : Tr → Nat
  | .leaf _ _ => 1
  | .tup ts => 1 + Tr.sizeAll ts
def Tr.sizeAll : List Tr → Nat
  | [] => 0
  | t :: ts => t.size + Tr.sizeAll ts
end
/-- the places that M tells hold nothing that a value of any kind may be -/
def Off (H : Hp) (M : Addr → Prop) : Prop := ∀ a o, M a → H a = some o → (∀ xs, o ≠ .tup xs) ∧ (∀ xs, o ≠ .lst xs) ∧ (∀ xs, o ≠ .dK xs)
theorem Leaf.keep {H H' : Hp} {M : Addr → Prop} {v : V} {b : Bool} (l : Leaf H v b) (k : Kp M H H') (h : ∀ a, v = .ref a → ¬ M a) : Leaf H' v b := by
  cases l with
  | str hz => exact .str hz
  | int i => exact .int i
  | non => exact .non
  | bl b => exact .bl b
  | lst e => exact .lst (k _ _ (h _ rfl) e)
  | dK e => exact .dK (k _ _ (h _ rfl) e)
/-- no place of M is met within v -/
inductive Met (H : Hp) : V → Addr → Prop where
  | here (a : Addr) : Met H (.ref a) a
  | there {a b : Addr} {vs : List V} {v : V} (e : H a = some (.tup vs)) (m : v ∈ vs) (r : Met H v b) : Met H (.ref a) b
mutual
theorem Rep.keep {H H' : Hp} {M : Addr → Prop} (k : Kp M H H') : ∀ {v : V} {t : Tr}, Rep H v t → (∀ a, Met H v a → ¬ M a) → Rep H' v t
  | _, _, .leaf l, h => .leaf (l.keep k fun a e => h a (by rw [e]; exact .here a))
  | _, _, .tup e r, h => .tup (k _ _ (h _ (.here _)) e) (RepAll.keep k r fun v m a q => h a (.there e m q))
theorem RepAll.keep {H H' : Hp} {M : Addr → Prop} (k : Kp M H H') : ∀ {vs : List V} {ts : List Tr}, RepAll H vs ts → (∀ v ∈ vs, ∀ a, Met H v a → ¬ M a) → RepAll H' vs ts
  | _, _, .nil, _ => .nil
  | _, _, .cons q r, h => .cons (q.keep k (h _ (List.mem_cons_self ..))) (RepAll.keep k r fun v m => h v (List.mem_cons_of_mem _ m))
end
theorem RepAll.app {H : Hp} : ∀ {vs ws : List V} {ts us : List Tr}, RepAll H vs ts → RepAll H ws us → RepAll H (vs ++ ws) (ts ++ us)
  | _, _, _, _, .nil, q => q
  | _, _, _, _, .cons h r, q => .cons h (r.app q)
theorem RepAll.len {H : Hp} : ∀ {vs : List V} {ts : List Tr}, RepAll H vs ts → vs.length = ts.length
  | _, _, .nil => rfl
  | _, _, .cons _ r => by rw [List.length_cons, List.length_cons, r.len]
theorem goodAll_app : ∀ ts us : List Tr, Tr.goodAll (ts ++ us) = (Tr.goodAll ts && Tr.goodAll us)
  | [], us => by simp [Tr.goodAll]
  | t :: r, us => by simp [Tr.goodAll, goodAll_app r us, Bool.and_assoc]
theorem sizeAll_app : ∀ ts us : List Tr, Tr.sizeAll (ts ++ us) = Tr.sizeAll ts + Tr.sizeAll us
  | [], us => by simp [Tr.sizeAll]
  | t :: r, us => by simp [Tr.sizeAll, sizeAll_app r us, Nat.add_assoc]
theorem Tr.size_pos : ∀ t : Tr, 1 ≤ t.size
  | .leaf _ _ => Nat.le_refl _
  | .tup _ => Nat.le_add_right _ _
theorem len_size : ∀ ts : List Tr, ts.length ≤ Tr.sizeAll ts
  | [] => Nat.le_refl _
  | t :: r => by
    have := t.size_pos
    have := len_size r
    simp only [List.length_cons, Tr.sizeAll]
    omega
/-- the last one of some that are there -/
theorem RepAll.last {H : Hp} : ∀ {vs : List V} {ts : List Tr}, RepAll H vs ts → vs ≠ [] → ∃ (v : V) (t : Tr) (us : List Tr), vs[vs.length - 1]? = some v ∧ ts = us ++ [t] ∧ Rep H v t ∧ RepAll H vs.dropLast us
  | _, _, .nil, h => absurd rfl h
  | _, _, .cons (v := v) (t := t) h .nil, _ => ⟨v, t, [], rfl, rfl, h, .nil⟩
  | _, _, .cons (v := v) (t := t) h (.cons (v := w) (vs := vs) q r), _ => by
    obtain ⟨v', t', us, e1, e2, e3, e4⟩ := RepAll.last (.cons q r) (by simp)
    refine ⟨v', t', t :: us, ?_, by rw [e2]; rfl, e3, ?_⟩
    · rw [← e1]
      simp
    · show RepAll H (v :: (w :: vs).dropLast) (t :: us)
      exact .cons h e4
section
variable {P : Program} {w : World} {K : PySem.W.Frag} {mg : Str → Option Value} {base : Heap}
def spIsText (K : PySem.W.Frag) (T : Addr) : Sp := fun vs H Q _ => ∃ x : V, vs = [x] ∧ GxR.TabG H T ∧
  ((∃ z : Str, x = .str z ∧ ∀ H', GxR.Tabbed T H H' → Q (.bl (z.cps.toList.all signB)) H') ∨ (∃ n : String, TyX K H x (.type n) ∧ kitB n "str" = some false ∧ Q (.bl false) H))
theorem elt_sign {X : Cx} {scope : Scope} {f : Addr} {fd : FuncData} {p p2 p3 : Pos} {tp : Tok} (F : Fun X.K "is_sign" "is_sign" sSign f fd) (b : Binds X.K fd ["letter"] []) (gs : X.mg "is_sign" = some (.ref f)) (mp : X.mg "_PERCENT" = some (.int 37 tp)) (mo : X.mg "ord" = none)
    (hd : X.A.depth + 10 < recursionLimit) (hk : scope.kind = .function) (hl : scope.names.lookup ("letter" : Str) = some .local) (hx : scope.names.lookup ("is_sign" : Str) = some .globalImplicit) (hgl : X.env.globals = mainGlobals := by rfl) :
    EltC X scope "letter" (.Call (.Name "is_sign" p) [.Name "letter" p2] [] p3) signB := by
  intro cl L code B E c t s2 m hB hD hn hm G
  refine wpAny_Call_Name_kw (Calls.Name_function_global hk hx (Calls.loadGlobal_global (show s2.heap.Ns X.env.globals X.mg by rw [hgl]; exact G.glob) gs ?_))
  refine PySem.W.callWith_K (h₀ := s2.heap) G.kin F.kp (Calls.spliced_cons ?_) rfl rfl
  refine wpAny_Name (wpAny_loadName_local hk hl hn hm ?_) (by decide)
  refine Calls.spliced_nil ⟨G.kin, ?_⟩
  refine wpAny_call ?_
  refine sign_run F b G (by omega) mp mo fun s' k => ?_
  exact ⟨rfl, k⟩
theorem ok_isText {f c T fs : Addr} {fd fds : FuncData} {k : Nat} {tp : Tok} (F : FunT K "is_text" "is_text" sIsText f fd c) (TB : GxR.TabB base mg c T) (FS : Fun K "is_sign" "is_sign" sSign fs fds) (bs : Binds K fds ["letter"] []) (gs : mg "is_sign" = some (.ref fs))
    (mp : mg "_PERCENT" = some (.int 37 tp)) (mo : mg "ord" = none) (mi : mg "isinstance" = none) (ms : mg "str" = none) (ma : mg "all" = none) (hk : 2 ≤ k) : FnOk P w K mg base CX0 (k + 1) f fd ["x"] (spIsText K T) := by
  obtain ⟨oc, od, kV, doc, pm, an, ct, osl, rfl, lk, hcd⟩ := F.ex
  refine fn_of lk hcd scTxt (fun vs H Q E h => ?_) (fun A outer s H vs Q E hr h => ?_)
  · obtain ⟨x, rfl, _⟩ := h
    rfl
  · obtain ⟨x, rfl, hT, h⟩ := h
    have hdp := hr.dp
    refine ⟨_, (pss_one (ps_ret (pe_and (pe_callB call_isi (by rfl) mi (by decide +kernel) (pa_cons (pv 0) (pa_cons (pe_bltn (v := .ty "str") (by rfl) ms (by decide +kernel) rfl) pa_nil)))
      (pe_one (pe_allC hr (by rfl) ma TB rfl ⟨rfl, rfl, by decide +kernel, rfl, rfl, by (intro y hy e; refine (nofree3 ?_ ?_ ?_ y hy e).elim <;> (intro z; cases z))⟩ (pv 0) (elt_sign FS bs gs mp mo (by (have e : (cxOf CX0 P w K mg base ["x"] "is_text" (defScope sIsText) f (.ref c) A outer s H E).A.depth = (A.deeper (envOfC "is_text" (defScope sIsText) s.heap.objs.size f (.ref c))).depth := rfl); omega) rfl rfl rfl) (fun _ => rfl))))) :
      PSs (cxOf CX0 P w K mg base ["x"] "is_text" (defScope sIsText) f (.ref c) A outer s H E) (defBody sIsText) _), ?_⟩
    rcases h with ⟨z, rfl, q⟩ | ⟨n, ht, hk, q⟩
    · exact ⟨_, rfl, _, .ty "str", .type "str", .type "str", true, rfl, .ty _, .base (.str z), kit_ty (by decide +kernel), true, rfl, iteT ⟨_, rfl, z, rfl, hT, q⟩⟩
    · exact ⟨_, rfl, _, .ty "str", .type n, .type "str", false, rfl, .ty _, ht, kit_ty hk, false, rfl, iteF q⟩
def spIsInt (K : PySem.W.Frag) : Sp := fun vs H Q _ => ∃ (x : V) (n : String) (a b : Bool), vs = [x] ∧ TyX K H x (.type n) ∧ kitB n "int" = some a ∧ kitB n "bool" = some b ∧ Q (.bl (a && !b)) H
theorem ok_isInt {f : Addr} {fd : FuncData} {k : Nat} (F : Fun K "is_int" "is_int" sIsInt f fd) (mi : mg "isinstance" = none) (mint : mg "int" = none) (mbool : mg "bool" = none) : FnOk P w K mg base CX0 (k + 1) f fd ["x"] (spIsInt K) := by
  refine F.ok scInt (fun vs H Q E h => ?_) (fun cdv A outer s H vs Q E hr h => ?_)
  · obtain ⟨x, n, a, b, rfl, _⟩ := h
    rfl
  · obtain ⟨x, n, a, b, rfl, ht, ha, hb, q⟩ := h
    refine ⟨_, (pss_one (ps_ret (pe_and (pe_callB call_isi (by rfl) mi (by decide +kernel) (pa_cons (pv 0) (pa_cons (pe_bltn (v := .ty "int") (by rfl) mint (by decide +kernel) rfl) pa_nil))) (pe_one (pe_not (pe_callB call_isi (by rfl) mi (by decide +kernel) (pa_cons (pv 0) (pa_cons (pe_bltn (v := .ty "bool") (by rfl) mbool (by decide +kernel) rfl) pa_nil)))))))), ?_⟩
    refine ⟨_, rfl, _, .ty "int", .type n, .type "int", a, rfl, .ty _, ht, kit_ty ha, a, rfl, ?_⟩
    cases a with
    | true => exact iteT ⟨_, rfl, _, .ty "bool", .type n, .type "bool", b, rfl, .ty _, ht, kit_ty hb, b, rfl, by rw [Bool.true_and] at q; exact q⟩
    | false => exact iteF (by rw [Bool.false_and] at q; exact q)
def spIsNumber (K : PySem.W.Frag) : Sp := fun vs H Q _ => ∃ x : V, vs = [x] ∧ ((∃ i : Int, x = .int i ∧ Q (.bl (decide (0 ≤ i))) H) ∨ (∃ (n : String) (a b : Bool), TyX K H x (.type n) ∧ kitB n "int" = some a ∧ kitB n "bool" = some b ∧ (a && !b) = false ∧ Q (.bl false) H))
theorem ok_isNumber {f fi : Addr} {fd fdi : FuncData} {k : Nat} (F : Fun K "is_number" "is_number" sIsNumber f fd) (GI : FnOk P w K mg base CX0 k fi fdi ["x"] (spIsInt K)) (ki : PySem.W.keepIn K (.ref fi) = true) (bi : Binds K fdi ["x"] []) (gi : mg "is_int" = some (.ref fi)) :
    FnOk P w K mg base CX0 (k + 1) f fd ["x"] (spIsNumber K) := by
  refine F.ok scNum (fun vs H Q E h => ?_) (fun cdv A outer s H vs Q E hr h => ?_)
  · obtain ⟨x, rfl, _⟩ := h
    rfl
  · obtain ⟨x, rfl, h⟩ := h
    refine ⟨_, (pss_one (ps_ret (pe_and (pe_call GI hr (by rfl) gi ki bi .nil pass0 (pa_cons (pv 0) pa_nil)) (pe_one (pe_cmpR op_ge (pv 0) pe_int (nomark _)))))), ?_⟩
    rcases h with ⟨i, rfl, q⟩ | ⟨n, a, b, ht, ha, hb, hab, q⟩
    · exact ⟨_, rfl, _, "int", true, false, rfl, .base (.int i), by decide +kernel, by decide +kernel, true, rfl, iteT ⟨_, rfl, _, _, rfl, rfl, q⟩⟩
    · refine ⟨_, rfl, _, n, a, b, rfl, ht, ha, hb, false, congrArg V.bl hab, iteF q⟩
/-! ### is_thing -/
theorem leaf_ty {H : Hp} {v : V} {b : Bool} (l : Leaf H v b) : (∃ z, v = .str z) ∨ (∃ i, v = .int i) ∨ ∃ n : String, TyX K H v (.type n) ∧ kitB n "str" = some false ∧ kitB n "tuple" = some false ∧ b = false ∧ ∃ x y, kitB n "int" = some x ∧ kitB n "bool" = some y ∧ (x && !y) = false := by
  cases l with
  | str h => exact .inl ⟨_, rfl⟩
  | int i => exact .inr (.inl ⟨i, rfl⟩)
  | non => exact .inr (.inr ⟨_, .base .non, by decide +kernel, by decide +kernel, rfl, false, false, by decide +kernel, by decide +kernel, rfl⟩)
  | bl b => exact .inr (.inr ⟨_, .base (.bl b), by decide +kernel, by decide +kernel, rfl, true, true, by decide +kernel, by decide +kernel, rfl⟩)
  | lst e => exact .inr (.inr ⟨_, .base (.lst e), by decide +kernel, by decide +kernel, rfl, false, false, by decide +kernel, by decide +kernel, rfl⟩)
  | dK e => exact .inr (.inr ⟨_, .base (.dK e), by decide +kernel, by decide +kernel, rfl, false, false, by decide +kernel, by decide +kernel, rfl⟩)
def spIsThing (T : Addr) : Sp := fun vs H Q _ => ∃ (x : V) (t : Tr), vs = [x] ∧ GxR.TabG H T ∧ Rep H x t ∧ t.size ≤ 100000 ∧ ∀ H', Kp (fun b => b = T) H H' → GxR.TabG H' T → Q (.bl t.good) H'

/-- what a value's places hold -/
def Held3 (o : HO) : Prop := (∃ xs, o = .tup xs) ∨ (∃ xs, o = .lst xs) ∨ (∃ xs, o = .dK xs)
theorem leaf_held {H : Hp} {a : Addr} {b : Bool} (l : Leaf H (.ref a) b) : ∃ o, H a = some o ∧ Held3 o := by
  cases l with
  | lst e => exact ⟨_, e, .inr (.inl ⟨_, rfl⟩)⟩
  | dK e => exact ⟨_, e, .inr (.inr ⟨_, rfl⟩)⟩
theorem RepAll.mem {H : Hp} : ∀ {vs : List V} {ts : List Tr} {v : V}, RepAll H vs ts → v ∈ vs → ∃ t ∈ ts, Rep H v t
  | _, _, _, .nil, h => nomatch h
  | _, _, _, .cons q r, h => by
    rcases List.mem_cons.mp h with e | e
    · rw [e]
      exact ⟨_, List.mem_cons_self .., q⟩
    · obtain ⟨t, m, x⟩ := r.mem e
      exact ⟨t, List.mem_cons_of_mem _ m, x⟩
theorem Met.held {H : Hp} {v : V} {a : Addr} (m : Met H v a) : ∀ {t : Tr}, Rep H v t → ∃ o, H a = some o ∧ Held3 o := by
  induction m with
  | here a =>
    intro t r
    cases r with
    | leaf l => exact leaf_held l
    | tup e _ => exact ⟨_, e, .inl ⟨_, rfl⟩⟩
  | there e m _ ih =>
    intro t r
    cases r with
    | leaf l =>
      obtain ⟨o, e2, h⟩ := leaf_held l
      rw [e] at e2
      cases e2
      cases l with
      | lst e3 =>
        rw [e] at e3
        cases e3
      | dK e3 =>
        rw [e] at e3
        cases e3
    | tup e2 q =>
      rw [e] at e2
      cases e2
      obtain ⟨t', _, q'⟩ := q.mem m
      exact ih q'
theorem Rep.tab {H H' : Hp} {T : Addr} {v : V} {t : Tr} (r : Rep H v t) (k : Kp (fun b => b = T) H H') (g : GxR.TabG H T) : Rep H' v t := by
  refine r.keep k fun a m z => ?_
  obtain ⟨o, e, h⟩ := m.held r
  obtain ⟨ps, e2, _⟩ := g
  rw [z, e2] at e
  cases e
  rcases h with ⟨_, h⟩ | ⟨_, h⟩ | ⟨_, h⟩ <;> cases h
theorem ok_isThing {f ft fb T : Addr} {fd fdt fdb : FuncData} {k : Nat} (F : Fun K "is_thing" "is_thing" sIsThing f fd) (GT : FnOk P w K mg base CX0 k ft fdt ["x"] (spIsText K T)) (kt : PySem.W.keepIn K (.ref ft) = true) (bt : Binds K fdt ["x"] []) (gt : mg "is_text" = some (.ref ft))
    (GB : FnOk P w K mg base CX0 k fb fdb ["x"] (spIsNumber K)) (kb : PySem.W.keepIn K (.ref fb) = true) (bb : Binds K fdb ["x"] []) (gb : mg "is_number" = some (.ref fb)) (mi : mg "isinstance" = none) (mt : mg "tuple" = none) :
    FnOk P w K mg base CX0 (k + 1) f fd ["x"] (spIsThing T) := by
  refine F.ok scThing (fun vs H Q E h => ?_) (fun cdv A outer s H vs Q E hr h => ?_)
  · obtain ⟨x, t, rfl, _⟩ := h
    rfl
  · obtain ⟨x, t, rfl, hT, hR, hsz, q⟩ := h
    have hr0 := hr
    have sline : (100000 : Nat) ≤ sizeLine := by decide
    refine ⟨_, (pss_cons (ps_set (i := 1) scThing.nd rfl (.inl rfl) (pe_lst (pa_cons (pv 0) pa_nil)))
      (pss_cons (ps_while PassesOwn.never (pt_truth (pv 1) (by intro _; rfl)) (pss_cons (ps_set (i := 2) scThing.nd rfl (.inl rfl) (pe_bm0 PySem.F.plainAttrs_list PySem.F.slot_list_pop PySem.F.type_list_pop mt_pop (pv 1)))
      (pss_one (ps_if (pt_val (pe_callB call_isi (by rfl) mi (by decide +kernel) (pa_cons (pv 2) (pa_cons (pe_bltn (v := .ty "tuple") (by rfl) mt (by decide +kernel) rfl) pa_nil)))) (pss_one (ps_expr (pe_bm PySem.F.plainAttrs_list PySem.F.slot_list_extend PySem.F.type_list_extend mt_extT (pv 1) (pa_cons (pv 2) pa_nil)))) (pss_one (ps_if (PW.pt (pw_and (pt_not (pt_val (pe_call GT hr0 (by rfl) gt kt bt .nil pass0 (pa_cons (pv 2) pa_nil)))) (pw_and1 (pt_not (pt_val (pe_call GB hr (by rfl) gb kb bb .nil pass0 (pa_cons (pv 2) pa_nil))))))) (pss_one (ps_ret pe_bl)) pss_nil))))))
      (pss_one (ps_ret pe_bl)))), ?_⟩
    refine ⟨_, rfl, by show 1 ≤ sizeLine; decide, fun l nl => ?_⟩
    refine ⟨fun n σ H2 => ∃ (vs : List V) (ts : List Tr) (y2 : Option V), σ = [some x, some (.ref l), y2] ∧ n = Tr.sizeAll ts ∧ H2 l = some (.lst vs) ∧ RepAll H vs ts ∧ Tr.sizeAll ts ≤ 100000 ∧ Tr.goodAll ts = t.good ∧ GxR.TabG H2 T ∧ Kp (fun b => b = T) H H2,
      ⟨_, [x], [t], none, rfl, rfl, upd_same, .cons hR .nil, by simp only [Tr.sizeAll]; omega, by simp [Tr.goodAll], tabG_keep hT (Kp.new (M := M0) nl) (fun z => z), Kp.new nl⟩, ?_⟩
    rintro n σ H2 ⟨vs, ts, y2, rfl, rfl, el, hR2, hs2, hg2, hT2, k2⟩
    by_cases hv : vs = []
    · subst hv
      cases hR2
      refine ⟨_, rfl, false, .inl ⟨[], SqL.of el, rfl⟩, iteF ?_⟩
      have : t.good = true := by rw [← hg2]; rfl
      rw [this] at q
      exact q H2 k2 hT2
    · refine ⟨_, rfl, true, .inl ⟨vs, SqL.of el, by cases vs with
        | nil => exact absurd rfl hv
        | cons => rfl⟩, iteT ?_⟩
      obtain ⟨v, u, us, ev, rfl, rv, rus⟩ := hR2.last hv
      rw [sizeAll_app] at hs2
      rw [goodAll_app] at hg2
      simp only [Tr.sizeAll, Tr.goodAll, Nat.add_zero, Bool.and_true] at hs2 hg2
      refine ⟨fun σ' H' => ∃ (vs' : List V) (ts' : List Tr) (y2 : Option V), σ' = [some x, some (.ref l), y2] ∧ Tr.sizeAll ts' < Tr.sizeAll (us ++ [u]) ∧ H' l = some (.lst vs') ∧ RepAll H vs' ts' ∧ Tr.sizeAll ts' ≤ 100000 ∧ Tr.goodAll ts' = t.good ∧ GxR.TabG H' T ∧ Kp (fun b => b = T) H H',
        fun σ' H' ⟨vs', ts', y, e1, e2, r⟩ => ⟨_, e2, vs', ts', y, e1, rfl, r⟩, ?_⟩
      have esz : Tr.sizeAll (us ++ [u]) = Tr.sizeAll us + u.size := by rw [sizeAll_app]; simp only [Tr.sizeAll, Nat.add_zero]
      rw [esz]
      refine ⟨_, rfl, .inl ⟨rfl, _, SqL.of el⟩, l, vs, v, rfl, rfl, el, ev, ?_⟩
      have k3 : Kp (fun b => b = T) H (upd H2 l (.lst vs.dropLast)) := fun b o nb e => by
        rw [upd_ne (ne_of_none e nl)]
        exact k2 b o nb e
      have hT3 : GxR.TabG (upd H2 l (.lst vs.dropLast)) T := by
        obtain ⟨ps, e, r⟩ := hT2
        have : T ≠ l := fun z => by
          rw [z, el] at e
          cases e
        exact ⟨ps, by rw [upd_ne this]; exact e, r⟩
      have e3 : upd H2 l (.lst vs.dropLast) l = some (.lst vs.dropLast) := upd_same
      generalize upd H2 l (.lst vs.dropLast) = H3 at k3 hT3 e3 ⊢
      have rv3 := rv.tab k3 hT
      have hup := u.size_pos
      cases rv with
      | @tup a ws ts2 e r =>
        have ea : H3 a = some (.tup ws) := k3 a _ (off_tab hT e fun _ z => by cases z) e
        refine ⟨_, rfl, _, .ty "tuple", .type "tuple", .type "tuple", true, rfl, .ty _, .base (.tup ea), kit_ty (by decide +kernel), true, rfl, iteT ?_⟩
        refine ⟨_, rfl, .inl ⟨rfl, _, SqL.of e3⟩, _, rfl, l, a, _, _, rfl, rfl, e3, ea, ?_, ?_⟩
        · have h1 := (rus.app r).len
          have h2 := len_size (us ++ ts2)
          rw [sizeAll_app] at h2
          rw [List.length_append] at h1
          simp only [Tr.size] at hs2
          omega
        · refine ⟨_, us ++ ts2, _, rfl, ?_, upd_same, rus.app r, ?_, ?_, ?_, ?_⟩
          · rw [sizeAll_app]
            simp only [Tr.size]
            omega
          · rw [sizeAll_app]
            simp only [Tr.size] at hs2
            omega
          · rw [goodAll_app]
            exact hg2
          · obtain ⟨ps, e5, r5⟩ := hT3
            have : T ≠ l := fun z => by
              rw [z, e3] at e5
              cases e5
            exact ⟨ps, by rw [upd_ne this]; exact e5, r5⟩
          · intro b o nb e5
            rw [upd_ne (ne_of_none e5 nl)]
            exact k3 b o nb e5
      | @leaf _ b lf =>
        have lf3 : Leaf H3 v b := by
          cases rv3 with
          | leaf l3 => exact l3
        have good2 : b = true → Tr.goodAll us = t.good := fun hb => by
          rw [← hg2, hb]
          show _ = (_ && true)
          rw [Bool.and_true]
        have bad2 : b = false → t.good = false := fun hb => by
          rw [← hg2, hb]
          show (_ && false) = false
          rw [Bool.and_false]
        have next : ∀ H4, Kp (fun b => b = T) H H4 → GxR.TabG H4 T → H4 l = some (.lst vs.dropLast) → b = true → ∃ (vs' : List V) (ts' : List Tr) (y2 : Option V), [some x, some (V.ref l), some v] = [some x, some (.ref l), y2] ∧ Tr.sizeAll ts' < Tr.sizeAll us + Tr.size (.leaf v b) ∧ H4 l = some (.lst vs') ∧ RepAll H vs' ts' ∧ Tr.sizeAll ts' ≤ 100000 ∧ Tr.goodAll ts' = t.good ∧ GxR.TabG H4 T ∧ Kp (fun b => b = T) H H4 :=
          fun H4 k4 t4 e4 hb => ⟨_, us, _, rfl, by omega, e4, rus, by omega, good2 hb, t4, k4⟩
        rcases leaf_ty (K := K) lf3 with ⟨z, rfl⟩ | ⟨i, rfl⟩ | ⟨n, ty, hs, ht, hb, xa, xb, hxa, hxb, hxx⟩
        · have eb : b = z.cps.toList.all signB := by cases lf; rfl
          refine ⟨_, rfl, _, .ty "tuple", .type "str", .type "tuple", false, rfl, .ty _, .base (.str z), kit_ty (by decide +kernel), false, rfl, iteF ?_⟩
          refine ⟨_, rfl, _, rfl, hT3, .inl ⟨z, rfl, fun H4 tb => ?_⟩⟩
          have k4 : Kp (fun b => b = T) H H4 := k3.trans (tabbed_kp tb)
          have e4 := tab_lst hT3 tb e3
          refine ⟨_, rfl, ?_⟩
          rw [← eb]
          cases b with
          | true => exact iteF (iteF (next H4 k4 tb.1 e4 rfl))
          | false =>
            refine iteT ⟨_, rfl, _, rfl, .inr ⟨"str", false, false, .base (.str z), by decide +kernel, by decide +kernel, rfl, false, rfl, iteT ?_⟩⟩
            rw [bad2 rfl] at q
            exact q H4 k4 tb.1
        · have eb : b = decide (0 ≤ i) := by cases lf; rfl
          refine ⟨_, rfl, _, .ty "tuple", .type "int", .type "tuple", false, rfl, .ty _, .base (.int i), kit_ty (by decide +kernel), false, rfl, iteF ?_⟩
          refine ⟨_, rfl, _, rfl, hT3, .inr ⟨"int", .base (.int i), by decide +kernel, false, rfl, iteT ⟨_, rfl, _, rfl, .inl ⟨i, rfl, _, rfl, ?_⟩⟩⟩⟩
          rw [← eb]
          cases b with
          | true => exact iteF (next H3 k3 hT3 e3 rfl)
          | false =>
            rw [bad2 rfl] at q
            exact iteT (q H3 k3 hT3)
        · refine ⟨_, rfl, _, .ty "tuple", .type n, .type "tuple", false, rfl, .ty _, ty, kit_ty ht, false, rfl, iteF ?_⟩
          refine ⟨_, rfl, _, rfl, hT3, .inr ⟨n, ty, hs, false, rfl, iteT ⟨_, rfl, _, rfl, .inr ⟨n, xa, xb, ty, hxa, hxb, hxx, false, rfl, iteT ?_⟩⟩⟩⟩
          rw [bad2 hb] at q
          exact q H3 k3 hT3
end
end RT

namespace RT
open PySem PySem.Spec PyProof.Rows L2
abbrev sSize : Stmt := topS 12
abbrev sSigns : Stmt := topS 13
abbrev sText : Stmt := topS 14
abbrev sTh : Stmt := topS 15
theorem scSize : FnScope ["_law_pot_here", "_law_few", "_law_most"] ["_law_pot_here", "_law_few", "_law_most"] (defScope sSize) := ⟨rfl, rfl, rfl, by decide +kernel, rfl, by decide +kernel, by decide +kernel⟩
theorem scSigns : FnScope ["_law_some"] [] (defScope sSigns) := ⟨rfl, rfl, rfl, by decide +kernel, rfl, by decide +kernel, by decide +kernel⟩
theorem scText : FnScope ["_law_pot_here", "_law_few", "_law_most", "_law_some", "_law_k"] ["_law_pot_here", "_law_few", "_law_most"] (defScope sText) := ⟨rfl, rfl, rfl, by decide +kernel, rfl, by decide +kernel, by decide +kernel⟩
theorem scTh : FnScope ["_law_pot_here", "_law_deep", "_law_way", "_law_k"] ["_law_pot_here", "_law_deep"] (defScope sTh) := ⟨rfl, rfl, rfl, by decide +kernel, rfl, by decide +kernel, by decide +kernel⟩
/-! ### good things stay where no tuple is changed -/
mutual
theorem Rep.keepG {H H' : Hp} {M : Addr → Prop} (k : Kp M H H') (h : ∀ a xs, M a → H a ≠ some (.tup xs)) : ∀ {v : V} {t : Tr}, Rep H v t → t.good = true → Rep H' v t
  | _, _, .leaf l, g => by
    refine .leaf ?_
    cases l with
    | str hz => exact .str hz
    | int i => exact .int i
    | non => exact .non
    | bl b => exact .bl b
    | lst e => cases g
    | dK e => cases g
  | _, _, .tup e r, g => .tup (k _ _ (fun m => h _ _ m e) e) (RepAll.keepG k h r g)
theorem RepAll.keepG {H H' : Hp} {M : Addr → Prop} (k : Kp M H H') (h : ∀ a xs, M a → H a ≠ some (.tup xs)) : ∀ {vs : List V} {ts : List Tr}, RepAll H vs ts → Tr.goodAll ts = true → RepAll H' vs ts
  | _, _, .nil, _ => .nil
  | _, _, .cons q r, g => by
    have g2 := Bool.and_eq_true_iff.mp g
    exact .cons (q.keepG k h g2.1) (RepAll.keepG k h r g2.2)
end
theorem no_tup_pot {H : Hp} {pd po : Addr} {t : Nat} (P : Pot H pd po t) : ∀ a xs, PM pd po a → H a ≠ some (.tup xs) := fun a xs m e => by
  obtain ⟨s, _, _, e1⟩ := P.d
  obtain ⟨ns, _, _, e2⟩ := P.o
  rcases m with z | z
  · rw [z, e1] at e
    cases e
  · rw [z, e2] at e
    cases e
theorem Kp.put' {H : Hp} {p : Addr} {o : HO} : Kp (fun b => b = p) H (upd H p o) := Kp.put rfl
section
variable {P : Program} {w : World} {K : PySem.W.Frag} {mg : Str → Option Value} {base : Heap}
def spSize : Sp := fun vs H Q _ => ∃ (pd po : Addr) (t m : Nat) (a b : Int), vs = [.ref pd, .int a, .int b] ∧ Pot H pd po t ∧ t < 2 ^ 49 ∧ 0 ≤ a ∧ 0 ≤ b ∧ a ≤ m ∧ b ≤ m ∧ m ≤ 1000 ∧
  ∀ (d : Nat) (H' : Hp) (t' : Nat), t' ≤ t + 2 → d ≤ m → Pot H' pd po t' → Kp (PM pd po) H H' → Q (.int d) H'
theorem ok_size {f fn : Addr} {fd fdn : FuncData} {k : Nat} (F : Fun K "_law_size" "_law_size" sSize f fd) (GN : FnOk P w K mg base CX0 k fn fdn ["_law_pot_here", "_law_many"] spNext) (kn : PySem.W.keepIn K (.ref fn) = true) (bn : Binds K fdn ["_law_pot_here", "_law_many"] []) (gn : mg "_law_next" = some (.ref fn)) (mint : mg "int" = none) :
    FnOk P w K mg base CX0 (k + 1) f fd ["_law_pot_here", "_law_few", "_law_most"] spSize := by
  refine F.ok scSize (fun vs H Q E h => ?_) (fun cdv A outer s H vs Q E hr h => ?_)
  · obtain ⟨pd, po, t, m, a, b, rfl, _⟩ := h
    rfl
  · obtain ⟨pd, po, t, m, a, b, rfl, hP, ht, a0, b0, am, bm, hm, q⟩ := h
    have h49 : (2 : Nat) ^ 49 = 562949953421312 := by decide
    have h50 : (2 : Nat) ^ 50 = 1125899906842624 := by decide
    refine ⟨_, (pss_one (ps_ret (pe_call GN hr (by rfl) gn kn bn .nil pass0 (pa_cons (pv 0) (pa_cons (pe_op op_add (pe_ix ix_list (pe_lst (pa_cons (pv 1) (pa_cons (pv 2) pa_nil))) (pe_callTy call_int1 (by rfl) mint (by decide +kernel) (pa_cons (pe_cmpR op_eq (pe_call GN hr (by rfl) gn kn bn .nil pass0 (pa_cons (pv 0) (pa_cons pe_int pa_nil))) pe_int (nomark _)) pa_nil)) (fun _ _ => rfl)) pe_int) pa_nil))))), ?_⟩
    refine ⟨_, rfl, _, rfl, _, rfl, by show 2 ≤ sizeLine; decide, fun p np => ?_⟩
    have hP1 := hP.new (o := .lst [V.int a, V.int b]) np
    have hp := off_pot hP np
    refine ⟨_, rfl, pd, po, t, 8, rfl, hP1, by omega, by decide, by decide, fun d H2 t2 ht2 d0 d1 hP2 k2 => ?_⟩
    have e2 := k2 p _ hp upd_same
    have kk : Kp (PM pd po) H H2 := (Kp.new np).trans k2
    refine ⟨rfl, .inr ⟨_, rfl, ?_⟩⟩
    have fin : ∀ c : Int, 0 ≤ c → c ≤ m → spNext ([.ref pd, .int (c + 1)] ++ []) H2 (fun v H' => Q v H') E0 := fun c c0 cm =>
      ⟨pd, po, t2, c + 1, rfl, hP2, by omega, by omega, by omega, fun d3 H3 t3 ht3 e0 e1 hP3 k3 => by
        obtain ⟨n, rfl⟩ := Int.eq_ofNat_of_zero_le e0
        exact q n H3 t3 (by omega) (by omega) hP3 (kk.trans k3)⟩
    by_cases hz : V.int d = V.int 0
    · rw [decide_eq_true hz]
      exact ⟨p, _, 1, .int b, rfl, rfl, SqL.of e2, atI_nat (j := 1) rfl, b, 1, rfl, rfl, fin b b0 bm⟩
    · rw [decide_eq_false hz]
      exact ⟨p, _, 0, .int a, rfl, rfl, SqL.of e2, atI_nat (j := 0) rfl, a, 1, rfl, rfl, fin a a0 am⟩
def spSigns : Sp := fun vs H Q _ => vs = [] ∧ ∀ z : Str, 1 ≤ z.length → z.length ≤ 1000 → (∀ c ∈ z.cps.toList, signB c = true) → Q (.str z) H
theorem ok_signs {f : Addr} {fd : FuncData} {k : Nat} (F : Fun K "_law_signs" "_law_signs" sSigns f fd) : FnOk P w K mg base CX0 (k + 1) f fd [] spSigns := by
  refine F.ok scSigns (fun vs H Q E h => ?_) (fun cdv A outer s H vs Q E hr h => ?_)
  · obtain ⟨rfl, _⟩ := h
    rfl
  · obtain ⟨rfl, q⟩ := h
    refine ⟨_, (pss_cons (ps_set (i := 0) scSigns.nd rfl (.inl rfl) pe_str)
      (pss_one (ps_ret (pe_op op_add_str (pv 0) pe_str)))), ?_⟩
    refine ⟨_, rfl, _, _, rfl, rfl, by decide +kernel, ?_⟩
    exact q _ (by decide +kernel) (by decide +kernel) (by decide +kernel)
def Sign1 (v : V) : Prop := ∃ c : Nat, v = .str ⟨#[c]⟩ ∧ signB c = true
def spText : Sp := fun vs H Q _ => ∃ (pd po : Addr) (t m : Nat) (a b : Int), vs = [.ref pd, .int a, .int b] ∧ Pot H pd po t ∧ t < 2 ^ 48 ∧ 0 ≤ a ∧ 0 ≤ b ∧ a ≤ m ∧ b ≤ m ∧ m ≤ 500 ∧
  ∀ (cs : List Nat) (H' : Hp) (t' : Nat), t' ≤ t + 4 + m → 1 ≤ cs.length → cs.length ≤ 1 + m → (∀ c ∈ cs, signB c = true) → Pot H' pd po t' → Kp (PM pd po) H H' → Q (.str ⟨cs.toArray⟩) H'
theorem ok_text {f fn fk fz fs : Addr} {fd fdn fdk fdz fds : FuncData} {k : Nat} (F : Fun K "_law_text" "_law_text" sText f fd)
    (GN : FnOk P w K mg base CX0 k fn fdn ["_law_pot_here", "_law_many"] spNext) (kn : PySem.W.keepIn K (.ref fn) = true) (bn : Binds K fdn ["_law_pot_here", "_law_many"] []) (gn : mg "_law_next" = some (.ref fn))
    (GK : FnOk P w K mg base CX0 (k + 1) fk fdk ["_law_pot_here", "_law_some"] (spPick K)) (kk : PySem.W.keepIn K (.ref fk) = true) (bk : Binds K fdk ["_law_pot_here", "_law_some"] []) (gk : mg "_law_pick" = some (.ref fk))
    (GZ : FnOk P w K mg base CX0 (k + 1) fz fdz ["_law_pot_here", "_law_few", "_law_most"] spSize) (kz : PySem.W.keepIn K (.ref fz) = true) (bz : Binds K fdz ["_law_pot_here", "_law_few", "_law_most"] []) (gz : mg "_law_size" = some (.ref fz))
    (GS : FnOk P w K mg base CX0 k fs fds [] spSigns) (ks : PySem.W.keepIn K (.ref fs) = true) (bs : Binds K fds [] []) (gs : mg "_law_signs" = some (.ref fs)) (mr : mg "range" = none) :
    FnOk P w K mg base CX0 (k + 2) f fd ["_law_pot_here", "_law_few", "_law_most"] spText := by
  refine F.ok scText (fun vs H Q E h => ?_) (fun cdv A outer s H vs Q E hr h => ?_)
  · obtain ⟨pd, po, t, m, a, b, rfl, _⟩ := h
    rfl
  · obtain ⟨pd, po, t, m, a, b, rfl, hP, ht, a0, b0, am, bm, hm, q⟩ := h
    have h48 : (2 : Nat) ^ 48 = 281474976710656 := by decide
    have h49 : (2 : Nat) ^ 49 = 562949953421312 := by decide
    have h50 : (2 : Nat) ^ 50 = 1125899906842624 := by decide
    have hr0 := hr.mono (show k ≤ k + 1 by omega)
    refine ⟨_, (pss_cons (ps_set (i := 3) scText.nd rfl (.inr rfl) (pe_ix ix_list (pe_lst (pa_cons pe_str (pa_cons pe_str (pa_cons pe_str (pa_cons (pe_call0 GS hr0 (by rfl) gs ks bs .nil pass0) pa_nil))))) (pe_call GN hr0 (by rfl) gn kn bn .nil pass0 (pa_cons (pv 0) (pa_cons pe_int pa_nil))) (fun _ _ => rfl)))
      (pss_one (ps_ret (pe_join pe_str (pe_lc (own := [("_law_k", 4)]) (g := gName 4) (tt := tYes) rfl scText.nd (pi_range1 (by rfl) mr (pa_cons (pe_op op_add pe_int (pe_call GZ hr (by rfl) gz kz bz .nil pass0 (pa_cons (pv 0) (pa_cons (pv 1) (pa_cons (pv 2) pa_nil))))) pa_nil)) (blkOk_by (N := ["_law_pot_here", "_law_few", "_law_most", "_law_some", "_law_k"]) (sc := defScope sText) (by decide +kernel)) (fun _ _ _ _ _ => (pg_name (i := 4) scText.nd rfl (.inl rfl))) (fun _ _ _ _ _ => pts_nil) (fun _ _ _ _ _ => (pe_call GK hr (by rfl) gk kk bk .nil pass0 (pa_cons (pv 0) (pa_cons (pv 3) pa_nil))))))))), ?_⟩
    refine ⟨rfl, fun zs zs1 zs2 zs3 => ⟨by show 4 ≤ sizeLine; decide, fun p np => ?_⟩⟩
    have hP1 := hP.new (o := .lst [V.str "ab", V.str "abc,;", V.str "0123456789", V.str zs]) np
    have hp := off_pot hP np
    refine ⟨_, rfl, pd, po, t, 4, rfl, hP1, by omega, by decide, by decide, fun d H2 t2 ht2 d0 d1 hP2 k2 => ?_⟩
    obtain ⟨v, hv, hmem⟩ := at_some (xs := [V.str "ab", V.str "abc,;", V.str "0123456789", V.str zs]) d0 d1
    refine ⟨p, _, d, v, rfl, rfl, SqL.of (k2 p _ hp upd_same), hv, ?_⟩
    have k2' : Kp (PM pd po) H H2 := (Kp.new np).trans k2
    obtain ⟨z, rfl, z1, z2, hz⟩ : ∃ z : Str, v = .str z ∧ 1 ≤ z.length ∧ z.length ≤ 1000 ∧ ∀ c ∈ z.cps.toList, Sign1 (.str ⟨#[c]⟩) := by
      have wrap : ∀ z : Str, (∀ c ∈ z.cps.toList, signB c = true) → ∀ c ∈ z.cps.toList, Sign1 (.str ⟨#[c]⟩) := fun z h c hc => ⟨c, rfl, h c hc⟩
      simp only [List.mem_cons, List.not_mem_nil, or_false] at hmem
      rcases hmem with e | e | e | e
      · exact ⟨_, e, by decide, by decide, wrap _ (by decide)⟩
      · exact ⟨_, e, by decide, by decide, wrap _ (by decide)⟩
      · exact ⟨_, e, by decide, by decide, wrap _ (by decide)⟩
      · exact ⟨_, e, zs1, zs2, wrap _ zs3⟩
    refine ⟨⟨_, rfl⟩, _, rfl, _, rfl, _, rfl, pd, po, t2, m, a, b, rfl, hP2, by omega, a0, b0, am, bm, by omega, fun d3 H3 t3 ht3 d3m hP3 k3 => ?_⟩
    have k3' : Kp (PM pd po) H H3 := k2'.trans k3
    refine ⟨_, _, rfl, rfl, 1 + (d3 : Int), rfl, by omega, by omega, fun D nD => ?_⟩
    have hD := off_pot hP3 nD
    refine lc_range (lo := 0) (n := (1 + (d3 : Int)).toNat) (fun i H4 => ∃ (t4 : Nat) (cs : List Nat), t4 ≤ t + 3 + i ∧ cs.length = i ∧ (∀ c ∈ cs, signB c = true) ∧ Pot H4 pd po t4 ∧ Kp (PM pd po) H H4 ∧ H4 D = some (.lst (cs.map fun c => V.str ⟨#[c]⟩))) ?_ ?_ ?_
    · exact ⟨t3, [], by omega, rfl, fun _ z => (nomatch z), hP3.new nD, k3'.trans (Kp.new nD), upd_same⟩
    · rintro i H4 hi ⟨t4, cs, ht4, hl, hc, hP4, k4, e4⟩
      refine ⟨rfl, tYes_ok (iteT ?_)⟩
      refine ⟨_, rfl, _, rfl, pd, po, t4, _, Sign1, rfl, hP4, by omega, .inl ⟨z, rfl, z1, z2, hz⟩, fun v' H5 t5 ht5 ⟨c, ev, c1⟩ hP5 k5 => ?_⟩
      subst ev
      have e5 := k5 D _ hD e4
      refine ⟨_, e5, by rw [List.length_map]; exact small1000 (by omega), t5, cs ++ [c], by omega, by rw [List.length_append, hl]; rfl, ?_, ?_, ?_, ?_⟩
      · intro b hb
        rcases List.mem_append.mp hb with h | h
        · exact hc b h
        · rw [List.mem_singleton.mp h]
          exact c1
      · exact hP5.keep (M := fun b => b = D) (Kp.put rfl) (fun h => hD (.inl h.symm)) (fun h => hD (.inr h.symm))
      · intro b u hb e
        have nb : b ≠ D := fun h => by
          have q2 := k3' b u hb e
          rw [h, nD] at q2
          cases q2
        rw [upd_ne nb]
        exact k5 b u hb (k4 b u hb e)
      · rw [upd_same, List.map_append]
        rfl
    · rintro H4 ⟨t4, cs, ht4, hl, hc, hP4, k4, e4⟩
      refine ⟨_, D, cs.map fun c => (⟨#[c]⟩ : Str), rfl, rfl, .inl (SqL.of (by rw [e4, List.map_map]; rfl)), ?_, ?_⟩
      · rw [sum_ones]
        show cs.length + _ * 0 ≤ _
        omega
      · rw [join_signs]
        exact q cs H4 t4 (by omega) (by omega) (by omega) hc hP4 k4
end
end RT

namespace RT
open PySem PySem.Spec PyProof.Rows L2
def szT : Nat → Nat
  | 0 => 1
  | n + 1 => 1 + 7 * szT n
def cT : Nat → Nat
  | 0 => 40
  | n + 1 => 40 + 7 * cT n
theorem szT_pos : ∀ n, 1 ≤ szT n
  | 0 => Nat.le_refl _
  | n + 1 => Nat.le_add_right _ _
theorem szT_mono : ∀ n, szT n ≤ szT (n + 1) := fun n => by
  show szT n ≤ 1 + 7 * szT n
  omega
theorem cT_mono : ∀ n, cT n ≤ cT (n + 1) := fun n => by
  show cT n ≤ 40 + 7 * cT n
  omega
theorem cT_40 : ∀ n, 40 ≤ cT n
  | 0 => Nat.le_refl _
  | n + 1 => Nat.le_add_right _ _
mutual
def Tr.deep : Tr → Nat
  | .leaf _ _ => 0
  | .tup ts => Tr.deepAll ts + 1
def Tr.deepAll : List Tr → Nat
  | [] => 0
  | t :: ts => max t.deep (Tr.deepAll ts)
end
theorem deepAll_app : ∀ ts us : List Tr, Tr.deepAll (ts ++ us) = max (Tr.deepAll ts) (Tr.deepAll us)
  | [], us => by simp [Tr.deepAll]
  | t :: r, us => by
    simp only [List.cons_append, Tr.deepAll, deepAll_app r us]
    omega
section
variable {P : Program} {w : World} {K : PySem.W.Frag} {mg : Str → Option Value} {base : Heap}
/-- a thing is drawn, of at most n more depths -/
def spTh (n : Nat) : Sp := fun vs H Q _ => ∃ (pd po : Addr) (t d : Nat), vs = [.ref pd, .int d] ∧ Pot H pd po t ∧ t + cT d < 2 ^ 47 ∧ d < n ∧ szT d ≤ 100000 ∧
  ∀ (v : V) (tr : Tr) (H' : Hp) (t' : Nat), t' ≤ t + cT d → Rep H' v tr → tr.good = true → tr.size ≤ szT d → tr.deep ≤ d → Pot H' pd po t' → Kp (PM pd po) H H' → Q v H'
theorem none_th {f : Addr} {fd : FuncData} {k : Nat} : FnOk P w K mg base CX0 k f fd ["_law_pot_here", "_law_deep"] (spTh 0) :=
  ⟨fun vs H Q E h => by obtain ⟨_, _, _, _, _, _, _, h, _⟩ := h; exact absurd h (Nat.not_lt_zero _), fun A outer s H args us vs Q E _ _ _ _ h => by obtain ⟨_, _, _, _, _, _, _, h, _⟩ := h; exact absurd h (Nat.not_lt_zero _)⟩
theorem ok_th {f fn fz fx : Addr} {fd fdn fdz fdx : FuncData} {k n : Nat} (F : Fun K "_law_thing" "_law_thing" sTh f fd) (hk : 3 ≤ k)
    (GN : FnOk P w K mg base CX0 1 fn fdn ["_law_pot_here", "_law_many"] spNext) (kn : PySem.W.keepIn K (.ref fn) = true) (bn : Binds K fdn ["_law_pot_here", "_law_many"] []) (gn : mg "_law_next" = some (.ref fn))
    (GZ : FnOk P w K mg base CX0 2 fz fdz ["_law_pot_here", "_law_few", "_law_most"] spSize) (kz : PySem.W.keepIn K (.ref fz) = true) (bz : Binds K fdz ["_law_pot_here", "_law_few", "_law_most"] []) (gz : mg "_law_size" = some (.ref fz))
    (GX : FnOk P w K mg base CX0 3 fx fdx ["_law_pot_here", "_law_few", "_law_most"] spText) (kx : PySem.W.keepIn K (.ref fx) = true) (bx : Binds K fdx ["_law_pot_here", "_law_few", "_law_most"] []) (gx : mg "_law_text" = some (.ref fx))
    (GT : FnOk P w K mg base CX0 k f fd ["_law_pot_here", "_law_deep"] (spTh n)) (kt : PySem.W.keepIn K (.ref f) = true) (bt : Binds K fd ["_law_pot_here", "_law_deep"] []) (gt : mg "_law_thing" = some (.ref f)) (mr : mg "range" = none) (mtup : mg "tuple" = none) :
    FnOk P w K mg base CX0 (k + 1) f fd ["_law_pot_here", "_law_deep"] (spTh (n + 1)) := by
  refine F.ok scTh (fun vs H Q E h => ?_) (fun cdv A outer s H vs Q E hr h => ?_)
  · obtain ⟨pd, po, t, d, rfl, _⟩ := h
    rfl
  · obtain ⟨pd, po, t, d, rfl, hP, ht, hd, hsz, q⟩ := h
    have h47 : (2 : Nat) ^ 47 = 140737488355328 := by decide
    have h48 : (2 : Nat) ^ 48 = 281474976710656 := by decide
    have h49 : (2 : Nat) ^ 49 = 562949953421312 := by decide
    have h50 : (2 : Nat) ^ 50 = 1125899906842624 := by decide
    have hrN := hr.mono (show 1 ≤ k by omega)
    have hrZ := hr.mono (show 2 ≤ k by omega)
    have hrX := hr.mono hk
    have c40 := cT_40 d
    refine ⟨_, (pss_cons (ps_set (i := 2) scTh.nd rfl (.inl rfl) (pe_call GN hrN (by rfl) gn kn bn .nil pass0 (pa_cons (pv 0) (pa_cons pe_int pa_nil))))
      (pss_cons (ps_if (PW.pt (pw_and (pt_cmpR op_eq (pv 2) pe_int (nomark _)) (pw_and1 (pt_cmpR op_gt (pv 1) pe_int (nomark _))))) (pss_one (ps_ret (pe_callTy call_tuple_of (by rfl) mtup (by decide +kernel) (pa_cons (pe_lc (own := [("_law_k", 3)]) (g := gName 3) (tt := tYes) rfl scTh.nd (pi_range1 (by rfl) mr (pa_cons (pe_call GZ hrZ (by rfl) gz kz bz .nil pass0 (pa_cons (pv 0) (pa_cons pe_int (pa_cons pe_int pa_nil)))) pa_nil)) (blkOk_by (N := ["_law_pot_here", "_law_deep", "_law_way", "_law_k"]) (sc := defScope sTh) (by decide +kernel)) (fun _ _ _ _ _ => (pg_name (i := 3) scTh.nd rfl (.inl rfl))) (fun _ _ _ _ _ => pts_nil) (fun _ _ _ _ _ => (pe_call GT hr (by rfl) gt kt bt .nil pass0 (pa_cons (pv 0) (pa_cons (pe_op op_sub (pv 1) pe_int) pa_nil))))) pa_nil)))) pss_nil)
      (pss_cons (ps_if (pt_cmpR op_eq (pv 2) pe_int (nomark _)) (pss_one (ps_ret (pe_ix ix_list (pe_lst (pa_cons pe_int (pa_cons pe_int (pa_cons pe_int (pa_cons (pe_op op_pow pe_int pe_int) (pa_cons (pe_call GN hrN (by rfl) gn kn bn .nil pass0 (pa_cons (pv 0) (pa_cons pe_int pa_nil))) pa_nil)))))) (pe_call GN hrN (by rfl) gn kn bn .nil pass0 (pa_cons (pv 0) (pa_cons pe_int pa_nil))) (fun _ _ => rfl)))) pss_nil)
      (pss_cons (ps_if (pt_cmpR op_eq (pv 2) pe_int (nomark _)) (pss_one (ps_ret pe_str)) pss_nil)
      (pss_one (ps_ret (pe_call GX hrX (by rfl) gx kx bx .nil pass0 (pa_cons (pv 0) (pa_cons pe_int (pa_cons pe_int pa_nil)))))))))), ?_⟩
    refine ⟨_, rfl, pd, po, t, 4, rfl, hP, by omega, by decide, by decide, fun way H1 t1 ht1 w0 w1 hP1 k1 => ?_⟩
    -- the last way
    have last : ∀ H2, H2 = H1 → spText ([.ref pd, .int 2, .int 11] ++ []) H2 Q E0 := fun H2 e2 => by
      subst e2
      refine ⟨pd, po, t1, 11, 2, 11, rfl, hP1, by omega, by decide, by decide, by decide, by decide, by decide, fun cs H3 t3 ht3 l1 l2 hc hP3 k3 => ?_⟩
      have el : (⟨cs.toArray⟩ : Str).length = cs.length := by simp [Str.length]
      have hg : (⟨cs.toArray⟩ : Str).cps.toList.all signB = true := List.all_eq_true.mpr hc
      refine q _ (.leaf (.str ⟨cs.toArray⟩) ((⟨cs.toArray⟩ : Str).cps.toList.all signB)) H3 t3 (by omega) (.leaf (.str (by rw [el]; exact Nat.le_of_lt (small1000 (by omega))))) hg (szT_pos d) (Nat.zero_le _) hP3 (k1.trans k3)
    -- behind the tuples
    have rest : ∀ y3, tSeq (tIfS (tTest (tOp rEq (tVar 2) (tC (.int 1)))) (tRet (tOp (rIxL K) (tLst (tCons (tC (.int 0)) (tCons (tC (.int 1)) (tCons (tC (.int 7)) (tCons (tOp (rI CPow fun i j => .int (i ^ j.toNat)) (tC (.int 10)) (tC (.int 12))) (tCons (tCall spNext [] E0 (tCons (tVar 0) (tCons (tC (.int 1000)) tNil))) tNil)))))) (tCall spNext [] E0 (tCons (tVar 0) (tCons (tC (.int 5)) tNil))))) tNext)
        (tSeq (tIfS (tTest (tOp rEq (tVar 2) (tC (.int 2)))) (tRet (tC (.str ""))) tNext) (tRet (tCall spText [] E0 (tCons (tVar 0) (tCons (tC (.int 2)) (tCons (tC (.int 11)) tNil))))))
        { nx := fun _ H' => Q .non H', rt := Q } [some (.ref pd), some (.int d), some (.int way), y3] H1 := fun y3 => by
      refine ⟨_, rfl, rfl, _, rfl, ite2 (fun c1 => ?_) (fun c1 => ?_)⟩
      · -- a number
        refine ⟨_, _, rfl, rfl, ⟨by decide, by decide, by decide⟩, _, rfl, pd, po, t1, 1000, rfl, hP1, by omega, by decide, by decide, fun d2 H2 t2 ht2 e0 e1 hP2 k2 => ?_⟩
        refine ⟨by show 5 ≤ sizeLine; decide, fun p np => ?_⟩
        have hP3 := hP2.new (o := .lst [V.int 0, V.int 1, V.int 7, V.int (10 ^ 12), V.int d2]) np
        have hp := off_pot hP2 np
        refine ⟨_, rfl, pd, po, t2, 5, rfl, hP3, by omega, by decide, by decide, fun d4 H4 t4 ht4 f0 f1 hP4 k4 => ?_⟩
        obtain ⟨v, hv, hm⟩ := at_some (xs := [V.int 0, V.int 1, V.int 7, V.int (10 ^ 12), V.int d2]) f0 f1
        refine ⟨p, _, d4, v, rfl, rfl, SqL.of (k4 p _ hp upd_same), hv, ?_⟩
        obtain ⟨i, rfl, hi⟩ : ∃ i : Int, v = .int i ∧ 0 ≤ i := by
          simp only [List.mem_cons, List.not_mem_nil, or_false] at hm
          rcases hm with e | e | e | e | e
          · exact ⟨_, e, by decide⟩
          · exact ⟨_, e, by decide⟩
          · exact ⟨_, e, by decide⟩
          · exact ⟨_, e, by decide⟩
          · exact ⟨_, e, e0⟩
        exact q _ (.leaf (.int i) (decide (0 ≤ i))) H4 t4 (by omega) (.leaf (.int i)) (decide_eq_true hi) (szT_pos d) (Nat.zero_le _) hP4 (k1.trans (k2.trans ((Kp.new np).trans k4)))
      · refine ⟨_, rfl, rfl, _, rfl, ite2 (fun c2 => ?_) (fun c2 => ?_)⟩
        · exact q (.str "") (.leaf (.str "") true) H1 t1 (by omega) (.leaf (.str (by decide))) rfl (szT_pos d) (Nat.zero_le _) hP1 k1
        · exact ⟨_, rfl, last H1 rfl⟩
    refine ⟨_, rfl, rfl, _, rfl, ite2 (fun c0 => ?_) (fun c0 => ?_)⟩
    · refine ⟨_, rfl, _, _, rfl, rfl, _, rfl, ?_⟩
      by_cases hd0 : (0 : Int) < d
      · have e1 : decide ((0 : Int) < d) = true := decide_eq_true hd0
        rw [e1]
        refine iteT ?_
        obtain ⟨d', rfl⟩ : ∃ d', d = d' + 1 := ⟨d - 1, by omega⟩
        have ecT : cT (d' + 1) = 40 + 7 * cT d' := rfl
        have esz : szT (d' + 1) = 1 + 7 * szT d' := rfl
        have c40' := cT_40 d'
        refine ⟨_, rfl, pd, po, t1, 7, 2, 7, rfl, hP1, by omega, by decide, by decide, by decide, by decide, by decide, fun m H2 t2 ht2 hm hP2 k2 => ?_⟩
        refine ⟨_, rfl, by omega, by omega, fun D nD => ?_⟩
        have hD := off_pot hP2 nD
        have kH2 : Kp (PM pd po) H H2 := k1.trans k2
        refine lc_range (lo := 0) (n := (m : Int).toNat) (fun i H4 => ∃ (t4 : Nat) (ws : List V) (ts : List Tr), t4 ≤ t + 3 + i * cT d' ∧ ws.length = i ∧ RepAll H4 ws ts ∧ Tr.goodAll ts = true ∧ Tr.sizeAll ts ≤ i * szT d' ∧ Tr.deepAll ts ≤ d' ∧ Pot H4 pd po t4 ∧ Kp (PM pd po) H H4 ∧ H4 D = some (.lst ws)) ?_ ?_ ?_
        · exact ⟨t2, [], [], by omega, rfl, .nil, rfl, Nat.zero_le _, Nat.zero_le _, hP2.new nD, kH2.trans (Kp.new nD), upd_same⟩
        · rintro i H4 hi ⟨t4, ws, ts, ht4, hl, hR, hg, hsz2, hdp, hP4, k4, e4⟩
          have hi7 : i < 7 := by omega
          have hmul : i * cT d' ≤ 6 * cT d' := Nat.mul_le_mul_right _ (by omega)
          refine ⟨rfl, tYes_ok (iteT ?_)⟩
          refine ⟨_, rfl, _, rfl, _, _, rfl, rfl, pd, po, t4, d', by (show [V.ref pd, V.int ((d' + 1 : Nat) - 1 : Int)] = _; rw [show (((d' + 1 : Nat) : Int) - 1) = (d' : Int) by omega]), hP4, by omega, by omega, by omega, fun v tr H5 t5 ht5 hRv hgv hsv hdv hP5 k5 => ?_⟩
          have e5 := k5 D _ hD e4
          have hR5 := RepAll.keepG k5 (no_tup_pot hP4) hR hg
          have noD : ∀ a xs, a = D → H5 a ≠ some (.tup xs) := fun a xs z e => by
            rw [z, e5] at e
            cases e
          refine ⟨_, e5, by rw [hl]; exact small1000 (by omega), t5, ws ++ [v], ts ++ [tr], ?_, by rw [List.length_append, hl]; rfl, ?_, ?_, ?_, ?_, ?_, ?_, upd_same⟩
          · rw [Nat.succ_mul]
            omega
          · exact (RepAll.keepG Kp.put' noD hR5 hg).app (.cons (hRv.keepG Kp.put' noD hgv) .nil)
          · rw [goodAll_app, hg]
            simp [Tr.goodAll, hgv]
          · rw [sizeAll_app, Nat.succ_mul]
            simp only [Tr.sizeAll]
            omega
          · rw [deepAll_app]
            simp only [Tr.deepAll]
            omega
          · exact hP5.keep (M := fun b => b = D) (Kp.put rfl) (fun h => hD (.inl h.symm)) (fun h => hD (.inr h.symm))
          · intro b u hb e
            have nb : b ≠ D := fun h => by
              have q2 := kH2 b u hb e
              rw [h, nD] at q2
              cases q2
            rw [upd_ne nb]
            exact k5 b u hb (k4 b u hb e)
        · rintro H4 ⟨t4, ws, ts, ht4, hl, hR, hg, hsz2, hdp, hP4, k4, e4⟩
          have hm7 : (m : Int).toNat = m := Int.toNat_natCast m
          rw [hm7] at ht4 hl hsz2
          have hmul : m * cT d' ≤ 7 * cT d' := Nat.mul_le_mul_right _ hm
          have hmul2 : m * szT d' ≤ 7 * szT d' := Nat.mul_le_mul_right _ hm
          refine ⟨D, ws, rfl, .inl ⟨SqL.of e4, fun l nl => ?_⟩⟩
          have noN : ∀ a xs, M0 a → H4 a ≠ some (.tup xs) := fun a xs z => z.elim
          refine q _ (.tup ts) _ t4 (by omega) (.tup upd_same (RepAll.keepG (Kp.new (M := M0) nl) noN hR hg)) hg ?_ ?_ (hP4.new nl) (k4.trans (Kp.new nl))
          · simp only [Tr.size]
            omega
          · simp only [Tr.deep]
            omega
      · have e1 : decide ((0 : Int) < d) = false := decide_eq_false hd0
        rw [e1]
        exact iteF (rest _)
    · exact iteF (rest _)
end
end RT

namespace RT
open PySem PySem.Spec PyProof.Rows L2
abbrev sSp : Stmt := topS 16
theorem scSp : FnScope ["_law_pot_here", "_law_thing_here", "_law_deep", "_law_at", "_law_inner"] ["_law_pot_here", "_law_thing_here", "_law_deep"] (defScope sSp) := ⟨rfl, rfl, rfl, by decide +kernel, rfl, by decide +kernel, by decide +kernel⟩
/-! ### data of good things -/
def vData : V → PyData
  | .str z => .str z
  | .int i => .int i
  | _ => .none
mutual
def Tr.data : Tr → PyData
  | .leaf v _ => vData v
  | .tup ts => .tuple (Tr.dataAll ts)
def Tr.dataAll : List Tr → List PyData
  | [] => []
  | t :: ts => t.data :: Tr.dataAll ts
end
theorem sign_lt {c : Nat} (h : signB c = true) : c < 127 := by
  unfold signB at h
  by_cases e : c = 10
  · omega
  · rw [if_neg e] at h
    have h1 := (Bool.and_eq_true_iff.mp (Bool.and_eq_true_iff.mp h).1).2
    have e2 : (Str.ofString "~").cps.toList = [126] := rfl
    rw [e2, Bool.not_eq_true', decide_eq_false_iff_not] at h1
    have := mt (lt1 126 c).mpr h1
    omega
mutual
theorem Rep.dp {K : PySem.W.Frag} {H : Hp} : ∀ {v : V} {t : Tr}, Rep H v t → t.good = true → Dp K H v t.data ∧ t.data.canLay0 = true ∧ t.data.depth ≤ t.deep
  | _, _, .leaf l, g => by
    cases l with
    | @str z hz =>
      refine ⟨.str z, ?_, Nat.le_refl _⟩
      show PyData.strOk z = true
      unfold PyData.strOk
      rw [Array.all_eq_true']
      intro c hc
      have := sign_lt (List.all_eq_true.mp g c (Array.mem_toList_iff.mpr hc))
      exact decide_eq_true (by omega)
    | int i => exact ⟨.int i, rfl, Nat.le_refl _⟩
    | non => cases g
    | bl b => cases g
    | lst e => cases g
    | dK e => cases g
  | _, _, .tup e r, g => by
    obtain ⟨a, b, c⟩ := RepAll.dp (K := K) r g
    refine ⟨.tup (SqT.of e) a, b, ?_⟩
    show _ + 1 ≤ _ + 1
    exact Nat.succ_le_succ c
theorem RepAll.dp {K : PySem.W.Frag} {H : Hp} : ∀ {vs : List V} {ts : List Tr}, RepAll H vs ts → Tr.goodAll ts = true → DpAll K H vs (Tr.dataAll ts) ∧ PyData.canLayAll0 (Tr.dataAll ts) = true ∧ PyData.depthAll (Tr.dataAll ts) ≤ Tr.deepAll ts
  | _, _, .nil, _ => ⟨.nil, rfl, Nat.le_refl _⟩
  | _, _, .cons q r, g => by
    have g2 := Bool.and_eq_true_iff.mp g
    obtain ⟨a, b, c⟩ := Rep.dp (K := K) q g2.1
    obtain ⟨a', b', c'⟩ := RepAll.dp (K := K) r g2.2
    refine ⟨.cons a a', ?_, ?_⟩
    · show (_ && _) = true
      rw [b, b']
      rfl
    · show max _ _ ≤ max _ _
      omega
end
theorem shaped_of {t : Tr} (h1 : t.data.canLay0 = true) (h2 : t.data.depth ≤ t.deep) (h3 : t.deep ≤ 60) : SeqAt.shaped t.data = true := by
  unfold SeqAt.shaped
  rw [h1, decide_eq_true (by omega)]
  rfl
theorem RepAll.at {H : Hp} : ∀ {vs : List V} {ts : List Tr} (i : Nat), RepAll H vs ts → i < vs.length → ∃ (v : V) (t : Tr), vs[i]? = some v ∧ Rep H v t ∧ RepAll H (vs.take i) (ts.take i) ∧ RepAll H (vs.drop (i + 1)) (ts.drop (i + 1)) ∧ ts = ts.take i ++ t :: ts.drop (i + 1)
  | _, _, _, .nil, h => absurd h (Nat.not_lt_zero _)
  | _, _, 0, .cons q r, _ => ⟨_, _, rfl, q, .nil, r, rfl⟩
  | _, _, i + 1, .cons q r, h => by
    obtain ⟨v, t, e1, e2, e3, e4, e5⟩ := RepAll.at i r (Nat.lt_of_succ_lt_succ h)
    exact ⟨v, t, e1, e2, .cons q e3, e4, congrArg _ e5⟩
section
variable {K : PySem.W.Frag} {H : Hp}
theorem slA {a : Addr} {xs : List V} {lo hi : Option Int} {Q : VK} (e : H a = some (.tup xs)) (h : ∀ b H', H' b = some (.tup (cutV xs lo hi)) → Kp M0 H H' → Q (.ref b) H') : rSlA K (.ref a) lo hi H Q := by
  refine ⟨a, xs, rfl, SqT.of e, fun z => h a H ?_ Kp.refl, fun _ p np => h p _ upd_same (Kp.new np)⟩
  unfold cutV
  rw [z.1, z.2, Nat.sub_zero, List.drop_zero, List.take_length]
  exact e
theorem ctA {a b : Addr} {xs ys : List V} {Q : VK} (e : H a = some (.tup xs)) (e2 : H b = some (.tup ys)) (hl : xs.length + ys.length ≤ sizeLine) (h : ∀ c H', H' c = some (.tup (xs ++ ys)) → Kp M0 H H' → Q (.ref c) H') : rCatA K (.ref a) (.ref b) H Q := by
  refine ⟨a, b, xs, ys, rfl, rfl, SqT.of e, SqT.of e2, hl, fun z => h b H ?_ Kp.refl, fun _ z => h a H ?_ Kp.refl, fun _ _ p np => h p _ upd_same (Kp.new np)⟩
  · rw [z, List.nil_append]
    exact e2
  · rw [z, List.append_nil]
    exact e
end
theorem noPart_ok {σ : L2.St} {H : Hp} {k : Option Int → Hp → Prop} (h : k none H) : tNoPart σ H k := h
theorem cut_to (xs : List V) (i : Nat) (h : i ≤ xs.length) : cutV xs none (some (i : Int)) = xs.take i := by
  unfold cutV
  rw [HT.sIx_none, HT.sIx_nat, List.drop_zero, Nat.sub_zero, Nat.min_eq_left h]
theorem cut_from (xs : List V) (i : Nat) (h : i ≤ xs.length) : cutV xs (some (i : Int)) none = xs.drop i := by
  unfold cutV
  rw [HT.sIx_none, HT.sIx_nat, Nat.min_eq_left h]
  exact List.take_of_length_le (by rw [List.length_drop]; exact Nat.le_refl _)
section
variable {P : Program} {w : World} {K : PySem.W.Frag} {mg : Str → Option Value} {base : Heap}
def spSp (n : Nat) : Sp := fun vs H Q _ => ∃ (pd po : Addr) (t d : Nat) (v : V) (tr : Tr), vs = [.ref pd, v, .int d] ∧ Pot H pd po t ∧ t + 10 * (d + 1) < 2 ^ 47 ∧ d < n ∧ Rep H v tr ∧ tr.good = true ∧ tr.size ≤ 90000 ∧ tr.deep ≤ 50 ∧
  ∀ (v' : V) (tr' : Tr) (H' : Hp) (t' : Nat), t' ≤ t + 10 * (d + 1) → Rep H' v' tr' → tr'.good = false → tr'.size ≤ tr.size + 3 → Pot H' pd po t' → Kp (PM pd po) H H' → Q v' H'
theorem none_sp {f : Addr} {fd : FuncData} {k : Nat} : FnOk P w K mg base CX0 k f fd ["_law_pot_here", "_law_thing_here", "_law_deep"] (spSp 0) :=
  ⟨fun vs H Q E h => by obtain ⟨_, _, _, _, _, _, _, _, _, h, _⟩ := h; exact absurd h (Nat.not_lt_zero _), fun A outer s H args us vs Q E _ _ _ _ h => by obtain ⟨_, _, _, _, _, _, _, _, _, h, _⟩ := h; exact absurd h (Nat.not_lt_zero _)⟩
/-- what the last pick gives -/
def BadV (pd po : Addr) (H : Hp) (v : V) : Prop := ∃ tr : Tr, tr.good = false ∧ tr.size ≤ 3 ∧ ∀ H', Kp (PM pd po) H H' → Rep H' v tr
theorem ok_sp {f fn fk : Addr} {fd fdn fdk : FuncData} {k n : Nat} (F : Fun K "_law_spoilt" "_law_spoilt" sSp f fd) (hk : 2 ≤ k)
    (GN : FnOk P w K mg base CX0 1 fn fdn ["_law_pot_here", "_law_many"] spNext) (kn : PySem.W.keepIn K (.ref fn) = true) (bn : Binds K fdn ["_law_pot_here", "_law_many"] []) (gn : mg "_law_next" = some (.ref fn))
    (GK : FnOk P w K mg base CX0 2 fk fdk ["_law_pot_here", "_law_some"] (spPick K)) (kk : PySem.W.keepIn K (.ref fk) = true) (bk : Binds K fdk ["_law_pot_here", "_law_some"] []) (gk : mg "_law_pick" = some (.ref fk))
    (GS : FnOk P w K mg base CX0 k f fd ["_law_pot_here", "_law_thing_here", "_law_deep"] (spSp n)) (ks : PySem.W.keepIn K (.ref f) = true) (bs : Binds K fd ["_law_pot_here", "_law_thing_here", "_law_deep"] []) (gs : mg "_law_spoilt" = some (.ref f)) (mi : mg "isinstance" = none) (mtup : mg "tuple" = none) (ml : mg "len" = none) :
    FnOk P w K mg base CX0 (k + 1) f fd ["_law_pot_here", "_law_thing_here", "_law_deep"] (spSp (n + 1)) := by
  refine F.ok scSp (fun vs H Q E h => ?_) (fun cdv A outer s H vs Q E hr h => ?_)
  · obtain ⟨pd, po, t, d, v, tr, rfl, _⟩ := h
    rfl
  · obtain ⟨pd, po, t, d, v, tr, rfl, hP, ht, hd, hR, hg, hsz, hdp, q⟩ := h
    have h47 : (2 : Nat) ^ 47 = 140737488355328 := by decide
    have h50 : (2 : Nat) ^ 50 = 1125899906842624 := by decide
    have hrN := hr.mono (show 1 ≤ k by omega)
    have hrK := hr.mono hk
    have hrow : ∀ y3 y4 (H1 : Hp) (t1 : Nat), Pot H1 pd po t1 → Kp (PM pd po) H H1 → t1 ≤ t + 2 →
        tRet (tCall (spPick K) [] E0 (tCons (tVar 0) (tCons (tLst (tCons (tC .non) (tCons (tC (.bl true)) (tCons (tC (.bl false)) (tCons (tUn (rU fun i => .int (-i)) (tC (.int 1))) (tCons (tUn (rU fun i => .int (-i)) (tOp (rI CPow fun i j => .int (i ^ j.toNat)) (tC (.int 10)) (tC (.int 20))))
          (tCons (tLst tNil) (tCons (tLst (tCons (tVar 1) tNil)) (tCons tDNewK (tCons (tC (.str "\t")) (tCons (tC (.str "a\t")) (tCons (tTup (tCons (tC .non) tNil)) (tCons (tTup (tCons (tLst tNil) tNil)) tNil))))))))))))) tNil)))
          { nx := fun _ H' => Q .non H', rt := Q } [some (.ref pd), some v, some (.int d), y3, y4] H1 := by
      intro y3 y4 H1 t1 hP1 k1 ht1
      refine ⟨_, rfl, _, rfl, _, _, rfl, rfl, ⟨by decide, by decide, by decide⟩, _, rfl, by show 0 ≤ sizeLine; decide, fun p1 n1 => ⟨_, rfl, by show 1 ≤ sizeLine; decide, fun p2 n2 => fun p3 n3 => ?_⟩⟩
      refine ⟨by show 1 ≤ sizeLine; decide, fun p4 n4 => ⟨by show 0 ≤ sizeLine; decide, fun p5 n5 => ⟨by show 1 ≤ sizeLine; decide, fun p6 n6 => ⟨by show 12 ≤ sizeLine; decide, fun L nL => ?_⟩⟩⟩⟩
      have Pa := hP1.new (o := .lst []) n1
      have Pb := Pa.new (o := .lst [v]) n2
      have Pc := Pb.new (o := .dK []) n3
      have Pd := Pc.new (o := .tup [.non]) n4
      have Pe := Pd.new (o := .lst []) n5
      have Pf := Pe.new (o := .tup [.ref p5]) n6
      have Pg := Pf.new (o := .lst [V.non, V.bl true, V.bl false, V.int (-1), V.int (-(10 ^ 20)), V.ref p1, V.ref p2, V.ref p3, V.str "\t", V.str "a\t", V.ref p4, V.ref p6]) nL
      have o1 := off_pot hP1 n1
      have o2 := off_pot Pa n2
      have o3 := off_pot Pb n3
      have o4 := off_pot Pc n4
      have o5 := off_pot Pd n5
      have o6 := off_pot Pe n6
      have oL := off_pot Pf nL
      have keepL : Kp M0 _ _ := Kp.new (M := M0) (o := .lst [V.non, V.bl true, V.bl false, V.int (-1), V.int (-(10 ^ 20)), V.ref p1, V.ref p2, V.ref p3, V.str "\t", V.str "a\t", V.ref p4, V.ref p6]) nL
      have e6 := keepL p6 (.tup [.ref p5]) (fun z => z) upd_same
      have k6 : Kp M0 _ _ := (Kp.new (M := M0) (o := .tup [.ref p5]) n6).trans keepL
      have e5 := k6 p5 (.lst []) (fun z => z) upd_same
      have k5 : Kp M0 _ _ := (Kp.new (M := M0) (o := .lst []) n5).trans k6
      have e4 := k5 p4 (.tup [.non]) (fun z => z) upd_same
      have k4 : Kp M0 _ _ := (Kp.new (M := M0) (o := .tup [.non]) n4).trans k5
      have e3 := k4 p3 (.dK []) (fun z => z) upd_same
      have k3 : Kp M0 _ _ := (Kp.new (M := M0) (o := .dK []) n3).trans k4
      have e2 := k3 p2 (.lst [v]) (fun z => z) upd_same
      have k2 : Kp M0 _ _ := (Kp.new (M := M0) (o := .lst [v]) n2).trans k3
      have e1 := k2 p1 (.lst []) (fun z => z) upd_same
      have k0 : Kp M0 H1 _ := (Kp.new (M := M0) (o := .lst []) n1).trans k2
      have fin : ∀ Hg : Hp, Pot Hg pd po t1 → Kp M0 H1 Hg → Hg p1 = some (.lst []) → Hg p2 = some (.lst [v]) → Hg p3 = some (.dK []) → Hg p4 = some (.tup [.non]) → Hg p5 = some (.lst []) → Hg p6 = some (.tup [.ref p5]) →
          Hg L = some (.lst [V.non, V.bl true, V.bl false, V.int (-1), V.int (-(10 ^ 20)), V.ref p1, V.ref p2, V.ref p3, V.str "\t", V.str "a\t", V.ref p4, V.ref p6]) → spPick K [.ref pd, .ref L] Hg (fun v H' => Q v H') E0 := by
        intro Hg Pg k0 e1 e2 e3 e4 e5 e6 eL
        refine ⟨pd, po, t1, .ref L, BadV pd po Hg, rfl, Pg, by omega, .inr ⟨L, _, rfl, eL, fun z => oL (.inr z), by show 1 ≤ 12; decide, by show 12 ≤ 1000; decide, ?_⟩, fun v' H' t' ht' hb hP' hk' => ?_⟩
        · intro y hy
          simp only [List.mem_cons, List.not_mem_nil, or_false] at hy
          rcases hy with e | e | e | e | e | e | e | e | e | e | e | e
          · exact ⟨.leaf .non false, rfl, by decide, fun H' k => by rw [e]; exact .leaf .non⟩
          · exact ⟨.leaf (.bl true) false, rfl, by decide, fun H' k => by rw [e]; exact .leaf (.bl _)⟩
          · exact ⟨.leaf (.bl false) false, rfl, by decide, fun H' k => by rw [e]; exact .leaf (.bl _)⟩
          · exact ⟨.leaf (.int (-1)) (decide ((0 : Int) ≤ -1)), rfl, by decide, fun H' k => by rw [e]; exact .leaf (.int _)⟩
          · exact ⟨.leaf (.int (-(10 ^ 20))) (decide ((0 : Int) ≤ -(10 ^ 20))), rfl, by decide, fun H' k => by rw [e]; exact .leaf (.int _)⟩
          · exact ⟨.leaf (.ref p1) false, rfl, by show 1 ≤ 3; decide, fun H' k => by rw [e]; exact .leaf (.lst (k _ _ o1 e1))⟩
          · exact ⟨.leaf (.ref p2) false, rfl, by show 1 ≤ 3; decide, fun H' k => by rw [e]; exact .leaf (.lst (k _ _ o2 e2))⟩
          · exact ⟨.leaf (.ref p3) false, rfl, by show 1 ≤ 3; decide, fun H' k => by rw [e]; exact .leaf (.dK (k _ _ o3 e3))⟩
          · exact ⟨.leaf (.str "\t") ((Str.ofString "\t").cps.toList.all signB), by decide, by decide, fun H' k => by rw [e]; exact .leaf (.str (by decide))⟩
          · exact ⟨.leaf (.str "a\t") ((Str.ofString "a\t").cps.toList.all signB), by decide, by decide, fun H' k => by rw [e]; exact .leaf (.str (by decide))⟩
          · exact ⟨.tup [.leaf .non false], rfl, by decide, fun H' k => by rw [e]; exact .tup (k _ _ o4 e4) (.cons (.leaf .non) .nil)⟩
          · exact ⟨.tup [.leaf (.ref p5) false], rfl, by show 1 + (1 + 0) ≤ 3; decide, fun H' k => by rw [e]; exact .tup (k _ _ o6 e6) (.cons (.leaf (.lst (k _ _ o5 e5))) .nil)⟩
        · obtain ⟨tr', g', s', r'⟩ := hb
          refine q v' tr' H' t' (by omega) (r' H' hk') g' (by omega) hP' ((k1.trans (k0.mono fun _ z => z.elim)).trans hk')
      exact fin _ Pg k0 e1 e2 e3 e4 e5 e6 upd_same
    refine ⟨_, (pss_cons (ps_if (PW.pt (pw_and (pt_val (pe_callB call_isi (by rfl) mi (by decide +kernel) (pa_cons (pv 1) (pa_cons (pe_bltn (v := .ty "tuple") (by rfl) mtup (by decide +kernel) rfl) pa_nil)))) (pw_and (pt_cmpR (op_neD hr.units) (pv 1) (pe_tup pa_nil) (nomark _)) (pw_and (pt_cmpR op_gt (pv 2) pe_int (nomark _)) (pw_and1 (pt_cmpR op_gt (pe_call GN hrN (by rfl) gn kn bn .nil pass0 (pa_cons (pv 0) (pa_cons pe_int pa_nil))) pe_int (nomark _))))))) (pss_cons (ps_set (i := 3) scSp.nd rfl (.inl rfl) (pe_call GN hrN (by rfl) gn kn bn .nil pass0 (pa_cons (pv 0) (pa_cons (pe_callB call_len_seq (by rfl) ml PySem.boot_len (pa_cons (pv 1) pa_nil)) pa_nil))))
      (pss_cons (ps_set (i := 4) scSp.nd rfl (.inl rfl) (pe_call GS hr (by rfl) gs ks bs .nil pass0 (pa_cons (pv 0) (pa_cons (pe_ix ix_tup (pv 1) (pv 3) (fun _ _ => rfl)) (pa_cons (pe_op op_sub (pv 2) pe_int) pa_nil)))))
      (pss_one (ps_ret (pe_op op_catA (pe_op op_catA (pe_slice sl_tupA (pv 1) po_none (po_some (pv 3))) (pe_tup (pa_cons (pv 4) pa_nil))) (pe_slice sl_tupA (pv 1) (po_some (pe_op op_add (pv 3) pe_int)) po_none)))))) pss_nil)
      (pss_one (ps_ret (pe_call GK hrK (by rfl) gk kk bk .nil pass0 (pa_cons (pv 0) (pa_cons (pe_lst (pa_cons pe_non (pa_cons pe_bl (pa_cons pe_bl (pa_cons (pe_un un_neg pe_int) (pa_cons (pe_un un_neg (pe_op op_pow pe_int pe_int)) (pa_cons (pe_lst pa_nil) (pa_cons (pe_lst (pa_cons (pv 1) pa_nil)) (pa_cons pe_dnewK (pa_cons pe_str (pa_cons pe_str (pa_cons (pe_tup (pa_cons pe_non pa_nil)) (pa_cons (pe_tup (pa_cons (pe_lst pa_nil) pa_nil)) pa_nil))))))))))))) pa_nil)))))), ?_⟩
    cases hR with
    | @leaf _ b l =>
      have hl : ∃ n : String, TyX K H v (.type n) ∧ kitB n "tuple" = some false := by
        cases l with
        | str hz => exact ⟨_, .base (.str _), by decide +kernel⟩
        | int i => exact ⟨_, .base (.int i), by decide +kernel⟩
        | non => cases hg
        | bl b => cases hg
        | lst e => cases hg
        | dK e => cases hg
      obtain ⟨nm, ty, hk2⟩ := hl
      exact ⟨_, rfl, _, .ty "tuple", .type nm, .type "tuple", false, rfl, .ty _, ty, kit_ty hk2, false, rfl, iteF (iteF (hrow _ _ H t hP Kp.refl (by omega)))⟩
    | @tup a ws ts e r =>
      refine ⟨_, rfl, _, .ty "tuple", .type "tuple", .type "tuple", true, rfl, .ty _, .base (.tup e), kit_ty (by decide +kernel), true, rfl, iteT ?_⟩
      refine ⟨_, rfl, by show 0 ≤ sizeLine; decide, fun p np => ?_⟩
      have hR1 : Rep (upd H p (.tup [])) (.ref a) (.tup ts) := (Rep.tup e r).keep (M := M0) (Kp.new np) fun _ _ z => z
      obtain ⟨d1, d2, d3⟩ := hR1.dp (K := K) hg
      refine ⟨(Tr.tup ts).data, .tuple [], d1, .tup (SqT.of upd_same) .nil, shaped_of d2 d3 (by omega), rfl, ?_⟩
      have hP1 := hP.new (o := .tup []) np
      have k1 : Kp (PM pd po) H (upd H p (.tup [])) := Kp.new np
      cases r with
      | nil => exact ⟨false, rfl, iteF (iteF (hrow _ _ _ t hP1 k1 (by omega)))⟩
      | @cons v0 vs0 t0 ts0 q0 r0 =>
        refine ⟨true, rfl, iteT ?_⟩
        refine ⟨_, rfl, _, _, rfl, rfl, _, rfl, ?_⟩
        by_cases hd0 : (0 : Int) < d
        · have e1 : decide ((0 : Int) < d) = true := decide_eq_true hd0
          rw [e1]
          refine iteT ?_
          obtain ⟨d', rfl⟩ : ∃ d', d = d' + 1 := ⟨d - 1, by omega⟩
          refine ⟨_, rfl, pd, po, t, 4, rfl, hP1, by omega, by decide, by decide, fun c H2 t2 ht2 c0 c1 hP2 k2 => ⟨_, _, rfl, rfl, _, rfl, ?_⟩⟩
          have k2' : Kp (PM pd po) H H2 := k1.trans k2
          refine ite2 (fun hc => ?_) (fun hc => hrow _ _ H2 t2 hP2 k2' (by omega))
          have r1 : RepAll (upd H p (.tup [])) (v0 :: vs0) (t0 :: ts0) := RepAll.keepG (M := M0) (Kp.new np) (fun _ _ z => z.elim) (.cons q0 r0) hg
          have e01 : upd H p (.tup []) a = some (.tup (v0 :: vs0)) := by rw [upd_ne (ne_of_none e np)]; exact e
          have e2 : H2 a = some (.tup (v0 :: vs0)) := k2 a _ (fun z => no_tup_pot hP1 a _ z e01) e01
          have r2 := RepAll.keepG k2 (no_tup_pot hP1) r1 hg
          have hlen : (v0 :: vs0).length ≤ 90000 := by
            have h1 := len_size (t0 :: ts0)
            have h2 := r2.len
            simp only [Tr.size] at hsz
            omega
          have hlen1 : 1 ≤ (v0 :: vs0).length := by
            rw [List.length_cons]
            omega
          refine ⟨_, rfl, _, rfl, a, _, rfl, .inr (SqT.of e2), pd, po, t2, _, rfl, hP2, by omega, by omega, by omega, fun at_ H3 t3 ht3 a0 a1 hP3 k3 => ?_⟩
          obtain ⟨i, rfl⟩ := Int.eq_ofNat_of_zero_le a0
          have hi : i < (v0 :: vs0).length := by omega
          have e3 : H3 a = some (.tup (v0 :: vs0)) := k3 a _ (fun z => no_tup_pot hP2 a _ z e2) e2
          have r3 := RepAll.keepG k3 (no_tup_pot hP2) r2 hg
          obtain ⟨u, tu, eu, ru, rT, rD, eT⟩ := r3.at i hi
          have hgA : Tr.goodAll (t0 :: ts0) = true := hg
          rw [eT, goodAll_app] at hgA
          have hgA2 := Bool.and_eq_true_iff.mp hgA
          have hgu := Bool.and_eq_true_iff.mp hgA2.2
          have hszA : Tr.sizeAll (t0 :: ts0) = Tr.sizeAll ((t0 :: ts0).take i) + (tu.size + Tr.sizeAll ((t0 :: ts0).drop (i + 1))) := by
            conv => lhs; rw [eT]
            rw [sizeAll_app]
            rfl
          have hdpA : tu.deep ≤ Tr.deepAll (t0 :: ts0) := by
            conv => rhs; rw [eT]
            rw [deepAll_app]
            simp only [Tr.deepAll]
            omega
          simp only [Tr.size, Tr.deep] at hsz hdp
          refine ⟨_, rfl, _, rfl, _, rfl, a, _, _, u, rfl, rfl, SqT.of e3, atI_nat eu, _, rfl, _, _, rfl, rfl, pd, po, t3, d', u, tu, by (show [V.ref pd, u, V.int ((d' + 1 : Nat) - 1 : Int)] = _; rw [show (((d' + 1 : Nat) : Int) - 1) = (d' : Int) by omega]), hP3, by omega, by omega, ru, hgu.1, by omega, by omega, fun v' tr' H4 t4 ht4 hR4 hb4 hs4 hP4 k4 => ?_⟩
          have rT4 := RepAll.keepG k4 (no_tup_pot hP3) rT hgA2.1
          have rD4 := RepAll.keepG k4 (no_tup_pot hP3) rD hgu.2
          have e4 : H4 a = some (.tup (v0 :: vs0)) := k4 a _ (fun z => no_tup_pot hP3 a _ z e3) e3
          -- the three parts
          refine ⟨_, rfl, _, rfl, _, rfl, ?_⟩
          refine slA e4 fun b1 H5 e5 k5 => ?_
          rw [cut_to _ _ (by omega)] at e5
          refine ⟨_, rfl, by show 1 ≤ sizeLine; decide, fun p6 n6 => ?_⟩
          have k6 : Kp M0 H5 (upd H5 p6 (.tup [v'])) := Kp.new n6
          refine ctA (k6 _ _ (fun z => z) e5) upd_same ?_ fun b7 H7 e7 k7 => ?_
          · have h1 : ((v0 :: vs0).take i).length ≤ (v0 :: vs0).length := by rw [List.length_take]; exact Nat.min_le_right _ _
            have h2 : (100000 : Nat) ≤ sizeLine := by decide
            show _ + 1 ≤ _
            omega
          have e7a : H7 a = some (.tup (v0 :: vs0)) := k7 _ _ (fun z => z) (k6 _ _ (fun z => z) (k5 _ _ (fun z => z) e4))
          refine ⟨_, rfl, _, rfl, _, _, rfl, rfl, _, rfl, ?_⟩
          refine noPart_ok (slA e7a fun b8 H8 e8 k8 => ?_)
          have hc8 : cutV (v0 :: vs0) (some ((i : Int) + 1)) none = (v0 :: vs0).drop (i + 1) := cut_from _ (i + 1) (by omega)
          rw [hc8] at e8
          refine ctA (k8 _ _ (fun z => z) e7) e8 ?_ fun b9 H9 e9 k9 => ?_
          · have h1 : ((v0 :: vs0).take i).length ≤ (v0 :: vs0).length := by rw [List.length_take]; exact Nat.min_le_right _ _
            have h3 : ((v0 :: vs0).drop (i + 1)).length ≤ (v0 :: vs0).length := by rw [List.length_drop]; omega
            have h2 : (200000 : Nat) ≤ sizeLine := by decide
            rw [List.length_append]
            show _ + 1 + _ ≤ _
            omega
          have k49 : Kp M0 H4 H9 := k5.trans (k6.trans (k7.trans (k8.trans k9)))
          have noM : ∀ (v : V) (a : Addr), Met H4 v a → ¬ M0 a := fun _ _ _ z => z
          refine q (.ref b9) (.tup (((t0 :: ts0).take i ++ [tr']) ++ (t0 :: ts0).drop (i + 1))) H9 t4 (by omega) (.tup e9 (((rT4.keep k49 fun v _ => noM v).app (.cons (hR4.keep k49 (noM _)) .nil)).app (rD4.keep k49 fun v _ => noM v))) ?_ ?_ ?_ ?_
          · show Tr.goodAll _ = false
            rw [goodAll_app, goodAll_app]
            simp [Tr.goodAll, hb4]
          · have hx : Tr.sizeAll [tr'] = tr'.size := by simp only [Tr.sizeAll, Nat.add_zero]
            simp only [Tr.size, sizeAll_app, hx]
            omega
          · exact hP4.keep k49 (fun z => z) (fun z => z)
          · exact k2'.trans (k3.trans (k4.trans (k49.mono fun _ z => z.elim)))
        · have e1 : decide ((0 : Int) < d) = false := decide_eq_false hd0
          rw [e1]
          exact iteF (iteF (hrow _ _ _ t hP1 k1 (by omega)))
end
end RT

namespace RT
open PySem PySem.Spec PyProof.Rows L2
abbrev sLaw : Stmt := topS 17
theorem scLaw : FnScope ["_law_script", "_law_pot_here", "_law_turn", "_law_thing_here"] ["_law_script"] (defScope sLaw) := ⟨rfl, rfl, rfl, by decide +kernel, rfl, by decide +kernel, by decide +kernel⟩
section
variable {P : Program} {w : World} {K : PySem.W.Frag} {mg : Str → Option Value} {base : Heap}
def spLaw (K : PySem.W.Frag) (T : Addr) : Sp := fun vs H Q _ => ∃ (a : Addr) (ns : List Int), vs = [.ref a] ∧ SqL K H a (ns.map V.int) ∧ GxR.TabG H T ∧ ∀ H', Q (.bl true) H'
structure Laws (P : Program) (w : World) (K : PySem.W.Frag) (mg : Str → Option Value) (base : Heap) (T : Addr) where
  (fp ft fs fi fg : Addr) (dp dt ds di dg : FuncData)
  GP : FnOk P w K mg base CX0 1 fp dp ["_law_script"] (spPot K)
  GT : FnOk P w K mg base CX0 8 ft dt ["_law_pot_here", "_law_deep"] (spTh 5)
  GS : FnOk P w K mg base CX0 8 fs ds ["_law_pot_here", "_law_thing_here", "_law_deep"] (spSp 6)
  GI : FnOk P w K mg base CX0 4 fi di ["x"] (spIsThing T)
  GG : FnOk P w K mg base CX0 1 fg dg [] spSigns
  kp : PySem.W.keepIn K (.ref fp) = true
  kt : PySem.W.keepIn K (.ref ft) = true
  ks : PySem.W.keepIn K (.ref fs) = true
  ki : PySem.W.keepIn K (.ref fi) = true
  kg : PySem.W.keepIn K (.ref fg) = true
  bp : Binds K dp ["_law_script"] []
  bt : Binds K dt ["_law_pot_here", "_law_deep"] []
  bs : Binds K ds ["_law_pot_here", "_law_thing_here", "_law_deep"] []
  bi : Binds K di ["x"] []
  bg : Binds K dg [] []
  gp : mg "_law_pot" = some (.ref fp)
  gt : mg "_law_thing" = some (.ref ft)
  gs : mg "_law_spoilt" = some (.ref fs)
  gi : mg "is_thing" = some (.ref fi)
  gg : mg "_law_signs" = some (.ref fg)
  mr : mg "range" = none
theorem tab_pot {H H' : Hp} {T pd po : Addr} {t : Nat} (P : Pot H pd po t) (k : Kp (fun b => b = T) H H') (g : GxR.TabG H T) : Pot H' pd po t := Kp.pot P k fun b z => by
  obtain ⟨ps, e, _⟩ := g
  exact .inr ⟨ps, by rw [z]; exact e⟩
theorem ok_law {f T : Addr} {fd : FuncData} (F : Fun K "law" "law" sLaw f fd) (L : Laws P w K mg base T) : FnOk P w K mg base CX0 9 f fd ["_law_script"] (spLaw K T) := by
  refine F.ok scLaw (fun vs H Q E h => ?_) (fun cdv A outer s H vs Q E hr h => ?_)
  · obtain ⟨a, ns, rfl, _⟩ := h
    rfl
  · obtain ⟨a, ns, rfl, hS, hT, q⟩ := h
    have hrP := hr.mono (show 1 ≤ 8 by decide)
    have hrT := hr
    have hrI := hr.mono (show 4 ≤ 8 by decide)
    have hrG := hr.mono (show 1 ≤ 8 by decide)
    refine ⟨_, (pss_cons (ps_set (i := 1) scLaw.nd rfl (.inl rfl) (pe_call L.GP hrP (by rfl) L.gp L.kp L.bp .nil pass0 (pa_cons (pv 0) pa_nil)))
      (pss_cons (ps_for PassesOwn.never rfl (pi_range1 (by rfl) L.mr (pa_cons pe_int pa_nil)) (pg_name (i := 2) scLaw.nd rfl (.inl rfl)) (pss_cons (ps_set (i := 3) scLaw.nd rfl (.inl rfl) (pe_call L.GT hrT (by rfl) L.gt L.kt L.bt .nil pass0 (pa_cons (pv 1) (pa_cons pe_int pa_nil))))
      (pss_cons (ps_if (PW.pt (pw_or (pt_cmpR op_isnot_bl (pe_call L.GI hrI (by rfl) L.gi L.ki L.bi .nil pass0 (pa_cons (pv 3) pa_nil)) pe_bl (nomark _)) (pw_or1 (pt_cmpR op_isnot_bl (pe_call L.GI hrI (by rfl) L.gi L.ki L.bi .nil pass0 (pa_cons (pe_tup (pa_cons (pv 3) (pa_cons (pe_tup (pa_cons (pv 3) (pa_cons (pv 3) pa_nil))) pa_nil))) pa_nil)) pe_bl (nomark _))))) (pss_one (ps_ret pe_bl)) pss_nil)
      (pss_cons (ps_if (pt_cmpR op_isnot_bl (pe_call L.GI hrI (by rfl) L.gi L.ki L.bi .nil pass0 (pa_cons (pe_call L.GS hr (by rfl) L.gs L.ks L.bs .nil pass0 (pa_cons (pv 1) (pa_cons (pv 3) (pa_cons pe_int pa_nil)))) pa_nil)) pe_bl (nomark _)) (pss_one (ps_ret pe_bl)) pss_nil)
      (pss_one (ps_if (pt_cmpR op_isnot_bl (pe_call L.GI hrI (by rfl) L.gi L.ki L.bi .nil pass0 (pa_cons (pe_tup (pa_cons (pv 3) (pa_cons (pe_call L.GS hr (by rfl) L.gs L.ks L.bs .nil pass0 (pa_cons (pv 1) (pa_cons (pv 3) (pa_cons pe_int pa_nil)))) pa_nil))) pa_nil)) pe_bl (nomark _)) (pss_one (ps_ret pe_bl)) pss_nil))))))
      (pss_one (ps_ret (pe_and (pe_cmpR op_is_bl (pe_call L.GI hrI (by rfl) L.gi L.ki L.bi .nil pass0 (pa_cons (pe_tup pa_nil) pa_nil)) pe_bl (nomark _)) (pe_and (pe_cmpR op_is_bl (pe_call L.GI hrI (by rfl) L.gi L.ki L.bi .nil pass0 (pa_cons pe_str pa_nil)) pe_bl (nomark _)) (pe_one (pe_cmpR op_is_bl (pe_call L.GI hrI (by rfl) L.gi L.ki L.bi .nil pass0 (pa_cons (pe_call0 L.GG hrG (by rfl) L.gg L.kg L.bg .nil pass0) pa_nil)) pe_bl (nomark _))))))))), ?_⟩
    refine ⟨_, rfl, a, ns, rfl, hS, fun pd po H1 k1 nd no hne hP1 => ?_⟩
    have hT1 := tabG_keep hT k1 (fun z => z)
    have t47 : (2 : Nat) ^ 47 = 140737488355328 := by decide
    have c4 : cT 4 = 112040 := by decide
    have z4 : szT 4 = 2801 := by decide
    refine ⟨6, rfl, by decide, by decide, for_range (lo := 0) (n := 6) (fun i σ H2 => ∃ (t : Nat) (y2 y3 : Option V), σ = [some (.ref a), some (.ref pd), y2, y3] ∧ t ≤ 200000 * i ∧ Pot H2 pd po t ∧ GxR.TabG H2 T) ?_ ?_ ?_⟩
    · exact ⟨0, none, none, rfl, by omega, hP1, hT1⟩
    · rintro i σ H2 hi ⟨t, y2, y3, rfl, ht, hP2, hT2⟩
      refine ⟨_, rfl, pd, po, t, 4, rfl, hP2, by omega, by decide, by omega, fun v tr H3 t3 ht3 hR hg hsz hdp hP3 k3 => ?_⟩
      have hT3 := tabG_keep hT2 k3 (tab_off hT2 hP2)
      -- is_thing(thing)
      refine ⟨_, rfl, v, tr, rfl, hT3, hR, by omega, fun H4 k4 hT4 => ?_⟩
      rw [hg]
      have hR4 := hR.tab k4 hT3
      have hP4 := tab_pot hP3 k4 hT3
      refine ⟨true, true, rfl, rfl, false, rfl, iteF ?_⟩
      -- (thing, (thing, thing))
      refine ⟨_, rfl, _, rfl, _, rfl, by show 2 ≤ sizeLine; decide, fun p1 n1 => ⟨by show 2 ≤ sizeLine; decide, fun p2 n2 => ?_⟩⟩
      have noN : ∀ (H : Hp) (a : Addr) xs, M0 a → H a ≠ some (.tup xs) := fun H a xs z => z.elim
      have hR5 := hR4.keepG (Kp.new (M := M0) (o := .tup [v, v]) n1) (noN _) hg
      have hR6 := hR5.keepG (Kp.new (M := M0) (o := .tup [v, .ref p1]) n2) (noN _) hg
      have e1 : (upd (upd H4 p1 (.tup [v, v])) p2 (.tup [v, .ref p1])) p1 = some (.tup [v, v]) := by rw [upd_ne (ne_of_none (upd_same (H := H4) (a := p1)) n2)]; exact upd_same
      have hT5 : GxR.TabG (upd (upd H4 p1 (.tup [v, v])) p2 (.tup [v, .ref p1])) T := tabG_keep (tabG_keep hT4 (Kp.new (M := M0) n1) (fun z => z)) (Kp.new (M := M0) n2) (fun z => z)
      have hP5 := (hP4.new (o := .tup [v, v]) n1).new (o := .tup [v, .ref p1]) n2
      refine ⟨.ref p2, .tup [tr, .tup [tr, tr]], rfl, hT5, .tup upd_same (.cons hR6 (.cons (.tup e1 (.cons hR6 (.cons hR6 .nil))) .nil)), by simp only [Tr.size, Tr.sizeAll]; omega, fun H7 k7 hT7 => ?_⟩
      have hg2 : (Tr.tup [tr, .tup [tr, tr]]).good = true := by simp [Tr.good, Tr.goodAll, hg]
      rw [hg2]
      have hR7 := hR6.tab k7 hT5
      have hP7 := tab_pot hP5 k7 hT5
      refine ⟨true, true, rfl, rfl, false, rfl, iteF ?_⟩
      -- the spoilt one
      refine ⟨_, rfl, _, rfl, pd, po, t3, 5, v, tr, rfl, hP7, by omega, by decide, hR7, hg, by omega, by omega, fun v8 tr8 H8 t8 ht8 hR8 hb8 hs8 hP8 k8 => ?_⟩
      have hT8 := tabG_keep hT7 k8 (tab_off hT7 hP7)
      have hR8v := hR7.keepG k8 (no_tup_pot hP7) hg
      refine ⟨v8, tr8, rfl, hT8, hR8, by omega, fun H9 k9 hT9 => ?_⟩
      rw [hb8]
      have hR9 := hR8v.tab k9 hT8
      have hP9 := tab_pot hP8 k9 hT8
      refine ⟨false, false, rfl, rfl, false, rfl, iteF ?_⟩
      -- (thing, a spoilt one)
      refine ⟨_, rfl, _, rfl, _, rfl, pd, po, t8, 5, v, tr, rfl, hP9, by omega, by decide, hR9, hg, by omega, by omega, fun va tra Ha ta hta hRa hba hsa hPa ka => ?_⟩
      have hTa := tabG_keep hT9 ka (tab_off hT9 hP9)
      have hRav := hR9.keepG ka (no_tup_pot hP9) hg
      refine ⟨by show 2 ≤ sizeLine; decide, fun pb nb => ?_⟩
      have kb : Kp M0 Ha (upd Ha pb (.tup [v, va])) := Kp.new nb
      have hTb := tabG_keep hTa kb (fun z => z)
      refine ⟨.ref pb, .tup [tr, tra], rfl, hTb, .tup upd_same (.cons (hRav.keepG kb (noN _) hg) (.cons (hRa.keep kb fun _ _ z => z) .nil)), by simp only [Tr.size, Tr.sizeAll]; omega, fun Hc kc hTc => ?_⟩
      have hg3 : (Tr.tup [tr, tra]).good = false := by simp [Tr.good, Tr.goodAll, hba]
      rw [hg3]
      exact ⟨false, false, rfl, rfl, false, rfl, iteF ⟨ta, _, _, rfl, by omega, tab_pot (hPa.new nb) kc hTb, hTc⟩⟩
    · rintro σ H2 ⟨t, y2, y3, rfl, ht, hP2, hT2⟩
      refine ⟨by show 0 ≤ sizeLine; decide, fun p1 n1 => ?_⟩
      have hT3 := tabG_keep hT2 (Kp.new (M := M0) (o := .tup []) n1) (fun z => z)
      refine ⟨.ref p1, .tup [], rfl, hT3, .tup upd_same .nil, by decide, fun H4 k4 hT4 => ?_⟩
      refine ⟨true, true, rfl, rfl, true, rfl, iteT ?_⟩
      refine ⟨.str "", .leaf (.str "") ((Str.ofString "").cps.toList.all signB), rfl, hT4, .leaf (.str (by decide)), by decide, fun H5 k5 hT5 => ?_⟩
      refine ⟨true, true, rfl, rfl, true, rfl, iteT ?_⟩
      refine ⟨rfl, fun z z1 z2 z3 => ?_⟩
      refine ⟨.str z, .leaf (.str z) (z.cps.toList.all signB), rfl, hT5, .leaf (.str (Nat.le_of_lt (small1000 z2))), by (show 1 ≤ 100000; decide), fun H6 k6 hT6 => ?_⟩
      have hz : (Tr.leaf (.str z) (z.cps.toList.all signB)).good = true := List.all_eq_true.mpr z3
      rw [hz]
      exact ⟨true, true, rfl, rfl, q H6⟩
end
end RT

/-! ### the end -/
namespace RT
open PySem PySem.Spec PyProof.Rows L2
theorem tabIn_of {K : PySem.W.Frag} {x : Str} {f c P : Addr} {oc e : Value} {od dd : Option Addr} {fd : FuncData} {sl sl2 : Array (Option Value)} {vs : Array Value} (a : PySem.W.nsIn K mainGlobals x = some (some (.ref f))) (l : K.lookup f = some ⟨oc, od, .func fd, sl⟩) (h : fd.code = .ref c)
    (t : K.lookup c = some ⟨e, dd, .fields vs, sl2⟩) (p : vs[11]? = some (.ref P)) : PySem.W.tabIn K x = some (c, P) := by
  unfold PySem.W.tabIn
  rw [a]
  simp only [l, h, t, p]
/-- the end of a law row, where tables of code objects are known by their defs' names -/
theorem walk_tab {l : PySem.W.OpenLaw} {n k : Nat} {q : Program} {loose : List Str} {XP : (Str → Option Value) → Heap → Prop} {YP : World → Heap → Prop} {d : DefRec} {K : Params → PySem.W.Frag} {x : Str}
    (hn : l.most = some n) (hn2 : n ≤ sizeLine) (hdf : d.params.defaults = []) (hr : Room k callerA) (hY : ∀ (w : World) (h : Heap), YP w h → (K w.params).In h)
    (F : ∀ (w : World) (mg : Str → Option Value) (fa : Addr) (h : Heap), (K w.params).In h → h.Ns mainGlobals mg → mg d.name = some (.ref fa) →
      (∀ (y : Str) (e : DefRec) (c P : Addr), (recsOf q).find? (fun e => e.name == y) = some e → PySem.W.tabIn (K w.params) y = some (c, P) → PySem.W.CodeHd h c P ∧ h.get? P = some { cls := .none, data := .fields #[] }) →
      LamX.LawAtS l w (K w.params) CX0 k n x mg fa h) :
    PySem.W.WalkO q loose XP YP l.row.toRowW d [] (fun f vs => PySem.call f vs) := by
  refine Att.attach_callB hn hdf fun w s₀ s₁ mg mb fa o pm cd doc a vs ns G Y ho hd hcd hmg hobj hints hlen hbits hg => ?_
  have KX := hY w _ Y
  obtain ⟨fd, cs, sp, hT, nT, C, hb, hsp, hF⟩ := F w mg fa _ KX G.T.g hmg (fun y e c P h1 h2 => PySem.W.tab_of G.T KX h1 h2)
  refine LamX.law_callTs (CX := CX0) KX G.T.g G.T.b G.T.builtins G.T.nolimit hg hT nT C G.T.bmain hobj hints ?_ hr hF hb ?_ ?_
  · exact Nat.le_trans hlen hn2
  · exact fun H hH hS => hsp H a ns hlen hbits hH hS
  · exact fun H e s' z => z
theorem all_mk {l : PySem.W.OpenLaw} {q : Program} {w : World} {K : PySem.W.Frag} {h : Heap} {mg : Str → Option Value} {fa : Addr} (X : K.In h) (G : h.Ns mainGlobals mg) (hfa : mg "law" = some (.ref fa))
    (hq : ∀ (y : Str) (e : DefRec) (c P : Addr), (recsOf q).find? (fun e => e.name == y) = some e → PySem.W.tabIn K y = some (c, P) → PySem.W.CodeHd h c P ∧ h.get? P = some { cls := .none, data := .fields #[] })
    (hrec : ((recsOf q).find? (fun e => e.name == ("is_text" : Str))).isSome = true)
    {tp : Tok} (hpc : PySem.W.nsIn K mainGlobals "_PERCENT" = some (some (.int 37 tp)))
    {f1 : Addr} {od1 an1 : Option Addr} {sl1 : Array (Option Value)} {oc1 kV1 dc1 pm1 ct1 : Value} {cd1 : Addr} {P1 : Addr} {te1 : Value} {td1 : Option Addr} {tv1 : Array Value} {ts1 : Array (Option Value)} {f2 : Addr} {od2 an2 : Option Addr} {sl2 : Array (Option Value)} {oc2 kV2 dc2 pm2 ct2 : Value} {cd2 : Value} {f3 : Addr} {od3 an3 : Option Addr} {sl3 : Array (Option Value)} {oc3 kV3 dc3 pm3 ct3 : Value} {cd3 : Value} {f4 : Addr} {od4 an4 : Option Addr} {sl4 : Array (Option Value)} {oc4 kV4 dc4 pm4 ct4 : Value} {cd4 : Value} {f5 : Addr} {od5 an5 : Option Addr} {sl5 : Array (Option Value)} {oc5 kV5 dc5 pm5 ct5 : Value} {cd5 : Value} {f6 : Addr} {od6 an6 : Option Addr} {sl6 : Array (Option Value)} {oc6 kV6 dc6 pm6 ct6 : Value} {cd6 : Value} {f7 : Addr} {od7 an7 : Option Addr} {sl7 : Array (Option Value)} {oc7 kV7 dc7 pm7 ct7 : Value} {cd7 : Value} {f8 : Addr} {od8 an8 : Option Addr} {sl8 : Array (Option Value)} {oc8 kV8 dc8 pm8 ct8 : Value} {cd8 : Value} {f9 : Addr} {od9 an9 : Option Addr} {sl9 : Array (Option Value)} {oc9 kV9 dc9 pm9 ct9 : Value} {cd9 : Value} {f10 : Addr} {od10 an10 : Option Addr} {sl10 : Array (Option Value)} {oc10 kV10 dc10 pm10 ct10 : Value} {cd10 : Value} {f11 : Addr} {od11 an11 : Option Addr} {sl11 : Array (Option Value)} {oc11 kV11 dc11 pm11 ct11 : Value} {cd11 : Value} {f12 : Addr} {od12 an12 : Option Addr} {sl12 : Array (Option Value)} {oc12 kV12 dc12 pm12 ct12 : Value} {cd12 : Value} {f13 : Addr} {od13 an13 : Option Addr} {sl13 : Array (Option Value)} {oc13 kV13 dc13 pm13 ct13 : Value} {cd13 : Value} {f14 : Addr} {od14 an14 : Option Addr} {sl14 : Array (Option Value)} {oc14 kV14 dc14 pm14 ct14 : Value} {cd14 : Value}
    (a1 : PySem.W.nsIn K mainGlobals "is_text" = some (some (.ref f1)))
    (l1 : K.lookup f1 = some ⟨oc1, od1, .func (PySem.W.fnOf "is_text" "is_text" (defArgs sIsText) (defBody sIsText) (defScope sIsText) .none kV1 dc1 pm1 an1 (.ref cd1) ct1), sl1⟩)
    (c1 : PySem.W.codeIn K (.ref cd1) "is_text" = true)
    (k1 : PySem.W.keepIn K (.ref f1) = true)
    (t1 : K.lookup cd1 = some ⟨te1, td1, .fields tv1, ts1⟩)
    (p1 : tv1[11]? = some (.ref P1))
    (n1 : K.lookup P1 = none)
    (a2 : PySem.W.nsIn K mainGlobals "is_sign" = some (some (.ref f2)))
    (l2 : K.lookup f2 = some ⟨oc2, od2, .func (PySem.W.fnOf "is_sign" "is_sign" (defArgs sSign) (defBody sSign) (defScope sSign) .none kV2 dc2 pm2 an2 cd2 ct2), sl2⟩)
    (c2 : PySem.W.codeIn K cd2 "is_sign" = true)
    (k2 : PySem.W.keepIn K (.ref f2) = true)
    (a3 : PySem.W.nsIn K mainGlobals "is_int" = some (some (.ref f3)))
    (l3 : K.lookup f3 = some ⟨oc3, od3, .func (PySem.W.fnOf "is_int" "is_int" (defArgs sIsInt) (defBody sIsInt) (defScope sIsInt) .none kV3 dc3 pm3 an3 cd3 ct3), sl3⟩)
    (c3 : PySem.W.codeIn K cd3 "is_int" = true)
    (k3 : PySem.W.keepIn K (.ref f3) = true)
    (a4 : PySem.W.nsIn K mainGlobals "is_number" = some (some (.ref f4)))
    (l4 : K.lookup f4 = some ⟨oc4, od4, .func (PySem.W.fnOf "is_number" "is_number" (defArgs sIsNumber) (defBody sIsNumber) (defScope sIsNumber) .none kV4 dc4 pm4 an4 cd4 ct4), sl4⟩)
    (c4 : PySem.W.codeIn K cd4 "is_number" = true)
    (k4 : PySem.W.keepIn K (.ref f4) = true)
    (a5 : PySem.W.nsIn K mainGlobals "is_thing" = some (some (.ref f5)))
    (l5 : K.lookup f5 = some ⟨oc5, od5, .func (PySem.W.fnOf "is_thing" "is_thing" (defArgs sIsThing) (defBody sIsThing) (defScope sIsThing) .none kV5 dc5 pm5 an5 cd5 ct5), sl5⟩)
    (c5 : PySem.W.codeIn K cd5 "is_thing" = true)
    (k5 : PySem.W.keepIn K (.ref f5) = true)
    (a6 : PySem.W.nsIn K mainGlobals "_law_pot" = some (some (.ref f6)))
    (l6 : K.lookup f6 = some ⟨oc6, od6, .func (PySem.W.fnOf "_law_pot" "_law_pot" (defArgs sPot) (defBody sPot) (defScope sPot) .none kV6 dc6 pm6 an6 cd6 ct6), sl6⟩)
    (c6 : PySem.W.codeIn K cd6 "_law_pot" = true)
    (k6 : PySem.W.keepIn K (.ref f6) = true)
    (a7 : PySem.W.nsIn K mainGlobals "_law_next" = some (some (.ref f7)))
    (l7 : K.lookup f7 = some ⟨oc7, od7, .func (PySem.W.fnOf "_law_next" "_law_next" (defArgs sNext) (defBody sNext) (defScope sNext) .none kV7 dc7 pm7 an7 cd7 ct7), sl7⟩)
    (c7 : PySem.W.codeIn K cd7 "_law_next" = true)
    (k7 : PySem.W.keepIn K (.ref f7) = true)
    (a8 : PySem.W.nsIn K mainGlobals "_law_pick" = some (some (.ref f8)))
    (l8 : K.lookup f8 = some ⟨oc8, od8, .func (PySem.W.fnOf "_law_pick" "_law_pick" (defArgs sPick) (defBody sPick) (defScope sPick) .none kV8 dc8 pm8 an8 cd8 ct8), sl8⟩)
    (c8 : PySem.W.codeIn K cd8 "_law_pick" = true)
    (k8 : PySem.W.keepIn K (.ref f8) = true)
    (a9 : PySem.W.nsIn K mainGlobals "_law_size" = some (some (.ref f9)))
    (l9 : K.lookup f9 = some ⟨oc9, od9, .func (PySem.W.fnOf "_law_size" "_law_size" (defArgs sSize) (defBody sSize) (defScope sSize) .none kV9 dc9 pm9 an9 cd9 ct9), sl9⟩)
    (c9 : PySem.W.codeIn K cd9 "_law_size" = true)
    (k9 : PySem.W.keepIn K (.ref f9) = true)
    (a10 : PySem.W.nsIn K mainGlobals "_law_signs" = some (some (.ref f10)))
    (l10 : K.lookup f10 = some ⟨oc10, od10, .func (PySem.W.fnOf "_law_signs" "_law_signs" (defArgs sSigns) (defBody sSigns) (defScope sSigns) .none kV10 dc10 pm10 an10 cd10 ct10), sl10⟩)
    (c10 : PySem.W.codeIn K cd10 "_law_signs" = true)
    (k10 : PySem.W.keepIn K (.ref f10) = true)
    (a11 : PySem.W.nsIn K mainGlobals "_law_text" = some (some (.ref f11)))
    (l11 : K.lookup f11 = some ⟨oc11, od11, .func (PySem.W.fnOf "_law_text" "_law_text" (defArgs sText) (defBody sText) (defScope sText) .none kV11 dc11 pm11 an11 cd11 ct11), sl11⟩)
    (c11 : PySem.W.codeIn K cd11 "_law_text" = true)
    (k11 : PySem.W.keepIn K (.ref f11) = true)
    (a12 : PySem.W.nsIn K mainGlobals "_law_thing" = some (some (.ref f12)))
    (l12 : K.lookup f12 = some ⟨oc12, od12, .func (PySem.W.fnOf "_law_thing" "_law_thing" (defArgs sTh) (defBody sTh) (defScope sTh) .none kV12 dc12 pm12 an12 cd12 ct12), sl12⟩)
    (c12 : PySem.W.codeIn K cd12 "_law_thing" = true)
    (k12 : PySem.W.keepIn K (.ref f12) = true)
    (a13 : PySem.W.nsIn K mainGlobals "_law_spoilt" = some (some (.ref f13)))
    (l13 : K.lookup f13 = some ⟨oc13, od13, .func (PySem.W.fnOf "_law_spoilt" "_law_spoilt" (defArgs sSp) (defBody sSp) (defScope sSp) .none kV13 dc13 pm13 an13 cd13 ct13), sl13⟩)
    (c13 : PySem.W.codeIn K cd13 "_law_spoilt" = true)
    (k13 : PySem.W.keepIn K (.ref f13) = true)
    (a14 : PySem.W.nsIn K mainGlobals "law" = some (some (.ref f14)))
    (l14 : K.lookup f14 = some ⟨oc14, od14, .func (PySem.W.fnOf "law" "law" (defArgs sLaw) (defBody sLaw) (defScope sLaw) .none kV14 dc14 pm14 an14 cd14 ct14), sl14⟩)
    (c14 : PySem.W.codeIn K cd14 "law" = true)
    (k14 : PySem.W.keepIn K (.ref f14) = true)
    (z1 : PySem.W.nsIn K mainGlobals "ord" = some none)
    (z2 : PySem.W.nsIn K mainGlobals "isinstance" = some none)
    (z3 : PySem.W.nsIn K mainGlobals "str" = some none)
    (z4 : PySem.W.nsIn K mainGlobals "all" = some none)
    (z5 : PySem.W.nsIn K mainGlobals "int" = some none)
    (z6 : PySem.W.nsIn K mainGlobals "bool" = some none)
    (z7 : PySem.W.nsIn K mainGlobals "tuple" = some none)
    (z8 : PySem.W.nsIn K mainGlobals "len" = some none)
    (z9 : PySem.W.nsIn K mainGlobals "range" = some none)
    (z10 : PySem.W.nsIn K mainGlobals "abs" = some none) :
    LamX.LawAtS l w K CX0 9 63 "_law_script" mg fa h := by
  have e := hfa.symm.trans (PySem.W.mg_of X G a14)
  cases e
  have F1 : FunT K "is_text" "is_text" sIsText f1 _ cd1 := ⟨⟨oc1, od1, kV1, dc1, pm1, an1, ct1, sl1, rfl, l1, c1⟩, k1⟩
  have F2 := fun_mk (st := sSign) l2 c2 k2
  have F3 := fun_mk (st := sIsInt) l3 c3 k3
  have F4 := fun_mk (st := sIsNumber) l4 c4 k4
  have F5 := fun_mk (st := sIsThing) l5 c5 k5
  have F6 := fun_mk (st := sPot) l6 c6 k6
  have F7 := fun_mk (st := sNext) l7 c7 k7
  have F8 := fun_mk (st := sPick) l8 c8 k8
  have F9 := fun_mk (st := sSize) l9 c9 k9
  have F10 := fun_mk (st := sSigns) l10 c10 k10
  have F11 := fun_mk (st := sText) l11 c11 k11
  have F12 := fun_mk (st := sTh) l12 c12 k12
  have F13 := fun_mk (st := sSp) l13 c13 k13
  have F14 := fun_mk (st := sLaw) l14 c14 k14
  have b1 := (fun_mk (st := sIsText) l1 c1 k1).binds (ps := ["x"]) fun _ _ _ _ _ _ us hl => match us, hl with | [_], _ => rfl
  have g1 := PySem.W.mg_of X G a1
  have b2 := (fun_mk (st := sSign) l2 c2 k2).binds (ps := ["letter"]) fun _ _ _ _ _ _ us hl => match us, hl with | [_], _ => rfl
  have g2 := PySem.W.mg_of X G a2
  have b3 := (fun_mk (st := sIsInt) l3 c3 k3).binds (ps := ["x"]) fun _ _ _ _ _ _ us hl => match us, hl with | [_], _ => rfl
  have g3 := PySem.W.mg_of X G a3
  have b4 := (fun_mk (st := sIsNumber) l4 c4 k4).binds (ps := ["x"]) fun _ _ _ _ _ _ us hl => match us, hl with | [_], _ => rfl
  have g4 := PySem.W.mg_of X G a4
  have b5 := (fun_mk (st := sIsThing) l5 c5 k5).binds (ps := ["x"]) fun _ _ _ _ _ _ us hl => match us, hl with | [_], _ => rfl
  have g5 := PySem.W.mg_of X G a5
  have b6 := (fun_mk (st := sPot) l6 c6 k6).binds (ps := ["_law_script"]) fun _ _ _ _ _ _ us hl => match us, hl with | [_], _ => rfl
  have g6 := PySem.W.mg_of X G a6
  have b7 := (fun_mk (st := sNext) l7 c7 k7).binds (ps := ["_law_pot_here", "_law_many"]) fun _ _ _ _ _ _ us hl => match us, hl with | [_, _], _ => rfl
  have g7 := PySem.W.mg_of X G a7
  have b8 := (fun_mk (st := sPick) l8 c8 k8).binds (ps := ["_law_pot_here", "_law_some"]) fun _ _ _ _ _ _ us hl => match us, hl with | [_, _], _ => rfl
  have g8 := PySem.W.mg_of X G a8
  have b9 := (fun_mk (st := sSize) l9 c9 k9).binds (ps := ["_law_pot_here", "_law_few", "_law_most"]) fun _ _ _ _ _ _ us hl => match us, hl with | [_, _, _], _ => rfl
  have g9 := PySem.W.mg_of X G a9
  have b10 := (fun_mk (st := sSigns) l10 c10 k10).binds (ps := []) fun _ _ _ _ _ _ us hl => match us, hl with | [], _ => rfl
  have g10 := PySem.W.mg_of X G a10
  have b11 := (fun_mk (st := sText) l11 c11 k11).binds (ps := ["_law_pot_here", "_law_few", "_law_most"]) fun _ _ _ _ _ _ us hl => match us, hl with | [_, _, _], _ => rfl
  have g11 := PySem.W.mg_of X G a11
  have b12 := (fun_mk (st := sTh) l12 c12 k12).binds (ps := ["_law_pot_here", "_law_deep"]) fun _ _ _ _ _ _ us hl => match us, hl with | [_, _], _ => rfl
  have g12 := PySem.W.mg_of X G a12
  have b13 := (fun_mk (st := sSp) l13 c13 k13).binds (ps := ["_law_pot_here", "_law_thing_here", "_law_deep"]) fun _ _ _ _ _ _ us hl => match us, hl with | [_, _, _], _ => rfl
  have g13 := PySem.W.mg_of X G a13
  have m_ord := PySem.W.mg_none_of X G z1
  have m_isinstance := PySem.W.mg_none_of X G z2
  have m_str := PySem.W.mg_none_of X G z3
  have m_all := PySem.W.mg_none_of X G z4
  have m_int := PySem.W.mg_none_of X G z5
  have m_bool := PySem.W.mg_none_of X G z6
  have m_tuple := PySem.W.mg_none_of X G z7
  have m_len := PySem.W.mg_none_of X G z8
  have m_range := PySem.W.mg_none_of X G z9
  have m_abs := PySem.W.mg_none_of X G z10
  have mp := PySem.W.mg_of X G hpc
  obtain ⟨r, hr⟩ := Option.isSome_iff_exists.mp hrec
  have T1 := hq "is_text" r cd1 P1 hr (tabIn_of a1 l1 rfl t1 p1)
  refine ⟨PySem.W.fnOf "law" "law" (defArgs sLaw) (defBody sLaw) (defScope sLaw) .none kV14 dc14 pm14 an14 cd14 ct14, [(cd1, P1)], spLaw K P1, fun p hp => ?_, fun p hp => ?_, fun p hp => ?_, fun s v => .of_eq rfl, fun H a ns h1 h2 hH hS => ?_, fun base hK hN hTB => ?_⟩
  · rw [List.mem_singleton.mp hp]
    exact T1.2
  · rw [List.mem_singleton.mp hp]
    exact n1
  · rw [List.mem_singleton.mp hp]
    exact T1.1
  · exact ⟨a, ns, rfl, hS, ⟨#[], hH _ (List.mem_singleton.mpr rfl), trivial⟩, fun _ => rfl⟩
  · have tb := hTB _ (List.mem_singleton.mpr rfl)
    have GTx := ok_isText (P := l.prog) (w := w) (base := base) (k := 2) F1 ⟨tb.code, tb.bm, tb.gP⟩ F2 b2 g2 mp m_ord m_isinstance m_str m_all (by decide)
    have GIn := ok_isInt (P := l.prog) (w := w) (base := base) (k := 0) F3 m_isinstance m_int m_bool
    have GNu := ok_isNumber F4 GIn k3 b3 g3
    have GI := ok_isThing (k := 3) F5 GTx k1 b1 g1 (GNu.mono (by decide)) k4 b4 g4 m_isinstance m_tuple
    have GP := ok_pot (P := l.prog) (w := w) (base := base) (k := 0) F6 m_abs
    have GN := ok_next (P := l.prog) (w := w) (mg := mg) (base := base) (k := 0) F7
    have GK := ok_pick F8 GN k7 b7 g7 m_len
    have GZ := ok_size F9 GN k7 b7 g7 m_int
    have GG := ok_signs (P := l.prog) (w := w) (mg := mg) (base := base) (k := 0) F10
    have GX := ok_text F11 GN k7 b7 g7 GK k8 b8 g8 GZ k9 b9 g9 GG k10 b10 g10 m_range
    have h0 := none_th (P := l.prog) (w := w) (K := K) (mg := mg) (base := base) (f := f12) (fd := PySem.W.fnOf "_law_thing" "_law_thing" (defArgs sTh) (defBody sTh) (defScope sTh) .none kV12 dc12 pm12 an12 cd12 ct12) (k := 3)
    have h1 := ok_th F12 (by decide) GN k7 b7 g7 GZ k9 b9 g9 GX k11 b11 g11 h0 k12 b12 g12 m_range m_tuple
    have h2 := ok_th F12 (by decide) GN k7 b7 g7 GZ k9 b9 g9 GX k11 b11 g11 h1 k12 b12 g12 m_range m_tuple
    have h3 := ok_th F12 (by decide) GN k7 b7 g7 GZ k9 b9 g9 GX k11 b11 g11 h2 k12 b12 g12 m_range m_tuple
    have h4 := ok_th F12 (by decide) GN k7 b7 g7 GZ k9 b9 g9 GX k11 b11 g11 h3 k12 b12 g12 m_range m_tuple
    have h5 := ok_th F12 (by decide) GN k7 b7 g7 GZ k9 b9 g9 GX k11 b11 g11 h4 k12 b12 g12 m_range m_tuple
    have s0 := none_sp (P := l.prog) (w := w) (K := K) (mg := mg) (base := base) (f := f13) (fd := PySem.W.fnOf "_law_spoilt" "_law_spoilt" (defArgs sSp) (defBody sSp) (defScope sSp) .none kV13 dc13 pm13 an13 cd13 ct13) (k := 2)
    have s1 := ok_sp F13 (by decide) GN k7 b7 g7 GK k8 b8 g8 s0 k13 b13 g13 m_isinstance m_tuple m_len
    have s2 := ok_sp F13 (by decide) GN k7 b7 g7 GK k8 b8 g8 s1 k13 b13 g13 m_isinstance m_tuple m_len
    have s3 := ok_sp F13 (by decide) GN k7 b7 g7 GK k8 b8 g8 s2 k13 b13 g13 m_isinstance m_tuple m_len
    have s4 := ok_sp F13 (by decide) GN k7 b7 g7 GK k8 b8 g8 s3 k13 b13 g13 m_isinstance m_tuple m_len
    have s5 := ok_sp F13 (by decide) GN k7 b7 g7 GK k8 b8 g8 s4 k13 b13 g13 m_isinstance m_tuple m_len
    have s6 := ok_sp F13 (by decide) GN k7 b7 g7 GK k8 b8 g8 s5 k13 b13 g13 m_isinstance m_tuple m_len
    exact ok_law F14 { fp := f6, ft := f12, fs := f13, fi := f5, fg := f10, dp := _, dt := _, ds := _, di := _, dg := _, GP := GP, GT := h5, GS := s6, GI := GI, GG := GG, kp := k6, kt := k12, ks := k13, ki := k5, kg := k10, bp := b6, bt := b12, bs := b13, bi := b5, bg := b10, gp := g6, gt := g12, gs := g13, gi := g5, gg := g10, mr := m_range }
end RT
open PySem PySem.W PyProof.Rows
set_option maxRecDepth 100000 in
set_option maxHeartbeats 0 in
theorem PySem.Challenge.cw_readtell_k02_what_is_a_thing_holds : PySem.Challenge.rw_readtell_k02_what_is_a_thing.Holds := by
  w_on; o_law; k_head; (case hw => w_witness2)
  k_fill
  refine RT.walk_tab (l := PySem.Challenge.rw_readtell_k02_what_is_a_thing) (n := 63) (k := 9) (x := "_law_script") rfl (by decide) rfl ⟨rfl, by decide, by decide⟩ (fun w h Y => PySem.W.kIn_of Y) ?F
  case F =>
    intro w mg fa h KX G hmg hq
    refine' RT.all_mk KX G hmg hq ?hrec ?hpc ?a1 ?l1 ?c1 ?k1 ?t1 ?p1 ?n1 ?a2 ?l2 ?c2 ?k2 ?a3 ?l3 ?c3 ?k3 ?a4 ?l4 ?c4 ?k4 ?a5 ?l5 ?c5 ?k5 ?a6 ?l6 ?c6 ?k6 ?a7 ?l7 ?c7 ?k7 ?a8 ?l8 ?c8 ?k8 ?a9 ?l9 ?c9 ?k9 ?a10 ?l10 ?c10 ?k10 ?a11 ?l11 ?c11 ?k11 ?a12 ?l12 ?c12 ?k12 ?a13 ?l13 ?c13 ?k13 ?a14 ?l14 ?c14 ?k14 ?z1 ?z2 ?z3 ?z4 ?z5 ?z6 ?z7 ?z8 ?z9 ?z10
    (case hrec => rfl)
    (case hpc => k_is)
    (case a1 => k_is)
    (case l1 => k_is)
    (case c1 => k_is)
    (case k1 => k_is)
    (case t1 => k_is)
    (case p1 => rfl)
    (case n1 => rfl)
    (case a2 => k_is)
    (case l2 => k_is)
    (case c2 => k_is)
    (case k2 => k_is)
    (case a3 => k_is)
    (case l3 => k_is)
    (case c3 => k_is)
    (case k3 => k_is)
    (case a4 => k_is)
    (case l4 => k_is)
    (case c4 => k_is)
    (case k4 => k_is)
    (case a5 => k_is)
    (case l5 => k_is)
    (case c5 => k_is)
    (case k5 => k_is)
    (case a6 => k_is)
    (case l6 => k_is)
    (case c6 => k_is)
    (case k6 => k_is)
    (case a7 => k_is)
    (case l7 => k_is)
    (case c7 => k_is)
    (case k7 => k_is)
    (case a8 => k_is)
    (case l8 => k_is)
    (case c8 => k_is)
    (case k8 => k_is)
    (case a9 => k_is)
    (case l9 => k_is)
    (case c9 => k_is)
    (case k9 => k_is)
    (case a10 => k_is)
    (case l10 => k_is)
    (case c10 => k_is)
    (case k10 => k_is)
    (case a11 => k_is)
    (case l11 => k_is)
    (case c11 => k_is)
    (case k11 => k_is)
    (case a12 => k_is)
    (case l12 => k_is)
    (case c12 => k_is)
    (case k12 => k_is)
    (case a13 => k_is)
    (case l13 => k_is)
    (case c13 => k_is)
    (case k13 => k_is)
    (case a14 => k_is)
    (case l14 => k_is)
    (case c14 => k_is)
    (case k14 => k_is)
    (case z1 => k_is)
    (case z2 => k_is)
    (case z3 => k_is)
    (case z4 => k_is)
    (case z5 => k_is)
    (case z6 => k_is)
    (case z7 => k_is)
    (case z8 => k_is)
    (case z9 => k_is)
    (case z10 => k_is)
