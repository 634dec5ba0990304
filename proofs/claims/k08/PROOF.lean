import PyProof.Rows.All
import Wide.All
import OpenK.AllK
import Wide.FinOn
import PySem.Challenge.RW_readtell_k08_names_met
import HandS.ForMost
import HandS.Wide
import HandS.IsInst
import HandS.TupLe
import HandS.AnyAll
import HandS.EndTab
import HandS.TupAny
import HandS.SetFor
import HandS.Strs
import HandS.SetTxt0
import HandS.Zip
import HandS.DictTup
import KE.KDictZip
import KE.KDictPairs
import HandS.TupMul
import HandS.DictComp
import PyProof.NeKinds
import PyProof.Rows.EqBoolInt
import HandS.Small
import PyProof.Rows.StrMeet
set_option Elab.async false
set_option linter.all false
set_option maxRecDepth 100000
/-! the drawing words of the law, by hand -/
namespace RT
open PySem PySem.Spec PyProof.Rows L2
def topS (i : Nat) : Stmt := PySem.Challenge.pw_readtell_k08_names_met.main.body.getD i (.Pass ⟨0, 0, 0, 0⟩)
abbrev sPot : Stmt := topS 9
abbrev sNext : Stmt := topS 10
abbrev sPick : Stmt := topS 11
/-! ### frames -/
/-- all but the places M stays -/
def Kp (M : Addr → Prop) (H H' : Hp) : Prop := ∀ b o, ¬ M b → H b = some o → H' b = some o
theorem Kp.refl {M : Addr → Prop} {H : Hp} : Kp M H H := fun _ _ _ e => e
theorem Kp.trans {M : Addr → Prop} {H H1 H2 : Hp} (a : Kp M H H1) (b : Kp M H1 H2) : Kp M H H2 := fun c o h e => b c o h (a c o h e)
theorem Kp.mono {M N : Addr → Prop} {H H1 : Hp} (a : Kp M H H1) (h : ∀ b, M b → N b) : Kp N H H1 := fun c o k e => a c o (fun z => k (h c z)) e
theorem Kp.new {M : Addr → Prop} {H : Hp} {p : Addr} {o : HO} (h : H p = none) : Kp M H (upd H p o) := fun b u _ e => by rw [upd_ne (ne_of_none e h)]; exact e
theorem Kp.put {M : Addr → Prop} {H : Hp} {p : Addr} {o : HO} (h : M p) : Kp M H (upd H p o) := fun b u k e => by rw [upd_ne (fun z => k (by rw [z]; exact h))]; exact e
abbrev M0 : Addr → Prop := fun _ => False
theorem sqL_keep {K : PySem.W.Frag} {H H' : Hp} {a : Addr} {xs : List V} (k : Kp M0 H H') (h : SqL K H a xs) : SqL K H' a xs := by
  rcases h with (h | ⟨o, h⟩) | h
  · exact .inl (.inl (k _ _ (fun z => z) h))
  · exact .inl (.inr ⟨o, k _ _ (fun z => z) h⟩)
  · exact .inr h
/-! ### the pot -/
abbrev Ex := Option (Int × Int × Int)
/-- room, told, signs, once they are there -/
def exL : Ex → List (Key × V)
  | none => []
  | some (r, o, g) => [(.inr "room", .int r), (.inr "told", .int o), (.inr "signs", .int g)]
theorem exL_few (e : Ex) : (exL e).length ≤ 3 := by rcases e with _ | ⟨r, o, g⟩ <;> simp [exL]
def potD (po : Addr) (s t : Int) (e : Ex) : HO := .dK ((.inr "own", .ref po) :: (.inr "seed", .int s) :: (.inr "turn", .int t) :: exL e)
structure Pot (H : Hp) (pd po : Addr) (t : Nat) (e : Ex) : Prop where
  d : ∃ s : Int, 0 ≤ s ∧ s < 2305843009213693951 ∧ H pd = some (potD po s t e)
  o : ∃ ns : List Int, ns.length ≤ 63 ∧ (∀ n ∈ ns, 0 ≤ n) ∧ H po = some (.lst (ns.map V.int))
theorem Pot.keep {M : Addr → Prop} {H H' : Hp} {pd po : Addr} {t : Nat} {ex : Ex} (P : Pot H pd po t ex) (k : Kp M H H') (hd : ¬ M pd) (ho : ¬ M po) : Pot H' pd po t ex := by
  obtain ⟨⟨s, h0, h1, e⟩, ns, h2, h3, e2⟩ := P
  exact ⟨⟨s, h0, h1, k _ _ hd e⟩, ns, h2, h3, k _ _ ho e2⟩
/-- what the drawing words may change -/
abbrev PM (pd po : Addr) : Addr → Prop := fun b => b = pd ∨ b = po
theorem scPot : FnScope ["_law_script", "_law_seed", "_law_own", "_law_far", "_law_cell"] ["_law_script"] (defScope sPot) := ⟨rfl, rfl, rfl, by decide +kernel, rfl, by decide +kernel, by decide +kernel⟩
theorem scNext : FnScope ["_law_pot_here", "_law_many", "_law_digit", "_law_turn", "_law_mixed"] ["_law_pot_here", "_law_many"] (defScope sNext) := ⟨rfl, rfl, rfl, by decide +kernel, rfl, by decide +kernel, by decide +kernel⟩
theorem scPick : FnScope ["_law_pot_here", "_law_some"] ["_law_pot_here", "_law_some"] (defScope sPick) := ⟨rfl, rfl, rfl, by decide +kernel, rfl, by decide +kernel, by decide +kernel⟩
section
variable {P : Program} {w : World} {K : PySem.W.Frag} {mg : Str → Option Value} {base : Heap}
def spPot (K : PySem.W.Frag) : Sp := fun vs H Q _ => ∃ (a : Addr) (ns : List Int), vs = [.ref a] ∧ SqL K H a (ns.map V.int) ∧
  ∀ (pd po : Addr) (H' : Hp), Kp M0 H H' → H pd = none → H po = none → pd ≠ po → Pot H' pd po 0 none → Q (.ref pd) H'
theorem cut63 (xs : List V) : cutV xs none (some 63) = xs.take 63 := by
  unfold cutV
  rw [HT.sIx_none, show HT.sIx xs.length xs.length (some 63) = min 63 xs.length from HT.sIx_nat xs.length xs.length 63]
  rw [List.drop_zero, Nat.sub_zero]
  by_cases h : xs.length ≤ 63
  · rw [Nat.min_eq_right h, List.take_length, List.take_of_length_le h]
  · rw [Nat.min_eq_left (by omega)]
theorem ok_pot {f : Addr} {fd : FuncData} {k : Nat} (F : Fun K "_law_pot" "_law_pot" sPot f fd) (mabs : mg "abs" = none) : FnOk P w K mg base CX0 (k + 1) f fd ["_law_script"] (spPot K) := by
  refine F.ok scPot (fun vs H Q E h => ?_) (fun cdv A outer s H vs Q E hr h => ?_)
  · obtain ⟨a, ns, rfl, _⟩ := h
    rfl
  · obtain ⟨a, ns, rfl, hS, q⟩ := h
    refine ⟨_, pss_cons (ps_set (i := 1) scPot.nd rfl (.inl rfl) pe_int)
      (pss_cons (ps_set (i := 2) scPot.nd rfl (.inl rfl) (pe_lst pa_nil))
      (pss_cons (ps_set (i := 3) scPot.nd rfl (.inl rfl) (pe_op op_mulW (pe_op op_mulW (pe_op op_pow pe_int pe_int) (pe_op op_pow pe_int pe_int)) (pe_op op_pow pe_int pe_int)))
      (pss_cons (ps_for PassesOwn.never rfl (pi_list (pe_slice sl_list (pv 0) po_none (po_some pe_int))) (pg_name (i := 4) scPot.nd rfl (.inl rfl))
        (pss_cons (ps_set (i := 1) scPot.nd rfl (.inl rfl) (pe_op op_mod (pe_op op_add (pe_op op_add (pe_op op_mul (pv 1) pe_int) (pe_op op_mod (pv 4) (pe_op op_pow pe_int pe_int))) pe_int) pe_int))
        (pss_one (ps_if (pt_cmpR op_ge (pe_callB call_abs (by rfl) mabs (by decide +kernel) (pa_cons (pv 4) pa_nil)) (pe_op op_pow pe_int pe_int) (nomark _))
          (pss_one (ps_expr (pe_bm PySem.F.plainAttrs_list PySem.F.slot_list_append PySem.F.type_list_append mt_append (pv 2)
            (pa_cons (pe_op op_mod (pe_callB call_abs (by rfl) mabs (by decide +kernel) (pa_cons (pv 4) pa_nil)) (pv 3)) pa_nil)))) pss_nil))))
      (pss_one (ps_ret (pe_disp (pps_cons pe_str (pv 2) (pps_cons pe_str (pv 1) (pps_cons pe_str pe_int pps_nil))) (by rfl) (by rfl) (fun z => by cases z) (by decide))))))), ?_⟩
    -- own = []
    refine ⟨Nat.zero_le _, fun o no => ?_⟩
    have k1 : Kp M0 H (upd H o (.lst [])) := Kp.new no
    -- far
    refine ⟨_, _, rfl, rfl, ⟨by decide, by decide, by decide⟩, _, _, rfl, rfl, ⟨by decide, by decide, by decide⟩, _, _, rfl, rfl, wide_mul (a := 200) (b := 200) (by decide +kernel) (by decide +kernel) (by decide) (by decide) (by decide), _, _, rfl, rfl, ⟨by decide, by decide, by decide⟩, _, _, rfl, rfl, wide_mul (a := 400) (b := 200) (by decide +kernel) (by decide +kernel) (by decide) (by decide) (by decide), ?_⟩
    -- script[:63]
    refine ⟨.ref a, rfl, 63, rfl, a, ns.map V.int, rfl, sqL_keep k1 hS, fun c nc => ?_⟩
    have nco : c ≠ o := fun e => by
      rw [e, upd_same] at nc
      cases nc
    have k2 : Kp M0 H (upd (upd H o (.lst [])) c (.lst (cutV (ns.map V.int) none (some 63)))) := k1.trans (Kp.new nc)
    rw [cut63, ← List.map_take] at k2 ⊢
    generalize hns : ns.take 63 = ms at k2 ⊢
    have hms : ms.length ≤ 63 := by rw [← hns, List.length_take]; omega
    have hc : SqL K (upd (upd H o (.lst [])) c (.lst (ms.map V.int))) c (ms.map V.int) := .inl (.inl upd_same)
    refine ⟨c, rfl, ⟨_, hc⟩, for_list (xs := ms.map V.int) (fun i σ H3 => ∃ (s : Int) (os : List Int) (y4 : Option V), σ = [some (.ref a), some (.int s), some (.ref o), some (.int (10 ^ 60 * 10 ^ 60 * 10 ^ 60)), y4] ∧ 0 ≤ s ∧ s < 2305843009213693951 ∧ os.length ≤ i ∧ (∀ n ∈ os, 0 ≤ n) ∧
      H3 o = some (.lst (os.map V.int)) ∧ H3 c = some (.lst (ms.map V.int)) ∧ Kp M0 H H3) ?_ ?_ ?_ ?_⟩
    · exact ⟨17, [], none, rfl, by decide, by decide, Nat.le_refl _, fun _ z => (nomatch z), by rw [upd_ne nco.symm, upd_same] <;> rfl, upd_same, k2⟩
    · rintro i σ H3 _ ⟨s, os, y4, rfl, _, _, _, _, _, e2, _⟩
      exact .inl (.inl e2)
    · rintro i x σ H3 hx ⟨s, os, y4, rfl, h0, h1, h2, h3, e1, e2, k3⟩
      have hi : i < ms.length := by
        have z := (List.getElem?_eq_some_iff.mp hx).1
        rw [List.length_map] at z
        exact z
      obtain ⟨n, rfl⟩ : ∃ n : Int, x = .int n := by
        rw [List.getElem?_map, List.getElem?_eq_getElem hi] at hx
        exact ⟨_, (Option.some.inj hx).symm⟩
      refine ⟨_, rfl, _, _, rfl, rfl, .inl ⟨by omega, by omega⟩, _, rfl, _, _, rfl, rfl, ⟨by decide, by decide, by decide⟩, _, _, rfl, rfl, (by show (0 : Int) < 10 ^ 40; decide +kernel), _, _, rfl, rfl, _, _, rfl, rfl, _, _, rfl, rfl, (by show (0 : Int) < 2305843009213693951; decide), ?_⟩
      refine ⟨_, rfl, _, rfl, _, _, rfl, rfl, ⟨by decide, by decide, by decide⟩, _, _, rfl, rfl, _, rfl, ite2 (fun c => ?_) (fun c => ?_)⟩
      · refine ⟨_, rfl, .inl ⟨rfl, _, .inl (.inl e1)⟩, _, rfl, _, rfl, _, rfl, _, _, rfl, rfl, (by show (0 : Int) < 10 ^ 60 * 10 ^ 60 * 10 ^ 60; decide +kernel), o, _, _, rfl, rfl, e1, ?_, ?_⟩
        · rw [List.length_map]
          exact small1000 (by omega)
        · refine ⟨_, os ++ [_], _, rfl, Int.emod_nonneg _ (by decide), Int.emod_lt_of_pos _ (by decide), by rw [List.length_append]; simp; omega, ?_, by rw [upd_same, List.map_append] <;> rfl, ?_, ?_⟩
          · intro n hn
            rcases List.mem_append.mp hn with z | z
            · exact h3 n z
            · rw [List.mem_singleton.mp z]
              exact Int.emod_nonneg _ (by decide +kernel)
          · rw [upd_ne nco]
            exact e2
          · intro b u _ e
            have nb : b ≠ o := ne_of_none e no
            rw [upd_ne nb]
            exact k3 b u (fun z => z) e
      · exact ⟨_, os, _, rfl, Int.emod_nonneg _ (by decide), Int.emod_lt_of_pos _ (by decide), by omega, h3, e1, e2, k3⟩
    · rintro σ H3 ⟨s, os, y4, rfl, h0, h1, h2, h3, e1, e2, k3⟩
      rw [List.length_map] at h2
      intro p np
      refine ⟨_, rfl, _, rfl, upd_same, [(.inr "own", .ref o), (.inr "seed", .int s), (.inr "turn", .int 0)], rfl, (by show 3 ≤ 15; decide), ?_⟩
      have hp : p ≠ o := fun z => by
        rw [z, e1] at np
        cases np
      have hpn : H p = none := by
        cases z : H p with
        | none => rfl
        | some u =>
          rw [k3 p u (fun z => z) z] at np
          cases np
      refine q p o _ ?_ hpn no hp ⟨⟨s, h0, h1, ?_⟩, os, by omega, h3, ?_⟩
      · intro b u _ e
        have nb : b ≠ p := fun z => by
          rw [z, hpn] at e
          cases e
        rw [upd_ne nb, upd_ne nb]
        exact k3 b u (fun z => z) e
      · rw [upd_same]
        rfl
      · rw [upd_ne hp.symm, upd_ne hp.symm]
        exact e1

/-! ### _law_next -/
theorem shaped_ints : ∀ ns : List Int, SeqAt.shaped (.list (ns.map PyData.int)) = true := by
  have a : ∀ ns : List Int, PyData.canLayAll0 (ns.map PyData.int) = true := fun ns => by
    induction ns with
    | nil => rfl
    | cons n r ih => simp only [List.map_cons, PyData.canLayAll0, PyData.canLay0, ih, Bool.and_self]
  have b : ∀ ns : List Int, PyData.depthAll (ns.map PyData.int) = 0 := fun ns => by
    induction ns with
    | nil => rfl
    | cons n r ih => simp only [List.map_cons, PyData.depthAll, PyData.depth, ih, Nat.max_self]
  intro ns
  unfold SeqAt.shaped
  simp only [PyData.canLay0, a ns, PyData.depth, b ns, Bool.true_and]
  rfl
theorem dpAll_ints {K : PySem.W.Frag} {H : Hp} : ∀ ns : List Int, DpAll K H (ns.map V.int) (ns.map PyData.int)
  | [] => .nil
  | n :: r => .cons (.int n) (dpAll_ints r)
theorem dp_ints {K : PySem.W.Frag} {H : Hp} {a : Addr} {ns : List Int} (h : SqL K H a (ns.map V.int)) : Dp K H (.ref a) (.list (ns.map PyData.int)) := .lst h (dpAll_ints ns)
/-- the pot told out -/
structure PotE (H : Hp) (pd po : Addr) (t : Nat) (ex : Ex) (s : Int) (ns : List Int) : Prop where
  s0 : 0 ≤ s
  s1 : s < 2305843009213693951
  d : H pd = some (potD po s t ex)
  len : ns.length ≤ 63
  nn : ∀ n ∈ ns, 0 ≤ n
  o : H po = some (.lst (ns.map V.int))
theorem PotE.pot {H : Hp} {pd po : Addr} {t : Nat} {ex : Ex} {s : Int} {ns : List Int} (E : PotE H pd po t ex s ns) : Pot H pd po t ex := ⟨⟨s, E.s0, E.s1, E.d⟩, ns, E.len, E.nn, E.o⟩
theorem Pot.e {H : Hp} {pd po : Addr} {t : Nat} {ex : Ex} (P : Pot H pd po t ex) : ∃ s ns, PotE H pd po t ex s ns := by
  obtain ⟨⟨s, h0, h1, e⟩, ns, h2, h3, e2⟩ := P
  exact ⟨s, ns, h0, h1, e, h2, h3, e2⟩
theorem PotE.ne {H : Hp} {pd po : Addr} {t : Nat} {ex : Ex} {s : Int} {ns : List Int} (E : PotE H pd po t ex s ns) : pd ≠ po := ne_of E.d E.o (fun z => by cases z)
theorem PotE.new {H : Hp} {pd po : Addr} {t : Nat} {ex : Ex} {s : Int} {ns : List Int} (E : PotE H pd po t ex s ns) {p : Addr} {o : HO} (n : H p = none) : PotE (upd H p o) pd po t ex s ns :=
  ⟨E.s0, E.s1, by rw [upd_ne (ne_of_none E.d n)]; exact E.d, E.len, E.nn, by rw [upd_ne (ne_of_none E.o n)]; exact E.o⟩
theorem PotE.own {H : Hp} {pd po : Addr} {t : Nat} {ex : Ex} {s : Int} {ns : List Int} (E : PotE H pd po t ex s ns) {ms : List Int} (h : ms.length ≤ 63) (h2 : ∀ n ∈ ms, 0 ≤ n) : PotE (upd H po (.lst (ms.map V.int))) pd po t ex s ms :=
  ⟨E.s0, E.s1, by rw [upd_ne E.ne]; exact E.d, h, h2, upd_same⟩
theorem eqv_nil_of (ns : List Int) : PyData.eqv (.list (ns.map PyData.int)) (.list []) = ns.isEmpty := by
  cases ns <;> simp [PyData.eqv, PyData.eqvAll]
theorem wide_add {i j : Int} {a : Nat} (ha : i.natAbs < 2 ^ a) (hb : j.natAbs < 2 ^ a) : (i + j).natAbs < 2 ^ (a + 1) := by
  have h := Int.natAbs_add_le i j
  rw [Nat.pow_succ]
  omega
theorem wide_up {i : Int} {a b : Nat} (ha : i.natAbs < 2 ^ a) (h : a ≤ b) : i.natAbs < 2 ^ b := Nat.lt_of_lt_of_le ha (Nat.pow_le_pow_right (by decide) h)
theorem mod_small (x : Int) : (x % 2305843009213693921).natAbs < 2 ^ 64 := by
  have := Int.emod_nonneg x (show (2305843009213693921 : Int) ≠ 0 by decide)
  have := Int.emod_lt_of_pos x (show (0 : Int) < 2305843009213693921 by decide)
  show _ < 18446744073709551616
  omega
theorem mod_small2 (x : Int) : (x % 1000003 + 69621).natAbs < 2 ^ 64 := by
  have := Int.emod_nonneg x (show (1000003 : Int) ≠ 0 by decide)
  have := Int.emod_lt_of_pos x (show (0 : Int) < 1000003 by decide)
  show _ < 18446744073709551616
  omega
def spNext : Sp := fun vs H Q _ => ∃ (pd po : Addr) (t : Nat) (ex : Ex) (m : Int), vs = [.ref pd, .int m] ∧ Pot H pd po t ex ∧ t < 2 ^ 50 ∧ 1 ≤ m ∧ m < 1073741824 ∧
  ∀ (d : Int) (H' : Hp) (t' : Nat), t' ≤ t + 1 → 0 ≤ d → d < m → Pot H' pd po t' ex → Kp (PM pd po) H H' → Q (.int d) H'
theorem ok_next {f : Addr} {fd : FuncData} {k : Nat} (F : Fun K "_law_next" "_law_next" sNext f fd) : FnOk P w K mg base CX0 (k + 1) f fd ["_law_pot_here", "_law_many"] spNext := by
  refine F.ok scNext (fun vs H Q E h => ?_) (fun cdv A outer s H vs Q E hr h => ?_)
  · obtain ⟨pd, po, t, ex, m, rfl, _⟩ := h
    rfl
  · obtain ⟨pd, po, t, ex, m, rfl, hP, ht, hm1, hm2, q⟩ := h
    refine ⟨_, pss_cons (ps_while PassesOwn.never (PW.pt (pw_and (pt_cmpR (op_neD hr.units) (pe_dget (hu_of hr) (pv 0) pe_str (fun _ _ => rfl)) (pe_lst pa_nil) (nomark _))
        (pw_and1 (pt_cmpR op_eq (pe_ix ix_list (pe_dget (hu_of hr) (pv 0) pe_str (fun _ _ => rfl)) pe_int (fun _ _ => rfl)) pe_int (nomark _)))))
        (pss_one (ps_expr (pe_bm PySem.F.plainAttrs_list PySem.F.slot_list_pop PySem.F.type_list_pop mt_popAt (pe_dget (hu_of hr) (pv 0) pe_str (fun _ _ => rfl)) (pa_cons pe_int pa_nil)))))
      (pss_cons (ps_if (pt_cmpR (op_neD hr.units) (pe_dget (hu_of hr) (pv 0) pe_str (fun _ _ => rfl)) (pe_lst pa_nil) (nomark _))
        (pss_cons (ps_set (i := 2) scNext.nd rfl (.inl rfl) (pe_op op_mod (pe_ix ix_list (pe_dget (hu_of hr) (pv 0) pe_str (fun _ _ => rfl)) pe_int (fun _ _ => rfl)) (pv 1)))
        (pss_cons (ps_asg (pe_op op_fdiv (pe_ix ix_list (pe_dget (hu_of hr) (pv 0) pe_str (fun _ _ => rfl)) pe_int (fun _ _ => rfl)) (pv 1)) (pg_sub (pe_dget (hu_of hr) (pv 0) pe_str (fun _ _ => rfl)) pe_int set_list))
        (pss_one (ps_ret (pv 2))))) pss_nil)
      (pss_cons (ps_dput (hu_of hr) (pv 0) pe_str (pe_op op_add (pe_dget (hu_of hr) (pv 0) pe_str (fun _ _ => rfl)) pe_int) rfl)
      (pss_cons (ps_set (i := 3) scNext.nd rfl (.inl rfl) (pe_dget (hu_of hr) (pv 0) pe_str (fun _ _ => rfl)))
      (pss_cons (ps_set (i := 4) scNext.nd rfl (.inl rfl) (pe_op op_add (pe_op op_add (pe_dget (hu_of hr) (pv 0) pe_str (fun _ _ => rfl)) (pe_op op_mulW (pe_op op_mulW (pv 3) (pv 3)) pe_int)) (pe_op op_mulW (pv 3) pe_int)))
      (pss_cons (ps_set (i := 4) scNext.nd rfl (.inl rfl) (pe_op op_mod (pe_op op_mulW (pv 4) pe_int) pe_int))
      (pss_cons (ps_set (i := 4) scNext.nd rfl (.inl rfl) (pe_op op_mod (pe_op op_mulW (pv 4) (pe_op op_add (pe_op op_mod (pv 4) pe_int) pe_int)) pe_int))
      (pss_one (ps_ret (pe_op op_mod (pe_op op_fdiv (pv 4) pe_int) (pv 1)))))))))), ?_⟩
    obtain ⟨s0, ns0, E0⟩ := hP.e
    refine ⟨fun n σ H2 => ∃ ns : List Int, σ = [some (.ref pd), some (.int m), none, none, none] ∧ n = ns.length ∧ Kp (PM pd po) H H2 ∧ PotE H2 pd po t ex s0 ns, ⟨_, ns0, rfl, rfl, Kp.refl, E0⟩, ?_⟩
    rintro n σ H2 ⟨ns, rfl, rfl, k2, E2⟩
    refine ⟨_, rfl, pd, _, rfl, DGet.k (k := .inr "own") E2.d, Nat.zero_le _, fun p np => ?_⟩
    have E3 := E2.new (o := .lst []) np
    have k3 : Kp (PM pd po) H (upd H2 p (.lst [])) := k2.trans (Kp.new np)
    refine ⟨_, .list [], dp_ints (SqL.of E3.o), .lst (SqL.of upd_same) .nil, shaped_ints _, rfl, _, rfl, ?_⟩
    cases ns with
    | nil =>
      refine iteF (iteF ?_)
      -- the second test
      refine ⟨_, rfl, pd, _, rfl, DGet.k (k := .inr "own") E3.d, Nat.zero_le _, fun p2 np2 => ?_⟩
      have E4 := E3.new (o := .lst []) np2
      have k4 : Kp (PM pd po) H (upd (upd H2 p (.lst [])) p2 (.lst [])) := k3.trans (Kp.new np2)
      have hp2 : upd (upd H2 p (.lst [])) p2 (.lst []) p2 = some (.lst []) := upd_same
      generalize upd (upd H2 p (.lst [])) p2 (.lst []) = H4 at E4 k4 hp2 ⊢
      refine ⟨_, .list [], dp_ints (SqL.of E4.o), .lst (SqL.of hp2) .nil, shaped_ints _, rfl, _, rfl, iteF ?_⟩
      -- turn + 1
      refine ⟨_, rfl, pd, _, rfl, DGet.k (k := .inr "turn") E4.d, _, _, rfl, rfl, _, rfl, pd, _, rfl, DPut.k (k := .inr "turn") E4.d (by have := exL_few ex; rw [sizeLine_eq]; simp only [List.length_cons]; omega), ?_⟩
      have E5 : PotE (upd H4 pd (.dK (putK ((.inr "own", V.ref po) :: (.inr "seed", V.int s0) :: (.inr "turn", V.int t) :: exL ex) (.inr "turn") (.int ((t : Int) + 1))))) pd po (t + 1) ex s0 [] :=
        ⟨E4.s0, E4.s1, by rw [upd_same]; rcases ex with _ | ⟨_, _, _⟩ <;> rfl, E4.len, E4.nn, by rw [upd_ne E4.ne.symm]; exact E4.o⟩
      have k5 : Kp (PM pd po) H (upd H4 pd (.dK (putK ((.inr "own", V.ref po) :: (.inr "seed", V.int s0) :: (.inr "turn", V.int t) :: exL ex) (.inr "turn") (.int ((t : Int) + 1))))) := k4.trans (Kp.put (.inl rfl))
      generalize upd H4 pd (.dK (putK ((.inr "own", V.ref po) :: (.inr "seed", V.int s0) :: (.inr "turn", V.int t) :: exL ex) (.inr "turn") (.int ((t : Int) + 1)))) = H5 at E5 k5 ⊢
      have hx : (((t + 1 : Nat) : Int)).natAbs < 2 ^ 64 := by
        show _ < 18446744073709551616
        have h50 : t < 1125899906842624 := ht
        omega
      have hs : s0.natAbs < 2 ^ 64 := by
        show _ < 18446744073709551616
        have := E5.s0
        have := E5.s1
        omega
      have hxx := wide_lt hx hx
      have hxx2 := wide_lt hxx (show (7919 : Int).natAbs < 2 ^ 13 by decide)
      have hx2 := wide_lt hx (show (104729 : Int).natAbs < 2 ^ 17 by decide)
      refine ⟨_, rfl, pd, _, rfl, DGet.k (k := .inr "turn") E5.d, ?_⟩
      refine ⟨_, rfl, pd, _, rfl, DGet.k (k := .inr "seed") E5.d, _, rfl, _, rfl, _, _, rfl, rfl, wide_mul hx hx (by decide) (by decide) (by decide), _, _, rfl, rfl, wide_mul hxx (show (7919 : Int).natAbs < 2 ^ 13 by decide) (by decide) (by decide) (by decide), _, _, rfl, rfl,
        _, rfl, _, _, rfl, rfl, wide_mul hx (show (104729 : Int).natAbs < 2 ^ 17 by decide) (by decide) (by decide) (by decide), _, _, rfl, rfl, ?_⟩
      have hm3 := wide_add (wide_add (wide_up hs (show 64 ≤ 141 by decide)) (wide_up hxx2 (show 64 + 64 + 13 ≤ 141 by decide))) (wide_up hx2 (show 64 + 17 ≤ 141 + 1 by decide))
      refine ⟨_, rfl, _, _, rfl, rfl, wide_mul hm3 (show (48271 : Int).natAbs < 2 ^ 16 by decide) (by decide) (by decide) (by decide), _, _, rfl, rfl, (by show (0 : Int) < 2305843009213693921; decide), ?_⟩
      refine ⟨_, rfl, _, rfl, _, _, rfl, rfl, (by show (0 : Int) < 1000003; decide), _, _, rfl, rfl, _, _, rfl, rfl, wide_mul (mod_small _) (mod_small2 _) (by decide) (by decide) (by decide), _, _, rfl, rfl, (by show (0 : Int) < 2305843009213693907; decide), ?_⟩
      refine ⟨_, rfl, _, _, rfl, rfl, ⟨by decide, by decide⟩, _, rfl, _, _, rfl, rfl, (by show (0 : Int) < m; omega), ?_⟩
      exact q _ _ (t + 1) (Nat.le_refl _) (Int.emod_nonneg _ (by omega)) (Int.emod_lt_of_pos _ (by omega)) E5.pot k5
    | cons n r =>
      refine iteT ?_
      refine ⟨_, rfl, pd, _, rfl, DGet.k (k := .inr "own") E3.d, po, _, 0, .int n, rfl, rfl, SqL.of E3.o, atI_nat (j := 0) rfl, rfl, _, rfl, ite2 (fun c => ?_) (fun c => ?_)⟩
      · -- a nought goes
        have l63 : r.length ≤ 63 := by
          have := E3.len
          rw [List.length_cons] at this
          omega
        refine ⟨fun σ' H' => σ' = [some (.ref pd), some (.int m), none, none, none] ∧ Kp (PM pd po) H H' ∧ PotE H' pd po t ex s0 r, fun σ' H' ⟨e, k, E⟩ => ⟨r.length, Nat.lt_succ_self _, r, e, rfl, k, E⟩, ?_⟩
        refine ⟨_, rfl, pd, _, rfl, DGet.k (k := .inr "own") E3.d, .inl ⟨rfl, _, SqL.of E3.o⟩, po, _, 0, 0, .int n, rfl, rfl, E3.o, by decide, by decide, ?_, rfl, rfl, ?_, ?_⟩
        · unfold seqIndex?
          simp
        · exact k3.trans (Kp.put (.inr rfl))
        · exact E3.own l63 fun z hz => E3.nn z (List.mem_cons_of_mem _ hz)
      · -- the digit
        refine ⟨_, rfl, pd, _, rfl, DGet.k (k := .inr "own") E3.d, Nat.zero_le _, fun p2 np2 => ?_⟩
        have E4 := E3.new (o := .lst []) np2
        have k4 : Kp (PM pd po) H (upd (upd H2 p (.lst [])) p2 (.lst [])) := k3.trans (Kp.new np2)
        have hn : 0 ≤ n := E4.nn n (List.mem_cons_self ..)
        refine ⟨_, .list [], dp_ints (SqL.of E4.o), .lst (SqL.of upd_same) .nil, shaped_ints _, rfl, _, rfl, iteT ?_⟩
        refine ⟨_, rfl, pd, _, rfl, DGet.k (k := .inr "own") E4.d, po, _, 0, .int n, rfl, rfl, SqL.of E4.o, atI_nat (j := 0) rfl, _, rfl, _, _, rfl, rfl, (by show (0 : Int) < m; omega), ?_⟩
        refine ⟨_, rfl, pd, _, rfl, DGet.k (k := .inr "own") E4.d, po, _, 0, .int n, rfl, rfl, SqL.of E4.o, atI_nat (j := 0) rfl, _, rfl, _, _, rfl, rfl, ⟨by omega, by omega⟩, ?_⟩
        refine ⟨_, rfl, pd, _, rfl, DGet.k (k := .inr "own") E4.d, po, _, 0, 0, rfl, rfl, E4.o, by simp [ixN], ?_⟩
        have E5 : PotE (upd (upd (upd H2 p (.lst [])) p2 (.lst [])) po (.lst (((n / m) :: r).map V.int))) pd po t ex s0 ((n / m) :: r) := E4.own E4.len (fun z hz => by
          rcases List.mem_cons.mp hz with e | e
          · rw [e]
            exact Int.ediv_nonneg hn (by omega)
          · exact E4.nn z (List.mem_cons_of_mem _ e))
        refine ⟨_, rfl, ?_⟩
        exact q _ _ t (Nat.le_succ _) (Int.emod_nonneg _ (by omega)) (Int.emod_lt_of_pos _ (by omega)) E5.pot (k4.trans (Kp.put (.inr rfl)))

/-! ### _law_pick -/
/-- what is drawn from: a text or a list that is not the pot's -/
def Draws (K : PySem.W.Frag) (H : Hp) (po : Addr) (x : V) (R : V → Prop) : Prop :=
  (∃ z : Str, x = .str z ∧ 1 ≤ z.length ∧ z.length ≤ 1000 ∧ ∀ c ∈ z.cps.toList, R (.str ⟨#[c]⟩)) ∨
  (∃ (l : Addr) (xs : List V), x = .ref l ∧ H l = some (.lst xs) ∧ l ≠ po ∧ 1 ≤ xs.length ∧ xs.length ≤ 1000 ∧ ∀ v ∈ xs, R v)
def spPick (K : PySem.W.Frag) : Sp := fun vs H Q _ => ∃ (pd po : Addr) (t : Nat) (ex : Ex) (x : V) (R : V → Prop), vs = [.ref pd, x] ∧ Pot H pd po t ex ∧ t < 2 ^ 50 ∧ Draws K H po x R ∧
  ∀ (v : V) (H' : Hp) (t' : Nat), t' ≤ t + 1 → R v → Pot H' pd po t' ex → Kp (PM pd po) H H' → Q v H'
theorem at_some {α : Type} {xs : List α} {d : Int} (h0 : 0 ≤ d) (h1 : d < xs.length) : ∃ v, atI xs d = some v ∧ v ∈ xs := by
  obtain ⟨j, rfl⟩ := Int.eq_ofNat_of_zero_le h0
  have hj : j < xs.length := by omega
  exact ⟨xs[j], atI_nat (List.getElem?_eq_getElem hj), List.getElem_mem hj⟩
theorem ok_pick {f fn : Addr} {fd fdn : FuncData} {k : Nat} (F : Fun K "_law_pick" "_law_pick" sPick f fd) (G : FnOk P w K mg base CX0 k fn fdn ["_law_pot_here", "_law_many"] spNext) (kn : PySem.W.keepIn K (.ref fn) = true) (bn : Binds K fdn ["_law_pot_here", "_law_many"] []) (gn : mg "_law_next" = some (.ref fn)) (ml : mg "len" = none) :
    FnOk P w K mg base CX0 (k + 1) f fd ["_law_pot_here", "_law_some"] (spPick K) := by
  refine F.ok scPick (fun vs H Q E h => ?_) (fun cdv A outer s H vs Q E hr h => ?_)
  · obtain ⟨pd, po, t, ex, x, R, rfl, _⟩ := h
    rfl
  · obtain ⟨pd, po, t, ex, x, R, rfl, hP, ht, hD, q⟩ := h
    refine ⟨_, pss_one (ps_ret (pe_ix ix_seq (pv 1) (pe_call G hr (by rfl) gn kn bn .nil pass0 (pa_cons (pv 0) (pa_cons (pe_callB call_len (by rfl) ml PySem.boot_len (pa_cons (pv 1) pa_nil)) pa_nil))) (fun _ _ => rfl))), ?_⟩
    rcases hD with ⟨z, rfl, h1, h2, hR⟩ | ⟨l, xs, rfl, hl, hlo, h1, h2, hR⟩
    · have zl : z.length ≤ sizeLine := Nat.le_of_lt (small1000 h2)
      have el : z.length = z.cps.toList.length := by simp [Str.length]
      refine ⟨_, rfl, _, rfl, _, rfl, _, z.length, rfl, ⟨zl, rfl⟩, pd, po, t, ex, _, rfl, hP, ht, by omega, by omega, fun d H' t' ht' d0 d1 hP' hk => ?_⟩
      obtain ⟨c, hc, hm⟩ := at_some (xs := z.cps.toList) d0 (by omega)
      exact .inr (.inr ⟨z, d, c, rfl, rfl, zl, hc, q _ _ t' ht' (hR c hm) hP' hk⟩)
    · refine ⟨_, rfl, _, rfl, _, rfl, _, xs.length, rfl, .inl ⟨xs, SqL.of hl, rfl⟩, pd, po, t, ex, _, rfl, hP, ht, by omega, by omega, fun d H' t' ht' d0 d1 hP' hk => ?_⟩
      obtain ⟨v, hv, hm⟩ := at_some (xs := xs) d0 d1
      have hne : ¬ PM pd po l := fun z => by
        rcases z with z | z
        · obtain ⟨s, _, _, e⟩ := hP.d
          rw [z, e] at hl
          cases hl
        · exact hlo z
      exact .inl ⟨l, xs, d, v, rfl, rfl, SqL.of (hk l _ hne hl), hv, q _ _ t' ht' (hR v hm) hP' hk⟩
/-! ### texts of single signs -/
theorem joinL_nil : ∀ ps : List (List Nat), TL.joinL [] ps = ps.flatten
  | [] => rfl
  | [p] => by simp [TL.joinL]
  | p :: q :: r => by
    show p ++ ([] ++ TL.joinL [] (q :: r)) = _
    rw [joinL_nil (q :: r)]
    rfl
theorem join_signs (cs : List Nat) : Txt.join (Str.ofString "") (cs.map fun c => (⟨#[c]⟩ : Str)) = ⟨cs.toArray⟩ := by
  refine TL.ext_tl ?_
  rw [TL.join_eq, TL.tl_join]
  have e : TL.tl (Str.ofString "") = [] := rfl
  rw [e, joinL_nil, List.map_map, TL.tl_mk]
  induction cs with
  | nil => rfl
  | cons c r ih =>
    rw [List.map_cons, List.flatten_cons, ih]
    rfl
theorem sum_ones (cs : List Nat) : ((cs.map fun c => (⟨#[c]⟩ : Str)).map (·.length)).sum = cs.length := by
  induction cs with
  | nil => rfl
  | cons c r ih =>
    rw [List.map_cons, List.map_cons, List.sum_cons, ih, List.length_cons]
    show 1 + r.length = r.length + 1
    omega
end
end RT

namespace RT
open PySem PySem.Spec PyProof.Rows L2
/-! ### a def whose code is known -/
structure FunT (K : PySem.W.Frag) (x qual : Str) (st : Stmt) (f : Addr) (fd : FuncData) (c : Addr) : Prop where
  ex : ∃ (oc : Value) (od : Option Addr) (kV doc pm : Value) (an : Option Addr) (ct : Value) (osl : Array (Option Value)),
    fd = PySem.W.fnOf x qual (defArgs st) (defBody st) (defScope st) .none kV doc pm an (.ref c) ct ∧ K.lookup f = some ⟨oc, od, .func fd, osl⟩ ∧ PySem.W.codeIn K (.ref c) qual = true
  kp : PySem.W.keepIn K (.ref f) = true
theorem nofree2 {a b : Str × NameKind} (ha : a.2 ≠ .free) (hb : b.2 ≠ .free) : ∀ y ∈ [a, b], y.2 = .free → False := fun y hy e => by
  rcases List.mem_cons.mp hy with z | z
  · rw [z] at e
    exact absurd e ha
  · rw [List.mem_singleton.mp z] at e
    exact absurd e hb
theorem nofree3 {a b c : Str × NameKind} (ha : a.2 ≠ .free) (hb : b.2 ≠ .free) (hc : c.2 ≠ .free) : ∀ y ∈ [a, b, c], y.2 = .free → False := fun y hy e => by
  rcases List.mem_cons.mp hy with z | z
  · rw [z] at e
    exact absurd e ha
  · exact nofree2 hb hc y z e
theorem lt1 (a b : Nat) : ([a] < [b]) ↔ a < b := by
  constructor
  · intro h
    cases h with
    | rel h => exact h
    | cons h => cases h
  · exact fun h => List.Lex.rel h
theorem len_tl (z : Str) : z.length = z.cps.toList.length := by simp [Str.length]
theorem Kp.pot {H H' : Hp} {M : Addr → Prop} {pd po : Addr} {t : Nat} {ex : Ex} (P : Pot H pd po t ex) (k : Kp M H H') (h : ∀ b, M b → H b = none ∨ ∃ ps, H b = some (.tbl ps)) : Pot H' pd po t ex := by
  obtain ⟨s, _, _, e1⟩ := P.d
  obtain ⟨ns, _, _, e2⟩ := P.o
  refine P.keep k (fun z => ?_) (fun z => ?_)
  · rcases h _ z with q | ⟨ps, q⟩
    · rw [e1] at q
      cases q
    · rw [e1] at q
      cases q
  · rcases h _ z with q | ⟨ps, q⟩
    · rw [e2] at q
      cases q
    · rw [e2] at q
      cases q
theorem Pot.new {H : Hp} {pd po p : Addr} {t : Nat} {ex : Ex} {o : HO} (P : Pot H pd po t ex) (n : H p = none) : Pot (upd H p o) pd po t ex := P.keep (M := M0) (Kp.new n) (fun z => z) (fun z => z)
/-- a place that is tracked, neither the pot's dict nor its list -/
theorem off_pot {H : Hp} {pd po p : Addr} {t : Nat} {ex : Ex} (P : Pot H pd po t ex) (n : H p = none) : ¬ PM pd po p := fun z => by
  obtain ⟨s, _, _, e1⟩ := P.d
  obtain ⟨ns, _, _, e2⟩ := P.o
  rcases z with z | z
  · rw [z, e1] at n
    cases n
  · rw [z, e2] at n
    cases n
theorem tYes_ok {σ : L2.St} {H : Hp} {Q : Bool → Hp → Prop} (h : Q true H) : tYes σ H Q := h
theorem tabG_keep {H H' : Hp} {M : Addr → Prop} {T : Addr} (t : GxR.TabG H T) (k : Kp M H H') (h : ¬ M T) : GxR.TabG H' T := by
  obtain ⟨ps, e, r⟩ := t
  exact ⟨ps, k _ _ h e, r⟩
theorem tab_off {H : Hp} {pd po T : Addr} {t : Nat} {ex : Ex} (g : GxR.TabG H T) (P : Pot H pd po t ex) : ¬ PM pd po T := fun z => by
  obtain ⟨s, _, _, e1⟩ := P.d
  obtain ⟨ns, _, _, e2⟩ := P.o
  obtain ⟨ps, e, _⟩ := g
  rcases z with z | z
  · rw [z, e1] at e
    cases e
  · rw [z, e2] at e
    cases e
theorem tabbed_kp {H H' : Hp} {T : Addr} (t : GxR.Tabbed T H H') : Kp (fun b => b = T) H H' := fun b o h e => by rw [t.2 b h]; exact e
theorem off_tab {H : Hp} {T a : Addr} {o : HO} (t : GxR.TabG H T) (e : H a = some o) (n : ∀ ps, o ≠ .tbl ps) : a ≠ T := fun z => by
  obtain ⟨ps, e2, _⟩ := t
  rw [z, e2] at e
  exact n ps (Option.some.inj e).symm
theorem tab_lst {H H' : Hp} {T a : Addr} {xs : List V} (t : GxR.TabG H T) (tb : GxR.Tabbed T H H') (e : H a = some (.lst xs)) : H' a = some (.lst xs) := by
  rw [tb.2 a (off_tab t e fun _ z => by cases z)]
  exact e
theorem tabbed_refl {T : Addr} {H : Hp} (h : GxR.TabG H T) : GxR.Tabbed T H H := ⟨h, fun _ _ => rfl⟩
def signB (c : Nat) : Bool := if c = 10 then true else (!decide ([c] < (Str.ofString " ").cps.toList) && !decide ((Str.ofString "~").cps.toList < [c])) && !decide ((c : Int) = 37)
end RT

namespace RT
open PySem PySem.Spec PyProof.Rows L2
abbrev sSize : Stmt := topS 12
abbrev sSigns : Stmt := topS 13
abbrev sText : Stmt := topS 14
theorem scSize : FnScope ["_law_pot_here", "_law_few", "_law_most"] ["_law_pot_here", "_law_few", "_law_most"] (defScope sSize) := ⟨rfl, rfl, rfl, by decide +kernel, rfl, by decide +kernel, by decide +kernel⟩
theorem scSigns : FnScope ["_law_some"] [] (defScope sSigns) := ⟨rfl, rfl, rfl, by decide +kernel, rfl, by decide +kernel, by decide +kernel⟩
theorem scText : FnScope ["_law_pot_here", "_law_few", "_law_most", "_law_some", "_law_k"] ["_law_pot_here", "_law_few", "_law_most"] (defScope sText) := ⟨rfl, rfl, rfl, by decide +kernel, rfl, by decide +kernel, by decide +kernel⟩
theorem no_tup_pot {H : Hp} {pd po : Addr} {t : Nat} {ex : Ex} (P : Pot H pd po t ex) : ∀ a xs, PM pd po a → H a ≠ some (.tup xs) := fun a xs m e => by
  obtain ⟨s, _, _, e1⟩ := P.d
  obtain ⟨ns, _, _, e2⟩ := P.o
  rcases m with z | z
  · rw [z, e1] at e
    cases e
  · rw [z, e2] at e
    cases e
theorem Kp.put' {H : Hp} {p : Addr} {o : HO} : Kp (fun b => b = p) H (upd H p o) := Kp.put rfl
section
variable {P : Program} {w : World} {K : PySem.W.Frag} {mg : Str → Option Value} {base : Heap}
def spSize : Sp := fun vs H Q _ => ∃ (pd po : Addr) (t m : Nat) (ex : Ex) (a b : Int), vs = [.ref pd, .int a, .int b] ∧ Pot H pd po t ex ∧ t < 2 ^ 49 ∧ 0 ≤ a ∧ 0 ≤ b ∧ a ≤ m ∧ b ≤ m ∧ m ≤ 1000 ∧
  ∀ (d : Nat) (H' : Hp) (t' : Nat), t' ≤ t + 2 → d ≤ m → Pot H' pd po t' ex → Kp (PM pd po) H H' → Q (.int d) H'
theorem ok_size {f fn : Addr} {fd fdn : FuncData} {k : Nat} (F : Fun K "_law_size" "_law_size" sSize f fd) (GN : FnOk P w K mg base CX0 k fn fdn ["_law_pot_here", "_law_many"] spNext) (kn : PySem.W.keepIn K (.ref fn) = true) (bn : Binds K fdn ["_law_pot_here", "_law_many"] []) (gn : mg "_law_next" = some (.ref fn)) (mint : mg "int" = none) :
    FnOk P w K mg base CX0 (k + 1) f fd ["_law_pot_here", "_law_few", "_law_most"] spSize := by
  refine F.ok scSize (fun vs H Q E h => ?_) (fun cdv A outer s H vs Q E hr h => ?_)
  · obtain ⟨pd, po, t, m, ex, a, b, rfl, _⟩ := h
    rfl
  · obtain ⟨pd, po, t, m, ex, a, b, rfl, hP, ht, a0, b0, am, bm, hm, q⟩ := h
    have h49 : (2 : Nat) ^ 49 = 562949953421312 := by decide
    have h50 : (2 : Nat) ^ 50 = 1125899906842624 := by decide
    refine ⟨_, (pss_one (ps_ret (pe_call GN hr (by rfl) gn kn bn .nil pass0 (pa_cons (pv 0) (pa_cons (pe_op op_add (pe_ix ix_list (pe_lst (pa_cons (pv 1) (pa_cons (pv 2) pa_nil))) (pe_callTy call_int1 (by rfl) mint (by decide +kernel) (pa_cons (pe_cmpR op_eq (pe_call GN hr (by rfl) gn kn bn .nil pass0 (pa_cons (pv 0) (pa_cons pe_int pa_nil))) pe_int (nomark _)) pa_nil)) (fun _ _ => rfl)) pe_int) pa_nil))))), ?_⟩
    refine ⟨_, rfl, _, rfl, _, rfl, by show 2 ≤ sizeLine; decide, fun p np => ?_⟩
    have hP1 := hP.new (o := .lst [V.int a, V.int b]) np
    have hp := off_pot hP np
    refine ⟨_, rfl, pd, po, t, ex, 8, rfl, hP1, by omega, by decide, by decide, fun d H2 t2 ht2 d0 d1 hP2 k2 => ?_⟩
    have e2 := k2 p _ hp upd_same
    have kk : Kp (PM pd po) H H2 := (Kp.new np).trans k2
    refine ⟨rfl, .inr ⟨_, rfl, ?_⟩⟩
    have fin : ∀ c : Int, 0 ≤ c → c ≤ m → spNext ([.ref pd, .int (c + 1)] ++ []) H2 (fun v H' => Q v H') E0 := fun c c0 cm =>
      ⟨pd, po, t2, ex, c + 1, rfl, hP2, by omega, by omega, by omega, fun d3 H3 t3 ht3 e0 e1 hP3 k3 => by
        obtain ⟨n, rfl⟩ := Int.eq_ofNat_of_zero_le e0
        exact q n H3 t3 (by omega) (by omega) hP3 (kk.trans k3)⟩
    by_cases hz : V.int d = V.int 0
    · rw [decide_eq_true hz]
      exact ⟨p, _, 1, .int b, rfl, rfl, SqL.of e2, atI_nat (j := 1) rfl, b, 1, rfl, rfl, fin b b0 bm⟩
    · rw [decide_eq_false hz]
      exact ⟨p, _, 0, .int a, rfl, rfl, SqL.of e2, atI_nat (j := 0) rfl, a, 1, rfl, rfl, fin a a0 am⟩
def spSigns : Sp := fun vs H Q _ => vs = [] ∧ ∀ z : Str, 1 ≤ z.length → z.length ≤ 1000 → (∀ c ∈ z.cps.toList, signB c = true) → z.length = 95 → Q (.str z) H
theorem ok_signs {f : Addr} {fd : FuncData} {k : Nat} (F : Fun K "_law_signs" "_law_signs" sSigns f fd) : FnOk P w K mg base CX0 (k + 1) f fd [] spSigns := by
  refine F.ok scSigns (fun vs H Q E h => ?_) (fun cdv A outer s H vs Q E hr h => ?_)
  · obtain ⟨rfl, _⟩ := h
    rfl
  · obtain ⟨rfl, q⟩ := h
    refine ⟨_, (pss_cons (ps_set (i := 0) scSigns.nd rfl (.inl rfl) pe_str)
      (pss_one (ps_ret (pe_op op_add_str (pv 0) pe_str)))), ?_⟩
    refine ⟨_, rfl, _, _, rfl, rfl, by decide +kernel, ?_⟩
    exact q _ (by decide +kernel) (by decide +kernel) (by decide +kernel) (by decide +kernel)
def Sign1 (v : V) : Prop := ∃ c : Nat, v = .str ⟨#[c]⟩ ∧ signB c = true
def spText : Sp := fun vs H Q _ => ∃ (pd po : Addr) (t m : Nat) (ex : Ex) (a b : Int), vs = [.ref pd, .int a, .int b] ∧ Pot H pd po t ex ∧ t < 2 ^ 48 ∧ 0 ≤ a ∧ 0 ≤ b ∧ a ≤ m ∧ b ≤ m ∧ m ≤ 500 ∧
  ∀ (cs : List Nat) (H' : Hp) (t' : Nat), t' ≤ t + 4 + m → 1 ≤ cs.length → cs.length ≤ 1 + m → (∀ c ∈ cs, signB c = true) → Pot H' pd po t' ex → Kp (PM pd po) H H' → Q (.str ⟨cs.toArray⟩) H'
theorem ok_text {f fn fk fz fs : Addr} {fd fdn fdk fdz fds : FuncData} {k : Nat} (F : Fun K "_law_text" "_law_text" sText f fd)
    (GN : FnOk P w K mg base CX0 k fn fdn ["_law_pot_here", "_law_many"] spNext) (kn : PySem.W.keepIn K (.ref fn) = true) (bn : Binds K fdn ["_law_pot_here", "_law_many"] []) (gn : mg "_law_next" = some (.ref fn))
    (GK : FnOk P w K mg base CX0 (k + 1) fk fdk ["_law_pot_here", "_law_some"] (spPick K)) (kk : PySem.W.keepIn K (.ref fk) = true) (bk : Binds K fdk ["_law_pot_here", "_law_some"] []) (gk : mg "_law_pick" = some (.ref fk))
    (GZ : FnOk P w K mg base CX0 (k + 1) fz fdz ["_law_pot_here", "_law_few", "_law_most"] spSize) (kz : PySem.W.keepIn K (.ref fz) = true) (bz : Binds K fdz ["_law_pot_here", "_law_few", "_law_most"] []) (gz : mg "_law_size" = some (.ref fz))
    (GS : FnOk P w K mg base CX0 k fs fds [] spSigns) (ks : PySem.W.keepIn K (.ref fs) = true) (bs : Binds K fds [] []) (gs : mg "_law_signs" = some (.ref fs)) (mr : mg "range" = none) :
    FnOk P w K mg base CX0 (k + 2) f fd ["_law_pot_here", "_law_few", "_law_most"] spText := by
  refine F.ok scText (fun vs H Q E h => ?_) (fun cdv A outer s H vs Q E hr h => ?_)
  · obtain ⟨pd, po, t, m, ex, a, b, rfl, _⟩ := h
    rfl
  · obtain ⟨pd, po, t, m, ex, a, b, rfl, hP, ht, a0, b0, am, bm, hm, q⟩ := h
    have h48 : (2 : Nat) ^ 48 = 281474976710656 := by decide
    have h49 : (2 : Nat) ^ 49 = 562949953421312 := by decide
    have h50 : (2 : Nat) ^ 50 = 1125899906842624 := by decide
    have hr0 := hr.mono (show k ≤ k + 1 by omega)
    refine ⟨_, (pss_cons (ps_set (i := 3) scText.nd rfl (.inr rfl) (pe_ix ix_list (pe_lst (pa_cons pe_str (pa_cons pe_str (pa_cons pe_str (pa_cons (pe_call0 GS hr0 (by rfl) gs ks bs .nil pass0) pa_nil))))) (pe_call GN hr0 (by rfl) gn kn bn .nil pass0 (pa_cons (pv 0) (pa_cons pe_int pa_nil))) (fun _ _ => rfl)))
      (pss_one (ps_ret (pe_join pe_str (pe_lc (own := [("_law_k", 4)]) (g := gName 4) (tt := tYes) rfl scText.nd (pi_range1 (by rfl) mr (pa_cons (pe_op op_add pe_int (pe_call GZ hr (by rfl) gz kz bz .nil pass0 (pa_cons (pv 0) (pa_cons (pv 1) (pa_cons (pv 2) pa_nil))))) pa_nil)) (blkOk_by (N := ["_law_pot_here", "_law_few", "_law_most", "_law_some", "_law_k"]) (sc := defScope sText) (by decide +kernel)) (fun _ _ _ _ _ => (pg_name (i := 4) scText.nd rfl (.inl rfl))) (fun _ _ _ _ _ => pts_nil) (fun _ _ _ _ _ => (pe_call GK hr (by rfl) gk kk bk .nil pass0 (pa_cons (pv 0) (pa_cons (pv 3) pa_nil))))))))), ?_⟩
    refine ⟨rfl, fun zs zs1 zs2 zs3 _ => ⟨by show 4 ≤ sizeLine; decide, fun p np => ?_⟩⟩
    have hP1 := hP.new (o := .lst [V.str "ab", V.str "abc,;", V.str "0123456789", V.str zs]) np
    have hp := off_pot hP np
    refine ⟨_, rfl, pd, po, t, ex, 4, rfl, hP1, by omega, by decide, by decide, fun d H2 t2 ht2 d0 d1 hP2 k2 => ?_⟩
    obtain ⟨v, hv, hmem⟩ := at_some (xs := [V.str "ab", V.str "abc,;", V.str "0123456789", V.str zs]) d0 d1
    refine ⟨p, _, d, v, rfl, rfl, SqL.of (k2 p _ hp upd_same), hv, ?_⟩
    have k2' : Kp (PM pd po) H H2 := (Kp.new np).trans k2
    obtain ⟨z, rfl, z1, z2, hz⟩ : ∃ z : Str, v = .str z ∧ 1 ≤ z.length ∧ z.length ≤ 1000 ∧ ∀ c ∈ z.cps.toList, Sign1 (.str ⟨#[c]⟩) := by
      have wrap : ∀ z : Str, (∀ c ∈ z.cps.toList, signB c = true) → ∀ c ∈ z.cps.toList, Sign1 (.str ⟨#[c]⟩) := fun z h c hc => ⟨c, rfl, h c hc⟩
      simp only [List.mem_cons, List.not_mem_nil, or_false] at hmem
      rcases hmem with e | e | e | e
      · exact ⟨_, e, by decide, by decide, wrap _ (by decide)⟩
      · exact ⟨_, e, by decide, by decide, wrap _ (by decide)⟩
      · exact ⟨_, e, by decide, by decide, wrap _ (by decide)⟩
      · exact ⟨_, e, zs1, zs2, wrap _ zs3⟩
    refine ⟨⟨_, rfl⟩, _, rfl, _, rfl, _, rfl, pd, po, t2, m, ex, a, b, rfl, hP2, by omega, a0, b0, am, bm, by omega, fun d3 H3 t3 ht3 d3m hP3 k3 => ?_⟩
    have k3' : Kp (PM pd po) H H3 := k2'.trans k3
    refine ⟨_, _, rfl, rfl, 1 + (d3 : Int), rfl, by omega, by omega, fun D nD => ?_⟩
    have hD := off_pot hP3 nD
    refine lc_range (lo := 0) (n := (1 + (d3 : Int)).toNat) (fun i H4 => ∃ (t4 : Nat) (cs : List Nat), t4 ≤ t + 3 + i ∧ cs.length = i ∧ (∀ c ∈ cs, signB c = true) ∧ Pot H4 pd po t4 ex ∧ Kp (PM pd po) H H4 ∧ H4 D = some (.lst (cs.map fun c => V.str ⟨#[c]⟩))) ?_ ?_ ?_
    · exact ⟨t3, [], by omega, rfl, fun _ z => (nomatch z), hP3.new nD, k3'.trans (Kp.new nD), upd_same⟩
    · rintro i H4 hi ⟨t4, cs, ht4, hl, hc, hP4, k4, e4⟩
      refine ⟨rfl, tYes_ok (iteT ?_)⟩
      refine ⟨_, rfl, _, rfl, pd, po, t4, ex, _, Sign1, rfl, hP4, by omega, .inl ⟨z, rfl, z1, z2, hz⟩, fun v' H5 t5 ht5 ⟨c, ev, c1⟩ hP5 k5 => ?_⟩
      subst ev
      have e5 := k5 D _ hD e4
      refine ⟨_, e5, by rw [List.length_map]; exact small1000 (by omega), t5, cs ++ [c], by omega, by rw [List.length_append, hl]; rfl, ?_, ?_, ?_, ?_⟩
      · intro b hb
        rcases List.mem_append.mp hb with h | h
        · exact hc b h
        · rw [List.mem_singleton.mp h]
          exact c1
      · exact hP5.keep (M := fun b => b = D) (Kp.put rfl) (fun h => hD (.inl h.symm)) (fun h => hD (.inr h.symm))
      · intro b u hb e
        have nb : b ≠ D := fun h => by
          have q2 := k3' b u hb e
          rw [h, nD] at q2
          cases q2
        rw [upd_ne nb]
        exact k5 b u hb (k4 b u hb e)
      · rw [upd_same, List.map_append]
        rfl
    · rintro H4 ⟨t4, cs, ht4, hl, hc, hP4, k4, e4⟩
      refine ⟨_, D, cs.map fun c => (⟨#[c]⟩ : Str), rfl, rfl, .inl (SqL.of (by rw [e4, List.map_map]; rfl)), ?_, ?_⟩
      · rw [sum_ones]
        show cs.length + _ * 0 ≤ _
        omega
      · rw [join_signs]
        exact q cs H4 t4 (by omega) (by omega) (by omega) hc hP4 k4
end
end RT

set_option maxHeartbeats 4000000
/-! sorted(set(text)) -/
namespace RT
open PySem PySem.Spec PyProof.Rows L2 PySem.Froz
/-! ### the payload -/
section
variable {P : Program} {w : World} {A : Around} {E : Value → Shared → Prop} {s : Shared}
theorem addTx_ris (h : Int) (v : Value) (D : SD) (r : Ris D.2.2.place.toList) : Ris (addTx h v D).2.2.place.toList ∧ (addTx h v D).2.2.led = D.2.2.led := by
  have r1 := layNew_ris D.2.2 D.1 h v r
  have l1 := layNew_led D.2.2 D.1 h v
  have pl : ∀ t : SetTable, (if t.plain = true then { t with plain := false } else t).place = t.place ∧ (if t.plain = true then { t with plain := false } else t).led = t.led := fun t => by split <;> exact ⟨rfl, rfl⟩
  obtain ⟨p1, p2⟩ := pl (layNew D.2.2 D.1 h v).2.1
  unfold addTx tailTx
  by_cases c : (!(layNew D.2.2 D.1 h v).2.2.1 && (if (layNew D.2.2 D.1 h v).2.1.plain = true then { (layNew D.2.2 D.1 h v).2.1 with plain := false } else (layNew D.2.2 D.1 h v).2.1).tooFull) = true
  · rw [if_pos c]
    exact ⟨relayAll_ris _ _ _, (relayAll_led _ _ _).trans (p2.trans l1)⟩
  · rw [if_neg c]
    exact ⟨by show Ris (Array.toList (SetTable.place _)); rw [p1]; exact r1, p2.trans l1⟩
/-- a set of just the texts l -/
def TSet (P : Program) (w : World) (h : Heap) (a : Addr) (l : List Str) : Prop :=
  ∃ D : SD, h.get? a = some (sObj "set" D) ∧ TxOk P w D l ∧ l.Nodup ∧ Ris D.2.2.place.toList ∧ (w.params.followText "set-order" = true ∨ D.2.2.led = true)
theorem TSet.at {h h' : Heap} {a : Addr} {l : List Str} (t : TSet P w h a l) (k : ∀ o, h.get? a = some o → h'.get? a = some o) : TSet P w h' a l := by
  obtain ⟨D, ho, r⟩ := t
  exact ⟨D, k _ ho, r⟩
/-- a text that is there already -/
theorem again_x {a : Addr} {D : SD} {l : List Str} {k : Str} {u : Tok} {Q : Bool → Shared → Prop} (ho : s.heap.get? a = some (sObj "set" D)) (F : TxOk P w D l) (hk : k ∈ l) (hb : l.length < scanBound) (q : Q false s) :
    wpAny (model P w) A (setAddHashed a (.str k u) (hashStr w k)) Q E s := by
  obtain ⟨e, he, hp⟩ := (F.mem k).mp hk
  have few : D.1.size < scanBound := F.sz ▸ hb
  obtain ⟨j, hj⟩ : ∃ j, List.findIdx? (fun e => (PySem.strKind P w).is k e.2) D.1.toList = some j := by
    cases c : List.findIdx? (fun e => (PySem.strKind P w).is k e.2) D.1.toList with
    | some j => exact ⟨j, rfl⟩
    | none =>
      have z := List.findIdx?_eq_none_iff.mp c e he
      rw [hp] at z
      cases z
  unfold setAddHashed setAddHashedIn
  refine wpAny_holding ?_
  refine wpAny_bind (wpAny_setState_of ho (es := D.1) (ep := D.2.1) (t := D.2.2) rfl F.fit ?_)
  dsimp only
  rw [byScan_of (knd := PySem.strKind P w) rfl few F.el, if_pos rfl]
  unfold setAddByScan
  refine wpAny_bind (wpAny_bind (wpAny_rule (wpAny_bind (wpAny_setScan_of (is_str k u) ho (es := D.1) (ep := D.2.1) (t := D.2.2) rfl F.fit F.el ?_))))
  rw [hj]
  exact wpAny_pure (wpAny_pure q)
theorem tset_add {a : Addr} {l : List Str} {k : Str} {u : Tok} {Q : Bool → Shared → Prop} (t : TSet P w s.heap a l) (hb : l.length + 1 < scanBound)
    (q : ∀ (h' : Heap) (b : Bool), (∀ c o, c ≠ a → s.heap.get? c = some o → h'.get? c = some o) → TSet P w h' a (if k ∈ l then l else k :: l) → Q b { s with heap := h' }) :
    wpAny (model P w) A (setAddHashed a (.str k u) (hashStr w k)) Q E s := by
  obtain ⟨D, ho, F, nd, r, ld⟩ := t
  by_cases hk : k ∈ l
  · rw [if_pos hk] at q
    exact again_x ho F hk (by omega) (q s.heap false (fun _ _ _ e => e) ⟨D, ho, F, nd, r, ld⟩)
  · rw [if_neg hk] at q
    refine add_x ho F hk hb (q _ true (fun c o n e => ?_) ?_)
    · rw [Heap.get?_update_other _ _ (Ne.symm n)]
      exact e
    · obtain ⟨r1, r2⟩ := addTx_ris (hashStr w k) (.str k u) D r
      exact ⟨_, get_upd _ ho rfl, add_ok u F, List.nodup_cons.mpr ⟨hk, nd⟩, r1, ld.imp id fun z => r2.trans z⟩
/-! ### set(text) -/
/-- the members met by the first i signs -/
def metN (cs : List Nat) : List Str → List Str
  | l => cs.foldl (fun l c => if (⟨#[c]⟩ : Str) ∈ l then l else ⟨#[c]⟩ :: l) l
theorem metN_len (cs : List Nat) : ∀ l : List Str, (metN cs l).length ≤ l.length + cs.length := by
  induction cs with
  | nil => exact fun l => Nat.le_refl _
  | cons c r ih =>
    intro l
    have h := ih (if (⟨#[c]⟩ : Str) ∈ l then l else ⟨#[c]⟩ :: l)
    have z : (if (⟨#[c]⟩ : Str) ∈ l then l else ⟨#[c]⟩ :: l).length ≤ l.length + 1 := by split <;> simp
    rw [List.length_cons]
    exact Nat.le_trans h (by omega)
theorem metN_mem (cs : List Nat) : ∀ (l : List Str) (k : Str), k ∈ metN cs l ↔ k ∈ l ∨ ∃ c ∈ cs, k = ⟨#[c]⟩ := by
  induction cs with
  | nil => exact fun l k => ⟨.inl, fun h => h.elim id fun ⟨c, z, _⟩ => nomatch z⟩
  | cons c r ih =>
    intro l k
    refine (ih (if (⟨#[c]⟩ : Str) ∈ l then l else ⟨#[c]⟩ :: l) k).trans ?_
    have z : k ∈ (if (⟨#[c]⟩ : Str) ∈ l then l else ⟨#[c]⟩ :: l) ↔ k ∈ l ∨ k = ⟨#[c]⟩ := by
      split
      · rename_i h
        exact ⟨.inl, fun q => q.elim id fun e => e ▸ h⟩
      · rw [List.mem_cons]
        exact Or.comm
    rw [z]
    constructor
    · rintro ((h | h) | ⟨d, h, e⟩)
      · exact .inl h
      · exact .inr ⟨c, List.mem_cons_self .., h⟩
      · exact .inr ⟨d, List.mem_cons_of_mem _ h, e⟩
    · rintro (h | ⟨d, h, e⟩)
      · exact .inl (.inl h)
      · rcases List.mem_cons.mp h with q | q
        · exact .inl (.inr (q ▸ e))
        · exact .inr ⟨d, q, e⟩
/-- the signs from the i-th on, one by one -/
theorem text_in {I S : Addr} {fp wr : List Addr} {z : Str} {St : Nat → Heap → Prop} {R : Result → Shared → Prop} (W : Walks P w A.in1 I fp wr z.cps.size (SignAt z) St) (hS : S ∉ fp) (hn : z.cps.size + 1 < scanBound) :
    ∀ (cs : List Nat) (i : Nat) (l : List Str) (s : Shared), z.cps.toList.drop i = cs → i ≤ z.cps.size → St i s.heap → TSet P w s.heap S l → l.length ≤ i →
      (∀ s' : Shared, s'.gens = s.gens → s'.drawn = s.drawn → s'.os = s.os → (∀ b o, b ≠ S → b ∉ wr → s.heap.get? b = some o → s'.heap.get? b = some o) → TSet P w s'.heap S (metN cs l) → R (.ok (.ret .none)) s') →
      codeAny (model P w) A (.builtin "set.update.loop" ⟨[.ref S, .ref I], []⟩) R s := by
  have off : S ∉ wr := fun m => hS (W.sub _ m)
  have WS := W.toS
  intro cs
  induction cs with
  | nil =>
    intro i l s hd hi hst hT _ hR
    have e : i = z.cps.size := by
      have q := congrArg List.length hd
      rw [List.length_drop, Array.length_toList] at q
      simp only [List.length_nil] at q
      omega
    subst e
    refine codeAny_builtin PyProof.Rows.F.entry_set_update_loop ?_
    rw [Around.under_plainId PyProof.Rows.F.plain_set_update_loop _]
    show wpAny _ A.in1 (pyNext (.ref I) >>= _) _ _ _
    refine wpAny_bind (WS.done _ _ _ hst fun s' m => ?_)
    exact wpAny_pure (hR s' m.gens m.drawn m.os (fun b o _ nw e => m.heap b o nw e) (hT.at fun o e => m.heap S o off e))
  | cons c r ih =>
    intro i l s hd hi hst hT hl hR
    have hlt : i < z.cps.size := by
      have q := congrArg List.length hd
      rw [List.length_drop, Array.length_toList, List.length_cons] at q
      omega
    obtain ⟨hc, hd2⟩ := at_of hd
    refine codeAny_builtin PyProof.Rows.F.entry_set_update_loop ?_
    rw [Around.under_plainId PyProof.Rows.F.plain_set_update_loop _]
    show wpAny _ A.in1 (pyNext (.ref I) >>= _) _ _ _
    refine wpAny_bind (WS.item i _ _ _ hlt hst fun v s1 hv hst1 m => ?_)
    obtain ⟨c', u, hc', rfl⟩ := hv
    rw [hc] at hc'
    cases hc'
    have hT1 : TSet P w s1.heap S l := hT.at fun o e => m.heap S o off e
    show wpAny _ A.in1 (holding [Value.str ⟨#[c]⟩ u] (setAdd S (.str ⟨#[c]⟩ u)) >>= _) _ _ _
    unfold setAdd
    refine wpAny_bind (wpAny_holding (wpAny_holding (wpAny_bind ((PySem.strKind P w).pyHash (k := ⟨#[c]⟩) (is_str _ _) ?_))))
    refine tset_add (s := { s1 with toks := s1.toks + 1 }) hT1 (by omega) fun h' b hk hT2 => ?_
    refine wpAny_pure ⟨plainId_quiet PyProof.Rows.F.plain_set_update_loop _, ih (i + 1) _ _ hd2 hlt (WS.frame _ s1 h' _ hst1 (Nat.le_succ _) fun b hb o e => hk b o (fun q => hS (q ▸ hb)) e) hT2 ?_ fun s2 g2 d2 o2 k2 hT3 => ?_⟩
    · show (if (⟨#[c]⟩ : Str) ∈ l then l else ⟨#[c]⟩ :: l).length ≤ i + 1
      split
      · omega
      · rw [List.length_cons]
        omega
    · exact hR s2 (g2.trans m.gens) (d2.trans m.drawn) (o2.trans m.os) (fun b o nS nw e => k2 b o nS nw (hk b o nS (m.heap b o nw e))) hT3
/-- the new set -/
abbrev bare (w : World) : Obj := sObj "set" (#[], 0, .fresh 0 0 (!w.params.followText "set-order"))
theorem bare_ok {h : Heap} {a : Addr} (e : h.get? a = some (bare w)) : TSet P w h a [] :=
  ⟨_, e, TxOk.nil rfl, List.nodup_nil, List.Pairwise.nil, by
    show _ ∨ (!w.params.followText "set-order") = true
    cases w.params.followText "set-order" <;> simp⟩
theorem set_text {z : Str} {u : Tok} {Q : Value → Shared → Prop} (hh : A.handled = none) (hz : z.cps.size + 1 < scanBound)
    (q : ∀ (h' : Heap) (tk : Nat), TSet P w h' s.heap.objs.size (metN z.cps.toList []) → (∀ b o, s.heap.get? b = some o → h'.get? b = some o) → Q (.ref s.heap.objs.size) { s with heap := h', toks := tk }) :
    wpAny (model P w) A (call (.type "set") [.str z u]) Q E s := by
  obtain ⟨c, tl, mro⟩ := PySem.F.called_set.mro
  have mk := PySem.F.called_set.made
  have sb := PySem.F.called_set.sub
  refine wpAny_call (codeAny_of_tree ?_)
  show wpAny _ _ (callAny (.type "set") _) _ _ _
  refine wpAny_pure ⟨Code.quiet_builtin _ (by decide +kernel), codeAny_builtin PySem.F.entry_type_call ?_⟩
  rw [Around.under_plain (weight_type_call_type "set" [.str z u] []) rfl]
  have nt := PySem.F.called_set.notType
  have cc := PySem.F.called_set.canCreate
  have tc := PySem.F.typeCall_set_1 (.str z u)
  repeat (any_goals (first | assumption | wp_step))
  refine codeAny_mono (code_set_led1 (.str z u) (E := E) (Q₁ := fun v t => v = .ref s.heap.objs.size ∧ t = { s with heap := s.heap.push (bare w) }) ⟨rfl, rfl⟩) fun r t hr => ?_
  cases r with
  | error e => exact hr
  | ok fl =>
    cases fl with
    | ret obj =>
      obtain ⟨rfl, rfl⟩ := hr
      have at0 : (s.heap.push (bare w)).get? s.heap.objs.size = some (bare w) := Heap.get?_push_size _ rfl
      have ty : Shared.TypeIs { s with heap := s.heap.push (bare w) } (.ref s.heap.objs.size) "set" := ⟨_, at0, rfl⟩
      have il := PySem.F.called_set.init.lookup
      have ib := PySem.F.called_set.init.bind (.ref s.heap.objs.size)
      repeat (any_goals (first | assumption | wp_step))
      refine codeAny_mono (codeAny_call_builtin (R := wants (fun v t2 => v = .none ∧ ∃ (h' : Heap) (tk : Nat), t2 = { s with heap := h', toks := tk } ∧ TSet P w h' s.heap.objs.size (metN z.cps.toList []) ∧
        ∀ b o, s.heap.get? b = some o → h'.get? b = some o) E) PySem.F.called_set.init.plain PySem.F.entry_set_init (check_set_init_1 ty ?_)) fun r2 t2 hr2 => ?_
      · have s1 := PySem.F.sub_str_set
        have s2 := PySem.F.sub_str_frozenset
        have nd : (Value.type "str" == Value.type "dict") = false := by decide
        unfold Builtin.«set.__init__» noKeywords Builtin.Frozenset.updateFrom
        generalize hPI : pyIter = PI
        wp_walk
        subst hPI
        have nS : s.heap.objs.size ∉ [(s.heap.push (bare w)).objs.size] := fun m => by
          rw [List.mem_singleton, Heap.size_push] at m
          omega
        refine wpAny_pyIter_str fun o St W st0 => ?_
        refine wpAny_bind (wpAny_runValue ?_)
        refine text_in (W _ (by simp [hh])) nS hz z.cps.toList 0 [] _ rfl (Nat.zero_le _) st0 (bare_ok (Heap.get?_push_of_some _ at0)) (Nat.le_refl _) fun s' g d os k t => ?_
        obtain ⟨h', g', d', tk', os'⟩ := s'
        cases g
        cases d
        cases os
        refine wpAny_pure ?_
        show wpAny _ _ (ret Value.none) _ _ _
        refine wpAny_pure ⟨rfl, h', tk', rfl, t, fun b o e => ?_⟩
        have lt := Heap.lt_size e
        refine k b o (Nat.ne_of_lt lt) (fun m => ?_) (Heap.get?_push_of_some _ (Heap.get?_push_of_some _ e))
        rw [List.mem_singleton, Heap.size_push] at m
        exact absurd (show s.heap.objs.size + 1 < s.heap.objs.size from m ▸ lt) (Nat.not_lt.mpr (Nat.le_succ _))
      · cases r2 with
        | error e => exact hr2
        | ok fl2 =>
          cases fl2 with
          | ret v =>
            obtain ⟨rfl, h', tk, rfl, t, k⟩ := hr2
            repeat (any_goals (first | assumption | wp_step))
            exact q h' tk t k
          | _ => exact hr2.elim
    | _ => exact hr.elim
end
end RT

set_option maxHeartbeats 4000000
namespace RT
open PySem PySem.Spec PyProof.Rows L2 PySem.Froz
theorem perm_in : ∀ {l ss : List Str}, l.Nodup → (∀ k ∈ l, k ∈ ss) → ss.length ≤ l.length → ss.Perm l
  | [], ss, _, _, h => by
    cases ss with
    | nil => exact .nil
    | cons a r => exact absurd h (Nat.not_succ_le_zero _)
  | k :: r, ss, nd, hi, h => by
    have hk := hi k (List.mem_cons_self ..)
    have nd2 := List.nodup_cons.mp nd
    refine (List.perm_cons_erase hk).trans (.cons k (perm_in nd2.2 (fun x hx => ?_) ?_))
    · exact (List.mem_erase_of_ne fun e => nd2.1 (by rw [← e]; exact hx)).mpr (hi x (List.mem_cons_of_mem _ hx))
    · rw [List.length_erase_of_mem hk]
      rw [List.length_cons] at h
      omega
section
variable {P : Program} {w : World} {A : Around} {E : Value → Shared → Prop} {s : Shared}
theorem txt_of : ∀ {out : List Value}, (∀ v ∈ out, ∃ k t, v = Value.str k t) → ∃ ss : List Str, StrsAre out ss
  | [], _ => ⟨[], .nil⟩
  | v :: r, h => by
    obtain ⟨k, t, rfl⟩ := h v (List.mem_cons_self ..)
    obtain ⟨ss, q⟩ := txt_of fun x hx => h x (List.mem_cons_of_mem _ hx)
    exact ⟨k :: ss, .cons k t q⟩
theorem txt_mem : ∀ {out : List Value} {ss : List Str}, StrsAre out ss → ∀ k : Str, (∃ t, Value.str k t ∈ out) → k ∈ ss
  | _, _, .nil, k, ⟨t, h⟩ => nomatch h
  | _, _, .cons y u q, k, ⟨t, h⟩ => by
    rcases List.mem_cons.mp h with e | e
    · cases e
      exact List.mem_cons_self ..
    · exact List.mem_cons_of_mem _ (txt_mem q k ⟨t, e⟩)
theorem str_is {k : Str} {v : Value} (h : (PySem.strKind P w).is k v = true) : ∃ t, v = .str k t := by
  cases v with
  | str y t =>
    have e : y = k := beq_iff_eq.mp h
    exact ⟨t, e ▸ rfl⟩
  | _ => cases h
theorem sort_tset {a : Addr} {l : List Str} {Q : Value → Shared → Prop} (T : TSet P w s.heap a l) (hh : A.handled = none) (h64 : l.length < 64)
    (q : ∀ (s' : Shared) (p : Addr) (out : Array Value) (c : Nat) (ys : List Str), (∀ b o, s.heap.get? b = some o → s'.heap.get? b = some o) → s'.gens = s.gens → s'.os = s.os → s.heap.objs.size ≤ p →
      s'.heap.get? p = some (seqObj "list" out c) → StrsAre out.toList ys → ys.Perm l → sortedS ys = true → Q (.ref p) s') : wpAny (model P w) A (call (.builtin "sorted") [.ref a]) Q E s := by
  obtain ⟨⟨es, ep, t⟩, ho, F, nd, r, ld⟩ := T
  have esz : es.size = l.length := F.sz
  have few : es.size < scanBound := by
    rw [esz]
    exact Nat.lt_trans h64 (by unfold scanBound; decide)
  refine Calls.call_function_entry kind_sorted plain_sorted entry_sorted (args_sorted1 _) ?_
  unfold Builtin.«sorted»
  refine wpAny_bind (m := checkCount "sorted" 1 1 _) (wpAny_pure ?_)
  refine wpAny_bind (collect_set (A := A.in1) hh ⟨_, ho, rfl, rfl⟩ F.fit few r ld fun s1 vs k1 big g1 o1 pm => ?_)
  have len : vs.length = l.length := by rw [pm.length_eq, List.length_map, Array.length_toList, esz]
  obtain ⟨ss, hS⟩ := txt_of (out := vs) fun v hv => by
    obtain ⟨e, he, ev⟩ := List.mem_map.mp (pm.mem_iff.mp hv)
    obtain ⟨⟨k, hk, _⟩, _⟩ := F.el e he
    obtain ⟨u, eu⟩ := str_is hk
    exact ⟨k, u, ev ▸ eu⟩
  have pl : ss.Perm l := perm_in nd (fun k hk => txt_mem hS k (by
    obtain ⟨e, he, z⟩ := (F.mem k).mp hk
    obtain ⟨u, eu⟩ := str_is z
    exact ⟨u, pm.mem_iff.mpr (List.mem_map.mpr ⟨e, he, eu⟩)⟩)) (by have z := (vals_of_strs hS).length; rw [List.length_map] at z; omega)
  refine wpAny_bind (wpAny_newList ?_ (by rw [len, sizeLine_eq]; omega))
  have at1 : (s1.heap.push (seqObj "list" vs.toArray 0)).get? s1.heap.objs.size = some (seqObj "list" vs.toArray 0) := Heap.get?_push_size _ rfl
  refine wpAny_bind (wpAny_holding (wpAny_call_entry slot_list_sort ⟨_, at1, rfl⟩ entry_list_sort ?_ (args_list_sort _)))
  refine list_sort_treeK strKind_oneLt at1 hS.keysOf (fun v₁ v₂ rest e => keyKind_strs (ss := ss) (by rw [← e]; exact hS)) (by omega) fun st' a1 a2 => ⟨_, rfl, ?_⟩
  obtain ⟨ys, b1, b2, b3⟩ := sorted_out_str hS a1 a2
  obtain ⟨c, hc⟩ := sortedHeap_at (vs := vs) (out := (arrOf st').map (·.2)) at1
  refine wpAny_pure ⟨_, rfl, q _ s1.heap.objs.size _ c ys (fun b u e => ?_) g1 o1 big hc b1 (b2.trans pl) b3⟩
  have e1 := k1 b u e
  have lt := Heap.lt_size e1
  show (sortedHeap (s1.heap.push (seqObj "list" vs.toArray 0)) s1.heap.objs.size vs _).get? b = some u
  rw [sortedHeap_old (Nat.ne_of_lt lt) (by rw [size_push']; exact Nat.lt_succ_of_lt lt)]
  exact Heap.get?_push_of_some _ e1
end
/-! ### as calls -/
def TSetO (P : Program) (w : World) (a : Addr) (l : List Str) : HO := .ext fun h => TSet P w h a l
section
variable {X : Cx}
def rSetTx (P : Program) (w : World) : List V → Hp → VK → Prop := fun xs H Q => ∃ z : Str, xs = [.str z] ∧ z.length < 4000 ∧ ∀ p, H p = none → Q (.ref p) (upd H p (TSetO P w p (metN z.cps.toList [])))
theorem cr_setTx (hc : X.calm = true) : CallR X (.type "set") (rSetTx X.prog X.w) := by
  intro pins s σ H xs us Q I r h
  obtain ⟨z, rfl, hz, q⟩ := h
  obtain ⟨u, rfl, ru⟩ := vals1 r
  obtain ⟨t, rfl⟩ := ru
  refine set_text (I.ok.hd hc) (by unfold scanBound; exact Nat.lt_of_le_of_lt hz (by decide)) fun h' tk T k => ?_
  refine ⟨.ref s.heap.objs.size, upd H s.heap.objs.size (TSetO X.prog X.w s.heap.objs.size (metN z.cps.toList [])), I.laid (t' := tk) k (Nat.le_refl _) ⟨T, ?_, fun h1 h2 p k2 => p.at k2⟩, rfl, q _ (I.hok.fresh (Nat.le_refl _))⟩
  obtain ⟨D, ho, _⟩ := T
  exact ⟨_, ho⟩
def rSortTx (P : Program) (w : World) : List V → Hp → VK → Prop := fun xs H Q => ∃ (a : Addr) (l : List Str), xs = [.ref a] ∧ H a = some (TSetO P w a l) ∧ l.length < 64 ∧
  ∀ (ys : List Str) (p : Addr), ys.Perm l → sortedS ys = true → H p = none → Q (.ref p) (upd H p (.lst (ys.map V.str)))
theorem cr_sortTx (hc : X.calm = true) : CallR X (.builtin "sorted") (rSortTx X.prog X.w) := by
  intro pins s σ H xs us Q I r h
  obtain ⟨a, l, rfl, ha, h64, q⟩ := h
  have T : TSet X.prog X.w s.heap a l := (I.hok a _ ha).1
  rw [Vals.ref1 r]
  refine sort_tset T (I.ok.hd hc) h64 fun s' p out c ys k g o hp e hS pl st => ?_
  have hn : H p = none := I.hok.fresh hp
  have few : (ys.map V.str).length ≤ sizeLine := by rw [List.length_map, pl.length_eq, sizeLine_eq]; omega
  exact ⟨.ref p, _, I.call' (ch := []) o (Un.laid k hp hn) (I.hok.laid (o := .lst (ys.map V.str)) k hp ⟨few, out.toList, c, vals_of_strs hS, e⟩) (g ▸ I.bare) (fun _ z => nomatch z), rfl, q ys p pl st hn⟩
end
end RT

namespace RT
open PySem PySem.Spec PyProof.Rows L2
abbrev sSet : Stmt := topS 15
abbrev sBit : Stmt := topS 18
theorem scSet : FnScope ["_law_pot_here"] ["_law_pot_here"] (defScope sSet) := ⟨rfl, rfl, rfl, by decide +kernel, rfl, by decide +kernel, by decide +kernel⟩
theorem scBit : FnScope ["_law_pot_here", "_law_few", "_law_most", "_law_text_here"] ["_law_pot_here", "_law_few", "_law_most"] (defScope sBit) := ⟨rfl, rfl, rfl, by decide +kernel, rfl, by decide +kernel, by decide +kernel⟩
/-! ### rising texts of signs -/
section
variable {P : Program} {w : World} {K : PySem.W.Frag} {mg : Str → Option Value} {base : Heap}
def spSet : Sp := fun vs H Q _ => ∃ (pd po : Addr) (t : Nat) (ex : Ex), vs = [.ref pd] ∧ Pot H pd po t ex ∧ t < 2 ^ 47 ∧
  ∀ (cs : List Nat) (H' : Hp) (t' : Nat), t' ≤ t + 24 → 1 ≤ cs.length → cs.length ≤ 21 → (∀ c ∈ cs, signB c = true) → cs.Nodup → sortedS (cs.map fun c => (⟨#[c]⟩ : Str)) = true → Pot H' pd po t' ex → Kp (PM pd po) H H' → Q (.str ⟨cs.toArray⟩) H'
theorem sing_inj {a b : Nat} (h : (⟨#[a]⟩ : Str) = ⟨#[b]⟩) : a = b := by
  have e : [a] = [b] := congrArg (fun z : Str => z.cps.toList) h
  exact (List.cons.inj e).1
theorem sings_of : ∀ {ys : List Str}, (∀ y ∈ ys, ∃ c, y = (⟨#[c]⟩ : Str)) → ∃ cs : List Nat, ys = cs.map fun c => (⟨#[c]⟩ : Str)
  | [], _ => ⟨[], rfl⟩
  | y :: r, h => by
    obtain ⟨c, rfl⟩ := h y (List.mem_cons_self ..)
    obtain ⟨cs, e⟩ := sings_of fun z hz => h z (List.mem_cons_of_mem _ hz)
    exact ⟨c :: cs, by rw [e]; rfl⟩
theorem metN_nodup (cs : List Nat) : ∀ l : List Str, l.Nodup → (metN cs l).Nodup := by
  induction cs with
  | nil => exact fun l h => h
  | cons c r ih =>
    intro l h
    refine ih _ ?_
    show (if (⟨#[c]⟩ : Str) ∈ l then l else ⟨#[c]⟩ :: l).Nodup
    split
    · exact h
    · rename_i n
      exact List.nodup_cons.mpr ⟨n, h⟩
theorem ok_set {f fx : Addr} {fd fdx : FuncData} {k : Nat} (F : Fun K "_law_set" "_law_set" sSet f fd)
    (GX : FnOk P w K mg base CX0 k fx fdx ["_law_pot_here", "_law_few", "_law_most"] spText) (kx : PySem.W.keepIn K (.ref fx) = true) (bx : Binds K fdx ["_law_pot_here", "_law_few", "_law_most"] []) (gx : mg "_law_text" = some (.ref fx))
    (mso : mg "sorted" = none) (mse : mg "set" = none) : FnOk P w K mg base CX0 (k + 1) f fd ["_law_pot_here"] spSet := by
  refine F.ok scSet (fun vs H Q E h => ?_) (fun cdv A outer s H vs Q E hr h => ?_)
  · obtain ⟨pd, po, t, ex, rfl, _⟩ := h
    rfl
  · obtain ⟨pd, po, t, ex, rfl, hP, ht, q⟩ := h
    have h47 : (2 : Nat) ^ 47 = 140737488355328 := by decide
    have h48 : (2 : Nat) ^ 48 = 281474976710656 := by decide
    refine ⟨_, (pss_one (ps_ret (pe_join pe_str (pe_callB (cr_sortTx (by rfl)) (by rfl) mso (by decide +kernel) (pa_cons (pe_callTy (cr_setTx (by rfl)) (by rfl) mse (by decide +kernel) (pa_cons (pe_call GX hr (by rfl) gx kx bx .nil pass0 (pa_cons (pv 0) (pa_cons pe_int (pa_cons pe_int pa_nil)))) pa_nil)) pa_nil))))), ?_⟩
    refine ⟨⟨_, rfl⟩, _, rfl, pd, po, t, 20, ex, 3, 20, rfl, hP, by omega, by decide, by decide, by decide, by decide, by decide, fun cs H2 t2 ht2 c1 c2 hc hP2 k2 => ?_⟩
    refine ⟨⟨cs.toArray⟩, rfl, by show cs.length < 4000; omega, fun p np => ?_⟩
    have lm := metN_len cs []
    have mm := metN_mem cs []
    have nm := metN_nodup cs [] List.nodup_nil
    refine ⟨p, metN cs [], rfl, upd_same, by simp only [List.length_nil] at lm; omega, fun ys p2 pl st np2 => ?_⟩
    obtain ⟨ds, rfl⟩ := sings_of (ys := ys) fun y hy => by
      rcases (mm y).mp (pl.mem_iff.mp hy) with z | ⟨c, _, e⟩
      · cases z
      · exact ⟨c, e⟩
    have k3 : Kp (PM pd po) H2 (upd (upd H2 p (TSetO P w p (metN cs []))) p2 (.lst ((ds.map fun c => (⟨#[c]⟩ : Str)).map V.str))) := (Kp.new np).trans (Kp.new np2)
    have hP3 := (hP2.new (o := TSetO P w p (metN cs [])) np).new (o := .lst ((ds.map fun c => (⟨#[c]⟩ : Str)).map V.str)) np2
    have ml : ∀ d : Nat, d ∈ ds ↔ d ∈ cs := fun d => by
      constructor
      · intro h
        rcases (mm _).mp (pl.mem_iff.mp (List.mem_map.mpr ⟨d, h, rfl⟩)) with z | ⟨c, hc, e⟩
        · cases z
        · rw [sing_inj e]
          exact hc
      · intro h
        obtain ⟨c, hc, e⟩ := List.mem_map.mp (pl.mem_iff.mpr ((mm (⟨#[d]⟩ : Str)).mpr (.inr ⟨d, h, rfl⟩)))
        rw [← sing_inj e]
        exact hc
    have ll : ds.length ≤ cs.length := by
      have z := pl.length_eq
      rw [List.length_map] at z
      simp only [List.length_nil] at lm
      omega
    have l1 : 1 ≤ ds.length := by
      cases cs with
      | nil => cases c1
      | cons c r => exact List.length_pos_of_mem ((ml c).mpr (List.mem_cons_self ..))
    have nd : ds.Nodup := by
      have z := pl.nodup_iff.mpr nm
      rw [List.nodup_iff_pairwise_ne, List.pairwise_map] at z
      rw [List.nodup_iff_pairwise_ne]
      exact z.imp fun h e => h (by rw [e])
    refine ⟨_, p2, ds.map fun c => (⟨#[c]⟩ : Str), rfl, rfl, .inl (SqL.of upd_same), ?_, ?_⟩
    · rw [sum_ones]
      show ds.length + _ * 0 ≤ _
      exact Nat.le_trans (by omega : ds.length + _ * 0 ≤ 1000) (by decide)
    · rw [join_signs]
      exact q ds _ t2 (by omega) l1 (by omega) (fun c h => hc c ((ml c).mp h)) nd st hP3 (k2.trans k3)
/-- a pot with room, told, signs -/
def spBit : Sp := fun vs H Q _ => ∃ (pd po : Addr) (t m : Nat) (r o g a b : Int), vs = [.ref pd, .int a, .int b] ∧ Pot H pd po t (some (r, o, g)) ∧ t < 2 ^ 47 ∧ 0 ≤ a ∧ 0 ≤ b ∧ a ≤ m ∧ b ≤ m ∧ m ≤ 500 ∧
  ∀ (cs : List Nat) (H' : Hp) (t' : Nat) (g' : Int), t' ≤ t + 4 + m → g' ≤ g → g ≤ g' + 1 + m → 1 ≤ cs.length → cs.length ≤ 1 + m → (∀ c ∈ cs, signB c = true) → Pot H' pd po t' (some (r, o, g')) → Kp (PM pd po) H H' → Q (.str ⟨cs.toArray⟩) H'
theorem Pot.signs {H : Hp} {pd po : Addr} {t : Nat} {r o g g' : Int} (P : Pot H pd po t (some (r, o, g))) : ∃ s : Int, H pd = some (potD po s t (some (r, o, g))) ∧ Pot (upd H pd (potD po s t (some (r, o, g')))) pd po t (some (r, o, g')) := by
  obtain ⟨s, ns, E⟩ := P.e
  exact ⟨s, E.d, ⟨s, E.s0, E.s1, upd_same⟩, ns, E.len, E.nn, by rw [upd_ne E.ne.symm]; exact E.o⟩
theorem cutS_to {cs : List Nat} {m : Int} (h : 1 ≤ m) : cutS ⟨cs.toArray⟩ none (some m) = ⟨(cs.take m.toNat).toArray⟩ := by
  obtain ⟨n, rfl⟩ := Int.eq_ofNat_of_zero_le (Int.le_trans (by decide) h)
  have el : (⟨cs.toArray⟩ : Str).length = cs.length := by simp [Str.length]
  unfold cutS
  rw [HT.sIx_none, el, show HT.sIx cs.length cs.length (some (n : Int)) = min n cs.length from HT.sIx_nat cs.length cs.length n, List.drop_zero, Nat.sub_zero, Int.toNat_natCast]
  show Str.mk (cs.take (min n cs.length)).toArray = _
  congr 2
  by_cases q : n ≤ cs.length
  · rw [Nat.min_eq_left q]
  · rw [Nat.min_eq_right (by omega), List.take_length, List.take_of_length_le (by omega)]
theorem ok_bit {f fx : Addr} {fd fdx : FuncData} {k : Nat} (F : Fun K "_law_bit" "_law_bit" sBit f fd)
    (GX : FnOk P w K mg base CX0 k fx fdx ["_law_pot_here", "_law_few", "_law_most"] spText) (kx : PySem.W.keepIn K (.ref fx) = true) (bx : Binds K fdx ["_law_pot_here", "_law_few", "_law_most"] []) (gx : mg "_law_text" = some (.ref fx))
    (mmax : mg "max" = none) (ml : mg "len" = none) : FnOk P w K mg base CX0 (k + 1) f fd ["_law_pot_here", "_law_few", "_law_most"] spBit := by
  refine F.ok scBit (fun vs H Q E h => ?_) (fun cdv A outer s H vs Q E hr h => ?_)
  · obtain ⟨pd, po, t, m, r, o, g, a, b, rfl, _⟩ := h
    rfl
  · obtain ⟨pd, po, t, m, r, o, g, a, b, rfl, hP, ht, a0, b0, am, bm, hm, q⟩ := h
    have h47 : (2 : Nat) ^ 47 = 140737488355328 := by decide
    have h48 : (2 : Nat) ^ 48 = 281474976710656 := by decide
    refine ⟨_, (pss_cons (ps_set (i := 3) scBit.nd rfl (.inl rfl) (pe_slice sl_str (pe_call GX hr (by rfl) gx kx bx .nil pass0 (pa_cons (pv 0) (pa_cons (pv 1) (pa_cons (pv 2) pa_nil)))) po_none (po_some (pe_callB (call_max2 (by rfl)) (by rfl) mmax (by decide +kernel) (pa_cons pe_int (pa_cons (pe_dget (hu_of hr) (pv 0) pe_str (fun _ _ => rfl)) pa_nil))))))
      (pss_cons (ps_dput (hu_of hr) (pv 0) pe_str (pe_op op_sub (pe_dget (hu_of hr) (pv 0) pe_str (fun _ _ => rfl)) (pe_callB call_len_str (by rfl) ml PySem.boot_len (pa_cons (pv 3) pa_nil))) rfl)
      (pss_one (ps_ret (pv 3))))), ?_⟩
    refine ⟨_, rfl, _, rfl, _, rfl, pd, po, t, m, some (r, o, g), a, b, rfl, hP, by omega, a0, b0, am, bm, hm, fun cs H2 t2 ht2 c1 c2 hc hP2 k2 => ?_⟩
    obtain ⟨s2, e2, _⟩ := hP2.signs (g' := 0)
    refine ⟨_, rfl, pd, _, rfl, DGet.k (k := .inr "signs") e2, 1, g, rfl, _, rfl, _, rfl, ?_⟩
    have el : (⟨cs.toArray⟩ : Str).length = cs.length := by simp [Str.length]
    refine ⟨by rw [el]; exact Nat.le_of_lt (small1000 (by omega)), ?_⟩
    have hw : (1 : Int) ≤ (if g > 1 then g else 1) := by split <;> omega
    rw [cutS_to hw]
    generalize hn : (if g > 1 then g else 1).toNat = n
    have n1 : 1 ≤ n := by omega
    have l1 : 1 ≤ (cs.take n).length := by
      rw [List.length_take]
      omega
    have l2 : (cs.take n).length ≤ cs.length := List.length_take_le' _ _
    have el2 : (⟨(cs.take n).toArray⟩ : Str).length = (cs.take n).length := by simp [Str.length]
    refine ⟨_, rfl, pd, _, rfl, DGet.k (k := .inr "signs") e2, _, rfl, _, rfl, by rw [el2]; exact Nat.le_of_lt (small1000 (by omega)), ?_⟩
    refine ⟨_, _, rfl, rfl, _, rfl, pd, _, rfl, DPut.k (k := .inr "signs") e2 (by rw [sizeLine_eq]; show 6 < 16777216; decide), _, rfl, ?_⟩
    obtain ⟨s3, e3, hP3⟩ := hP2.signs (g' := g - ((⟨(cs.take n).toArray⟩ : Str).length : Nat))
    rw [e2] at e3
    cases e3
    refine q (cs.take n) _ t2 (g - ((⟨(cs.take n).toArray⟩ : Str).length : Nat)) ht2 (by omega) (by omega) l1 (by omega) (fun c h => hc c (List.mem_of_mem_take h)) hP3 (k2.trans (Kp.put (.inl rfl)))
end
end RT

/-! names, as letters -/
namespace RT
def ltr (i : Nat) : Nat := 97 + i % 26
def Az (c : Nat) : Prop := 97 ≤ c ∧ c ≤ 122
instance (c : Nat) : Decidable (Az c) := inferInstanceAs (Decidable (_ ∧ _))
theorem ltr_az (i : Nat) : Az (ltr i) := by
  unfold ltr Az
  omega
def nmL (way : Nat) (stem : List Nat) (a f k : Nat) : List Nat :=
  if way = 0 then stem.take a ++ ([ltr (f + 5 * k)] ++ stem.drop a)
  else if way = 1 then List.replicate (1 + (f + 3 * k) % 8) (ltr (f + 5 * k))
  else List.replicate (1 + k % 8) (ltr f) ++ List.replicate (if 7 < k then 1 else 0) (ltr (f + 1 + k / 8))
theorem ltr5 {f k j : Nat} (hk : k < 12) (hj : j < 12) (h : ltr (f + 5 * k) = ltr (f + 5 * j)) : k = j := by
  unfold ltr at h
  omega
theorem rep_cons {c : Nat} {n : Nat} : List.replicate (1 + n) c = c :: List.replicate n c := by rw [Nat.add_comm, List.replicate_succ]
theorem nm_inj {way : Nat} {stem : List Nat} {a f k j : Nat} (hk : k < 12) (hj : j < 12) (h : nmL way stem a f k = nmL way stem a f j) : k = j := by
  unfold nmL at h
  by_cases w0 : way = 0
  · rw [if_pos w0, if_pos w0] at h
    have e := List.append_cancel_left h
    exact ltr5 hk hj (List.cons.inj e).1
  · rw [if_neg w0, if_neg w0] at h
    by_cases w1 : way = 1
    · rw [if_pos w1, if_pos w1, rep_cons, rep_cons] at h
      exact ltr5 hk hj (List.cons.inj h).1
    · rw [if_neg w1, if_neg w1] at h
      have l := congrArg List.length h
      simp only [List.length_append, List.length_replicate] at l
      have c1 := congrArg (List.count (ltr f)) h
      have ne1 : ltr (f + 1 + 1) ≠ ltr f := by unfold ltr; omega
      have ne0 : ltr (f + 1 + 0) ≠ ltr f := by unfold ltr; omega
      have ct : ∀ i, i < 12 → List.count (ltr f) (List.replicate (1 + i % 8) (ltr f) ++ List.replicate (if 7 < i then 1 else 0) (ltr (f + 1 + i / 8))) = 1 + i % 8 := fun i hi => by
        rw [List.count_append, List.count_replicate_self, List.count_replicate]
        by_cases q : 7 < i
        · have e : i / 8 = 1 := by omega
          rw [if_pos q, e, if_neg (by simpa using ne1), Nat.add_zero]
        · rw [if_neg q]
          split <;> rfl
      rw [ct k hk, ct j hj] at c1
      by_cases q : 7 < k <;> by_cases q2 : 7 < j <;> simp only [q, q2, if_true, if_false] at l <;> omega
theorem nm_ok {way : Nat} {stem : List Nat} {a f k : Nat} (hk : k < 12) (hs : stem.length ≤ 6) (hz : ∀ c ∈ stem, Az c) : 1 ≤ (nmL way stem a f k).length ∧ (nmL way stem a f k).length ≤ 8 ∧ ∀ c ∈ nmL way stem a f k, Az c := by
  unfold nmL
  by_cases w0 : way = 0
  · rw [if_pos w0]
    refine ⟨?_, ?_, fun c h => ?_⟩
    · simp only [List.length_append, List.length_cons, List.length_nil]
      omega
    · simp only [List.length_append, List.length_cons, List.length_nil, List.length_take, List.length_drop]
      omega
    · rcases List.mem_append.mp h with h | h
      · exact hz c (List.mem_of_mem_take h)
      · rcases List.mem_append.mp h with h | h
        · rw [List.mem_singleton.mp h]
          exact ltr_az _
        · exact hz c (List.mem_of_mem_drop h)
  · rw [if_neg w0]
    by_cases w1 : way = 1
    · rw [if_pos w1]
      refine ⟨?_, ?_, fun c h => ?_⟩
      · rw [List.length_replicate]
        omega
      · rw [List.length_replicate]
        omega
      · rw [(List.mem_replicate.mp h).2]
        exact ltr_az _
    · rw [if_neg w1]
      refine ⟨?_, ?_, fun c h => ?_⟩
      · simp only [List.length_append, List.length_replicate]
        omega
      · simp only [List.length_append, List.length_replicate]
        split <;> omega
      · rcases List.mem_append.mp h with h | h <;> (rw [(List.mem_replicate.mp h).2]; exact ltr_az _)
end RT

namespace RT
open PySem PySem.Spec PyProof.Rows L2
abbrev sNames : Stmt := topS 17
theorem scNames : FnScope ["_law_pot_here", "_law_many", "_law_letters", "_law_first", "_law_way", "_law_stem", "_law_at", "_law_found", "_law_k", "_law_letter", "_law_word"] ["_law_pot_here", "_law_many"] (defScope sNames) := ⟨rfl, rfl, rfl, by decide +kernel, rfl, by decide +kernel, by decide +kernel⟩
theorem fold_app (xs : List (Array Nat)) : ∀ acc : Array Nat, (xs.foldl (· ++ ·) acc).toList = acc.toList ++ (xs.map (·.toList)).flatten := by
  induction xs with
  | nil => intro acc; simp
  | cons x r ih =>
    intro acc
    rw [List.foldl_cons, ih, List.map_cons, List.flatten_cons, Array.toList_append, List.append_assoc]
theorem mul_sing {c : Nat} {n : Int} (h0 : 0 ≤ n) : Txt.mul ⟨#[c]⟩ n = ⟨(List.replicate n.toNat c).toArray⟩ := by
  obtain ⟨k, rfl⟩ := Int.eq_ofNat_of_zero_le h0
  refine TL.ext_tl ?_
  show (Txt.mul ⟨#[c]⟩ (k : Int)).cps.toList = List.replicate k c
  unfold Txt.mul
  by_cases z : (k : Int) < 1
  · rw [if_pos z]
    have e : k = 0 := by omega
    rw [e]
    rfl
  · rw [if_neg z]
    by_cases q : ((k : Int) == 1 || (⟨#[c]⟩ : Str).length == 0) = true
    · rw [if_pos q]
      have e : k = 1 := by
        rcases Bool.or_eq_true_iff.mp q with q | q
        · have := eq_of_beq q
          omega
        · cases q
      rw [e]
      rfl
    · rw [if_neg q]
      show Array.toList _ = _
      rw [fold_app, List.map_replicate]
      show [] ++ (List.replicate k [c]).flatten = _
      rw [List.nil_append]
      clear z q h0
      induction k with
      | zero => rfl
      | succ k ih =>
        rw [List.replicate_succ, List.flatten_cons, ih, List.replicate_succ]
        rfl
theorem mulOk_small {x : Str} {n : Int} (h0 : 0 ≤ n) (h1 : n ≤ 1000) (hx : x.length ≤ 1000) : MulOk x n := by
  refine ⟨?_, fun a b => ?_, fun a b => ?_⟩
  · rw [decide_eq_false (by omega), decide_eq_false (by omega)]
    rfl
  · have h : (1000 : Int) ≤ (2 ^ 63 - 1) / n := (Int.le_ediv_iff_mul_le (by omega)).mpr (by omega)
    omega
  · have h : x.length * n.toNat ≤ 1000 * 1000 := Nat.mul_le_mul hx (by omega)
    have e : (1000000 : Nat) ≤ sizeLine := by decide
    unfold Builtin.Str.tooLong
    exact decide_eq_false (by omega)
section
variable {X : Cx}
theorem op_mul_str : OpR X (binaryOp .Mult) (fun x y H Q => ∃ (z : Str) (n : Int), x = .str z ∧ y = .int n ∧ MulOk z n ∧ Q (.str (Txt.mul z n)) H) := by
  intro pins s σ H x y v u Q I rx ry h
  obtain ⟨z, n, rfl, rfl, hm, q⟩ := h
  obtain ⟨t, rfl⟩ := rx
  obtain ⟨t', rfl⟩ := ry
  exact PySem.SB.mul hm fun t' k => ⟨.str _, H, I.tok _, ⟨_, rfl⟩, q⟩
end
def lets : Str := "abcdefghijklmnopqrstuvwxyz"
theorem let_at {i : Nat} (h : i < 26) : atI lets.cps.toList (i : Int) = some (ltr i) := by
  refine atI_nat ?_
  have e : lets.cps.toList = (List.range 26).map fun i => 97 + i := by decide
  rw [e, List.getElem?_map, List.getElem?_range h]
  show some (97 + i) = some (97 + i % 26)
  rw [Nat.mod_eq_of_lt h]
section
variable {P : Program} {w : World} {K : PySem.W.Frag} {mg : Str → Option Value} {base : Heap}
/-- names, unlike and rising -/
def Names (zs : List Str) : Prop := zs.Nodup ∧ sortedS zs = true ∧ ∀ z ∈ zs, 1 ≤ z.length ∧ z.length ≤ 8 ∧ ∀ c ∈ z.cps.toList, Az c
theorem app_s (xs ys : List Nat) : (⟨xs.toArray⟩ : Str) ++ ⟨ys.toArray⟩ = ⟨(xs ++ ys).toArray⟩ := by
  show Str.mk (xs.toArray ++ ys.toArray) = _
  rw [List.append_toArray]
theorem cut_hi (cs : List Nat) (n : Nat) : cutS ⟨cs.toArray⟩ none (some (n : Int)) = ⟨(cs.take n).toArray⟩ := by
  have el : (⟨cs.toArray⟩ : Str).length = cs.length := by simp [Str.length]
  unfold cutS
  rw [HT.sIx_none, el, show HT.sIx cs.length cs.length (some (n : Int)) = min n cs.length from HT.sIx_nat cs.length cs.length n, List.drop_zero, Nat.sub_zero]
  show Str.mk (cs.take (min n cs.length)).toArray = _
  by_cases q : n ≤ cs.length
  · rw [Nat.min_eq_left q]
  · rw [Nat.min_eq_right (by omega), List.take_length, List.take_of_length_le (by omega)]
theorem cut_lo (cs : List Nat) (n : Nat) : cutS ⟨cs.toArray⟩ (some (n : Int)) none = ⟨(cs.drop n).toArray⟩ := by
  have el : (⟨cs.toArray⟩ : Str).length = cs.length := by simp [Str.length]
  unfold cutS
  rw [HT.sIx_none, el, show HT.sIx cs.length 0 (some (n : Int)) = min n cs.length from HT.sIx_nat cs.length 0 n]
  show Str.mk (List.take (cs.length - min n cs.length) (cs.drop (min n cs.length))).toArray = _
  by_cases q : n ≤ cs.length
  · rw [Nat.min_eq_left q, List.take_of_length_le (by rw [List.length_drop]; omega)]
  · rw [Nat.min_eq_right (by omega), List.drop_of_length_le (Nat.le_refl _), List.drop_of_length_le (by omega), List.take_nil]
/-- the names so far -/
def nmS (wy a f : Nat) (cs : List Nat) (i : Nat) : List Str := (List.range i).map fun k => (⟨(nmL wy cs a f k).toArray⟩ : Str)
def NmInv (H : Hp) (pd po L : Addr) (t : Nat) (ex : Ex) (m f wy a : Nat) (cs : List Nat) (i : Nat) (σ : L2.St) (H6 : Hp) : Prop :=
  ∃ y8 y9 y10 : Option V, σ = [some (.ref pd), some (.int m), some (.str lets), some (.int f), some (.int wy), some (.str ⟨cs.toArray⟩), some (.int a), some (.ref L), y8, y9, y10] ∧
    Pot H6 pd po t ex ∧ Kp (PM pd po) H H6 ∧ H6 L = some (.lst ((nmS wy a f cs i).map V.str))
theorem NmInv.step {H H6 : Hp} {pd po L : Addr} {t m f wy a i : Nat} {ex : Ex} {cs z : List Nat} {y8 y9 y10 : Option V} (hL : ¬ PM pd po L) (hLH : H L = none) (hP : Pot H6 pd po t ex) (k : Kp (PM pd po) H H6) (e : H6 L = some (.lst ((nmS wy a f cs i).map V.str)))
    (hz : z = nmL wy cs a f i) : NmInv H pd po L t ex m f wy a cs (i + 1) [some (.ref pd), some (.int m), some (.str lets), some (.int f), some (.int wy), some (.str ⟨cs.toArray⟩), some (.int a), some (.ref L), y8, y9, y10] (upd H6 L (.lst ((nmS wy a f cs i).map V.str ++ [.str ⟨z.toArray⟩]))) := by
  refine ⟨y8, y9, y10, rfl, hP.keep (M := fun b => b = L) (Kp.put rfl) (fun h => hL (.inl h.symm)) (fun h => hL (.inr h.symm)), fun b u hb e2 => ?_, ?_⟩
  · have nb : b ≠ L := fun h => by
      rw [h, hLH] at e2
      cases e2
    rw [upd_ne nb]
    exact k b u hb e2
  · unfold nmS
    rw [upd_same, List.range_succ, List.map_append, List.map_append, hz]
    rfl
theorem nmS_len (wy a f : Nat) (cs : List Nat) (i : Nat) : (nmS wy a f cs i).length = i := by
  unfold nmS
  rw [List.length_map, List.length_range]
theorem nmS_nodup {wy a f : Nat} {cs : List Nat} {i : Nat} (hi : i ≤ 12) : (nmS wy a f cs i).Nodup := by
  unfold nmS
  rw [List.nodup_iff_pairwise_ne, List.pairwise_map]
  refine List.pairwise_lt_range.imp_of_mem fun {k j} h1 h2 lt e => ?_
  have h1 := List.mem_range.mp h1
  have h2 := List.mem_range.mp h2
  have e2 : nmL wy cs a f k = nmL wy cs a f j := congrArg (fun z : Str => z.cps.toList) e
  have := nm_inj (by omega) (by omega) e2
  omega
def spNames : Sp := fun vs H Q _ => ∃ (pd po : Addr) (t m : Nat) (ex : Ex), vs = [.ref pd, .int m] ∧ Pot H pd po t ex ∧ t < 2 ^ 47 ∧ 1 ≤ m ∧ m ≤ 12 ∧
  ∀ (zs : List Str) (l : Addr) (H' : Hp) (t' : Nat), t' ≤ t + 20 → zs.length = m → Names zs → H l = none → H' l = some (.lst (zs.map V.str)) → ¬ PM pd po l → Pot H' pd po t' ex → Kp (PM pd po) H H' → Q (.ref l) H'
theorem ok_names {f fn fk : Addr} {fd fdn fdk : FuncData} {k : Nat} (F : Fun K "_law_names" "_law_names" sNames f fd)
    (GN : FnOk P w K mg base CX0 1 fn fdn ["_law_pot_here", "_law_many"] spNext) (kn : PySem.W.keepIn K (.ref fn) = true) (bn : Binds K fdn ["_law_pot_here", "_law_many"] []) (gn : mg "_law_next" = some (.ref fn))
    (GK : FnOk P w K mg base CX0 2 fk fdk ["_law_pot_here", "_law_some"] (spPick K)) (kk : PySem.W.keepIn K (.ref fk) = true) (bk : Binds K fdk ["_law_pot_here", "_law_some"] []) (gk : mg "_law_pick" = some (.ref fk))
    (mr : mg "range" = none) (ml : mg "len" = none) (mso : mg "sorted" = none) (mint : mg "int" = none) : FnOk P w K mg base CX0 3 f fd ["_law_pot_here", "_law_many"] spNames := by
  refine F.ok scNames (fun vs H Q E h => ?_) (fun cdv A outer s H vs Q E hr h => ?_)
  · obtain ⟨pd, po, t, m, ex, rfl, _⟩ := h
    rfl
  · obtain ⟨pd, po, t, m, ex, rfl, hP, ht, m1, m2, q⟩ := h
    have h47 : (2 : Nat) ^ 47 = 140737488355328 := by decide
    have h50 : (2 : Nat) ^ 50 = 1125899906842624 := by decide
    have hrN := hr.mono (show 1 ≤ 2 by decide)
    refine ⟨_, (pss_cons (ps_set (i := 2) scNames.nd rfl (.inr rfl) pe_str)
      (pss_cons (ps_set (i := 3) scNames.nd rfl (.inl rfl) (pe_call GN hrN (by rfl) gn kn bn .nil pass0 (pa_cons (pv 0) (pa_cons pe_int pa_nil))))
      (pss_cons (ps_set (i := 4) scNames.nd rfl (.inl rfl) (pe_call GN hrN (by rfl) gn kn bn .nil pass0 (pa_cons (pv 0) (pa_cons pe_int pa_nil))))
      (pss_cons (ps_set (i := 5) scNames.nd rfl (.inl rfl) (pe_join pe_str (pe_lc (own := [("_law_k", 8)]) (g := gName 8) (tt := tYes) rfl scNames.nd (pi_range1 (by rfl) mr (pa_cons (pe_call GN hrN (by rfl) gn kn bn .nil pass0 (pa_cons (pv 0) (pa_cons pe_int pa_nil))) pa_nil)) (blkOk_by (N := ["_law_pot_here", "_law_many", "_law_letters", "_law_first", "_law_way", "_law_stem", "_law_at", "_law_found", "_law_k", "_law_letter", "_law_word"]) (sc := defScope sNames) (by decide +kernel)) (fun _ _ _ _ _ => (pg_name (i := 8) scNames.nd rfl (.inl rfl))) (fun _ _ _ _ _ => pts_nil) (fun _ _ _ _ _ => (pe_call GK hr (by rfl) gk kk bk .nil pass0 (pa_cons (pv 0) (pa_cons (pv 2) pa_nil)))))))
      (pss_cons (ps_set (i := 6) scNames.nd rfl (.inl rfl) (pe_call GN hrN (by rfl) gn kn bn .nil pass0 (pa_cons (pv 0) (pa_cons (pe_op op_add (pe_callB call_len_str (by rfl) ml PySem.boot_len (pa_cons (pv 5) pa_nil)) pe_int) pa_nil))))
      (pss_cons (ps_set (i := 7) scNames.nd rfl (.inl rfl) (pe_lst pa_nil))
      (pss_cons (ps_for PassesOwn.never rfl (pi_range1 (by rfl) mr (pa_cons (pv 1) pa_nil)) (pg_name (i := 8) scNames.nd rfl (.inl rfl)) (pss_cons (ps_set (i := 9) scNames.nd rfl (.inl rfl) (pe_ix ix_str (pv 2) (pe_op op_mod (pe_op op_add (pv 3) (pe_op op_mulW pe_int (pv 8))) pe_int) (fun _ _ => rfl)))
      (pss_one (ps_if (pt_cmpR op_eq (pv 4) pe_int (nomark _)) (pss_one (ps_expr (pe_bm PySem.F.plainAttrs_list PySem.F.slot_list_append PySem.F.type_list_append mt_append (pv 7) (pa_cons (pe_op op_add_str (pe_op op_add_str (pe_slice sl_str (pv 5) po_none (po_some (pv 6))) (pv 9)) (pe_slice sl_str (pv 5) (po_some (pv 6)) po_none)) pa_nil)))) (pss_one (ps_if (pt_cmpR op_eq (pv 4) pe_int (nomark _)) (pss_one (ps_expr (pe_bm PySem.F.plainAttrs_list PySem.F.slot_list_append PySem.F.type_list_append mt_append (pv 7) (pa_cons (pe_op op_mul_str (pv 9) (pe_op op_add pe_int (pe_op op_mod (pe_op op_add (pv 3) (pe_op op_mulW pe_int (pv 8))) pe_int))) pa_nil)))) (pss_cons (ps_set (i := 10) scNames.nd rfl (.inl rfl) (pe_op op_mul_str (pe_ix ix_str (pv 2) (pv 3) (fun _ _ => rfl)) (pe_op op_add pe_int (pe_op op_mod (pv 8) pe_int))))
      (pss_one (ps_expr (pe_bm PySem.F.plainAttrs_list PySem.F.slot_list_append PySem.F.type_list_append mt_append (pv 7) (pa_cons (pe_op op_add_str (pv 10) (pe_op op_mul_str (pe_ix ix_str (pv 2) (pe_op op_mod (pe_op op_add (pe_op op_add (pv 3) pe_int) (pe_op op_fdiv (pv 8) pe_int)) pe_int) (fun _ _ => rfl)) (pe_callTy call_int1 (by rfl) mint (by decide +kernel) (pa_cons (pe_cmpR op_gt (pv 8) pe_int (nomark _)) pa_nil)))) pa_nil)))))))))))
      (pss_one (ps_ret (pe_callB cr_sortedS (by rfl) mso (by decide +kernel) (pa_cons (pv 7) pa_nil))))))))))), ?_⟩
    refine ⟨_, rfl, pd, po, t, ex, 26, rfl, hP, by omega, by decide, by decide, fun d1 H1 t1 ht1 d10 d11 hP1 k1 => ?_⟩
    obtain ⟨f0, rfl⟩ := Int.eq_ofNat_of_zero_le d10
    refine ⟨_, rfl, pd, po, t1, ex, 3, rfl, hP1, by omega, by decide, by decide, fun d2 H2 t2 ht2 d20 d21 hP2 k2 => ?_⟩
    obtain ⟨wy, rfl⟩ := Int.eq_ofNat_of_zero_le d20
    have k12 : Kp (PM pd po) H H2 := k1.trans k2
    refine ⟨⟨_, rfl⟩, _, rfl, pd, po, t2, ex, 7, rfl, hP2, by omega, by decide, by decide, fun d3 H3 t3 ht3 d30 d31 hP3 k3 => ?_⟩
    have k13 : Kp (PM pd po) H H3 := k12.trans k3
    refine ⟨_, rfl, by omega, by omega, fun D nD => ?_⟩
    have hD := off_pot hP3 nD
    have hlz : ∀ c ∈ lets.cps.toList, ∃ c', V.str ⟨#[c]⟩ = .str ⟨#[c']⟩ ∧ Az c' := fun c h => ⟨c, rfl, (show ∀ c ∈ lets.cps.toList, Az c by decide) c h⟩
    refine lc_range (lo := 0) (n := d3.toNat) (fun i H4 => ∃ (t4 : Nat) (cs : List Nat), t4 ≤ t + 3 + i ∧ cs.length = i ∧ (∀ c ∈ cs, Az c) ∧ Pot H4 pd po t4 ex ∧ Kp (PM pd po) H H4 ∧ H4 D = some (.lst (cs.map fun c => V.str ⟨#[c]⟩))) ?_ ?_ ?_
    · exact ⟨t3, [], by omega, rfl, fun _ z => (nomatch z), hP3.new nD, k13.trans (Kp.new nD), upd_same⟩
    · rintro i H4 hi ⟨t4, cs, ht4, hl, hc, hP4, k4, e4⟩
      refine ⟨rfl, tYes_ok (iteT ?_)⟩
      refine ⟨_, rfl, _, rfl, pd, po, t4, ex, _, (fun v => ∃ c, v = .str ⟨#[c]⟩ ∧ Az c), rfl, hP4, by omega, .inl ⟨lets, rfl, by decide, by decide, hlz⟩, fun v' H5 t5 ht5 ⟨c, ev, c1⟩ hP5 k5 => ?_⟩
      subst ev
      have e5 := k5 D _ hD e4
      refine ⟨_, e5, by rw [List.length_map]; exact small1000 (by omega), t5, cs ++ [c], by omega, by rw [List.length_append, hl]; rfl, ?_, ?_, ?_, ?_⟩
      · intro b hb
        rcases List.mem_append.mp hb with h | h
        · exact hc b h
        · rw [List.mem_singleton.mp h]
          exact c1
      · exact hP5.keep (M := fun b => b = D) (Kp.put rfl) (fun h => hD (.inl h.symm)) (fun h => hD (.inr h.symm))
      · intro b u hb e
        have nb : b ≠ D := fun h => by
          have q2 := k13 b u hb e
          rw [h, nD] at q2
          cases q2
        rw [upd_ne nb]
        exact k5 b u hb (k4 b u hb e)
      · rw [upd_same, List.map_append]
        rfl
    · rintro H4 ⟨t4, cs, ht4, hl, hc, hP4, k4, e4⟩
      refine ⟨_, D, cs.map fun c => (⟨#[c]⟩ : Str), rfl, rfl, .inl (SqL.of (by rw [e4, List.map_map]; rfl)), ?_, ?_⟩
      · rw [sum_ones]
        show cs.length + _ * 0 ≤ _
        exact Nat.le_trans (by omega : cs.length + _ * 0 ≤ 1000) (by decide)
      · rw [join_signs]
        have el : (⟨cs.toArray⟩ : Str).length = cs.length := by simp [Str.length]
        refine ⟨_, rfl, _, rfl, _, rfl, by rw [el]; exact Nat.le_of_lt (small1000 (by omega)), _, _, rfl, rfl, pd, po, t4, ex, _, rfl, hP4, by omega, by omega, by omega, fun d5 H5 t5 ht5 d50 d51 hP5 k5 => ?_⟩
        obtain ⟨at0, rfl⟩ := Int.eq_ofNat_of_zero_le d50
        have k15 : Kp (PM pd po) H H5 := k4.trans k5
        refine ⟨Nat.zero_le _, fun L nL => ?_⟩
        have hL := off_pot hP5 nL
        have hLH : H L = none := by
          cases z : H L with
          | none => rfl
          | some u =>
            have q2 := k15 L u hL z
            rw [nL] at q2
            cases q2
        refine ⟨_, rfl, m, rfl, by omega, by omega, for_range (lo := 0) (n := m) (NmInv H pd po L t5 ex m f0 wy at0 cs) ?_ ?_ ?_⟩
        · exact ⟨none, none, none, rfl, hP5.new nL, k15.trans (Kp.new nL), upd_same⟩
        · rintro i σ H6 hi ⟨y8, y9, y10, rfl, hP6, k6, e6⟩
          rw [show (0 : Int) + (i : Int) = (i : Int) from Int.zero_add _]
          have w5 : (5 : Int).natAbs < 2 ^ 64 := by decide
          have w3 : (3 : Int).natAbs < 2 ^ 64 := by decide
          have wi : ((i : Int)).natAbs < 2 ^ 64 := by
            show _ < 18446744073709551616
            omega
          have m26 : ((f0 : Int) + 5 * (i : Int)) % 26 = (((f0 + 5 * i) % 26 : Nat) : Int) := by omega
          have room : ((nmS wy at0 f0 cs i).map V.str).length < sizeLine := by
            rw [List.length_map, nmS_len, sizeLine_eq]
            omega
          refine ⟨_, rfl, _, rfl, _, rfl, _, _, rfl, rfl, wide_mul w5 wi (by decide) (by decide) (by decide), _, _, rfl, rfl, _, _, rfl, rfl, (by show (0 : Int) < 26; decide), lets, _, ltr (f0 + 5 * i), rfl, rfl, by decide, ?_, ?_⟩
          · show atI lets.cps.toList (((f0 : Int) + 5 * (i : Int)) % 26) = _
            rw [m26, let_at (by omega)]
            unfold ltr
            rw [Nat.mod_mod]
          refine ⟨_, rfl, rfl, _, rfl, ite2 (fun c0 => ?_) (fun c0 => ?_)⟩
          · refine ⟨_, rfl, .inl ⟨rfl, _, SqL.of e6⟩, _, rfl, _, rfl, _, rfl, _, rfl, by rw [el]; exact Nat.le_of_lt (small1000 (by omega)), ?_⟩
            rw [cut_hi]
            have lt1 : (cs.take at0).length ≤ 6 := by
              rw [List.length_take]
              omega
            have ld1 : (cs.drop at0).length ≤ 6 := by
              rw [List.length_drop]
              omega
            have sz : ∀ (xs ys : List Nat), xs.length ≤ 20 → ys.length ≤ 20 → (⟨xs.toArray⟩ : Str).length + (⟨ys.toArray⟩ : Str).length ≤ sizeLine := fun xs ys h1 h2 => by
              rw [show (⟨xs.toArray⟩ : Str).length = xs.length by simp [Str.length], show (⟨ys.toArray⟩ : Str).length = ys.length by simp [Str.length], sizeLine_eq]
              omega
            refine ⟨_, rfl, _, _, rfl, rfl, sz _ [_] (by omega) (by show 1 ≤ 20; decide), ?_⟩
            refine ⟨_, rfl, _, rfl, _, rfl, _, rfl, by rw [el]; exact Nat.le_of_lt (small1000 (by omega)), ?_⟩
            rw [cut_lo]
            have wy0 : wy = 0 := by
              have z : V.int (wy : Int) = V.int 0 := of_decide_eq_true c0
              injection z with z
              omega
            refine ⟨_, _, rfl, rfl, ?_, L, _, _, rfl, rfl, e6, room, ?_⟩
            · rw [show (⟨#[ltr (f0 + 5 * i)]⟩ : Str) = ⟨[ltr (f0 + 5 * i)].toArray⟩ from rfl, app_s]
              exact sz _ _ (by rw [List.length_append]; simp only [List.length_cons, List.length_nil]; omega) (by omega)
            · rw [show (⟨#[ltr (f0 + 5 * i)]⟩ : Str) = ⟨[ltr (f0 + 5 * i)].toArray⟩ from rfl, app_s, app_s]
              refine NmInv.step hL hLH hP6 k6 e6 ?_
              unfold nmL
              rw [if_pos wy0, List.append_assoc]
          · refine ⟨_, rfl, rfl, _, rfl, ite2 (fun c1 => ?_) (fun c1 => ?_)⟩
            · have wy1 : wy = 1 := by
                have z : V.int (wy : Int) = V.int 1 := of_decide_eq_true c1
                injection z with z
                omega
              have m8 : (1 : Int) + ((f0 : Int) + 3 * (i : Int)) % 8 = ((1 + (f0 + 3 * i) % 8 : Nat) : Int) := by omega
              refine ⟨_, rfl, .inl ⟨rfl, _, SqL.of e6⟩, _, rfl, _, rfl, _, rfl, _, _, rfl, rfl, wide_mul w3 wi (by decide) (by decide) (by decide), _, _, rfl, rfl, _, _, rfl, rfl, (by show (0 : Int) < 8; decide), _, _, rfl, rfl, _, _, rfl, rfl, mulOk_small (by omega) (by omega) (by show 1 ≤ 1000; decide), L, _, _, rfl, rfl, e6, room, ?_⟩
              rw [m8, mul_sing (by omega), Int.toNat_natCast]
              refine NmInv.step hL hLH hP6 k6 e6 ?_
              unfold nmL
              rw [if_neg (by omega), if_pos wy1]
            · have n0 : wy ≠ 0 := fun z => by
                rw [z] at c0
                exact absurd c0 (by decide)
              have n1 : wy ≠ 1 := fun z => by
                rw [z] at c1
                exact absurd c1 (by decide)
              have m8 : (1 : Int) + (i : Int) % 8 = ((1 + i % 8 : Nat) : Int) := by omega
              refine ⟨_, rfl, _, rfl, lets, _, ltr f0, rfl, rfl, by decide, ?_, _, rfl, _, _, rfl, rfl, (by show (0 : Int) < 8; decide), _, _, rfl, rfl, _, _, rfl, rfl, mulOk_small (by omega) (by omega) (by show 1 ≤ 1000; decide), ?_⟩
              · exact let_at (by omega)
              rw [m8, mul_sing (by omega), Int.toNat_natCast]
              have m7 : ((f0 : Int) + 1 + (i : Int) / 8) % 26 = (((f0 + 1 + i / 8) % 26 : Nat) : Int) := by omega
              refine ⟨_, rfl, .inl ⟨rfl, _, SqL.of e6⟩, _, rfl, _, rfl, _, rfl, _, _, rfl, rfl, _, rfl, _, _, rfl, rfl, ⟨by decide, by decide⟩, _, _, rfl, rfl, _, _, rfl, rfl, (by show (0 : Int) < 26; decide), lets, _, ltr (f0 + 1 + i / 8), rfl, rfl, by decide, ?_, ?_⟩
              · show atI lets.cps.toList (((f0 : Int) + 1 + (i : Int) / 8) % 26) = _
                rw [m7, let_at (by omega)]
                unfold ltr
                rw [Nat.mod_mod]
              refine ⟨_, rfl, _, _, rfl, rfl, .inr ⟨_, rfl, ?_⟩⟩
              have e7 : (if decide ((7 : Int) < (i : Int)) = true then (1 : Int) else 0) = ((if 7 < i then 1 else 0 : Nat) : Int) := by
                by_cases q7 : 7 < i
                · rw [if_pos q7, if_pos (decide_eq_true (by omega))]
                  rfl
                · rw [if_neg q7, if_neg (by rw [decide_eq_true_eq]; omega)]
                  rfl
              have s7 : (if 7 < i then 1 else 0 : Nat) ≤ 1 := by split <;> omega
              rw [e7]
              refine ⟨_, _, rfl, rfl, mulOk_small (by omega) (by omega) (by show 1 ≤ 1000; decide), ?_⟩
              rw [mul_sing (by omega), Int.toNat_natCast]
              refine ⟨_, _, rfl, rfl, ?_, L, _, _, rfl, rfl, e6, room, ?_⟩
              · rw [show (⟨(List.replicate (1 + i % 8) (ltr f0)).toArray⟩ : Str).length = 1 + i % 8 by simp [Str.length], show (⟨(List.replicate (if 7 < i then 1 else 0) (ltr (f0 + 1 + i / 8))).toArray⟩ : Str).length = (if 7 < i then 1 else 0) by simp [Str.length], sizeLine_eq]
                omega
              · rw [app_s]
                refine NmInv.step hL hLH hP6 k6 e6 ?_
                unfold nmL
                rw [if_neg n0, if_neg n1]
        · rintro σ H6 ⟨y8, y9, y10, rfl, hP6, k6, e6⟩
          refine ⟨_, rfl, L, nmS wy at0 f0 cs m, rfl, SqL.of e6, by rw [nmS_len]; omega, fun ys p pl st np => ?_⟩
          have hp := off_pot hP6 np
          have hpH : H p = none := by
            cases z : H p with
            | none => rfl
            | some u =>
              have q2 := k6 p u hp z
              rw [np] at q2
              cases q2
          refine q ys p _ t5 (by omega) (by rw [pl.length_eq, nmS_len]) ⟨pl.nodup_iff.mpr (nmS_nodup m2), st, fun z hz => ?_⟩ hpH upd_same hp (hP6.new np) (k6.trans (Kp.new np))
          obtain ⟨j, hj, rfl⟩ := List.mem_map.mp (pl.mem_iff.mp hz)
          obtain ⟨o1, o2, o3⟩ := nm_ok (way := wy) (stem := cs) (a := at0) (f := f0) (k := j) (by have := List.mem_range.mp hj; omega) (by omega) hc
          have ez : (⟨(nmL wy cs at0 f0 j).toArray⟩ : Str).length = (nmL wy cs at0 f0 j).length := by simp [Str.length]
          rw [ez]
          exact ⟨o1, o2, o3⟩
end
end RT

/-! list(zip(xs, ys)) -/
namespace RT
open PySem PySem.Spec PyProof.Rows L2
/-- where a zip of two lists stands; everything of it lies below lo -/
structure Zp where
  (z TI TO i1 i2 l1 l2 S lo : Addr)
  D : ZipApart z TI TO i1 i2 l1 l2
  low : z < lo ∧ TI < lo ∧ TO < lo ∧ i1 < lo ∧ i2 < lo ∧ l1 < lo ∧ l2 < lo ∧ S < lo
  Sz : S ≠ z
  STI : S ≠ TI
  STO : S ≠ TO
  Si1 : S ≠ i1
  Si2 : S ≠ i2
  Sl1 : S ≠ l1
  Sl2 : S ≠ l2
section
variable {P : Program} {w : World} {A : Around} {E : Value → Shared → Prop} {s : Shared} {xs ys : Array Value} (Z : Zp)
def Zp.St (xs ys : Array Value) (h : Heap) (i : Nat) : Prop :=
  IsPair h Z.TI (.ref Z.i1) (.ref Z.i2) ∧ h.IsListIter Z.i1 Z.l1 i ∧ h.IsListIter Z.i2 Z.l2 i ∧ h.IsList Z.l1 xs ∧ h.IsList Z.l2 ys ∧
    ((IsZip h Z.z Z.TI Z.TO .none ∧ ∃ a b, IsPair h Z.TO a b) ∨ ∃ (T : Addr) (f : Bool) (u : Obj), IsZipHeld h Z.z Z.TI Z.TO T f ∧ Z.lo ≤ T ∧ h.get? T = some u)
theorem Zp.St.keep {h h' : Heap} {i : Nat} (t : Z.St xs ys h i) (k : ∀ b o, b ≠ Z.S → h.get? b = some o → h'.get? b = some o) : Z.St xs ys h' i := by
  obtain ⟨a1, a2, a3, a4, a5, a6⟩ := t
  refine ⟨k _ _ Z.STI.symm a1, a2.at fun o e => k _ o Z.Si1.symm e, a3.at fun o e => k _ o Z.Si2.symm e, a4.at fun o e => k _ o Z.Sl1.symm e, a5.at fun o e => k _ o Z.Sl2.symm e, ?_⟩
  rcases a6 with ⟨b1, a, b, b2⟩ | ⟨T, f, u, b1, b2, b3⟩
  · exact .inl ⟨k _ _ Z.Sz.symm b1, a, b, k _ _ Z.STO.symm b2⟩
  · exact .inr ⟨T, f, u, k _ _ Z.Sz.symm b1, b2, k _ _ (Nat.ne_of_gt (Nat.lt_of_lt_of_le Z.low.2.2.2.2.2.2.2 b2)) b3⟩
theorem Zp.item {i : Nat} {x y : Value} {Q : Option Value → Shared → Prop} (t : Z.St xs ys s.heap i) (hlo : Z.lo ≤ s.heap.objs.size) (hx : xs[i]? = some x) (hy : ys[i]? = some y)
    (q : ∀ h', Z.St xs ys h' (i + 1) → IsPair h' s.heap.objs.size x y → h'.objs.size = s.heap.objs.size + 1 → (∀ b o, b ≠ Z.z → b ≠ Z.TO → b ≠ Z.i1 → b ≠ Z.i2 → s.heap.get? b = some o → h'.get? b = some o) → Q (some (.ref s.heap.objs.size)) { s with heap := h' }) :
    wpAny (model P w) A (pyNext (.ref Z.z)) Q E s := by
  obtain ⟨a1, a2, a3, a4, a5, a6⟩ := t
  have D := Z.D
  rcases a6 with ⟨b1, a, b, b2⟩ | ⟨T, f, u, b1, b2, b3⟩
  · refine wpAny_pyNext_zip_item D b1 a1 b2 a2 a3 a4 a5 hx hy fun h' c1 c2 c3 c4 c5 c6 k => q h' ⟨?_, c3, c4, ?_, ?_, .inr ⟨_, false, _, c1, hlo, c5⟩⟩ c5 c6 k
    · exact k _ _ D.TIz D.TITO D.TIi1 D.TIi2 a1
    · exact a4.at fun o e => k _ o D.l1z D.l1TO D.l1i1 D.l1i2 e
    · exact a5.at fun o e => k _ o D.l2z D.l2TO D.l2i1 D.l2i2 e
  · have hT : ∀ {c : Addr}, c < Z.lo → T ≠ c := fun h e => Nat.lt_irrefl _ (Nat.lt_of_lt_of_le (e ▸ h) b2)
    refine wpAny_pyNext_zip_item_held D b1 b3 a1 a2 a3 a4 a5 hx hy fun h' c1 c3 c4 c5 c6 k => q h' ⟨?_, c3, c4, ?_, ?_, .inr ⟨T, true, u, c1, b2, ?_⟩⟩ c5 c6 fun b o n1 _ n3 n4 e => k b o n1 n3 n4 e
    · exact k _ _ D.TIz D.TIi1 D.TIi2 a1
    · exact a4.at fun o e => k _ o D.l1z D.l1i1 D.l1i2 e
    · exact a5.at fun o e => k _ o D.l2z D.l2i1 D.l2i2 e
    · exact k _ _ (hT Z.low.1) (hT Z.low.2.2.2.1) (hT Z.low.2.2.2.2.1) b3
theorem Zp.stop {i : Nat} {Q : Option Value → Shared → Prop} (hh : A.handled = none) (t : Z.St xs ys s.heap i) (he : xs[i]? = none ∨ ys[i]? = none)
    (q : ∀ h', (∀ b o, b ≠ Z.z → b ≠ Z.TO → b ≠ Z.i1 → b ≠ Z.i2 → s.heap.get? b = some o → h'.get? b = some o) → Q none { s with heap := h' }) : wpAny (model P w) A (pyNext (.ref Z.z)) Q E s := by
  obtain ⟨a1, a2, a3, a4, a5, a6⟩ := t
  rcases a6 with ⟨b1, a, b, b2⟩ | ⟨T, f, u, b1, b2, b3⟩
  · exact wpAny_pyNext_zip_end hh Z.D b1 a1 b2 a2 a3 a4 a5 he fun h' k => q h' k
  · exact wpAny_pyNext_zip_end_held hh Z.D b1 b3 a1 a2 a3 a4 a5 he fun h' k => q h' fun b o n1 _ n3 n4 e => k b o n1 n3 n4 e
/-- the pairs that are laid -/
structure Laid (xs ys : Array Value) (lo : Addr) (h : Heap) (as : List Addr) : Prop where
  up : as.Pairwise (· < ·)
  big : ∀ a ∈ as, lo ≤ a
  at' : ∀ (j : Nat) (a : Addr), as[j]? = some a → ∃ x y, xs[j]? = some x ∧ ys[j]? = some y ∧ IsPair h a x y
theorem Laid.lt {lo : Addr} {h : Heap} {as : List Addr} (l : Laid xs ys lo h as) {a : Addr} (ha : a ∈ as) : a < h.objs.size := by
  obtain ⟨j, hj⟩ := List.mem_iff_getElem?.mp ha
  obtain ⟨_, _, _, _, e⟩ := l.at' j a hj
  exact Heap.lt_size e
theorem Laid.keep {lo : Addr} {h h' : Heap} {as : List Addr} (l : Laid xs ys lo h as) (k : ∀ b o, lo ≤ b → h.get? b = some o → h'.get? b = some o) : Laid xs ys lo h' as :=
  ⟨l.up, l.big, fun j a hj => by
    obtain ⟨x, y, h1, h2, h3⟩ := l.at' j a hj
    exact ⟨x, y, h1, h2, k _ _ (l.big a (List.mem_of_getElem? hj)) h3⟩⟩
theorem Laid.push {lo : Addr} {h : Heap} {as : List Addr} {x y : Value} {p : Addr} (l : Laid xs ys lo h as) (h1 : ∀ a ∈ as, a < p) (h2 : lo ≤ p) (hx : xs[as.length]? = some x) (hy : ys[as.length]? = some y) (e : IsPair h p x y) : Laid xs ys lo h (as ++ [p]) := by
  refine ⟨List.pairwise_append.mpr ⟨l.up, List.pairwise_singleton _ _, fun a ha b hb => ?_⟩, fun a ha => ?_, fun j a hj => ?_⟩
  · rw [List.mem_singleton.mp hb]
    exact h1 a ha
  · rcases List.mem_append.mp ha with ha | ha
    · exact l.big a ha
    · rw [List.mem_singleton.mp ha]
      exact h2
  · by_cases c : j < as.length
    · rw [List.getElem?_append_left c] at hj
      exact l.at' j a hj
    · rw [List.getElem?_append_right (by omega)] at hj
      have z : j - as.length = 0 := by
        have q := (List.getElem?_eq_some_iff.mp hj).1
        rw [List.length_singleton] at q
        omega
      rw [z] at hj
      cases hj
      have e2 : j = as.length := by omega
      exact ⟨x, y, by rw [e2]; exact hx, by rw [e2]; exact hy, e⟩
abbrev lstO (acc : Array Value) (c : Nat) : Obj := { cls := .type "list", dict := none, data := .seq acc c, slots := #[] }
theorem Zp.loop {R : Result → Shared → Prop} (hh : A.handled = none) (hn : min xs.size ys.size ≤ sizeLine) (res : Value) {g : Heap}
    (hR : ∀ (h' : Heap) (acc : Array Value) (c : Nat) (as : List Addr), (∀ b o, b ≠ Z.S → b ≠ Z.z → b ≠ Z.TO → b ≠ Z.i1 → b ≠ Z.i2 → g.get? b = some o → h'.get? b = some o) → h'.get? Z.S = some (lstO acc c) → as.length = min xs.size ys.size → Laid xs ys Z.lo h' as →
      acc.toList = as.map Value.ref → R (.ok (.ret res)) { s with heap := h' }) :
    ∀ (k i : Nat) (h : Heap) (c : Nat) (acc : Array Value) (as : List Addr), min xs.size ys.size - i = k → i ≤ min xs.size ys.size → Z.St xs ys h i → Z.lo ≤ h.objs.size → (∀ b o, b ≠ Z.S → b ≠ Z.z → b ≠ Z.TO → b ≠ Z.i1 → b ≠ Z.i2 → g.get? b = some o → h.get? b = some o) →
      h.get? Z.S = some (lstO acc c) → as.length = i → Laid xs ys Z.lo h as → acc.toList = as.map Value.ref → codeAny (model P w) A (.builtin "list.extend.loop" ⟨[.ref Z.S, .ref Z.z, res], []⟩) R { s with heap := h } := by
  obtain ⟨z1, z2, z3, z4, z5, z6, z7, z8⟩ := Z.low
  intro k
  induction k with
  | zero =>
    intro i h c acc as hk hi st hlo fr hS hl L ha
    refine codeAny_builtin PySem.F.entry_extend_loop ?_
    rw [Around.under_plainId PySem.F.plain_extend_loop _]
    show wpAny _ A.in1 (pyNext (.ref Z.z) >>= _) _ _ _
    refine wpAny_bind (Z.stop (s := { s with heap := h }) (A := A.in1) hh st ?_ fun h' k => ?_)
    · by_cases q : xs.size ≤ i
      · exact .inl (Array.getElem?_eq_none q)
      · exact .inr (Array.getElem?_eq_none (by omega))
    · refine wpAny_pure (hR h' acc c as (fun b o n1 n2 n3 n4 n5 e => k b o n2 n3 n4 n5 (fr b o n1 n2 n3 n4 n5 e)) (k _ _ Z.Sz Z.STO Z.Si1 Z.Si2 hS) (by omega) (L.keep fun b o hb e => ?_) ha)
      exact k b o (Nat.ne_of_gt (Nat.lt_of_lt_of_le z1 hb)) (Nat.ne_of_gt (Nat.lt_of_lt_of_le z3 hb)) (Nat.ne_of_gt (Nat.lt_of_lt_of_le z4 hb)) (Nat.ne_of_gt (Nat.lt_of_lt_of_le z5 hb)) e
  | succ k ih =>
    intro i h c acc as hk hi st hlo fr hS hl L ha
    have hx : i < xs.size := by omega
    have hy : i < ys.size := by omega
    have sz : acc.size = i := by rw [← Array.length_toList, ha, List.length_map, hl]
    refine codeAny_builtin PySem.F.entry_extend_loop ?_
    rw [Around.under_plainId PySem.F.plain_extend_loop _]
    show wpAny _ A.in1 (pyNext (.ref Z.z) >>= _) _ _ _
    refine wpAny_bind (Z.item (s := { s with heap := h }) (A := A.in1) st hlo (Array.getElem?_eq_getElem hx) (Array.getElem?_eq_getElem hy) fun h' st' new size k => ?_)
    have hS' := k _ _ Z.Sz Z.STO Z.Si1 Z.Si2 hS
    have oth : ∀ b o, b ≠ Z.S → h'.get? b = some o → (h'.update Z.S (Obj.mapSeq (·.push (Value.ref h.objs.size)))).get? b = some o := fun b o n e => (Heap.get?_update_other _ _ (Ne.symm n)).trans e
    have Slt : Z.S < h.objs.size := Nat.lt_of_lt_of_le z8 hlo
    show wpAny _ A.in1 (updateSeq Z.S (·.push (Value.ref h.objs.size)) >>= _) _ _ _
    refine wpAny_bind (wpAny_updateSeq hS' rfl (wpAny_pure ⟨plainId_quiet PySem.F.plain_extend_loop _, ?_⟩) (by rw [sz]; omega) (by show (acc.push _).size ≤ sizeLine + 1; rw [Array.size_push, sz]; omega))
    have far : ∀ {b : Addr}, Z.lo ≤ b → b ≠ Z.S := fun h e => Nat.lt_irrefl _ (Nat.lt_of_lt_of_le (e ▸ z8) h)
    have at1 : IsPair (h'.update Z.S (Obj.mapSeq (·.push (Value.ref h.objs.size)))) h.objs.size xs[i] ys[i] := oth _ _ (far hlo) new
    refine ih (i + 1) _ _ (acc.push (Value.ref h.objs.size)) (as ++ [h.objs.size]) (by omega) (by omega) (st'.keep Z oth) ?_ (fun b o n1 n2 n3 n4 n5 e => oth b o n1 (k b o n2 n3 n4 n5 (fr b o n1 n2 n3 n4 n5 e))) (Heap.get?_update_self _ hS' rfl) (by rw [List.length_append, hl]; rfl) ?_ (by rw [Array.toList_push, ha, List.map_append]; rfl)
    · exact Nat.le_trans hlo (Nat.le_of_lt (Heap.lt_size at1))
    · refine Laid.push (L.keep fun b o hb e => oth b o (far hb) ?_) (fun a m => L.lt m) hlo (by rw [hl]; exact Array.getElem?_eq_getElem hx) (by rw [hl]; exact Array.getElem?_eq_getElem hy) at1
      exact k b o (Nat.ne_of_gt (Nat.lt_of_lt_of_le z1 hb)) (Nat.ne_of_gt (Nat.lt_of_lt_of_le z3 hb)) (Nat.ne_of_gt (Nat.lt_of_lt_of_le z4 hb)) (Nat.ne_of_gt (Nat.lt_of_lt_of_le z5 hb)) e
end
end RT

namespace RT
open PySem PySem.Spec PyProof.Rows L2
theorem zip_no_len : typeLookup (.type "zip") "__len__" = pure none := by rw [typeLookup_type, builtinLookup_eq_fast]; kernel_rfl
theorem zip_no_hint : typeLookup (.type "zip") "__length_hint__" = pure none := by rw [typeLookup_type, builtinLookup_eq_fast]; kernel_rfl
section
variable {P : Program} {w : World} {A : Around} {E : Value → Shared → Prop} {s : Shared} {xs ys : Array Value} (Z : Zp)
theorem Zp.extend {R : Result → Shared → Prop} (hh : A.handled = none) (hn : min xs.size ys.size ≤ sizeLine) (res : Value) (c : Nat) (st : Z.St xs ys s.heap 0) (hlo : Z.lo ≤ s.heap.objs.size) (hS : s.heap.get? Z.S = some (lstO #[] c))
    (hf : ∃ f0, IsZip s.heap Z.z Z.TI Z.TO f0)
    (hR : ∀ (h' : Heap) (acc : Array Value) (c : Nat) (as : List Addr), (∀ b o, b ≠ Z.S → b ≠ Z.z → b ≠ Z.TO → b ≠ Z.i1 → b ≠ Z.i2 → s.heap.get? b = some o → h'.get? b = some o) → h'.get? Z.S = some (lstO acc c) → as.length = min xs.size ys.size → Laid xs ys Z.lo h' as →
      acc.toList = as.map Value.ref → R (.ok (.ret res)) { s with heap := h' }) :
    wpAny (model P w) A.in1 (Builtin.List.listExtendWith (.ref Z.S) (.ref Z.z) res)
      (fun fin t => match fin with | .done f => R (.ok f) t | .again c' => c'.quiet = true ∧ codeAny (model P w) A c' R t) (fun e t => R (.error e) t) s := by
  obtain ⟨f0, hz⟩ := hf
  have ty : s.TypeIs (.ref Z.z) "zip" := ⟨_, hz, rfl⟩
  unfold Builtin.List.listExtendWith
  refine wpAny_bind (wpAny_typeOf ty ?_)
  rw [if_neg (by
    rw [show Builtin.List.listSameRef (.ref Z.S) (.ref Z.z) = false by simp [Builtin.List.listSameRef, Z.Sz], show (Value.type "zip" == Value.type "list") = false by decide, show (Value.type "zip" == Value.type "tuple") = false by decide]
    simp)]
  refine wpAny_bind (wpAny_pyIter_zip hz ?_)
  refine wpAny_bind (wpAny_holding ?_)
  unfold Builtin.List.listLengthHint
  refine wpAny_bind (wpAny_specialOf ty zip_no_len ?_)
  show wpAny _ A.in1 (specialOf (Value.ref Z.z) (Str.ofString "__length_hint__") >>= _) _ _ _
  refine wpAny_bind (wpAny_specialOf ty zip_no_hint (wpAny_pure ?_))
  refine wpAny_bind (wpAny_rule (wpAny_bind ?_))
  show wpAny _ _ (updateSeq Z.S (·.push .none) >>= fun _ => updateSeq Z.S (·.pop)) _ _ _
  refine wpAny_bind (wpAny_updateSeq hS rfl ?_)
  have S2 := Heap.get?_update_self (Obj.mapSeq (·.push Value.none)) hS rfl
  refine wpAny_updateSeq (hz := by seq_fits) S2 rfl ?_
  have S3 := Heap.get?_update_self (Obj.mapSeq (·.pop)) S2 rfl
  have oth : ∀ b o, b ≠ Z.S → s.heap.get? b = some o → ((s.heap.update Z.S (Obj.mapSeq (·.push Value.none))).update Z.S (Obj.mapSeq (·.pop))).get? b = some o := fun b o n e => by
    rw [Heap.get?_update_other _ _ (Ne.symm n), Heap.get?_update_other _ _ (Ne.symm n)]
    exact e
  refine wpAny_pure ⟨plainId_quiet PySem.F.plain_extend_loop _, ?_⟩
  refine Z.loop (g := s.heap) hh hn res hR _ 0 _ _ _ [] rfl (Nat.zero_le _) (st.keep Z oth) ?_ (fun b o n _ _ _ _ e => oth b o n e) S3 rfl ⟨List.Pairwise.nil, (fun _ h => nomatch h), fun j a hj => by simp at hj⟩ rfl
  rw [Heap.size_update, Heap.size_update]
  exact hlo
theorem Zp.init {R : Result → Shared → Prop} (hh : A.handled = none) (hn : min xs.size ys.size ≤ sizeLine) (st : Z.St xs ys s.heap 0) (hlo : Z.lo ≤ s.heap.objs.size) (hS : s.heap.get? Z.S = some (lstO #[] 0))
    (hf : ∃ f0, IsZip s.heap Z.z Z.TI Z.TO f0)
    (hR : ∀ (h' : Heap) (acc : Array Value) (c : Nat) (as : List Addr), (∀ b o, b ≠ Z.S → b ≠ Z.z → b ≠ Z.TO → b ≠ Z.i1 → b ≠ Z.i2 → s.heap.get? b = some o → h'.get? b = some o) → h'.get? Z.S = some (lstO acc c) → as.length = min xs.size ys.size → Laid xs ys Z.lo h' as →
      acc.toList = as.map Value.ref → R (.ok (.ret .none)) { s with heap := h' }) :
    wpAny (model P w) A.in1 (Builtin.«list.__init__» ⟨[.ref Z.S, .ref Z.z], []⟩)
      (fun fin t => match fin with | .done f => R (.ok f) t | .again c' => c'.quiet = true ∧ codeAny (model P w) A c' R t) (fun e t => R (.error e) t) s := by
  show wpAny _ _ (Builtin.List.listItems (.ref Z.S) >>= fun old => Builtin.List.listUpdate (.ref Z.S) (fun _ => #[]) >>= fun _ => letGo old.toList.reverse >>= fun _ => Builtin.List.listExtendWith (.ref Z.S) (.ref Z.z) .none) _ _ s
  unfold Builtin.List.listItems
  refine wpAny_bind (wpAny_bind (wpAny_seqItems hS rfl (wpAny_pure ?_)))
  show wpAny _ _ (updateSeq Z.S (fun _ => #[]) >>= _) _ _ s
  refine wpAny_bind (wpAny_updateSeq hS rfl ?_)
  have S2 := Heap.get?_update_self (Obj.mapSeq (fun _ => (#[] : Array Value))) hS rfl
  have oth : ∀ b o, b ≠ Z.S → s.heap.get? b = some o → (s.heap.update Z.S (Obj.mapSeq (fun _ => (#[] : Array Value)))).get? b = some o := fun b o n e => by
    rw [Heap.get?_update_other _ _ (Ne.symm n)]
    exact e
  refine wpAny_bind (wpAny_letGo ?_)
  refine Z.extend (s := { s with heap := s.heap.update Z.S (Obj.mapSeq (fun _ => (#[] : Array Value))) }) hh hn .none _ (st.keep Z oth) (by rw [Heap.size_update]; exact hlo) S2 (hf.imp fun f e => oth _ _ Z.Sz.symm e) fun h' acc c as k a1 a2 a3 a4 => ?_
  exact hR h' acc c as (fun b o n1 n2 n3 n4 n5 e => k b o n1 n2 n3 n4 n5 (oth b o n1 e)) a1 a2 a3 a4
end
end RT

namespace RT
open PySem PySem.Spec PyProof.Rows L2
section
variable {P : Program} {w : World} {A : Around} {E : Value → Shared → Prop} {s : Shared} {xs ys : Array Value}
/-- list(zip(xs, ys)), from the two lists on -/
theorem list_zip {l1 l2 : Addr} {Q : Value → Shared → Prop} (hh : A.handled = none) (hn : min xs.size ys.size ≤ sizeLine) (h1 : s.heap.IsList l1 xs) (h2 : s.heap.IsList l2 ys)
    (q : ∀ (h' : Heap) (S : Addr) (acc : Array Value) (c : Nat) (as : List Addr), (∀ b o, s.heap.get? b = some o → h'.get? b = some o) → s.heap.objs.size ≤ S → S < s.heap.objs.size + 6 → h'.get? S = some (lstO acc c) → as.length = min xs.size ys.size →
      Laid xs ys (s.heap.objs.size + 6) h' as → acc.toList = as.map Value.ref → Q (.ref S) { s with heap := h' }) :
    wpAny (model P w) A (call (.type "zip") [.ref l1, .ref l2]) (fun v t => wpAny (model P w) A (call (.type "list") [v]) Q E t) E s := by
  obtain ⟨o1, e1, _⟩ := id h1
  obtain ⟨o2, e2, _⟩ := id h2
  have b1 : l1 < s.heap.objs.size := Heap.lt_size e1
  have b2 : l2 < s.heap.objs.size := Heap.lt_size e2
  refine call_zip_2 h1 h2 fun h' hz hTI hTO hi1 hi2 hsz hk => ?_
  refine callType_codes (Q₁ := fun v t => v = .ref h'.objs.size ∧ t = { s with heap := h'.push (lstO #[] 0) }) PySem.F.called_list (PySem.F.typeCall_list_1 _) PySem.F.entry_list_init (code_list_new _ ⟨rfl, rfl⟩) fun v t ht => ?_
  obtain ⟨rfl, rfl⟩ := ht
  have at0 : (h'.push (lstO #[] 0)).get? h'.objs.size = some (lstO #[] 0) := Heap.get?_push_size _ rfl
  have up : ∀ b o, h'.get? b = some o → (h'.push (lstO #[] 0)).get? b = some o := fun b o e => Heap.get?_push_of_some _ e
  refine ⟨⟨_, at0, rfl⟩, PySem.F.args_list_init_2 _ _, ?_⟩
  have nS : ∀ c, c < s.heap.objs.size + 5 → h'.objs.size ≠ c := fun c hc => by
    rw [hsz]
    omega
  have lw : s.heap.objs.size + 4 < s.heap.objs.size + 6 ∧ s.heap.objs.size + 2 < s.heap.objs.size + 6 ∧ s.heap.objs.size + 3 < s.heap.objs.size + 6 ∧ s.heap.objs.size < s.heap.objs.size + 6 ∧ s.heap.objs.size + 1 < s.heap.objs.size + 6 ∧ l1 < s.heap.objs.size + 6 ∧ l2 < s.heap.objs.size + 6 ∧ h'.objs.size < s.heap.objs.size + 6 :=
    ⟨by omega, by omega, by omega, by omega, by omega, Nat.lt_of_lt_of_le b1 (Nat.le_add_right _ 6), Nat.lt_of_lt_of_le b2 (Nat.le_add_right _ 6), by rw [hsz]; omega⟩
  let Z : Zp := ⟨s.heap.objs.size + 4, s.heap.objs.size + 2, s.heap.objs.size + 3, s.heap.objs.size, s.heap.objs.size + 1, l1, l2, h'.objs.size, s.heap.objs.size + 6, PySem.W.ktu_apart s.heap.objs.size l1 l2 b1 b2, lw, nS _ (by omega), nS _ (by omega), nS _ (by omega), nS _ (by omega), nS _ (by omega), nS _ (Nat.lt_of_lt_of_le b1 (Nat.le_add_right _ 5)), nS _ (Nat.lt_of_lt_of_le b2 (Nat.le_add_right _ 5))⟩
  refine Z.init (xs := xs) (ys := ys) (s := { s with heap := h'.push (lstO #[] 0) }) (A := A.in1) hh hn ⟨up _ _ hTI, hi1.at fun o e => up _ o e, hi2.at fun o e => up _ o e, (h1.at fun o e => hk _ o e).at fun o e => up _ o e, (h2.at fun o e => hk _ o e).at fun o e => up _ o e, .inl ⟨up _ _ hz, _, _, up _ _ hTO⟩⟩ ?_ at0 ⟨_, up _ _ hz⟩ fun h'' acc c as k a1 a2 a3 a4 => ?_
  · show s.heap.objs.size + 6 ≤ (h'.push (lstO #[] 0)).objs.size
    rw [Heap.size_push, hsz]
    exact Nat.le_refl _
  · refine ⟨rfl, q h'' h'.objs.size acc c as (fun b o e => ?_) (by rw [hsz]; exact Nat.le_add_right _ 5) (by rw [hsz]; exact Nat.lt_succ_self _) a1 a2 a3 a4⟩
    have ne : ∀ k, b ≠ s.heap.objs.size + k := fun k z => Nat.lt_irrefl _ (Nat.lt_of_lt_of_le (show s.heap.objs.size + k < s.heap.objs.size from z ▸ Heap.lt_size e) (Nat.le_add_right _ k))
    exact k b o (show b ≠ h'.objs.size from hsz ▸ ne 5) (ne 4) (ne 3) (ne 0) (ne 1) (up b o (hk b o e))
end
end RT

namespace RT
open PySem PySem.Spec PyProof.Rows L2
theorem vals_refs : ∀ as : List Addr, Vals (as.map V.ref) (as.map Value.ref)
  | [] => .nil
  | a :: r => .cons rfl (vals_refs r)
theorem vals_at : ∀ {xs : List V} {us : List Value}, Vals xs us → ∀ (j : Nat) (u : Value), us[j]? = some u → ∃ x, xs[j]? = some x ∧ RelV x u
  | _, _, .nil, j, u, h => by simp at h
  | _, _, .cons r t, 0, u, h => by
    cases h
    exact ⟨_, rfl, r⟩
  | _, _, .cons r t, j + 1, u, h => vals_at t j u (by simpa using h)
section
variable {X : Cx}
def tLZ (K : PySem.W.Frag) (ta : TA) : TE := fun σ H Q => ta σ H fun vs H1 => ∃ (a b : Addr) (xs ys : List V), vs = [.ref a, .ref b] ∧ SqL K H1 a xs ∧ SqL K H1 b ys ∧
  ∀ (H2 : Hp) (l : Addr) (ps : List Addr), Kp M0 H1 H2 → H1 l = none → H2 l = some (.lst (ps.map V.ref)) → ps.length = min xs.length ys.length →
    (∀ (j : Nat) (p : Addr), ps[j]? = some p → ∃ x y, xs[j]? = some x ∧ ys[j]? = some y ∧ H2 p = some (.tup [x, y])) → Q (.ref l) H2
theorem pe_listZip {e e2 : Expr} {ta : TA} {p p2 q pos : Pos} (hc : X.calm = true) (hg : Gl X "list") (hm : X.mg "list" = none) (hg2 : Gl X "zip") (hm2 : X.mg "zip" = none) (ha : PA X [e, e2] ta)
    (hs : starEach [e, e2] X.env = (false, eval e X.env) :: starEach [e2] X.env := by rfl) (hpl : (backTo q (starEach [e2] X.env)).any (·.1) = false := by rfl)
    (na : starEach [(.Call (.Name "zip" p2) [e, e2] [] q : Expr)] X.env = (false, eval (.Call (.Name "zip" p2) [e, e2] [] q) X.env) :: starEach [] X.env := by rfl) :
    PE X (.Call (.Name "list" p) [.Call (.Name "zip" p2) [e, e2] [] q] [] pos) (tLZ X.K ta) := by
  refine ⟨fun pins s σ H Q I h => ?_⟩
  refine Call_ (ld_blt I hg hm boot_list ?_)
  refine PyProof.Rows.callWith_type1 (PyProof.Rows.args_cons ?_ na) na rfl
  refine Call_ (ld_blt I hg2 hm2 PyProof.Rows.boot_zip (PyProof.Rows.callWith_type1 (thn (ha.run q pins s σ H _ I h) fun us s1 ⟨vs, H1, I1, r1, q1⟩ => ?_) hs hpl))
  obtain ⟨a, b, xs, ys, rfl, hx, hy, q1⟩ := q1
  obtain ⟨u1, u2, rfl, ra, rb⟩ := vals2 r1
  cases ra
  cases rb
  obtain ⟨ix, vx, px, zx⟩ := I1.list hx
  obtain ⟨iy, vy, py, zy⟩ := I1.list hy
  have lx : ix.toArray.size = xs.length := by rw [List.size_toArray, vx.length]
  have ly : iy.toArray.size = ys.length := by rw [List.size_toArray, vy.length]
  refine wpAny_mono (list_zip (Q := EP X pins σ Q) (I1.ok.hd hc) (by rw [lx]; exact Nat.le_trans (Nat.min_le_left ..) zx) px.isList py.isList fun h' S acc c as k b1 b2 e1 e2 L e3 => ?_) (fun v t z => PyProof.Rows.args_nil z) (fun _ _ z => z)
  have hS : H1 S = none := I1.hok.fresh b1
  have big : ∀ a ∈ as, s1.heap.objs.size ≤ a ∧ a ≠ S := fun a m => by
    have z := L.big a m
    exact ⟨Nat.le_trans (Nat.le_add_right _ 6) z, fun e => Nat.lt_irrefl _ (Nat.lt_of_lt_of_le b2 (e ▸ z))⟩
  have len : as.length ≤ sizeLine := by
    rw [e2, lx]
    exact Nat.le_trans (Nat.min_le_left ..) zx
  have J : Inv X pins σ (upd H1 S (.lst (as.map V.ref))) { s1 with heap := h' } :=
    I1.laid (t' := s1.toks) k b1 ⟨by rw [List.length_map]; exact len, acc.toList, c, by rw [e3]; exact vals_refs as, e1⟩
  have nd : as.Nodup := L.up.imp fun h => Nat.ne_of_lt h
  obtain ⟨H2, J2, g2, t2⟩ := L2.DX.takeT (tk := s1.toks) (P := fun p vs => ∃ (j : Nat) (x y : V), as[j]? = some p ∧ xs[j]? = some x ∧ ys[j]? = some y ∧ vs = [x, y]) I1 as _ J nd fun p m => by
    obtain ⟨j, hj⟩ := List.mem_iff_getElem?.mp m
    obtain ⟨vx', vy', f1, f2, f3⟩ := L.at' j p hj
    obtain ⟨x, g1, rx⟩ := vals_at vx j vx' (by simpa using f1)
    obtain ⟨y, g2, ry⟩ := vals_at vy j vy' (by simpa using f2)
    refine ⟨(big p m).1, by rw [upd_ne (big p m).2]; exact I1.hok.fresh (big p m).1, [x, y], ⟨j, x, y, hj, g1, g2, rfl⟩, fun H2 => ⟨by rw [sizeLine_eq]; show 2 ≤ _; omega, [vx', vy'], .cons rx (.cons ry .nil), _, f3, rfl, _, rfl⟩⟩
  refine ⟨.ref S, H2, J2, rfl, q1 H2 S as (fun b o _ e => g2 b o (by rw [upd_ne (ne_of_none e hS)]; exact e)) hS (g2 _ _ upd_same) (by rw [e2, lx, ly]) fun j p hj => ?_⟩
  obtain ⟨vs, ⟨j', x, y, h1, h2, h3, rfl⟩, h5⟩ := t2 p (List.mem_of_getElem? hj)
  have ej : j' = j := by
    obtain ⟨l1, m1⟩ := List.getElem?_eq_some_iff.mp h1
    obtain ⟨l2, m2⟩ := List.getElem?_eq_some_iff.mp hj
    have up := List.pairwise_iff_getElem.mp L.up
    rcases Nat.lt_trichotomy j' j with h | h | h
    · have z := up j' j l1 l2 h
      rw [m1, m2] at z
      exact absurd z (Nat.lt_irrefl _)
    · exact h
    · have z := up j j' l2 l1 h
      rw [m1, m2] at z
      exact absurd z (Nat.lt_irrefl _)
  subst ej
  exact ⟨x, y, h2, h3, h5⟩
end
end RT

/-! tuple(xs) whose object is kept in mind; dict(t) of a tuple of pairs -/
namespace RT
open PySem PySem.Spec PyProof.Rows L2
section
variable {X : Cx}
def rTupFz (K : PySem.W.Frag) : List V → Hp → VK → Prop := fun xs H Q => ∃ (p : Addr) (ys : List V), xs = [.ref p] ∧ SqL K H p ys ∧
  ∀ (l : Addr) (o : Obj), H l = none → o.cls = .type "tuple" → o.dict = none → Q (.ref l) (upd H l (.frz o (.tup ys)))
theorem cr_tupFz : CallR X (.type "tuple") (rTupFz X.K) := by
  intro pins s σ H xs us Q I r h
  obtain ⟨p, ys, rfl, hq, q⟩ := h
  obtain ⟨u, rfl, ru⟩ := vals1 r
  cases ru
  obtain ⟨its, rv, pl, hz⟩ := I.list hq
  have len := rv.length
  refine call_tuple_list pl.isList (fun h' k => ?_) (by simp only [List.size_toArray]; omega)
  have I1 : Inv X pins σ H { s with heap := h' } := I.kept (t' := s.toks) k
  let o : Obj := { cls := .type "tuple", data := .seq its.toArray }
  have e : (h'.push o).get? h'.objs.size = some o := Heap.get?_push_size _ rfl
  exact ⟨.ref h'.objs.size, upd H h'.objs.size (.frz o (.tup ys)), I1.laid (h' := h'.push o) (o := .frz o (.tup ys)) (t' := s.toks) (fun b u e => Heap.get?_push_of_some _ e) (Nat.le_refl _) ⟨e, hz, its, rv, o, e, rfl, 0, rfl⟩, rfl, q _ o (I1.hok.fresh (Nat.le_refl _)) rfl rfl⟩
theorem raw_pairs {pins : List (Addr × Obj)} {σ : L2.St} {H : Hp} {s : Shared} (I : Inv X pins σ H s) : ∀ {ps : List Addr} {kvs : List (Key × V)}, Paired (fun p kv => SqT X.K H p [kV kv.1, kv.2]) ps kvs →
    ∃ (prs : List (Key × Value)) (raw : List (Value × Value)), KV kvs prs ∧ prs.length = ps.length ∧ raw.length = ps.length ∧ ∀ (j : Nat) (k v : Value), raw[j]? = some (k, v) → ∃ (b : Addr) (q : Key), ps[j]? = some b ∧ prs[j]? = some (q, v) ∧ IsTup s.heap b #[k, v] ∧ (mixKind X.prog X.w).is q k = true
  | _, _, .nil => ⟨[], [], .nil, rfl, rfl, fun j k v e => by simp at e⟩
  | _, _, .cons (a := p) (b := kv) h t => by
    obtain ⟨prs, raw, r, l1, l2, hp⟩ := raw_pairs I t
    obtain ⟨its, rv, ht, _⟩ := I.tuple h
    obtain ⟨u, y, rfl, ru, ry⟩ := vals2 rv
    refine ⟨(kv.1, y) :: prs, (u, y) :: raw, .cons ⟨rfl, ry⟩ r, by rw [List.length_cons, List.length_cons, l1], by rw [List.length_cons, List.length_cons, l2], fun j k v e => ?_⟩
    cases j with
    | zero =>
      cases (show some (u, y) = some (k, v) from e)
      exact ⟨p, kv.1, rfl, rfl, ht, kV_is ru⟩
    | succ j =>
      obtain ⟨b, q, e1, e2, e3⟩ := hp j k v (by simpa using e)
      exact ⟨b, q, by simpa using e1, by simpa using e2, e3⟩
def rDictT (K : PySem.W.Frag) : List V → Hp → VK → Prop := fun xs H Q => ∃ (a : Addr) (o : Obj) (ps : List Addr) (kvs : List (Key × V)), xs = [.ref a] ∧ H a = some (.frz o (.tup (ps.map V.ref))) ∧ o.cls = .type "tuple" ∧ o.dict = none ∧ Paired (fun p kv => SqT K H p [kV kv.1, kv.2]) ps kvs ∧
  ∀ p, H p = none → Q (.ref p) (upd H p (.dK (mergeK [] kvs)))
theorem cr_dictT (hc : X.calm = true) : CallR X (.type "dict") (rDictT X.K) := by
  intro pins s σ H xs us Q I r h
  obtain ⟨a, o, ps, kvs, rfl, ha, hcl, hdn, hp, q⟩ := h
  rw [Vals.ref1 r]
  obtain ⟨at0, hz, its, rv, o', e', _, n, hd⟩ : ObjOk X.prog X.w H s.heap a (.frz o (.tup (ps.map V.ref))) := I.hok a _ ha
  rw [at0] at e'
  cases e'
  have ei := refs_at rv
  subst ei
  rw [List.length_map] at hz
  obtain ⟨prs, raw, rel, l1, l2, hr⟩ := raw_pairs I hp
  refine PySem.call_dict_pairs (knd := mixKind X.prog X.w) (kvs := prs) (PairArg.tuple a (ps.map Value.ref).toArray (fun j => (ps[j]?).getD 0) raw) (I.ok.hd hc) ⟨⟨o, n, at0, hcl, hdn, hd⟩, ?_, fun j k v e => ?_⟩ ⟨by rw [l1, l2], fun j k v e => ?_⟩ (by rw [l2]; exact hz) fun h' tk dd k => ?_
  · rw [List.size_toArray, List.length_map, l2]
  · obtain ⟨b, q, e1, e2, e3, e4⟩ := hr j k v e
    obtain ⟨oo, f1, f2, m, f3⟩ := e3
    refine ⟨by simp [e1], .inl ?_⟩
    have eb : (fun j => (ps[j]?).getD 0) j = b := by
      show (ps[j]?).getD 0 = b
      rw [e1]
      rfl
    rw [eb]
    exact ⟨oo, f1, f2, m, f3⟩
  · obtain ⟨b, q, e1, e2, e3, e4⟩ := hr j k v e
    exact ⟨q, e2, e4⟩
  · have k' : ∀ b o, s.heap.get? b = some o → h'.get? b = some o := fun b o e => k b o (fun m => nomatch m) e
    have few : (mergeK [] kvs).length ≤ sizeLine := by
      refine Nat.le_trans (length_mergeK kvs []) ?_
      rw [List.length_nil, Nat.zero_add, rel.length, l1]
      exact hz
    exact ⟨.ref s.heap.objs.size, upd H s.heap.objs.size (.dK (mergeK [] kvs)), I.laid (t' := tk) k' (Nat.le_refl _) (show ObjOk X.prog X.w _ _ _ (.dK (mergeK [] kvs)) from ⟨few, beq_eq_false_iff_ne.mpr (Nat.ne_of_gt I.big), merged [] prs, KV.merge rel .nil, dd⟩), rfl, q _ (I.hok.fresh (Nat.le_refl _))⟩
end
end RT

/-! t * k for any k from 0 -/
namespace RT
open PySem PySem.Spec PyProof.Rows L2
theorem tup_times0 (l : Addr) (its : Array Value) (n : Nat) (dd : Option Addr) (sl : Array (Option Value)) (u : Tok) (hi : its.isEmpty = false) :
    Meets (Builtin.«tuple.__mul__» ⟨[.ref l, .int 0 u], []⟩) (fun _ R s => s.heap.get? l = some { cls := .type "tuple", dict := dd, data := .seq its n, slots := sl } ∧
      R (.ok (.ret (Value.ref s.heap.objs.size))) { s with heap := s.heap.push { cls := Value.type "tuple", data := Data.seq #[] }, toks := s.toks }) :=
  .of_wp fun prog w A R s h => by
    obtain ⟨hp, g, d, tk, os⟩ := s
    obtain ⟨ho, h⟩ := h
    have f1 := AutoSeq1.idx_int
    wp_walk using wpAny_loadPart' ho
    exact ⟨_, rfl, h⟩
theorem tup_times1 (l : Addr) (its : Array Value) (n : Nat) (dd : Option Addr) (sl : Array (Option Value)) (u : Tok) :
    Meets (Builtin.«tuple.__mul__» ⟨[.ref l, .int 1 u], []⟩) (fun _ R s => s.heap.get? l = some { cls := .type "tuple", dict := dd, data := .seq its n, slots := sl } ∧ R (.ok (.ret (Value.ref l))) s) :=
  .of_wp fun prog w A R s h => by
    obtain ⟨hp, g, d, tk, os⟩ := s
    obtain ⟨ho, h⟩ := h
    have f1 := AutoSeq1.idx_int
    wp_walk using wpAny_loadPart' ho
    exact ⟨_, rfl, h⟩
section
variable {X : Cx}
def rTimes : R2 := fun x y H Q => ∃ (l : Addr) (k : Int) (xs : List V), x = .ref l ∧ y = .int k ∧ H l = some (.tup xs) ∧ xs ≠ [] ∧ 0 ≤ k ∧ k ≤ 1000 ∧ xs.length ≤ 1000 ∧
  ∀ (a : Addr) (H' : Hp), H' a = some (.tup (List.replicate k.toNat xs).flatten) → Kp M0 H H' → Q (.ref a) H'
theorem op_times : OpR X (binaryOp .Mult) rTimes := by
  intro pins s σ H x y v u Q I rx ry h
  obtain ⟨l, k, xs, rfl, rfl, hT, hne, h1, h2, hz, q⟩ := h
  by_cases big : 2 ≤ k
  · exact op_repT pins s σ H _ _ v u Q I rx ry ⟨l, k, xs, rfl, rfl, SqT.of hT, hne, big, h2, hz, fun p np => q p _ upd_same (Kp.new np)⟩
  cases rx
  obtain ⟨t, rfl⟩ := ry
  obtain ⟨its, r, ⟨⟨cls, dd, data, sl⟩, ho, hc, n, hd⟩, hs⟩ := I.tuple (SqT.of hT)
  cases hc
  cases hd
  have hi : its.toArray.isEmpty = false := by
    cases its with
    | nil =>
      cases xs with
      | nil => exact absurd rfl hne
      | cons a b => cases r
    | cons a b => rfl
  have tail : ∀ (W : Value → Shared → Prop) (E : Value → Shared → Prop), (wpAny (model X.prog X.w) X.A (call (.builtin "tuple.__mul__") [.ref l, .int k t]) W E s) → wpAny (model X.prog X.w) X.A (binaryOp .Mult (.ref l) (.int k t)) W E s := fun W E z =>
    wpAny_binaryOp_repeat_ref (T := "tuple") (U := "int") (by decide) ⟨_, ho, rfl⟩ (fun s' => typeIs_int s' k t) noFill_tuple_mul PySem.F.fills_int_mul PySem.F.slot_int_rmul repeat_tuple PySem.F.slot_int_index.lookup
      (call_meets PySem.F.slot_int_rmul (typeIs_int s k t) PySem.F.entry_int_rmul (PySem.F.args_int_rmul_2 _ _) (int_rmul_tuple k t l its.toArray n dd sl) ⟨ho, rfl, ⟨_, ho, rfl⟩, z⟩)
  refine tail _ _ ?_
  rcases (show k = 0 ∨ k = 1 by omega) with rfl | rfl
  · refine call_meets PySem.F.slot_tuple_mul ⟨_, ho, rfl⟩ PySem.F.entry_tuple_mul (PySem.F.args_tuple_mul_2 _ _) (tup_times0 l its.toArray n dd sl t hi) ⟨ho, ?_⟩
    exact ⟨.ref s.heap.objs.size, _, I.laid (t' := s.toks) (o := .tup []) (fun b ob e => Heap.get?_push_of_some _ e) (Nat.le_refl _) ⟨Nat.zero_le _, [], .nil, IsTup.new _ _⟩, rfl, q _ _ upd_same (Kp.new (I.hok.fresh (Nat.le_refl _)))⟩
  · refine call_meets PySem.F.slot_tuple_mul ⟨_, ho, rfl⟩ PySem.F.entry_tuple_mul (PySem.F.args_tuple_mul_2 _ _) (tup_times1 l its.toArray n dd sl t) ⟨ho, ?_⟩
    refine ⟨.ref l, H, I, rfl, q l H ?_ Kp.refl⟩
    show H l = some (.tup (List.replicate 1 xs).flatten)
    rw [hT]
    simp
end
end RT

/-! things that are drawn: texts, ints, None, tuples of such; forms as such things -/
namespace RT
open PySem PySem.Spec PyProof.Rows L2
inductive D where
  | str (z : Str)
  | int (i : Int)
  | non
  | tup (ds : List D)
mutual
inductive Rp (H : Hp) : V → D → Prop
  | str {z : Str} : z.length ≤ sizeLine → Rp H (.str z) (.str z)
  | int {i : Int} : Rp H (.int i) (.int i)
  | non : Rp H .non .non
  | tup {a : Addr} {vs : List V} {ds : List D} : H a = some (.tup vs) → Rps H vs ds → Rp H (.ref a) (.tup ds)
inductive Rps (H : Hp) : List V → List D → Prop
  | nil : Rps H [] []
  | cons {v : V} {d : D} {vs : List V} {ds : List D} : Rp H v d → Rps H vs ds → Rps H (v :: vs) (d :: ds)
end
mutual
theorem Rp.keep {H H' : Hp} {M : Addr → Prop} (k : Kp M H H') (h : ∀ a xs, M a → H a ≠ some (.tup xs)) : ∀ {v : V} {d : D}, Rp H v d → Rp H' v d
  | _, _, .str z => .str z
  | _, _, .int => .int
  | _, _, .non => .non
  | _, _, .tup e r => .tup (k _ _ (fun m => h _ _ m e) e) (Rps.keep k h r)
theorem Rps.keep {H H' : Hp} {M : Addr → Prop} (k : Kp M H H') (h : ∀ a xs, M a → H a ≠ some (.tup xs)) : ∀ {vs : List V} {ds : List D}, Rps H vs ds → Rps H' vs ds
  | _, _, .nil => .nil
  | _, _, .cons r t => .cons (r.keep k h) (Rps.keep k h t)
end
theorem Rps.len {H : Hp} : ∀ {vs : List V} {ds : List D}, Rps H vs ds → vs.length = ds.length
  | _, _, .nil => rfl
  | _, _, .cons _ t => by rw [List.length_cons, List.length_cons, Rps.len t]
theorem Rps.app {H : Hp} : ∀ {vs ws : List V} {ds es : List D}, Rps H vs ds → Rps H ws es → Rps H (vs ++ ws) (ds ++ es)
  | _, _, _, _, .nil, r => r
  | _, _, _, _, .cons q t, r => .cons q (Rps.app t r)
theorem Rps.get {H : Hp} : ∀ {vs : List V} {ds : List D}, Rps H vs ds → ∀ (i : Nat) (v : V), vs[i]? = some v → ∃ d, ds[i]? = some d ∧ Rp H v d
  | _, _, .nil, i, v, h => by simp at h
  | _, _, .cons q t, 0, v, h => by
    cases h
    exact ⟨_, rfl, q⟩
  | _, _, .cons q t, i + 1, v, h => Rps.get t i v (by simpa using h)
/-- forms -/
inductive Fo where
  | leaf (w : Str) (r : List D)
  | one (w : Str) (f : Fo) (r : List D)
  | row (fs : List Fo)
  | either (ns : List Str) (fs : List Fo)
  | again (f : Fo)
  | between (f g : Fo)
  | counted (z : Str) (f : Fo)
  | named (x : Str)
mutual
def Fo.enc : Fo → D
  | .leaf w r => .tup (.str w :: r)
  | .one w f r => .tup (.str w :: f.enc :: r)
  | .row fs => .tup [.str "row", .tup (Fo.encs fs)]
  | .either ns fs => .tup [.str "either", .tup (List.zipWith (fun n d => .tup [.str n, d]) ns (Fo.encs fs))]
  | .again f => .tup [.str "again", f.enc, .non]
  | .between f g => .tup [.str "again", f.enc, g.enc]
  | .counted z f => .tup [.str "counted", .str z, f.enc]
  | .named x => .tup [.str "named", .str x]
def Fo.encs : List Fo → List D
  | [] => []
  | f :: r => f.enc :: Fo.encs r
end
mutual
/-- well made, as far as names and shapes go -/
def Fo.ok (N : List Str) : Fo → Prop
  | .leaf w _ => w ∈ ([("text" : Str), "sign", "word", "number", "pick"] : List Str)
  | .one w f _ => w ∈ ([("skip" : Str), "spelt", "turned"] : List Str) ∧ f.ok N
  | .row fs => Fo.oks N fs
  | .either ns fs => ns.length = fs.length ∧ Fo.oks N fs
  | .again f => f.ok N
  | .between f g => f.ok N ∧ g.ok N
  | .counted _ f => f.ok N
  | .named x => x ∈ N
def Fo.oks (N : List Str) : List Fo → Prop
  | [] => True
  | f :: r => f.ok N ∧ Fo.oks N r
end
mutual
/-- how many forms stand in it, itself among them -/
def Fo.size : Fo → Nat
  | .leaf _ _ => 1
  | .one _ f _ => 1 + f.size
  | .row fs => 1 + Fo.sizes fs
  | .either _ fs => 1 + Fo.sizes fs
  | .again f => 1 + f.size
  | .between f g => 1 + f.size + g.size
  | .counted _ f => 1 + f.size
  | .named _ => 1
def Fo.sizes : List Fo → Nat
  | [] => 0
  | f :: r => f.size + Fo.sizes r
end
/-- those that stand in it -/
def Fo.inner : Fo → List Fo
  | .leaf _ _ => []
  | .one _ f _ => [f]
  | .row fs => fs
  | .either _ fs => fs
  | .again f => [f]
  | .between f g => [f, g]
  | .counted _ f => [f]
  | .named _ => []
theorem Fo.size_pos : ∀ f : Fo, 1 ≤ f.size
  | .leaf _ _ | .named _ => Nat.le_refl _
  | .one _ _ _ | .row _ | .either _ _ | .again _ | .counted _ _ => by simp only [Fo.size]; omega
  | .between _ _ => by simp only [Fo.size]; omega
theorem Fo.sizes_app : ∀ fs gs : List Fo, Fo.sizes (fs ++ gs) = Fo.sizes fs + Fo.sizes gs
  | [], gs => by simp [Fo.sizes]
  | f :: r, gs => by
    show f.size + Fo.sizes (r ++ gs) = f.size + Fo.sizes r + Fo.sizes gs
    rw [Fo.sizes_app r gs]
    omega
theorem Fo.oks_app {N : List Str} : ∀ fs gs : List Fo, Fo.oks N fs → Fo.oks N gs → Fo.oks N (fs ++ gs)
  | [], _, _, h => h
  | _ :: r, gs, h, k => ⟨h.1, Fo.oks_app r gs h.2 k⟩
theorem Fo.encs_app : ∀ fs gs : List Fo, Fo.encs (fs ++ gs) = Fo.encs fs ++ Fo.encs gs
  | [], _ => rfl
  | f :: r, gs => by
    show f.enc :: Fo.encs (r ++ gs) = f.enc :: (Fo.encs r ++ Fo.encs gs)
    rw [Fo.encs_app r gs]
theorem Fo.inner_size (f : Fo) : Fo.sizes f.inner + 1 = f.size := by
  cases f <;> simp only [Fo.inner, Fo.sizes, Fo.size] <;> omega
theorem Fo.inner_ok {N : List Str} (f : Fo) (h : f.ok N) : Fo.oks N f.inner := by
  cases f with
  | leaf w r => exact True.intro
  | one w f r => exact ⟨h.2, True.intro⟩
  | row fs => exact h
  | either ns fs => exact h.2
  | again f => exact ⟨h, True.intro⟩
  | between f g => exact ⟨h.1, h.2, True.intro⟩
  | counted z f => exact ⟨h, True.intro⟩
  | named x => exact True.intro
end RT

namespace RT
open PySem PySem.Spec PyProof.Rows L2
abbrev sInner : Stmt := topS 1
theorem scInner : FnScope ["form", "word", "_", "inner"] ["form"] (defScope sInner) := ⟨rfl, rfl, rfl, by decide +kernel, rfl, by decide +kernel, by decide +kernel⟩
theorem iteF' {b : Bool} {A B : Prop} (e : b = false) (h : B) : if b = true then A else B := by
  rw [e]
  exact iteF h
theorem iteT' {b : Bool} {A B : Prop} (e : b = true) (h : A) : if b = true then A else B := by
  rw [if_pos e]
  exact h
theorem none_upd {H : Hp} {p l : Addr} {o : HO} (h : upd H p o l = none) : H l = none := by
  unfold upd at h
  split at h
  · cases h
  · exact h
theorem enc_ref {H : Hp} {v : V} {f : Fo} (r : Rp H v f.enc) : ∃ a, v = .ref a := by
  cases f <;> (cases r; exact ⟨_, rfl⟩)
theorem encs_map : ∀ fs : List Fo, Fo.encs fs = fs.map Fo.enc
  | [] => rfl
  | f :: r => by
    rw [List.map_cons, ← encs_map r]
    rfl
theorem encs_app (fs gs : List Fo) : Fo.encs (fs ++ gs) = Fo.encs fs ++ Fo.encs gs := Fo.encs_app fs gs
theorem sizes_len : ∀ fs : List Fo, fs.length ≤ Fo.sizes fs
  | [] => Nat.le_refl _
  | f :: r => by
    have h := sizes_len r
    have k := f.size_pos
    simp only [Fo.sizes, List.length_cons]
    omega
section
variable {P : Program} {w : World} {K : PySem.W.Frag} {mg : Str → Option Value} {base : Heap}
def spInner (N : List Str) : Sp := fun vs H Q _ => ∃ (v : V) (f : Fo), vs = [v] ∧ Rp H v f.enc ∧ f.ok N ∧ f.size ≤ 100000 ∧
  ∀ (us : List V) (l : Addr) (H' : Hp), H l = none → H' l = some (.lst us) → Rps H' us (Fo.encs f.inner) → Kp M0 H H' → Q (.ref l) H'
theorem ok_inner {N : List Str} {f : Addr} {fd : FuncData} {k : Nat} (F : Fun K "inner_forms" "inner_forms" sInner f fd) (mli : mg "list" = none) : FnOk P w K mg base CX0 (k + 1) f fd ["form"] (spInner N) := by
  refine F.ok scInner (fun vs H Q E h => ?_) (fun cdv A outer s H vs Q E hr h => ?_)
  · obtain ⟨v, f, rfl, _⟩ := h
    rfl
  · obtain ⟨v, fo, rfl, hR, hok, hsz, q⟩ := h
    refine ⟨_, (pss_cons (ps_set (i := 1) scInner.nd rfl (.inl rfl) (pe_ix ix_tup (pv 0) pe_int (fun _ _ => rfl)))
      (pss_cons (ps_if (pt_cmpR op_in_seq (pv 1) (pe_tup (pa_cons pe_str (pa_cons pe_str (pa_cons pe_str pa_nil)))) (by rfl)) (pss_one (ps_ret (pe_lst (pa_cons (pe_ix ix_tup (pv 0) pe_int (fun _ _ => rfl)) pa_nil)))) pss_nil)
      (pss_cons (ps_if (pt_cmpR op_eq (pv 1) pe_str (nomark _)) (pss_one (ps_ret (pe_callTy call_list_of (by rfl) mli (by decide +kernel) (pa_cons (pe_ix ix_tup (pv 0) pe_int (fun _ _ => rfl)) pa_nil)))) pss_nil)
      (pss_cons (ps_if (pt_cmpR op_eq (pv 1) pe_str (nomark _)) (pss_one (ps_ret (pe_lc (own := [("_", 2), ("inner", 3)]) (g := gTup K 2 (gCons (gName 2) (gCons (gName 3) gNil))) (tt := tYes) rfl scInner.nd (pi_tup (pe_ix ix_tup (pv 0) pe_int (fun _ _ => rfl))) (blkOk_by (N := ["form", "word", "_", "inner"]) (sc := defScope sInner) (by decide +kernel)) (fun _ _ _ _ _ => (pg_tup rfl (pgs_cons (pg_name (i := 2) scInner.nd rfl (.inl rfl)) (pgs_cons (pg_name (i := 3) scInner.nd rfl (.inl rfl)) pgs_nil)))) (fun _ _ _ _ _ => pts_nil) (fun _ _ _ _ _ => (pv 3))))) pss_nil)
      (pss_cons (ps_if (pt_cmpR op_eq (pv 1) pe_str (nomark _)) (pss_one (ps_ret (pe_ifExp (pt_cmpR op_isN (pe_ix ix_tup (pv 0) pe_int (fun _ _ => rfl)) pe_non (nomark _)) (pe_lst (pa_cons (pe_ix ix_tup (pv 0) pe_int (fun _ _ => rfl)) pa_nil)) (pe_lst (pa_cons (pe_ix ix_tup (pv 0) pe_int (fun _ _ => rfl)) (pa_cons (pe_ix ix_tup (pv 0) pe_int (fun _ _ => rfl)) pa_nil)))))) pss_nil)
      (pss_cons (ps_if (pt_cmpR op_eq (pv 1) pe_str (nomark _)) (pss_one (ps_ret (pe_lst (pa_cons (pe_ix ix_tup (pv 0) pe_int (fun _ _ => rfl)) pa_nil)))) pss_nil)
      (pss_one (ps_ret (pe_lst pa_nil))))))))), ?_⟩
    have noT : ∀ (H : Hp) (a : Addr) xs, M0 a → H a ≠ some (.tup xs) := fun _ _ _ z => z.elim
    have new : ∀ {H : Hp} {p : Addr} {o : HO} {v : V} {d : D}, H p = none → Rp H v d → Rp (upd H p o) v d := fun n r => r.keep (Kp.new (M := M0) n) (noT _)
    -- the word and the first test
    have go : ∀ (w : Str) (ds : List D), fo.enc = .tup (.str w :: ds) → ∃ (a : Addr) (us : List V), v = .ref a ∧ H a = some (.tup (.str w :: us)) ∧ Rps H us ds := fun w ds e => by
      rw [e] at hR
      cases hR with
      | tup e1 r =>
        cases r with
        | cons r1 r2 =>
          cases r1
          exact ⟨_, _, rfl, e1, r2⟩
    have nT : ∀ {p a : Addr} {o : HO} {us : List V}, H p = none → H a = some (.tup us) → upd H p o a = some (.tup us) := fun n e => by rw [upd_ne (ne_of_none e n)]; exact e
    have fin : ∀ {p l : Addr} {o : HO} (us : List V), H p = none → upd H p o l = none → Rps H us (Fo.encs fo.inner) → Q (.ref l) (upd (upd H p o) l (.lst us)) := fun us n1 n2 r =>
      q us _ _ (none_upd n2) upd_same ((r.keep (Kp.new (M := M0) n1) (noT _)).keep (Kp.new (M := M0) n2) (noT _)) ((Kp.new n1).trans (Kp.new n2))
    cases fo with
    | leaf w r =>
      obtain ⟨a, us, rfl, ea, ru⟩ := go w r rfl
      have five : w ∈ ([("text" : Str), "sign", "word", "number", "pick"] : List Str) := hok
      simp only [List.mem_cons, List.not_mem_nil, or_false] at five
      rcases five with rfl | rfl | rfl | rfl | rfl <;>
      · refine ⟨_, rfl, a, _, 0, .str _, rfl, rfl, SqT.of ea, atI_nat (j := 0) rfl, ?_⟩
        refine ⟨_, rfl, by show 3 ≤ sizeLine; decide, fun p np => ⟨p, _, rfl, .inr (SqT.of upd_same), rfl, rfl, _, rfl, iteF' (by decide) ?_⟩⟩
        refine ⟨_, rfl, rfl, _, rfl, iteF' (by decide) ?_⟩
        refine ⟨_, rfl, rfl, _, rfl, iteF' (by decide) ?_⟩
        refine ⟨_, rfl, rfl, _, rfl, iteF' (by decide) ?_⟩
        refine ⟨_, rfl, rfl, _, rfl, iteF' (by decide) ?_⟩
        exact ⟨Nat.zero_le _, fun l nl => fin [] np nl .nil⟩
    | named x =>
      obtain ⟨a, us, rfl, ea, ru⟩ := go "named" _ rfl
      refine ⟨_, rfl, a, _, 0, .str _, rfl, rfl, SqT.of ea, atI_nat (j := 0) rfl, ?_⟩
      refine ⟨_, rfl, by show 3 ≤ sizeLine; decide, fun p np => ⟨p, _, rfl, .inr (SqT.of upd_same), rfl, rfl, _, rfl, iteF' (by decide) ?_⟩⟩
      refine ⟨_, rfl, rfl, _, rfl, iteF' (by decide) ?_⟩
      refine ⟨_, rfl, rfl, _, rfl, iteF' (by decide) ?_⟩
      refine ⟨_, rfl, rfl, _, rfl, iteF' (by decide) ?_⟩
      refine ⟨_, rfl, rfl, _, rfl, iteF' (by decide) ?_⟩
      exact ⟨Nat.zero_le _, fun l nl => fin [] np nl .nil⟩
    | one w f r =>
      obtain ⟨a, us, rfl, ea, ru⟩ := go w _ rfl
      cases ru with
      | cons r1 r2 =>
        have three : w ∈ ([("skip" : Str), "spelt", "turned"] : List Str) := hok.1
        simp only [List.mem_cons, List.not_mem_nil, or_false] at three
        rcases three with rfl | rfl | rfl <;>
        · refine ⟨_, rfl, a, _, 0, .str _, rfl, rfl, SqT.of ea, atI_nat (j := 0) rfl, ?_⟩
          refine ⟨_, rfl, by show 3 ≤ sizeLine; decide, fun p np => ⟨p, _, rfl, .inr (SqT.of upd_same), rfl, rfl, _, rfl, iteT' (by decide) ?_⟩⟩
          exact ⟨_, rfl, a, _, 1, _, rfl, rfl, SqT.of (nT np ea), atI_nat (j := 1) rfl, by show 1 ≤ sizeLine; decide, fun l nl => fin [_] np nl (.cons r1 .nil)⟩
    | row fs =>
      obtain ⟨a, us, rfl, ea, ru⟩ := go "row" _ rfl
      cases ru with
      | cons r1 r2 =>
        cases r1 with
        | tup eb rs =>
          refine ⟨_, rfl, a, _, 0, .str _, rfl, rfl, SqT.of ea, atI_nat (j := 0) rfl, ?_⟩
          refine ⟨_, rfl, by show 3 ≤ sizeLine; decide, fun p np => ⟨p, _, rfl, .inr (SqT.of upd_same), rfl, rfl, _, rfl, iteF' (by decide) ?_⟩⟩
          refine ⟨_, rfl, rfl, _, rfl, iteT' (by decide) ?_⟩
          exact ⟨_, rfl, a, _, 1, _, rfl, rfl, SqT.of (nT np ea), atI_nat (j := 1) rfl, _, _, rfl, .inr (SqT.of (nT np eb)), fun l nl => fin _ np nl rs⟩
    | again f =>
      obtain ⟨a, us, rfl, ea, ru⟩ := go "again" _ rfl
      cases ru with
      | cons r1 r2 =>
        cases r2 with
        | cons r3 r4 =>
          cases r3
          refine ⟨_, rfl, a, _, 0, .str _, rfl, rfl, SqT.of ea, atI_nat (j := 0) rfl, ?_⟩
          refine ⟨_, rfl, by show 3 ≤ sizeLine; decide, fun p np => ⟨p, _, rfl, .inr (SqT.of upd_same), rfl, rfl, _, rfl, iteF' (by decide) ?_⟩⟩
          refine ⟨_, rfl, rfl, _, rfl, iteF' (by decide) ?_⟩
          refine ⟨_, rfl, rfl, _, rfl, iteF' (by decide) ?_⟩
          refine ⟨_, rfl, rfl, _, rfl, iteT' (by decide) ?_⟩
          refine ⟨_, rfl, a, _, 2, .non, rfl, rfl, SqT.of (nT np ea), atI_nat (j := 2) rfl, rfl, _, rfl, iteT' (by decide) ?_⟩
          exact ⟨_, rfl, a, _, 1, _, rfl, rfl, SqT.of (nT np ea), atI_nat (j := 1) rfl, by show 1 ≤ sizeLine; decide, fun l nl => fin [_] np nl (.cons r1 .nil)⟩
    | between f g =>
      obtain ⟨a, us, rfl, ea, ru⟩ := go "again" _ rfl
      cases ru with
      | cons r1 r2 =>
        cases r2 with
        | cons r3 r4 =>
          cases r4
          obtain ⟨c, rfl⟩ := enc_ref r3
          refine ⟨_, rfl, a, _, 0, .str _, rfl, rfl, SqT.of ea, atI_nat (j := 0) rfl, ?_⟩
          refine ⟨_, rfl, by show 3 ≤ sizeLine; decide, fun p np => ⟨p, _, rfl, .inr (SqT.of upd_same), rfl, rfl, _, rfl, iteF' (by decide) ?_⟩⟩
          refine ⟨_, rfl, rfl, _, rfl, iteF' (by decide) ?_⟩
          refine ⟨_, rfl, rfl, _, rfl, iteF' (by decide) ?_⟩
          refine ⟨_, rfl, rfl, _, rfl, iteT' (by decide) ?_⟩
          refine ⟨_, rfl, a, _, 2, .ref c, rfl, rfl, SqT.of (nT np ea), atI_nat (j := 2) rfl, rfl, _, rfl, iteF' (decide_eq_false fun z => by cases z) ?_⟩
          exact ⟨_, rfl, a, _, 1, _, rfl, rfl, SqT.of (nT np ea), atI_nat (j := 1) rfl, _, rfl, a, _, 2, _, rfl, rfl, SqT.of (nT np ea), atI_nat (j := 2) rfl, by show 2 ≤ sizeLine; decide, fun l nl => fin [_, _] np nl (.cons r1 (.cons r3 .nil))⟩
    | counted z f =>
      obtain ⟨a, us, rfl, ea, ru⟩ := go "counted" _ rfl
      cases ru with
      | cons r1 r2 =>
        cases r2 with
        | cons r3 r4 =>
          refine ⟨_, rfl, a, _, 0, .str _, rfl, rfl, SqT.of ea, atI_nat (j := 0) rfl, ?_⟩
          refine ⟨_, rfl, by show 3 ≤ sizeLine; decide, fun p np => ⟨p, _, rfl, .inr (SqT.of upd_same), rfl, rfl, _, rfl, iteF' (by decide) ?_⟩⟩
          refine ⟨_, rfl, rfl, _, rfl, iteF' (by decide) ?_⟩
          refine ⟨_, rfl, rfl, _, rfl, iteF' (by decide) ?_⟩
          refine ⟨_, rfl, rfl, _, rfl, iteF' (by decide) ?_⟩
          refine ⟨_, rfl, rfl, _, rfl, iteT' (by decide) ?_⟩
          exact ⟨_, rfl, a, _, 2, _, rfl, rfl, SqT.of (nT np ea), atI_nat (j := 2) rfl, by show 1 ≤ sizeLine; decide, fun l nl => fin [_] np nl (.cons r3 .nil)⟩
    | either ns fs =>
      obtain ⟨a, us, rfl, ea, ru⟩ := go "either" _ rfl
      cases ru with
      | cons r1 r2 =>
        cases r1 with
        | @tup b ws _ eb rs =>
          refine ⟨_, rfl, a, _, 0, .str _, rfl, rfl, SqT.of ea, atI_nat (j := 0) rfl, ?_⟩
          refine ⟨_, rfl, by show 3 ≤ sizeLine; decide, fun p np => ⟨p, _, rfl, .inr (SqT.of upd_same), rfl, rfl, _, rfl, iteF' (by decide) ?_⟩⟩
          refine ⟨_, rfl, rfl, _, rfl, iteF' (by decide) ?_⟩
          refine ⟨_, rfl, rfl, _, rfl, iteT' (by decide) ?_⟩
          refine ⟨_, rfl, a, _, 1, .ref b, rfl, rfl, SqT.of (nT np ea), atI_nat (j := 1) rfl, b, rfl, ⟨_, SqT.of (nT np eb)⟩, fun D nD => ?_⟩
          have hl : ns.length = fs.length := hok.1
          have lw : ws.length = fs.length := by
            rw [rs.len, List.length_zipWith, encs_map, List.length_map]
            omega
          refine lc_tup (xs := ws) (fun i H4 => Kp M0 (upd H p (.tup [.str "skip", .str "spelt", .str "turned"])) H4 ∧ ∃ acc, H4 D = some (.lst acc) ∧ acc.length = i ∧ Rps H4 acc (Fo.encs (fs.take i))) ?_ ?_ ?_ ?_
          · exact ⟨Kp.new nD, [], upd_same, rfl, by rw [List.take_zero]; exact .nil⟩
          · exact fun i H4 _ h => SqT.of (h.1 _ _ (fun z => z) (nT np eb))
          · rintro i x H4 hx ⟨k4, acc, e4, la, ra⟩
            obtain ⟨d, hd, rd⟩ := rs.get i x hx
            have hi : i < fs.length := by
              rw [← lw]
              exact (List.getElem?_eq_some_iff.mp hx).1
            have hn : ns[i]? = some ns[i] := List.getElem?_eq_getElem (by omega)
            have hf : fs[i]? = some fs[i] := List.getElem?_eq_getElem hi
            rw [List.getElem?_zipWith, hn, encs_map, List.getElem?_map, hf] at hd
            cases hd
            cases rd with
            | @tup c vs2 _ ec rc =>
              cases rc with
              | cons c1 c2 =>
                cases c2 with
                | cons c3 c4 =>
                  cases c4
                  refine ⟨c, _, rfl, SqT.of (k4 _ _ (fun z => z) (nT np ec)), rfl, _, _, rfl, _, _, rfl, rfl, rfl, tYes_ok (iteT ⟨_, rfl, acc, e4, ?_, ?_⟩)⟩
                  · have := Fo.inner_size (.either ns fs)
                    have hsz2 : (Fo.either ns fs).size ≤ 100000 := hsz
                    have lf := sizes_len fs
                    simp only [Fo.inner] at this
                    rw [la, sizeLine_eq]
                    omega
                  · refine ⟨fun b u n e => ?_, _, upd_same, by rw [List.length_append, la]; rfl, ?_⟩
                    · rw [upd_ne (ne_of_none e nD)]
                      exact k4 b u n e
                    · rw [List.take_add_one, hf, encs_app]
                      refine Rps.app (ra.keep (M := fun b => b = D) (Kp.put rfl) (fun a xs m e => ?_)) (.cons ?_ .nil)
                      · rw [m, e4] at e
                        cases e
                      · refine ((new np c3).keep k4 (noT _)).keep (M := fun b => b = D) (Kp.put rfl) (fun a xs m e => ?_)
                        rw [m, e4] at e
                        cases e
          · rintro H4 ⟨k4, acc, e4, la, ra⟩
            rw [lw, List.take_length] at ra
            exact q acc D H4 (none_upd nD) e4 ra ((Kp.new np).trans k4)
end
end RT

namespace RT
open PySem PySem.Spec PyProof.Rows L2
abbrev sAll : Stmt := topS 4
theorem scAll : FnScope ["form", "found", "todo", "part"] ["form"] (defScope sAll) := ⟨rfl, rfl, rfl, by decide +kernel, rfl, by decide +kernel, by decide +kernel⟩
mutual
/-- x is named in it -/
def Fo.has (x : Str) : Fo → Prop
  | .leaf _ _ => False
  | .one _ f _ => f.has x
  | .row fs => Fo.hass x fs
  | .either _ fs => Fo.hass x fs
  | .again f => f.has x
  | .between f g => f.has x ∨ g.has x
  | .counted _ f => f.has x
  | .named y => y = x
def Fo.hass (x : Str) : List Fo → Prop
  | [] => False
  | f :: r => f.has x ∨ Fo.hass x r
end
theorem hass_app (x : Str) : ∀ fs gs : List Fo, Fo.hass x (fs ++ gs) ↔ Fo.hass x fs ∨ Fo.hass x gs
  | [], gs => ⟨.inr, fun h => h.elim (fun z => z.elim) id⟩
  | f :: r, gs => by
    show f.has x ∨ Fo.hass x (r ++ gs) ↔ (f.has x ∨ Fo.hass x r) ∨ Fo.hass x gs
    rw [hass_app x r gs, or_assoc]
theorem has_iff (x : Str) (f : Fo) : f.has x ↔ f = .named x ∨ Fo.hass x f.inner := by
  cases f <;> simp [Fo.has, Fo.hass, Fo.inner]
theorem hass_one (x : Str) (f : Fo) : Fo.hass x [f] ↔ f.has x := by simp [Fo.hass]
theorem Rps.last {H : Hp} {vs : List V} {fs : List Fo} (r : Rps H vs (Fo.encs fs)) (h : vs ≠ []) : ∃ (v : V) (f : Fo) (gs : List Fo), vs[vs.length - 1]? = some v ∧ fs = gs ++ [f] ∧ Rp H v f.enc ∧ Rps H vs.dropLast (Fo.encs gs) := by
  have l := r.len
  rw [encs_map, List.length_map] at l
  have hf : fs ≠ [] := fun z => by
    rw [z] at l
    exact h (List.eq_nil_of_length_eq_zero l)
  have e1 := List.dropLast_concat_getLast hf
  have e2 := List.dropLast_concat_getLast h
  have split : ∀ {as bs : List V} {cs ds : List D}, as.length = cs.length → Rps H (as ++ bs) (cs ++ ds) → Rps H as cs ∧ Rps H bs ds := fun {as} => by
    induction as with
    | nil =>
      intro bs cs ds e r
      cases cs with
      | nil => exact ⟨.nil, r⟩
      | cons c cs => cases e
    | cons a as ih =>
      intro bs cs ds e r
      cases cs with
      | nil => cases e
      | cons c cs =>
        cases r with
        | cons r1 r2 =>
          obtain ⟨h1, h2⟩ := ih (by simpa using e) r2
          exact ⟨.cons r1 h1, h2⟩
  rw [← e1, ← e2, encs_app] at r
  obtain ⟨r1, r2⟩ := split (by rw [encs_map, List.length_map, List.length_dropLast, List.length_dropLast, l]) r
  cases r2 with
  | cons r3 r4 => exact ⟨vs.getLast h, fs.getLast hf, fs.dropLast, by rw [← List.getLast?_eq_getElem?, List.getLast?_eq_some_getLast h], e1.symm, r3, r1⟩
section
variable {P : Program} {w : World} {K : PySem.W.Frag} {mg : Str → Option Value} {base : Heap}
def spAll (N : List Str) : Sp := fun vs H Q _ => ∃ (v : V) (f : Fo), vs = [v] ∧ Rp H v f.enc ∧ f.ok N ∧ f.size ≤ 100000 ∧
  ∀ (us : List V) (gs : List Fo) (l : Addr) (H' : Hp), H l = none → H' l = some (.lst us) → Rps H' us (Fo.encs gs) → gs.length ≤ 100000 → Fo.oks N gs → (∀ x, f.has x ↔ Fo.named x ∈ gs) → Kp M0 H H' → Q (.ref l) H'
theorem ok_all {N : List Str} {f fi : Addr} {fd fdi : FuncData} {k : Nat} (F : Fun K "all_forms" "all_forms" sAll f fd) (GI : FnOk P w K mg base CX0 k fi fdi ["form"] (spInner N)) (ki : PySem.W.keepIn K (.ref fi) = true) (bi : Binds K fdi ["form"] []) (gi : mg "inner_forms" = some (.ref fi)) :
    FnOk P w K mg base CX0 (k + 1) f fd ["form"] (spAll N) := by
  refine F.ok scAll (fun vs H Q E h => ?_) (fun cdv A outer s H vs Q E hr h => ?_)
  · obtain ⟨v, f, rfl, _⟩ := h
    rfl
  · obtain ⟨v, fo, rfl, hR, hok, hsz, q⟩ := h
    refine ⟨_, (pss_cons (ps_set (i := 1) scAll.nd rfl (.inl rfl) (pe_lst pa_nil))
      (pss_cons (ps_set (i := 2) scAll.nd rfl (.inl rfl) (pe_lst (pa_cons (pv 0) pa_nil)))
      (pss_cons (ps_while PassesOwn.never (pt_truth (pv 2) (by intro _; rfl)) (pss_cons (ps_set (i := 3) scAll.nd rfl (.inl rfl) (pe_bm0 PySem.F.plainAttrs_list PySem.F.slot_list_pop PySem.F.type_list_pop mt_pop (pv 2)))
      (pss_cons (ps_expr (pe_bm PySem.F.plainAttrs_list PySem.F.slot_list_append PySem.F.type_list_append mt_append (pv 1) (pa_cons (pv 3) pa_nil)))
      (pss_one (ps_expr (pe_bm PySem.F.plainAttrs_list PySem.F.slot_list_extend PySem.F.type_list_extend mt_extend (pv 2) (pa_cons (pe_call GI hr (by rfl) gi ki bi .nil pass0 (pa_cons (pv 3) pa_nil)) pa_nil)))))))
      (pss_one (ps_ret (pv 1)))))), ?_⟩
    have noT : ∀ (H : Hp) (a : Addr) xs, M0 a → H a ≠ some (.tup xs) := fun _ _ _ z => z.elim
    refine ⟨Nat.zero_le _, fun fo1 nf => ?_⟩
    refine ⟨_, rfl, by show 1 ≤ sizeLine; decide, fun td nt => ?_⟩
    have nft : fo1 ≠ td := fun z => by
      rw [← z, upd_same] at nt
      cases nt
    refine ⟨fun n σ H2 => ∃ (us vs : List V) (gs ts : List Fo) (y3 : Option V), σ = [some v, some (.ref fo1), some (.ref td), y3] ∧ n = Fo.sizes ts ∧ H2 fo1 = some (.lst us) ∧ H2 td = some (.lst vs) ∧ Rps H2 us (Fo.encs gs) ∧ Rps H2 vs (Fo.encs ts) ∧ gs.length + Fo.sizes ts ≤ 100000 ∧ Fo.oks N gs ∧ Fo.oks N ts ∧
      (∀ x, fo.has x ↔ Fo.named x ∈ gs ∨ Fo.hass x ts) ∧ Kp M0 H H2, ⟨_, [], [v], [], [fo], none, rfl, rfl, ?_, upd_same, .nil, .cons ((hR.keep (Kp.new (M := M0) nf) (noT _)).keep (Kp.new (M := M0) nt) (noT _)) .nil, ?_, True.intro, ⟨hok, True.intro⟩, fun x => ?_, (Kp.new nf).trans (Kp.new nt)⟩, ?_⟩
    · rw [upd_ne nft, upd_same]
    · simp only [Fo.sizes, List.length_nil]
      omega
    · rw [hass_one]
      simp
    rintro n σ H2 ⟨us, vs, gs, ts, y3, rfl, rfl, ef, et, rg, rt, hs2, og, ot, hh, k2⟩
    by_cases hv : vs = []
    · subst hv
      refine ⟨_, rfl, false, .inl ⟨[], SqL.of et, rfl⟩, iteF ?_⟩
      have z : ts = [] := by
        have l := rt.len
        rw [encs_map, List.length_map] at l
        exact List.eq_nil_of_length_eq_zero l.symm
      subst z
      have nf0 : H fo1 = none := nf
      exact ⟨_, rfl, q us gs fo1 H2 nf0 ef rg (by omega) og (fun x => (hh x).trans ⟨fun h => h.elim id fun z => z.elim, .inl⟩) k2⟩
    · refine ⟨_, rfl, true, .inl ⟨vs, SqL.of et, by cases vs with
        | nil => exact absurd rfl hv
        | cons => rfl⟩, iteT ?_⟩
      obtain ⟨u, g, ts', ev, rfl, ru, rts⟩ := rt.last hv
      have ots : Fo.oks N ts' ∧ g.ok N := by
        have split : ∀ as : List Fo, Fo.oks N (as ++ [g]) → Fo.oks N as ∧ g.ok N := fun as => by
          induction as with
          | nil => exact fun h => ⟨True.intro, h.1⟩
          | cons a r ih => exact fun h => ⟨⟨h.1, (ih h.2).1⟩, (ih h.2).2⟩
        exact split _ ot
      have esz : Fo.sizes (ts' ++ [g]) = Fo.sizes ts' + g.size := by rw [Fo.sizes_app]; simp only [Fo.sizes, Nat.add_zero]
      have gi1 := g.inner_size
      rw [esz] at hs2 ⊢
      refine ⟨fun σ' H' => ∃ (us vs : List V) (gs ts : List Fo) (y3 : Option V), σ' = [some v, some (.ref fo1), some (.ref td), y3] ∧ Fo.sizes ts < Fo.sizes ts' + g.size ∧ H' fo1 = some (.lst us) ∧ H' td = some (.lst vs) ∧ Rps H' us (Fo.encs gs) ∧ Rps H' vs (Fo.encs ts) ∧ gs.length + Fo.sizes ts ≤ 100000 ∧ Fo.oks N gs ∧ Fo.oks N ts ∧
        (∀ x, fo.has x ↔ Fo.named x ∈ gs ∨ Fo.hass x ts) ∧ Kp M0 H H', fun σ' H' ⟨us, vs, gs, ts, y, e1, e2, r⟩ => ⟨_, e2, us, vs, gs, ts, y, e1, rfl, r⟩, ?_⟩
      have sline : (100000 : Nat) < sizeLine := by decide
      have ug := rg.len
      rw [encs_map, List.length_map] at ug
      have vt := rts.len
      rw [encs_map, List.length_map] at vt
      have st' := sizes_len ts'
      refine ⟨_, rfl, .inl ⟨rfl, _, SqL.of et⟩, td, vs, u, rfl, rfl, et, ev, ?_⟩
      have tput : ∀ {H3 : Hp} {o : HO} {ys : List V}, H3 td = some (.lst ys) → ∀ {as : List V} {ds : List D}, Rps H3 as ds → Rps (upd H3 td o) as ds := fun e _ _ r => r.keep (M := fun b => b = td) (Kp.put rfl) fun a xs m e2 => by
        rw [m, e] at e2
        cases e2
      have fput : ∀ {H3 : Hp} {o : HO} {ys : List V}, H3 fo1 = some (.lst ys) → ∀ {as : List V} {ds : List D}, Rps H3 as ds → Rps (upd H3 fo1 o) as ds := fun e _ _ r => r.keep (M := fun b => b = fo1) (Kp.put rfl) fun a xs m e2 => by
        rw [m, e] at e2
        cases e2
      have tH : H td = none := none_upd nt
      have kput : ∀ {H3 : Hp} {p : Addr} {o : HO}, H p = none → Kp M0 H H3 → Kp M0 H (upd H3 p o) := fun n k b o nb e => by
        rw [upd_ne (ne_of_none e n)]
        exact k b o nb e
      have ef3 : upd H2 td (.lst vs.dropLast) fo1 = some (.lst us) := by rw [upd_ne nft]; exact ef
      have et3 : upd H2 td (.lst vs.dropLast) td = some (.lst vs.dropLast) := upd_same
      have rg3 := tput (o := .lst vs.dropLast) et rg
      have rts3 := tput (o := .lst vs.dropLast) et rts
      have ru3 := tput (o := .lst vs.dropLast) et (.cons ru .nil)
      have k3 := kput (o := .lst vs.dropLast) tH k2
      generalize upd H2 td (.lst vs.dropLast) = H3 at ef3 et3 rg3 rts3 ru3 k3 ⊢
      refine ⟨_, rfl, .inl ⟨rfl, _, SqL.of ef3⟩, _, rfl, fo1, us, u, rfl, rfl, ef3, by omega, ?_⟩
      have ef4 : upd H3 fo1 (.lst (us ++ [u])) fo1 = some (.lst (us ++ [u])) := upd_same
      have et4 : upd H3 fo1 (.lst (us ++ [u])) td = some (.lst vs.dropLast) := by rw [upd_ne nft.symm]; exact et3
      have rg4 := fput (o := .lst (us ++ [u])) ef3 (rg3.app ru3)
      have rts4 := fput (o := .lst (us ++ [u])) ef3 rts3
      have ru4 := fput (o := .lst (us ++ [u])) ef3 ru3
      have k4 := kput (o := .lst (us ++ [u])) nf k3
      generalize upd H3 fo1 (.lst (us ++ [u])) = H4 at ef4 et4 rg4 rts4 ru4 k4 ⊢
      cases ru4 with
      | cons ru4 _ =>
        refine ⟨_, rfl, .inl ⟨rfl, _, SqL.of et4⟩, _, rfl, u, g, rfl, ru4, ots.2, by omega, fun ws l H5 nl el rl k5 => ?_⟩
        have et5 := k5 _ _ (fun z => z) et4
        have wl := rl.len
        rw [encs_map, List.length_map] at wl
        have sl := sizes_len g.inner
        refine ⟨td, l, _, _, rfl, rfl, et5, el, by omega, ?_⟩
        have nfl : fo1 ≠ td := nft
        refine ⟨us ++ [u], vs.dropLast ++ ws, gs ++ [g], ts' ++ g.inner, _, rfl, ?_, ?_, upd_same, ?_, ?_, ?_, ?_, ?_, fun x => ?_, ?_⟩
        · rw [Fo.sizes_app]
          omega
        · rw [upd_ne nft]
          exact k5 _ _ (fun z => z) ef4
        · rw [encs_app]
          exact tput et5 (rg4.keep k5 (noT _))
        · rw [encs_app]
          exact tput et5 ((rts4.keep k5 (noT _)).app rl)
        · rw [List.length_append, Fo.sizes_app, List.length_singleton]
          omega
        · exact Fo.oks_app _ _ og ⟨ots.2, True.intro⟩
        · exact Fo.oks_app _ _ ots.1 (Fo.inner_ok g ots.2)
        · rw [hh x, hass_app, hass_app, hass_one, has_iff x g, List.mem_append, List.mem_singleton]
          constructor
          · rintro (a | a | a | a)
            · exact .inl (.inl a)
            · exact .inr (.inl a)
            · exact .inl (.inr a.symm)
            · exact .inr (.inr a)
          · rintro ((a | a) | a | a)
            · exact .inl a
            · exact .inr (.inr (.inl a.symm))
            · exact .inr (.inl a)
            · exact .inr (.inr (.inr a))
        · exact kput tH (k4.trans k5)
end
end RT

namespace RT
open PySem PySem.Spec PyProof.Rows L2
abbrev sNin : Stmt := topS 5
theorem scNin : FnScope ["form", "part"] ["form"] (defScope sNin) := ⟨rfl, rfl, rfl, by decide +kernel, rfl, by decide +kernel, by decide +kernel⟩
theorem oks_mem {N : List Str} : ∀ {gs : List Fo} {g : Fo}, Fo.oks N gs → g ∈ gs → g.ok N
  | _ :: _, g, h, m => by
    rcases List.mem_cons.mp m with e | e
    · rw [e]
      exact h.1
    · exact oks_mem h.2 e
/-- the word of a form -/
def Fo.word : Fo → Str
  | .leaf w _ => w
  | .one w _ _ => w
  | .row _ => "row"
  | .either _ _ => "either"
  | .again _ => "again"
  | .between _ _ => "again"
  | .counted _ _ => "counted"
  | .named _ => "named"
theorem enc_word (f : Fo) : ∃ ds, f.enc = .tup (.str f.word :: ds) := by
  cases f <;> exact ⟨_, rfl⟩
theorem word_named {N : List Str} {f : Fo} (h : f.ok N) (e : f.word = "named") : ∃ x, f = .named x := by
  cases f with
  | named x => exact ⟨x, rfl⟩
  | leaf w r =>
    have e : w = "named" := e
    have five : w ∈ ([("text" : Str), "sign", "word", "number", "pick"] : List Str) := h
    rw [e] at five
    exact absurd five (by decide)
  | one w f r =>
    have e : w = "named" := e
    have three : w ∈ ([("skip" : Str), "spelt", "turned"] : List Str) := h.1
    rw [e] at three
    exact absurd three (by decide)
  | row fs => exact absurd (show ("row" : Str) = "named" from e) (by decide)
  | either ns fs => exact absurd (show ("either" : Str) = "named" from e) (by decide)
  | again f => exact absurd (show ("again" : Str) = "named" from e) (by decide)
  | between f g => exact absurd (show ("again" : Str) = "named" from e) (by decide)
  | counted z f => exact absurd (show ("counted" : Str) = "named" from e) (by decide)
/-- the names among the first forms -/
def nms : List Fo → List Str
  | [] => []
  | .named x :: r => x :: nms r
  | _ :: r => nms r
theorem mem_nms (x : Str) : ∀ gs : List Fo, x ∈ nms gs ↔ Fo.named x ∈ gs
  | [] => by simp [nms]
  | g :: r => by
    have ih := mem_nms x r
    cases g <;> simp [nms, ih]
theorem nms_app : ∀ fs gs : List Fo, nms (fs ++ gs) = nms fs ++ nms gs
  | [], gs => rfl
  | f :: r, gs => by
    have ih := nms_app r gs
    cases f <;> simp [nms, ih]
theorem nms_len : ∀ gs : List Fo, (nms gs).length ≤ gs.length
  | [] => Nat.le_refl _
  | g :: r => by
    have ih := nms_len r
    cases g <;> simp only [nms, List.length_cons] <;> omega
section
variable {P : Program} {w : World} {K : PySem.W.Frag} {mg : Str → Option Value} {base : Heap}
def spNin (N : List Str) : Sp := fun vs H Q _ => ∃ (v : V) (f : Fo), vs = [v] ∧ Rp H v f.enc ∧ f.ok N ∧ f.size ≤ 100000 ∧
  ∀ (xs : List Str) (l : Addr) (H' : Hp), H l = none → H' l = some (.lst (xs.map V.str)) → xs.length ≤ 100000 → (∀ x, x ∈ xs ↔ f.has x) → (∀ x ∈ xs, x ∈ N) → Kp M0 H H' → Q (.ref l) H'
theorem ok_nin {N : List Str} {f fa : Addr} {fd fda : FuncData} {k : Nat} (F : Fun K "names_in" "names_in" sNin f fd) (GA : FnOk P w K mg base CX0 k fa fda ["form"] (spAll N)) (ka : PySem.W.keepIn K (.ref fa) = true) (ba : Binds K fda ["form"] []) (ga : mg "all_forms" = some (.ref fa)) :
    FnOk P w K mg base CX0 (k + 1) f fd ["form"] (spNin N) := by
  refine F.ok scNin (fun vs H Q E h => ?_) (fun cdv A outer s H vs Q E hr h => ?_)
  · obtain ⟨v, f, rfl, _⟩ := h
    rfl
  · obtain ⟨v, fo, rfl, hR, hok, hsz, q⟩ := h
    refine ⟨_, (pss_one (ps_ret (pe_lc (own := [("part", 1)]) (g := gName 1) rfl scNin.nd (pi_list (pe_call GA hr (by rfl) ga ka ba .nil pass0 (pa_cons (pv 0) pa_nil))) (blkOk_by (N := ["form", "part"]) (sc := defScope sNin) (by decide +kernel)) (fun _ _ _ _ _ => (pg_name (i := 1) scNin.nd rfl (.inl rfl))) (fun _ _ _ _ _ => (pts_one (pt_cmpR op_eq (pe_ix (show IxR _ (rIxT K) from ix_tup) (pv 1) pe_int (fun _ _ => rfl)) pe_str (nomark _)))) (fun _ _ _ _ _ => (pe_ix (show IxR _ (rIxT K) from ix_tup) (pv 1) pe_int (fun _ _ => rfl)))))), ?_⟩
    have noT : ∀ (H : Hp) (a : Addr) xs, M0 a → H a ≠ some (.tup xs) := fun _ _ _ z => z.elim
    refine ⟨_, rfl, v, fo, rfl, hR, hok, hsz, fun us gs l H1 nl el rl lg og hh k1 => ?_⟩
    have ug := rl.len
    rw [encs_map, List.length_map] at ug
    refine ⟨l, rfl, ⟨_, SqL.of el⟩, fun D nD => ?_⟩
    refine lc_list (xs := us) (fun i H4 => Kp M0 H1 H4 ∧ H4 D = some (.lst ((nms (gs.take i)).map V.str))) ?_ ?_ ?_ ?_
    · exact ⟨Kp.new nD, by rw [upd_same, List.take_zero]; rfl⟩
    · exact fun i H4 _ h => SqL.of (h.1 _ _ (fun z => z) el)
    · rintro i x H4 hx ⟨k4, e4⟩
      obtain ⟨d, hd, rd⟩ := rl.get i x hx
      have hi : i < gs.length := by
        rw [← ug]
        exact (List.getElem?_eq_some_iff.mp hx).1
      have hf : gs[i]? = some gs[i] := List.getElem?_eq_getElem hi
      rw [encs_map, List.getElem?_map, hf] at hd
      cases hd
      have gok := oks_mem og (List.getElem_mem hi)
      have tk : gs.take (i + 1) = gs.take i ++ [gs[i]] := by rw [List.take_add_one, hf]; rfl
      generalize gs[i] = g at rd gok tk
      have rd4 := rd.keep k4 (noT _)
      obtain ⟨ds, ew⟩ := enc_word g
      have rd5 := rd4
      rw [ew] at rd5
      cases rd5 with
      | @tup c vs2 _ ec rc =>
        cases rc with
        | cons c1 c2 =>
          cases c1
          have small : ((nms (gs.take i)).map V.str).length < sizeLine := by
            have := nms_len (gs.take i)
            rw [List.length_take] at this
            rw [List.length_map, sizeLine_eq]
            omega
          by_cases hw : g.word = "named"
          · obtain ⟨y, rfl⟩ := word_named gok hw
            cases ew
            cases c2 with
            | cons c3 c4 =>
              cases c3
              refine ⟨rfl, ?_⟩
              refine ⟨_, rfl, c, _, 0, .str _, rfl, rfl, SqT.of ec, atI_nat (j := 0) rfl, rfl, _, rfl, ?_⟩
              refine iteT' (decide_eq_true rfl) ?_
              refine ⟨_, rfl, c, _, 1, .str y, rfl, rfl, SqT.of ec, atI_nat (j := 1) rfl, _, e4, small, fun b u n e => ?_, ?_⟩
              · rw [upd_ne (ne_of_none e nD)]
                exact k4 b u n e
              · rw [upd_same, tk, nms_app, List.map_append]
                rfl
          · refine ⟨rfl, ?_⟩
            refine ⟨_, rfl, c, _, 0, .str _, rfl, rfl, SqT.of ec, atI_nat (j := 0) rfl, rfl, _, rfl, ?_⟩
            refine iteF' (decide_eq_false fun z => hw (V.str.inj z)) ⟨k4, ?_⟩
            have z : nms [g] = [] := by
              cases g <;> first | rfl | exact absurd rfl hw
            rw [tk, nms_app, z, List.append_nil]
            exact e4
    · rintro H4 ⟨k4, e4⟩
      rw [ug, List.take_length] at e4
      have nn := nms_len gs
      refine q (nms gs) D H4 ?_ e4 (by omega) (fun x => (mem_nms x gs).trans (hh x).symm) (fun x hx => oks_mem og ((mem_nms x gs).mp hx)) (k1.trans k4)
      cases z : H D with
      | none => rfl
      | some u =>
        have z2 := k1 D u (fun z => z) z
        rw [nD] at z2
        cases z2
end
end RT

namespace RT
open PySem PySem.Spec PyProof.Rows L2
abbrev sTab : Stmt := topS 3
theorem scTab : FnScope ["book", "name", "form"] ["book"] (defScope sTab) := ⟨rfl, rfl, rfl, by decide +kernel, rfl, by decide +kernel, by decide +kernel⟩
/-! ### books -/
/-- one row, a pair of a name and a form -/
def RowAt (H : Hp) (p : Addr) (x : Str × Fo) : Prop := ∃ u, H p = some (.tup [.str x.1, u]) ∧ Rp H u x.2.enc
def RowsAt (H : Hp) (ps : List Addr) (bs : List (Str × Fo)) : Prop := ps.length = bs.length ∧ ∀ (i : Nat) (p : Addr) (x : Str × Fo), ps[i]? = some p → bs[i]? = some x → RowAt H p x
theorem RowAt.keep {H H' : Hp} {M : Addr → Prop} (k : Kp M H H') (h : ∀ a xs, M a → H a ≠ some (.tup xs)) {p : Addr} {x : Str × Fo} (r : RowAt H p x) : RowAt H' p x := by
  obtain ⟨u, e, r⟩ := r
  exact ⟨u, k _ _ (fun m => h _ _ m e) e, r.keep k h⟩
theorem RowsAt.keep {H H' : Hp} {M : Addr → Prop} (k : Kp M H H') (h : ∀ a xs, M a → H a ≠ some (.tup xs)) {ps : List Addr} {bs : List (Str × Fo)} (r : RowsAt H ps bs) : RowsAt H' ps bs :=
  ⟨r.1, fun i p x e1 e2 => (r.2 i p x e1 e2).keep k h⟩
/-- a dict of the rows -/
def TabAt (H : Hp) (d : Addr) (bs : List (Str × Fo)) : Prop := ∃ us : List V, H d = some (.dK (List.zipWith (fun (x : Str × Fo) u => ((.inr x.1 : Key), u)) bs us)) ∧ us.length = bs.length ∧ ∀ (i : Nat) (u : V) (x : Str × Fo), us[i]? = some u → bs[i]? = some x → Rp H u x.2.enc
section
variable {P : Program} {w : World} {K : PySem.W.Frag} {mg : Str → Option Value} {base : Heap}
def spTab (K : PySem.W.Frag) : Sp := fun vs H Q _ => ∃ (b rows : Addr) (s0 : V) (ps : List Addr) (bs : List (Str × Fo)), vs = [.ref b] ∧ H b = some (.tup [s0, .ref rows]) ∧ Rd H rows (.tup (ps.map V.ref)) ∧ RowsAt H ps bs ∧ (bs.map (·.1)).Nodup ∧ bs.length ≤ 1000 ∧
  ∀ (d : Addr) (H' : Hp), H d = none → TabAt H' d bs → Kp M0 H H' → Q (.ref d) H'
theorem rd_keep {H H' : Hp} {a : Addr} {u : HO} (k : Kp M0 H H') (r : Rd H a u) : Rd H' a u := by
  rcases r with h | ⟨o, h⟩
  · exact .inl (k _ _ (fun z => z) h)
  · exact .inr ⟨o, k _ _ (fun z => z) h⟩
theorem putK_new {kvs : List (Key × V)} {k : Key} {v : V} (h : ∀ p ∈ kvs, p.1 ≠ k) : putK kvs k v = kvs ++ [(k, v)] := by
  unfold putK
  rw [if_neg]
  intro z
  obtain ⟨p, hp, e⟩ := List.any_eq_true.mp z
  exact h p hp (of_decide_eq_true e)
theorem ok_tab {f : Addr} {fd : FuncData} {k : Nat} (F : Fun K "form_table" "form_table" sTab f fd) : FnOk P w K mg base CX0 (k + 1) f fd ["book"] (spTab K) := by
  refine F.ok scTab (fun vs H Q E h => ?_) (fun cdv A outer s H vs Q E hr h => ?_)
  · obtain ⟨b, rows, s0, ps, bs, rfl, _⟩ := h
    rfl
  · obtain ⟨b, rows, s0, ps, bs, rfl, eb, er, hR, nd, few, q⟩ := h
    have noT : ∀ (H : Hp) (a : Addr) xs, M0 a → H a ≠ some (.tup xs) := fun _ _ _ z => z.elim
    refine ⟨_, (pss_one (ps_ret (pe_dc (own := [("name", 1), ("form", 2)]) (g := gTup K 2 (gCons (gName 1) (gCons (gName 2) gNil))) (tt := tYes) rfl scTab.nd (pi_tup (pe_ix ix_tup (pv 0) pe_int (fun _ _ => rfl))) (blkOk_by (N := ["book", "name", "form"]) (sc := defScope sTab) (by decide +kernel))
      (fun _ _ _ _ _ => (pg_tup rfl (pgs_cons (pg_name (i := 1) scTab.nd rfl (.inl rfl)) (pgs_cons (pg_name (i := 2) scTab.nd rfl (.inl rfl)) pgs_nil)))) (fun _ _ _ _ _ => pts_nil) (fun _ _ _ _ _ => (pv 1)) (fun _ _ _ _ _ => (pv 2))))), ?_⟩
    refine ⟨_, rfl, b, _, 1, .ref rows, rfl, rfl, SqT.of eb, atI_nat (j := 1) rfl, rows, rfl, ⟨_, .inl er⟩, fun D nD => ?_⟩
    refine dc_tup (xs := ps.map V.ref) (fun i H4 => Kp M0 H H4 ∧ ∃ us : List V, H4 D = some (.dK (List.zipWith (fun (x : Str × Fo) u => ((.inr x.1 : Key), u)) (bs.take i) us)) ∧ us.length = i ∧ i ≤ bs.length ∧ ∀ (j : Nat) (u : V) (x : Str × Fo), us[j]? = some u → bs[j]? = some x → Rp H u x.2.enc) ?_ ?_ ?_ ?_
    · exact ⟨Kp.new nD, [], by rw [upd_same, List.take_zero]; rfl, rfl, Nat.zero_le _, fun j u x e => by simp at e⟩
    · exact fun i H4 _ h => .inl (rd_keep h.1 er)
    · rintro i x H4 hx ⟨k4, us, e4, lu, li, hu⟩
      rw [List.getElem?_map] at hx
      obtain ⟨p, hp, rfl⟩ := Option.map_eq_some_iff.mp hx
      have hi : i < bs.length := by
        rw [← hR.1]
        exact (List.getElem?_eq_some_iff.mp hp).1
      have hb : bs[i]? = some bs[i] := List.getElem?_eq_getElem hi
      obtain ⟨u, ep, ru⟩ := hR.2 i p _ hp hb
      have tk : bs.take (i + 1) = bs.take i ++ [bs[i]] := by rw [List.take_add_one, hb]; rfl
      refine ⟨p, _, rfl, SqT.of (k4 _ _ (fun z => z) ep), rfl, _, _, rfl, _, _, rfl, rfl, rfl, tYes_ok (iteT ⟨_, rfl, _, rfl, _, .inr bs[i].1, rfl, e4, ?_, fun b u n e => ?_, us ++ [u], ?_, ?_, hi, ?_⟩)⟩
      · rw [List.length_zipWith, List.length_take, lu, sizeLine_eq]
        omega
      · rw [upd_ne (ne_of_none e nD)]
        exact k4 b u n e
      · rw [upd_same, putK_new, tk, List.zipWith_append (by rw [List.length_take, lu]; omega)]
        · rfl
        · intro y hy e
          obtain ⟨j, hj⟩ := List.mem_iff_getElem?.mp hy
          rw [List.getElem?_zipWith] at hj
          have jl : j < i := by
            have z := (List.getElem?_eq_some_iff.mp (show (List.zipWith (fun (x : Str × Fo) u => ((.inr x.1 : Key), u)) (bs.take i) us)[j]? = some y by rw [List.getElem?_zipWith]; exact hj)).1
            rw [List.length_zipWith, lu] at z
            omega
          rw [List.getElem?_take_of_lt jl, List.getElem?_eq_getElem (show j < bs.length by omega), List.getElem?_eq_getElem (show j < us.length by omega)] at hj
          cases hj
          have ne := List.pairwise_iff_getElem.mp (List.nodup_iff_pairwise_ne.mp nd) j i (by rw [List.length_map]; omega) (by rw [List.length_map]; exact hi) jl
          rw [List.getElem_map, List.getElem_map] at ne
          exact ne (Sum.inr.inj e)
      · rw [List.length_append, lu]
        rfl
      · intro j v x e1 e2
        by_cases c : j < us.length
        · rw [List.getElem?_append_left c] at e1
          exact hu j v x e1 e2
        · rw [List.getElem?_append_right (by omega)] at e1
          have z : j - us.length = 0 := by
            have q := (List.getElem?_eq_some_iff.mp e1).1
            rw [List.length_singleton] at q
            omega
          rw [z] at e1
          cases e1
          have ej : j = i := by omega
          rw [ej, hb] at e2
          cases e2
          exact ru
    · rintro H4 ⟨k4, us, e4, lu, li, hu⟩
      rw [List.length_map, hR.1, List.take_length] at e4
      exact q D H4 nD ⟨us, e4, by rw [lu, List.length_map, hR.1], fun j u x e1 e2 => (hu j u x e1 e2).keep k4 (noT _)⟩ k4
end
end RT

/-! what is reached; what a table gives -/
namespace RT
open PySem PySem.Spec PyProof.Rows L2
inductive Reach (bs : List (Str × Fo)) (s : Str) : Str → Prop
  | start : Reach bs s s
  | step {y x : Str} {f : Fo} : Reach bs s y → (y, f) ∈ bs → f.has x → Reach bs s x
theorem reach_in {bs : List (Str × Fo)} {s : Str} {ms : List Str} (h0 : s ∈ ms) (hc : ∀ m ∈ ms, ∀ f, (m, f) ∈ bs → ∀ x, f.has x → x ∈ ms) : ∀ {x : Str}, Reach bs s x → x ∈ ms := by
  intro x r
  induction r with
  | start => exact h0
  | step _ hb hx ih => exact hc _ ih _ hb _ hx
theorem zip_get : ∀ {bs : List (Str × Fo)} {us : List V} {y : Str}, us.length = bs.length → y ∈ bs.map (·.1) → ∃ (i : Nat) (u : V) (f : Fo), valV (List.zipWith (fun (x : Str × Fo) u => ((.inr x.1 : Key), u)) bs us) (.inr y) = some u ∧ us[i]? = some u ∧ bs[i]? = some (y, f)
  | [], _, _, _, h => by simp at h
  | (x, f) :: r, [], _, l, _ => by cases l
  | (x, f) :: r, u :: us, y, l, h => by
    by_cases e : x = y
    · subst e
      exact ⟨0, u, f, valV_pos rfl, rfl, rfl⟩
    · have h2 : y ∈ r.map (·.1) := by
        rcases List.mem_cons.mp h with z | z
        · exact absurd z.symm e
        · exact z
      obtain ⟨i, v, g, a1, a2, a3⟩ := zip_get (bs := r) (us := us) (by simpa using l) h2
      exact ⟨i + 1, v, g, by
        show valV (((.inr x : Key), u) :: List.zipWith (fun (x : Str × Fo) u => ((.inr x.1 : Key), u)) r us) (.inr y) = some v
        rw [valV_neg (fun z => e (Sum.inr.inj z))]
        exact a1, by simpa using a2, by simpa using a3⟩
theorem tab_get {H : Hp} {d : Addr} {bs : List (Str × Fo)} {y : Str} (t : TabAt H d bs) (h : y ∈ bs.map (·.1)) : ∃ (u : V) (f : Fo), DGet H d (.str y) (some u) ∧ (y, f) ∈ bs ∧ Rp H u f.enc := by
  obtain ⟨us, e, l, hr⟩ := t
  obtain ⟨i, u, f, a1, a2, a3⟩ := zip_get l h
  refine ⟨u, f, ?_, List.mem_of_getElem? a3, hr i u _ a2 a3⟩
  rw [← a1]
  exact DGet.k (k := .inr y) e
/-- a dict of names, each with True -/
def metK (ms : List Str) : List (Key × V) := ms.map fun x => ((.inr x : Key), .bl true)
theorem metK_get (ms : List Str) (x : Str) : (valV (metK ms) (.inr x)).isSome = decide (x ∈ ms) := by
  induction ms with
  | nil => simp [metK, valV_nil]
  | cons m r ih =>
    by_cases e : m = x
    · subst e
      show (valV (((.inr m : Key), V.bl true) :: metK r) (.inr m)).isSome = _
      rw [valV_pos rfl]
      simp
    · show (valV (((.inr m : Key), V.bl true) :: metK r) (.inr x)).isSome = _
      rw [valV_neg (fun z => e (Sum.inr.inj z)), ih]
      have e2 : x ≠ m := fun z => e z.symm
      simp [e2]
theorem metK_put {ms : List Str} {x : Str} (h : x ∉ ms) : putK (metK ms) (.inr x) (.bl true) = metK (ms ++ [x]) := by
  rw [putK_new]
  · unfold metK
    rw [List.map_append]
    rfl
  · intro p hp e
    obtain ⟨m, hm, rfl⟩ := List.mem_map.mp hp
    exact h (Sum.inr.inj e ▸ hm)
/-- unlike names, all of the book's: no more than the book has -/
theorem met_few {ms ns : List Str} (nd : ms.Nodup) (h : ∀ x ∈ ms, x ∈ ns) : ms.length ≤ ns.length := by
  induction ms generalizing ns with
  | nil => exact Nat.zero_le _
  | cons m r ih =>
    have nd2 := List.nodup_cons.mp nd
    have hm := h m (List.mem_cons_self ..)
    have z := ih (ns := ns.erase m) nd2.2 fun x hx => (List.mem_erase_of_ne fun e => nd2.1 (by rw [← e]; exact hx)).mpr (h x (List.mem_cons_of_mem _ hx))
    rw [List.length_erase_of_mem hm] at z
    have := List.length_pos_of_mem hm
    rw [List.length_cons]
    omega
end RT

namespace RT
open PySem PySem.Spec PyProof.Rows L2
abbrev sMet : Stmt := topS 7
theorem scMet : FnScope ["book", "table", "met", "todo", "name"] ["book"] (defScope sMet) := ⟨rfl, rfl, rfl, by decide +kernel, rfl, by decide +kernel, by decide +kernel⟩
def BookAt (H : Hp) (v : V) (s : Str) (bs : List (Str × Fo)) : Prop := ∃ (b rows : Addr) (ps : List Addr), v = .ref b ∧ H b = some (.tup [.str s, .ref rows]) ∧ Rd H rows (.tup (ps.map V.ref)) ∧ RowsAt H ps bs
structure BookOk (bs : List (Str × Fo)) (s : Str) : Prop where
  nd : (bs.map (·.1)).Nodup
  few : bs.length ≤ 60
  st : s ∈ bs.map (·.1)
  len : ∀ x ∈ bs.map (·.1), x.length ≤ 1000
  ok : ∀ x f, (x, f) ∈ bs → f.ok (bs.map (·.1)) ∧ f.size ≤ 100000
theorem row_one {bs : List (Str × Fo)} {y : Str} {f g : Fo} (nd : (bs.map (·.1)).Nodup) (h1 : (y, f) ∈ bs) (h2 : (y, g) ∈ bs) : f = g := by
  induction bs with
  | nil => cases h1
  | cons b r ih =>
    rw [List.map_cons] at nd
    have nd2 := List.nodup_cons.mp nd
    rcases List.mem_cons.mp h1 with e1 | e1 <;> rcases List.mem_cons.mp h2 with e2 | e2
    · rw [← e1] at e2
      cases e2
      rfl
    · exact absurd (List.mem_map.mpr ⟨_, e2, by rw [← e1]⟩) nd2.1
    · exact absurd (List.mem_map.mpr ⟨_, e1, by rw [← e2]⟩) nd2.1
    · exact ih nd2.2 e1 e2
section
variable {P : Program} {w : World} {K : PySem.W.Frag} {mg : Str → Option Value} {base : Heap}
def spMet (K : PySem.W.Frag) (N : List Str) : Sp := fun vs H Q _ => ∃ (v : V) (s : Str) (bs : List (Str × Fo)), vs = [v] ∧ BookAt H v s bs ∧ BookOk bs s ∧ N = bs.map (·.1) ∧
  ∀ (ys : List Str) (l : Addr) (H' : Hp), sortedS ys = true → ys.Nodup → (∀ x, x ∈ ys ↔ Reach bs s x) → H' l = some (.tup (ys.map V.str)) → Kp M0 H H' → Q (.ref l) H'
theorem ok_met {N : List Str} {f ft fi : Addr} {fd fdt fdi : FuncData} {k : Nat} (F : Fun K "names_met" "names_met" sMet f fd)
    (GT : FnOk P w K mg base CX0 k ft fdt ["book"] (spTab K)) (kt : PySem.W.keepIn K (.ref ft) = true) (bt : Binds K fdt ["book"] []) (gt : mg "form_table" = some (.ref ft))
    (GI : FnOk P w K mg base CX0 k fi fdi ["form"] (spNin N)) (ki : PySem.W.keepIn K (.ref fi) = true) (bi : Binds K fdi ["form"] []) (gi : mg "names_in" = some (.ref fi)) (mso : mg "sorted" = none) (mtu : mg "tuple" = none) :
    FnOk P w K mg base CX0 (k + 1) f fd ["book"] (spMet K N) := by
  refine F.ok scMet (fun vs H Q E h => ?_) (fun cdv A outer s H vs Q E hr h => ?_)
  · obtain ⟨v, s, bs, rfl, _⟩ := h
    rfl
  · obtain ⟨v, s0, bs, rfl, ⟨b, rows, ps, rfl, eb, er, hR⟩, hB, rfl, q⟩ := h
    have noT : ∀ (H : Hp) (a : Addr) xs, M0 a → H a ≠ some (.tup xs) := fun _ _ _ z => z.elim
    have hr0 := hr
    refine ⟨_, (pss_cons (ps_set (i := 1) scMet.nd rfl (.inl rfl) (pe_call GT hr0 (by rfl) gt kt bt .nil pass0 (pa_cons (pv 0) pa_nil)))
      (pss_cons (ps_set (i := 2) scMet.nd rfl (.inl rfl) (pe_disp (pps_cons (pe_ix ix_tup (pv 0) pe_int (fun _ _ => rfl)) pe_bl pps_nil) (by rfl) (by rfl) (fun z => by cases z) (by decide)))
      (pss_cons (ps_set (i := 3) scMet.nd rfl (.inl rfl) (pe_lst (pa_cons (pe_ix ix_tup (pv 0) pe_int (fun _ _ => rfl)) pa_nil)))
      (pss_cons (ps_while PassesOwn.never (pt_truth (pv 3) (by intro _; rfl)) (pss_one (ps_for PassesOwn.never rfl (pi_list (pe_call GI hr (by rfl) gi ki bi .nil pass0 (pa_cons (pe_dget (hu_of hr) (pv 1) (pe_bm0 PySem.F.plainAttrs_list PySem.F.slot_list_pop PySem.F.type_list_pop mt_pop (pv 3)) (fun _ _ => rfl)) pa_nil))) (pg_name (i := 4) scMet.nd rfl (.inl rfl)) (pss_one (ps_if (pt_cmp (pc_dnotin (hu_of hr) (pv 4) (pv 2))) (pss_cons (ps_dput (hu_of hr) (pv 2) (pv 4) pe_bl rfl)
      (pss_one (ps_expr (pe_bm PySem.F.plainAttrs_list PySem.F.slot_list_append PySem.F.type_list_append mt_append (pv 3) (pa_cons (pv 4) pa_nil))))) pss_nil)))))
      (pss_one (ps_ret (pe_callTy call_tuple_of (by rfl) mtu (by decide +kernel) (pa_cons (pe_callB (call_sortedD (by rfl)) (by rfl) mso (by decide +kernel) (pa_cons (pv 2) pa_nil)) pa_nil)))))))), ?_⟩
    refine ⟨_, rfl, b, rows, _, ps, bs, rfl, eb, er, hR, hB.nd, Nat.le_trans hB.few (by decide), fun d H1 nd tab k1 => ?_⟩
    have eb1 := k1 _ _ (fun z => z) eb
    refine fun p np => ⟨_, rfl, b, _, 0, .str s0, rfl, rfl, SqT.of (by rw [upd_ne (ne_of_none eb1 np)]; exact eb1), atI_nat (j := 0) rfl, upd_same, [(.inr s0, .bl true)], rfl, by show 1 ≤ 15; decide, ?_⟩
    have em : (upd (upd H1 p (.dK [])) p (.dK (mergeK [] [((.inr s0 : Key), V.bl true)]))) p = some (.dK (metK [s0])) := by
      rw [upd_same]
      rfl
    have k2 : Kp M0 H1 (upd (upd H1 p (.dK [])) p (.dK (mergeK [] [((.inr s0 : Key), V.bl true)]))) := fun c u n e => by
      rw [upd_ne (ne_of_none e np), upd_ne (ne_of_none e np)]
      exact e
    generalize upd (upd H1 p (.dK [])) p (.dK (mergeK [] [((.inr s0 : Key), V.bl true)])) = H2 at em k2 ⊢
    refine ⟨_, rfl, b, _, 0, .str s0, rfl, rfl, SqT.of (k2 _ _ (fun z => z) eb1), atI_nat (j := 0) rfl, by show 1 ≤ sizeLine; decide, fun t nt => ?_⟩
    have npt : p ≠ t := ne_of_none em nt
    have tH1 : H1 t = none := by
      cases z : H1 t with
      | none => rfl
      | some u =>
        have z2 := k2 t u (fun z => z) z
        rw [nt] at z2
        cases z2
    let Inv := fun (ms tds : List Str) (H4 : Hp) => H4 p = some (.dK (metK ms)) ∧ H4 t = some (.lst (tds.map V.str)) ∧ ms.Nodup ∧ (∀ x ∈ ms, x ∈ bs.map (·.1)) ∧ s0 ∈ ms ∧ (∀ x ∈ ms, Reach bs s0 x) ∧ (∀ x ∈ tds, x ∈ ms) ∧ Kp M0 H1 H4 ∧ 2 * (bs.length - ms.length) + tds.length ≤ 121
    refine ⟨fun n σ H4 => ∃ (ms tds : List Str) (y4 : Option V), σ = [some (.ref b), some (.ref d), some (.ref p), some (.ref t), y4] ∧ n = 2 * (bs.length - ms.length) + tds.length ∧ Inv ms tds H4 ∧ (∀ m ∈ ms, m ∈ tds ∨ ∀ f, (m, f) ∈ bs → ∀ x, f.has x → x ∈ ms),
      ⟨_, [s0], [s0], none, rfl, rfl, ⟨by rw [upd_ne npt]; exact em, upd_same, by simp, fun x h => (List.mem_singleton.mp h) ▸ hB.st, List.mem_singleton.mpr rfl, fun x h => (List.mem_singleton.mp h) ▸ .start, fun x h => h, k2.trans (Kp.new nt), by have := hB.few; simp only [List.length_cons, List.length_nil]; omega⟩, fun m h => .inl h⟩, ?_⟩
    rintro n σ H4 ⟨ms, tds, y4, rfl, rfl, ⟨e1, e2, i1, i2, i3, i4, i5, k4, i6⟩, cl⟩
    have mf := met_few i1 i2
    rw [List.length_map] at mf
    have bf := hB.few
    by_cases ht : tds = []
    · subst ht
      refine ⟨_, rfl, false, .inl ⟨[], SqL.of e2, rfl⟩, iteF ?_⟩
      refine ⟨_, rfl, p, metK ms, ms, rfl, .inl e1, by unfold metK; rw [List.map_map]; rfl, by omega, fun ys l pl st nl => ⟨l, ys.map V.str, rfl, .inl ⟨SqL.of upd_same, fun l2 nl2 => ?_⟩⟩⟩
      refine q ys l2 _ st (pl.nodup_iff.mpr i1) (fun x => ?_) upd_same (k1.trans (k4.trans ((Kp.new nl).trans (Kp.new nl2))))
      rw [pl.mem_iff]
      exact ⟨i4 x, fun r => reach_in i3 (fun m hm => (cl m hm).elim (fun z => nomatch z) id) r⟩
    · have hl := List.dropLast_concat_getLast ht
      generalize tds.dropLast = td2 at hl
      generalize tds.getLast ht = y at hl
      subst hl
      have hy : y ∈ ms := i5 y (List.mem_append_right _ (List.mem_singleton.mpr rfl))
      refine ⟨_, rfl, true, .inl ⟨_, SqL.of e2, by rw [List.map_append]; cases td2 <;> rfl⟩, iteT ?_⟩
      refine ⟨fun σ' H' => ∃ (ms2 tds2 : List Str) (y4 : Option V), σ' = [some (.ref b), some (.ref d), some (.ref p), some (.ref t), y4] ∧ 2 * (bs.length - ms2.length) + tds2.length < 2 * (bs.length - ms.length) + (td2 ++ [y]).length ∧ Inv ms2 tds2 H' ∧ (∀ m ∈ ms2, m ∈ tds2 ∨ ∀ f, (m, f) ∈ bs → ∀ x, f.has x → x ∈ ms2),
        fun σ' H' ⟨ms2, tds2, y5, a1, a2, a3⟩ => ⟨_, a2, ms2, tds2, y5, a1, rfl, a3⟩, ?_⟩
      have lst : ((td2 ++ [y]).map V.str)[((td2 ++ [y]).map V.str).length - 1]? = some (.str y) := by
        rw [List.map_append, List.length_append, List.getElem?_append_right (by simp)]
        simp
      have dl : ((td2 ++ [y]).map V.str).dropLast = td2.map V.str := by
        rw [List.map_append]
        exact List.dropLast_concat
      -- the table, behind the pop
      have tabK : ∀ {H5 : Hp}, Kp M0 H1 H5 → TabAt H5 d bs := fun k => by
        obtain ⟨us, a1, a2, a3⟩ := tab
        exact ⟨us, k _ _ (fun z => z) a1, a2, fun i u x c1 c2 => (a3 i u x c1 c2).keep k (noT _)⟩
      have k5 : Kp M0 H1 (upd H4 t (.lst ((td2 ++ [y]).map V.str).dropLast)) := fun c u n e => by
        rw [upd_ne (ne_of_none e tH1)]
        exact k4 c u n e
      obtain ⟨u, f, hg, hbf, ru⟩ := tab_get (tabK k5) (i2 y hy)
      refine ⟨_, rfl, _, rfl, .inl ⟨rfl, _, SqL.of e2⟩, t, _, .str y, rfl, rfl, e2, lst, d, u, rfl, hg, u, f, rfl, ru, (hB.ok y f hbf).1, (hB.ok y f hbf).2, fun xs l H6 nl el lx hx hN k6 => ?_⟩
      have ntp : t ≠ p := npt.symm
      have et5 : upd H4 t (.lst ((td2 ++ [y]).map V.str).dropLast) t = some (.lst (td2.map V.str)) := by rw [upd_same, dl]
      have ep5 : upd H4 t (.lst ((td2 ++ [y]).map V.str).dropLast) p = some (.dK (metK ms)) := by rw [upd_ne npt]; exact e1
      have lt5 : t ≠ l := fun z => by
        rw [← z, et5] at nl
        cases nl
      have lp5 : p ≠ l := fun z => by
        rw [← z, ep5] at nl
        cases nl
      have pH1 : H1 p = none := np
      have k16 : Kp M0 H1 H6 := k5.trans k6
      have lt2 : (td2 ++ [y]).length = td2.length + 1 := by rw [List.length_append]; rfl
      refine ⟨l, rfl, ⟨_, SqL.of el⟩, for_list (xs := xs.map V.str) (fun i σ H7 => ∃ (ms2 tds2 : List Str) (y4 : Option V), σ = [some (.ref b), some (.ref d), some (.ref p), some (.ref t), y4] ∧ Inv ms2 tds2 H7 ∧ H7 l = some (.lst (xs.map V.str)) ∧
        2 * (bs.length - ms2.length) + tds2.length ≤ 2 * (bs.length - ms.length) + td2.length ∧ (∀ m ∈ ms2, m = y ∨ m ∈ tds2 ∨ ∀ f, (m, f) ∈ bs → ∀ x, f.has x → x ∈ ms2) ∧ (∀ j x, j < i → xs[j]? = some x → x ∈ ms2) ∧ y ∈ ms2) ?_ ?_ ?_ ?_⟩
      · refine ⟨ms, td2, y4, rfl, ⟨k6 _ _ (fun z => z) ep5, k6 _ _ (fun z => z) et5, i1, i2, i3, i4, fun x h => i5 x (List.mem_append_left _ h), k16, by rw [lt2] at i6; omega⟩, el, Nat.le_refl _, fun m hm => ?_, fun j x h => absurd h (Nat.not_lt_zero _), hy⟩
        rcases cl m hm with h | h
        · rcases List.mem_append.mp h with h | h
          · exact .inr (.inl h)
          · exact .inl (List.mem_singleton.mp h)
        · exact .inr (.inr h)
      · rintro i σ H7 _ ⟨ms2, tds2, y5, rfl, _, a, _⟩
        exact SqL.of a
      · rintro i v σ H7 hv ⟨ms2, tds2, y5, rfl, ⟨a1, a2, b1, b2, b3, b4, b5, a3, b6⟩, a4, a5, a6, a7, a8⟩
        rw [List.getElem?_map] at hv
        obtain ⟨x, hxi, rfl⟩ := Option.map_eq_some_iff.mp hv
        have xin : x ∈ xs := List.mem_of_getElem? hxi
        have mf2 := met_few b1 b2
        rw [List.length_map] at mf2
        refine ⟨_, rfl, _, rfl, p, _, rfl, DGet.k (k := .inr x) a1, ?_⟩
        by_cases hm : x ∈ ms2
        · refine ⟨_, rfl, iteF' (b := !(valV (metK ms2) (.inr x)).isSome) (by rw [metK_get, decide_eq_true hm]; rfl) ?_⟩
          refine ⟨ms2, tds2, _, rfl, ⟨a1, a2, b1, b2, b3, b4, b5, a3, b6⟩, a4, a5, a6, fun j z h e => ?_, a8⟩
          rcases Nat.lt_succ_iff_lt_or_eq.mp h with h | h
          · exact a7 j z h e
          · rw [h, hxi] at e
            cases e
            exact hm
        · refine ⟨_, rfl, iteT' (b := !(valV (metK ms2) (.inr x)).isSome) (by rw [metK_get, decide_eq_false hm]; rfl) ?_⟩
          refine ⟨_, rfl, _, rfl, p, _, rfl, DPut.k (k := .inr x) a1 (by unfold metK; rw [List.length_map, sizeLine_eq]; omega), ?_⟩
          rw [metK_put hm]
          have e2' : upd H7 p (.dK (metK (ms2 ++ [x]))) t = some (.lst (tds2.map V.str)) := by rw [upd_ne ntp]; exact a2
          have nd3 : (ms2 ++ [x]).Nodup := by
            rw [List.nodup_append]
            exact ⟨b1, by simp, fun a ha c hc e => hm ((List.mem_singleton.mp hc) ▸ e ▸ ha)⟩
          have in3 : ∀ z ∈ ms2 ++ [x], z ∈ bs.map (·.1) := fun z hz => by
            rcases List.mem_append.mp hz with h | h
            · exact b2 z h
            · rw [List.mem_singleton.mp h]
              exact hN x xin
          have mf3 := met_few nd3 in3
          rw [List.length_map, List.length_append, List.length_singleton] at mf3
          have ty : Reach bs s0 x := .step (b4 y a8) hbf ((hx x).mp xin)
          refine ⟨_, rfl, .inl ⟨rfl, _, SqL.of e2'⟩, _, rfl, t, _, _, rfl, rfl, e2', ?_, ?_⟩
          · rw [List.length_map, sizeLine_eq]
            omega
          · refine ⟨ms2 ++ [x], tds2 ++ [x], _, rfl, ⟨?_, ?_, nd3, in3, List.mem_append_left _ b3, fun z hz => ?_, fun z hz => ?_, fun c u n e => ?_, ?_⟩, ?_, ?_, fun m hm2 => ?_, fun j z h e => ?_, List.mem_append_left _ a8⟩
            · rw [upd_ne npt, upd_same]
            · rw [upd_same, List.map_append]
              rfl
            · rcases List.mem_append.mp hz with h | h
              · exact b4 z h
              · rw [List.mem_singleton.mp h]
                exact ty
            · rcases List.mem_append.mp hz with h | h
              · exact List.mem_append_left _ (b5 z h)
              · exact List.mem_append_right _ h
            · rw [upd_ne (ne_of_none e tH1), upd_ne (ne_of_none e pH1)]
              exact a3 c u n e
            · rw [List.length_append, List.length_append, List.length_singleton]
              omega
            · rw [upd_ne lt5.symm, upd_ne lp5.symm]
              exact a4
            · rw [List.length_append, List.length_append, List.length_singleton]
              omega
            · rcases List.mem_append.mp hm2 with h | h
              · rcases a6 m h with h | h | h
                · exact .inl h
                · exact .inr (.inl (List.mem_append_left _ h))
                · exact .inr (.inr fun g hg z hz => List.mem_append_left _ (h g hg z hz))
              · exact .inr (.inl (List.mem_append_right _ h))
            · rcases Nat.lt_succ_iff_lt_or_eq.mp h with h | h
              · exact List.mem_append_left _ (a7 j z h e)
              · rw [h, hxi] at e
                cases e
                exact List.mem_append_right _ (List.mem_singleton.mpr rfl)
      · rintro σ H7 ⟨ms2, tds2, y5, rfl, iv, a4, a5, a6, a7, a8⟩
        refine ⟨ms2, tds2, y5, rfl, by omega, iv, fun m hm2 => ?_⟩
        rcases a6 m hm2 with h | h | h
        · refine .inr fun g hg z hz => ?_
          rw [h] at hg
          rw [row_one hB.nd hg hbf] at hz
          obtain ⟨j, hj⟩ := List.mem_iff_getElem?.mp ((hx z).mpr hz)
          refine a7 j z ?_ hj
          rw [List.length_map]
          exact (List.getElem?_eq_some_iff.mp hj).1
        · exact .inl h
        · exact .inr h
end
end RT

namespace RT
open PySem PySem.Spec PyProof.Rows L2
abbrev sLin : Stmt := topS 25
theorem scLin : FnScope ["_law_form_here", "_law_pair"] ["_law_form_here"] (defScope sLin) := ⟨rfl, rfl, rfl, by decide +kernel, rfl, by decide +kernel, by decide +kernel⟩
section
variable {P : Program} {w : World} {K : PySem.W.Frag} {mg : Str → Option Value} {base : Heap}
theorem ok_lin {N : List Str} {f : Addr} {fd : FuncData} {k : Nat} (F : Fun K "_law_inner" "_law_inner" sLin f fd) (mli : mg "list" = none) (mint : mg "int" = none) : FnOk P w K mg base CX0 (k + 1) f fd ["_law_form_here"] (spInner N) := by
  refine F.ok scLin (fun vs H Q E h => ?_) (fun cdv A outer s H vs Q E hr h => ?_)
  · obtain ⟨v, f, rfl, _⟩ := h
    rfl
  · obtain ⟨v, fo, rfl, hR, hok, hsz, q⟩ := h
    refine ⟨_, (pss_cons (ps_if (pt_cmpR op_in_seq (pe_ix (show IxR _ (rIxT K) from ix_tup) (pv 0) pe_int (fun _ _ => rfl)) (pe_tup (pa_cons pe_str (pa_cons pe_str (pa_cons pe_str pa_nil)))) (by rfl)) (pss_one (ps_ret (pe_lst (pa_cons (pe_ix (show IxR _ (rIxT K) from ix_tup) (pv 0) pe_int (fun _ _ => rfl)) pa_nil)))) pss_nil)
      (pss_cons (ps_if (pt_cmpR op_eq (pe_ix (show IxR _ (rIxT K) from ix_tup) (pv 0) pe_int (fun _ _ => rfl)) pe_str (nomark _)) (pss_one (ps_ret (pe_callTy call_list_of (by rfl) mli (by decide +kernel) (pa_cons (pe_ix (show IxR _ (rIxT K) from ix_tup) (pv 0) pe_int (fun _ _ => rfl)) pa_nil)))) pss_nil)
      (pss_cons (ps_if (pt_cmpR op_eq (pe_ix (show IxR _ (rIxT K) from ix_tup) (pv 0) pe_int (fun _ _ => rfl)) pe_str (nomark _)) (pss_one (ps_ret (pe_lc (own := [("_law_pair", 1)]) (g := gName 1) (tt := tYes) rfl scLin.nd (pi_tup (pe_ix (show IxR _ (rIxT K) from ix_tup) (pv 0) pe_int (fun _ _ => rfl))) (blkOk_by (N := ["_law_form_here", "_law_pair"]) (sc := defScope sLin) (by decide +kernel)) (fun _ _ _ _ _ => (pg_name (i := 1) scLin.nd rfl (.inl rfl))) (fun _ _ _ _ _ => pts_nil) (fun _ _ _ _ _ => (pe_ix (show IxR _ (rIxT K) from ix_tup) (pv 1) pe_int (fun _ _ => rfl)))))) pss_nil)
      (pss_cons (ps_if (pt_cmpR op_eq (pe_ix (show IxR _ (rIxT K) from ix_tup) (pv 0) pe_int (fun _ _ => rfl)) pe_str (nomark _)) (pss_one (ps_ret (pe_op op_cat (pe_lst (pa_cons (pe_ix (show IxR _ (rIxT K) from ix_tup) (pv 0) pe_int (fun _ _ => rfl)) pa_nil)) (pe_op op_rep (pe_lst (pa_cons (pe_ix (show IxR _ (rIxT K) from ix_tup) (pv 0) pe_int (fun _ _ => rfl)) pa_nil)) (pe_callTy call_int1 (by rfl) mint (by decide +kernel) (pa_cons (pe_cmpR op_notN (pe_ix (show IxR _ (rIxT K) from ix_tup) (pv 0) pe_int (fun _ _ => rfl)) pe_non (nomark _)) pa_nil)))))) pss_nil)
      (pss_one (ps_ret (pe_ifExp (pt_cmpR op_eq (pe_ix (show IxR _ (rIxT K) from ix_tup) (pv 0) pe_int (fun _ _ => rfl)) pe_str (nomark _)) (pe_lst (pa_cons (pe_ix (show IxR _ (rIxT K) from ix_tup) (pv 0) pe_int (fun _ _ => rfl)) pa_nil)) (pe_lst pa_nil)))))))), ?_⟩
    have noT : ∀ (H : Hp) (a : Addr) xs, M0 a → H a ≠ some (.tup xs) := fun _ _ _ z => z.elim
    have new : ∀ {H : Hp} {p : Addr} {o : HO} {v : V} {d : D}, H p = none → Rp H v d → Rp (upd H p o) v d := fun n r => r.keep (Kp.new (M := M0) n) (noT _)
    -- the word and the first test
    have go : ∀ (w : Str) (ds : List D), fo.enc = .tup (.str w :: ds) → ∃ (a : Addr) (us : List V), v = .ref a ∧ H a = some (.tup (.str w :: us)) ∧ Rps H us ds := fun w ds e => by
      rw [e] at hR
      cases hR with
      | tup e1 r =>
        cases r with
        | cons r1 r2 =>
          cases r1
          exact ⟨_, _, rfl, e1, r2⟩
    have nT : ∀ {p a : Addr} {o : HO} {us : List V}, H p = none → H a = some (.tup us) → upd H p o a = some (.tup us) := fun n e => by rw [upd_ne (ne_of_none e n)]; exact e
    have fin : ∀ {p l : Addr} {o : HO} (us : List V), H p = none → upd H p o l = none → Rps H us (Fo.encs fo.inner) → Q (.ref l) (upd (upd H p o) l (.lst us)) := fun us n1 n2 r =>
      q us _ _ (none_upd n2) upd_same ((r.keep (Kp.new (M := M0) n1) (noT _)).keep (Kp.new (M := M0) n2) (noT _)) ((Kp.new n1).trans (Kp.new n2))
    have nU : ∀ {H : Hp} {p a : Addr} {o u : HO}, H p = none → H a = some u → upd H p o a = some u := fun n e => by rw [upd_ne (ne_of_none e n)]; exact e
    cases fo with
    | leaf w r =>
      obtain ⟨a, us, rfl, ea, ru⟩ := go w r rfl
      have five : w ∈ ([("text" : Str), "sign", "word", "number", "pick"] : List Str) := hok
      simp only [List.mem_cons, List.not_mem_nil, or_false] at five
      rcases five with rfl | rfl | rfl | rfl | rfl <;>
      · refine ⟨_, rfl, a, _, 0, .str _, rfl, rfl, SqT.of ea, atI_nat (j := 0) rfl, by show 3 ≤ sizeLine; decide, fun p np => ⟨p, _, rfl, .inr (SqT.of upd_same), rfl, rfl, _, rfl, iteF' (by decide) ?_⟩⟩
        refine ⟨_, rfl, a, _, 0, .str _, rfl, rfl, SqT.of (nT np ea), atI_nat (j := 0) rfl, rfl, _, rfl, iteF' (by decide) ?_⟩
        refine ⟨_, rfl, a, _, 0, .str _, rfl, rfl, SqT.of (nT np ea), atI_nat (j := 0) rfl, rfl, _, rfl, iteF' (by decide) ?_⟩
        refine ⟨_, rfl, a, _, 0, .str _, rfl, rfl, SqT.of (nT np ea), atI_nat (j := 0) rfl, rfl, _, rfl, iteF' (by decide) ?_⟩
        refine ⟨_, rfl, a, _, 0, .str _, rfl, rfl, SqT.of (nT np ea), atI_nat (j := 0) rfl, rfl, _, rfl, iteF' (by decide) ?_⟩
        exact ⟨Nat.zero_le _, fun l nl => fin [] np nl .nil⟩
    | named x =>
      obtain ⟨a, us, rfl, ea, ru⟩ := go "named" _ rfl
      refine ⟨_, rfl, a, _, 0, .str _, rfl, rfl, SqT.of ea, atI_nat (j := 0) rfl, by show 3 ≤ sizeLine; decide, fun p np => ⟨p, _, rfl, .inr (SqT.of upd_same), rfl, rfl, _, rfl, iteF' (by decide) ?_⟩⟩
      refine ⟨_, rfl, a, _, 0, .str _, rfl, rfl, SqT.of (nT np ea), atI_nat (j := 0) rfl, rfl, _, rfl, iteF' (by decide) ?_⟩
      refine ⟨_, rfl, a, _, 0, .str _, rfl, rfl, SqT.of (nT np ea), atI_nat (j := 0) rfl, rfl, _, rfl, iteF' (by decide) ?_⟩
      refine ⟨_, rfl, a, _, 0, .str _, rfl, rfl, SqT.of (nT np ea), atI_nat (j := 0) rfl, rfl, _, rfl, iteF' (by decide) ?_⟩
      refine ⟨_, rfl, a, _, 0, .str _, rfl, rfl, SqT.of (nT np ea), atI_nat (j := 0) rfl, rfl, _, rfl, iteF' (by decide) ?_⟩
      exact ⟨Nat.zero_le _, fun l nl => fin [] np nl .nil⟩
    | one w f r =>
      obtain ⟨a, us, rfl, ea, ru⟩ := go w _ rfl
      cases ru with
      | cons r1 r2 =>
        have three : w ∈ ([("skip" : Str), "spelt", "turned"] : List Str) := hok.1
        simp only [List.mem_cons, List.not_mem_nil, or_false] at three
        rcases three with rfl | rfl | rfl <;>
        · refine ⟨_, rfl, a, _, 0, .str _, rfl, rfl, SqT.of ea, atI_nat (j := 0) rfl, by show 3 ≤ sizeLine; decide, fun p np => ⟨p, _, rfl, .inr (SqT.of upd_same), rfl, rfl, _, rfl, iteT' (by decide) ?_⟩⟩
          exact ⟨_, rfl, a, _, 1, _, rfl, rfl, SqT.of (nT np ea), atI_nat (j := 1) rfl, by show 1 ≤ sizeLine; decide, fun l nl => fin [_] np nl (.cons r1 .nil)⟩
    | row fs =>
      obtain ⟨a, us, rfl, ea, ru⟩ := go "row" _ rfl
      cases ru with
      | cons r1 r2 =>
        cases r1 with
        | tup eb rs =>
          refine ⟨_, rfl, a, _, 0, .str _, rfl, rfl, SqT.of ea, atI_nat (j := 0) rfl, by show 3 ≤ sizeLine; decide, fun p np => ⟨p, _, rfl, .inr (SqT.of upd_same), rfl, rfl, _, rfl, iteF' (by decide) ?_⟩⟩
          refine ⟨_, rfl, a, _, 0, .str _, rfl, rfl, SqT.of (nT np ea), atI_nat (j := 0) rfl, rfl, _, rfl, iteT' (by decide) ?_⟩
          exact ⟨_, rfl, a, _, 1, _, rfl, rfl, SqT.of (nT np ea), atI_nat (j := 1) rfl, _, _, rfl, .inr (SqT.of (nT np eb)), fun l nl => fin _ np nl rs⟩
    | counted z f =>
      obtain ⟨a, us, rfl, ea, ru⟩ := go "counted" _ rfl
      cases ru with
      | cons r1 r2 =>
        cases r2 with
        | cons r3 r4 =>
          refine ⟨_, rfl, a, _, 0, .str _, rfl, rfl, SqT.of ea, atI_nat (j := 0) rfl, by show 3 ≤ sizeLine; decide, fun p np => ⟨p, _, rfl, .inr (SqT.of upd_same), rfl, rfl, _, rfl, iteF' (by decide) ?_⟩⟩
          refine ⟨_, rfl, a, _, 0, .str _, rfl, rfl, SqT.of (nT np ea), atI_nat (j := 0) rfl, rfl, _, rfl, iteF' (by decide) ?_⟩
          refine ⟨_, rfl, a, _, 0, .str _, rfl, rfl, SqT.of (nT np ea), atI_nat (j := 0) rfl, rfl, _, rfl, iteF' (by decide) ?_⟩
          refine ⟨_, rfl, a, _, 0, .str _, rfl, rfl, SqT.of (nT np ea), atI_nat (j := 0) rfl, rfl, _, rfl, iteF' (by decide) ?_⟩
          refine ⟨_, rfl, a, _, 0, .str _, rfl, rfl, SqT.of (nT np ea), atI_nat (j := 0) rfl, rfl, _, rfl, iteT' (by decide) ?_⟩
          exact ⟨_, rfl, a, _, 2, _, rfl, rfl, SqT.of (nT np ea), atI_nat (j := 2) rfl, by show 1 ≤ sizeLine; decide, fun l nl => fin [_] np nl (.cons r3 .nil)⟩
    | again f =>
      obtain ⟨a, us, rfl, ea, ru⟩ := go "again" _ rfl
      cases ru with
      | cons r1 r2 =>
        cases r2 with
        | cons r3 r4 =>
          cases r3
          refine ⟨_, rfl, a, _, 0, .str _, rfl, rfl, SqT.of ea, atI_nat (j := 0) rfl, by show 3 ≤ sizeLine; decide, fun p np => ⟨p, _, rfl, .inr (SqT.of upd_same), rfl, rfl, _, rfl, iteF' (by decide) ?_⟩⟩
          refine ⟨_, rfl, a, _, 0, .str _, rfl, rfl, SqT.of (nT np ea), atI_nat (j := 0) rfl, rfl, _, rfl, iteF' (by decide) ?_⟩
          refine ⟨_, rfl, a, _, 0, .str _, rfl, rfl, SqT.of (nT np ea), atI_nat (j := 0) rfl, rfl, _, rfl, iteF' (by decide) ?_⟩
          refine ⟨_, rfl, a, _, 0, .str _, rfl, rfl, SqT.of (nT np ea), atI_nat (j := 0) rfl, rfl, _, rfl, iteT' (by decide) ?_⟩
          refine ⟨_, rfl, a, _, 1, _, rfl, rfl, SqT.of (nT np ea), atI_nat (j := 1) rfl, by show 1 ≤ sizeLine; decide, fun l1 n1 => ?_⟩
          refine ⟨_, rfl, a, _, 2, .non, rfl, rfl, SqT.of (nU n1 (nT np ea)), atI_nat (j := 2) rfl, by show 1 ≤ sizeLine; decide, fun l2 n2 => ?_⟩
          refine ⟨_, rfl, a, _, 2, .non, rfl, rfl, SqT.of (nU n2 (nU n1 (nT np ea))), atI_nat (j := 2) rfl, rfl, .inr ⟨_, rfl, ?_⟩⟩
          refine ⟨l2, 0, [.non], rfl, rfl, upd_same, by decide, by decide, by show 0 ≤ sizeLine; decide, fun l3 n3 => ?_⟩
          refine ⟨l1, l3, [_], _, rfl, rfl, nU n3 (nU n2 upd_same), upd_same, by show 1 + 0 ≤ sizeLine; decide, fun l4 n4 => ?_⟩
          refine q [_] l4 _ (none_upd (none_upd (none_upd (none_upd n4)))) upd_same (.cons ?_ .nil) ((Kp.new np).trans ((Kp.new n1).trans ((Kp.new n2).trans ((Kp.new n3).trans (Kp.new n4)))))
          exact ((((r1.keep (Kp.new (M := M0) np) (noT _)).keep (Kp.new (M := M0) n1) (noT _)).keep (Kp.new (M := M0) n2) (noT _)).keep (Kp.new (M := M0) n3) (noT _)).keep (Kp.new (M := M0) n4) (noT _)
    | between f g =>
      obtain ⟨a, us, rfl, ea, ru⟩ := go "again" _ rfl
      cases ru with
      | cons r1 r2 =>
        cases r2 with
        | cons r3 r4 =>
          cases r4
          obtain ⟨c, rfl⟩ := enc_ref r3
          refine ⟨_, rfl, a, _, 0, .str _, rfl, rfl, SqT.of ea, atI_nat (j := 0) rfl, by show 3 ≤ sizeLine; decide, fun p np => ⟨p, _, rfl, .inr (SqT.of upd_same), rfl, rfl, _, rfl, iteF' (by decide) ?_⟩⟩
          refine ⟨_, rfl, a, _, 0, .str _, rfl, rfl, SqT.of (nT np ea), atI_nat (j := 0) rfl, rfl, _, rfl, iteF' (by decide) ?_⟩
          refine ⟨_, rfl, a, _, 0, .str _, rfl, rfl, SqT.of (nT np ea), atI_nat (j := 0) rfl, rfl, _, rfl, iteF' (by decide) ?_⟩
          refine ⟨_, rfl, a, _, 0, .str _, rfl, rfl, SqT.of (nT np ea), atI_nat (j := 0) rfl, rfl, _, rfl, iteT' (by decide) ?_⟩
          refine ⟨_, rfl, a, _, 1, _, rfl, rfl, SqT.of (nT np ea), atI_nat (j := 1) rfl, by show 1 ≤ sizeLine; decide, fun l1 n1 => ?_⟩
          refine ⟨_, rfl, a, _, 2, .ref c, rfl, rfl, SqT.of (nU n1 (nT np ea)), atI_nat (j := 2) rfl, by show 1 ≤ sizeLine; decide, fun l2 n2 => ?_⟩
          refine ⟨_, rfl, a, _, 2, .ref c, rfl, rfl, SqT.of (nU n2 (nU n1 (nT np ea))), atI_nat (j := 2) rfl, rfl, .inr ⟨_, rfl, ?_⟩⟩
          refine ⟨l2, 1, [.ref c], rfl, rfl, upd_same, by decide, by decide, by show 1 ≤ sizeLine; decide, fun l3 n3 => ?_⟩
          refine ⟨l1, l3, [_], _, rfl, rfl, nU n3 (nU n2 upd_same), upd_same, by show 1 + 1 ≤ sizeLine; decide, fun l4 n4 => ?_⟩
          exact q [_, _] l4 _ (none_upd (none_upd (none_upd (none_upd n4)))) upd_same ((Rps.cons r1 (.cons r3 .nil)).keep (M := M0) ((Kp.new np).trans ((Kp.new n1).trans ((Kp.new n2).trans ((Kp.new n3).trans (Kp.new n4))))) (noT _)) ((Kp.new np).trans ((Kp.new n1).trans ((Kp.new n2).trans ((Kp.new n3).trans (Kp.new n4)))))
    | either ns fs =>
      obtain ⟨a, us, rfl, ea, ru⟩ := go "either" _ rfl
      cases ru with
      | cons r1 r2 =>
        cases r1 with
        | @tup b ws _ eb rs =>
          refine ⟨_, rfl, a, _, 0, .str _, rfl, rfl, SqT.of ea, atI_nat (j := 0) rfl, by show 3 ≤ sizeLine; decide, fun p np => ⟨p, _, rfl, .inr (SqT.of upd_same), rfl, rfl, _, rfl, iteF' (by decide) ?_⟩⟩
          refine ⟨_, rfl, a, _, 0, .str _, rfl, rfl, SqT.of (nT np ea), atI_nat (j := 0) rfl, rfl, _, rfl, iteF' (by decide) ?_⟩
          refine ⟨_, rfl, a, _, 0, .str _, rfl, rfl, SqT.of (nT np ea), atI_nat (j := 0) rfl, rfl, _, rfl, iteT' (by decide) ?_⟩
          refine ⟨_, rfl, a, _, 1, .ref b, rfl, rfl, SqT.of (nT np ea), atI_nat (j := 1) rfl, b, rfl, ⟨_, SqT.of (nT np eb)⟩, fun D nD => ?_⟩
          have hl : ns.length = fs.length := hok.1
          have lw : ws.length = fs.length := by
            rw [rs.len, List.length_zipWith, encs_map, List.length_map]
            omega
          refine lc_tup (xs := ws) (fun i H4 => Kp M0 (upd H p (.tup [.str "skip", .str "spelt", .str "turned"])) H4 ∧ ∃ acc, H4 D = some (.lst acc) ∧ acc.length = i ∧ Rps H4 acc (Fo.encs (fs.take i))) ?_ ?_ ?_ ?_
          · exact ⟨Kp.new nD, [], upd_same, rfl, by rw [List.take_zero]; exact .nil⟩
          · exact fun i H4 _ h => SqT.of (h.1 _ _ (fun z => z) (nT np eb))
          · rintro i x H4 hx ⟨k4, acc, e4, la, ra⟩
            obtain ⟨d, hd, rd⟩ := rs.get i x hx
            have hi : i < fs.length := by
              rw [← lw]
              exact (List.getElem?_eq_some_iff.mp hx).1
            have hn : ns[i]? = some ns[i] := List.getElem?_eq_getElem (by omega)
            have hf : fs[i]? = some fs[i] := List.getElem?_eq_getElem hi
            rw [List.getElem?_zipWith, hn, encs_map, List.getElem?_map, hf] at hd
            cases hd
            cases rd with
            | @tup c vs2 _ ec rc =>
              cases rc with
              | cons c1 c2 =>
                cases c2 with
                | cons c3 c4 =>
                  cases c4
                  refine ⟨rfl, tYes_ok (iteT ⟨_, rfl, c, _, 1, _, rfl, rfl, SqT.of (k4 _ _ (fun z => z) (nT np ec)), atI_nat (j := 1) rfl, acc, e4, ?_, ?_⟩)⟩
                  · have := Fo.inner_size (.either ns fs)
                    have hsz2 : (Fo.either ns fs).size ≤ 100000 := hsz
                    have lf := sizes_len fs
                    simp only [Fo.inner] at this
                    rw [la, sizeLine_eq]
                    omega
                  · refine ⟨fun b u n e => ?_, _, upd_same, by rw [List.length_append, la]; rfl, ?_⟩
                    · rw [upd_ne (ne_of_none e nD)]
                      exact k4 b u n e
                    · rw [List.take_add_one, hf, encs_app]
                      refine Rps.app (ra.keep (M := fun b => b = D) (Kp.put rfl) (fun a xs m e => ?_)) (.cons ?_ .nil)
                      · rw [m, e4] at e
                        cases e
                      · refine ((new np c3).keep k4 (noT _)).keep (M := fun b => b = D) (Kp.put rfl) (fun a xs m e => ?_)
                        rw [m, e4] at e
                        cases e
          · rintro H4 ⟨k4, acc, e4, la, ra⟩
            rw [lw, List.take_length] at ra
            exact q acc D H4 (none_upd nD) e4 ra ((Kp.new np).trans k4)
end
end RT

namespace RT
open PySem PySem.Spec PyProof.Rows L2
section
variable {X : Cx}
/-- xs != [], whatever stands in xs -/
def rNeNil : R2 := fun x y H Q => ∃ (l b : Addr) (xs : List V), x = .ref l ∧ y = .ref b ∧ H l = some (.lst xs) ∧ H b = some (.lst []) ∧ Q (.bl (!xs.isEmpty)) H
theorem op_neNil (hu : X.A.units + 64 < cLine) : OpR X (compareOp .NotEq) rNeNil := by
  intro pins s σ H x y v u Q I rx ry h
  obtain ⟨l, b, xs, rfl, rfl, hl, hb, q⟩ := h
  cases rx
  cases ry
  obtain ⟨ix, vx, px, _⟩ := I.list (SqL.of hl)
  obtain ⟨iy, vy, py, _⟩ := I.list (SqL.of hb)
  cases vy
  have room : X.A.units < cLine := Nat.lt_of_le_of_lt (Nat.le_add_right _ 64) hu
  cases vx with
  | nil => exact PySem.EqBoolInt.of_rcne (SeqAt.RcNeAt.lists (e := fun _ => true) px.isList py.isList rfl room fun j h1 => absurd h1 (Nat.not_lt_zero _)) ⟨.bl false, H, I, rfl, q⟩
  | cons r t => exact PySem.EqBoolInt.of_rcne (SeqAt.RcNeAt.lists_lengths px.isList py.isList rfl room) ⟨.bl true, H, I, rfl, q⟩
end
end RT

namespace RT
open PySem PySem.Spec PyProof.Rows L2
abbrev sLmet : Stmt := topS 26
theorem scLmet : FnScope ["_law_book_here", "_law_forms", "_law_known", "_law_waiting", "_law_form_here"] ["_law_book_here"] (defScope sLmet) := ⟨rfl, rfl, rfl, by decide +kernel, rfl, by decide +kernel, by decide +kernel⟩
/-- a book whose rows are known to be a plain tuple -/
def BookZ (H : Hp) (v : V) (s : Str) (bs : List (Str × Fo)) : Prop := ∃ (b rows : Addr) (o : Obj) (ps : List Addr), v = .ref b ∧ H b = some (.tup [.str s, .ref rows]) ∧ H rows = some (.frz o (.tup (ps.map V.ref))) ∧ o.cls = .type "tuple" ∧ o.dict = none ∧ RowsAt H ps bs
theorem BookZ.at {H : Hp} {v : V} {s : Str} {bs : List (Str × Fo)} (h : BookZ H v s bs) : BookAt H v s bs := by
  obtain ⟨b, rows, o, ps, e, e1, e2, _, _, r⟩ := h
  exact ⟨b, rows, ps, e, e1, .inr ⟨o, e2⟩, r⟩
theorem merge_new : ∀ (kvs acc : List (Key × V)), ((acc ++ kvs).map (·.1)).Nodup → mergeK acc kvs = acc ++ kvs
  | [], acc, _ => by rw [List.append_nil]; rfl
  | (k, v) :: r, acc, h => by
    show mergeK (putK acc k v) r = _
    rw [putK_new, merge_new r, List.append_assoc]
    · rfl
    · rw [List.append_assoc]
      exact h
    · intro p hp e
      rw [List.map_append, List.nodup_append] at h
      exact h.2.2 p.1 (List.mem_map.mpr ⟨p, hp, rfl⟩) k (by simp) e
theorem rows_pairs {K : PySem.W.Frag} {H : Hp} : ∀ {ps : List Addr} {bs : List (Str × Fo)}, RowsAt H ps bs → ∃ us : List V, Paired (fun p kv => SqT K H p [kV kv.1, kv.2]) ps (List.zipWith (fun (x : Str × Fo) u => ((.inr x.1 : Key), u)) bs us) ∧ us.length = bs.length ∧ ∀ (i : Nat) (u : V) (x : Str × Fo), us[i]? = some u → bs[i]? = some x → Rp H u x.2.enc
  | [], [], _ => ⟨[], .nil, rfl, fun i u x e => by simp at e⟩
  | p :: ps, x :: bs, h => by
    obtain ⟨us, a, b, c⟩ := rows_pairs (K := K) (ps := ps) (bs := bs) ⟨by simpa using h.1, fun i p x e1 e2 => h.2 (i + 1) p x (by simpa using e1) (by simpa using e2)⟩
    obtain ⟨u, e, r⟩ := h.2 0 p x rfl rfl
    refine ⟨u :: us, .cons (SqT.of e) a, by rw [List.length_cons, List.length_cons, b], fun i v y e1 e2 => ?_⟩
    cases i with
    | zero =>
      cases e1
      cases e2
      exact r
    | succ i => exact c i v y (by simpa using e1) (by simpa using e2)
  | [], _ :: _, h => by cases h.1
  | _ :: _, [], h => by cases h.1
theorem zip_keys : ∀ {bs : List (Str × Fo)} {us : List V}, us.length = bs.length → (List.zipWith (fun (x : Str × Fo) u => ((.inr x.1 : Key), u)) bs us).map (·.1) = bs.map fun x => (.inr x.1 : Key)
  | [], [], _ => rfl
  | b :: bs, u :: us, h => by
    have z := zip_keys (bs := bs) (us := us) (by simpa using h)
    show (Sum.inr b.1 : Key) :: _ = _
    rw [z]
    rfl
  | [], _ :: _, h => by cases h
  | _ :: _, [], h => by cases h
theorem inV_strs (x : Str) : ∀ ks : List Str, inV (.str x) (ks.map V.str) = decide (x ∈ ks)
  | [] => by simp [inV]
  | k :: r => by
    have ih := inV_strs x r
    unfold inV at ih ⊢
    rw [List.map_cons, List.any_cons, ih]
    have e : eqV (.str k) (.str x) = decide (x = k) := by
      show (k == x) = _
      by_cases z : x = k
      · subst z
        simp
      · rw [decide_eq_false z]
        exact beq_eq_false_iff_ne.mpr fun y => z y.symm
    rw [e]
    simp
/-- what the two lists tell: names known, forms waiting -/
structure LL (bs : List (Str × Fo)) (s0 : Str) (ks : List Str) (gs : List Fo) : Prop where
  og : Fo.oks (bs.map (·.1)) gs
  sz : ∀ g ∈ gs, g.size ≤ 100000
  nd : ks.Nodup
  inn : ∀ x ∈ ks, x ∈ bs.map (·.1)
  rk : ∀ x ∈ ks, Reach bs s0 x
  rg : ∀ x, Fo.hass x gs → Reach bs s0 x
  st : s0 ∈ ks ∨ Fo.hass s0 gs
  cl : ∀ m ∈ ks, ∀ f, (m, f) ∈ bs → ∀ x, f.has x → x ∈ ks ∨ Fo.hass x gs
theorem inner_sz (g h : Fo) (m : h ∈ g.inner) : h.size < g.size := by
  have z := g.inner_size
  have y : ∀ fs : List Fo, h ∈ fs → h.size ≤ Fo.sizes fs := fun fs => by
    induction fs with
    | nil => exact fun m => nomatch m
    | cons a r ih =>
      intro m
      simp only [Fo.sizes]
      rcases List.mem_cons.mp m with e | e
      · rw [e]
        omega
      · have := ih e
        omega
  have := y _ m
  omega
/-- the first form gives way to those in it, its name being known if it is one -/
theorem LL.go {bs : List (Str × Fo)} {s0 : Str} {ks : List Str} {g : Fo} {gs : List Fo} (l : LL bs s0 ks (g :: gs)) (h : ∀ x, g = .named x → x ∈ ks) : LL bs s0 ks (gs ++ g.inner) where
  og := Fo.oks_app _ _ l.og.2 (Fo.inner_ok g l.og.1)
  sz := fun a m => by
    rcases List.mem_append.mp m with m | m
    · exact l.sz a (List.mem_cons_of_mem _ m)
    · exact Nat.le_trans (Nat.le_of_lt (inner_sz g a m)) (l.sz g (List.mem_cons_self ..))
  nd := l.nd
  inn := l.inn
  rk := l.rk
  rg := fun x m => by
    rcases (hass_app x _ _).mp m with m | m
    · exact l.rg x (.inr m)
    · exact l.rg x (.inl ((has_iff x g).mpr (.inr m)))
  st := by
    rcases l.st with a | a | a
    · exact .inl a
    · rcases (has_iff s0 g).mp a with b | b
      · exact .inl (h s0 b)
      · exact .inr ((hass_app s0 _ _).mpr (.inr b))
    · exact .inr ((hass_app s0 _ _).mpr (.inl a))
  cl := fun m hm f hf x hx => by
    rcases l.cl m hm f hf x hx with a | a | a
    · exact .inl a
    · rcases (has_iff x g).mp a with b | b
      · exact .inl (h x b)
      · exact .inr ((hass_app x _ _).mpr (.inr b))
    · exact .inr ((hass_app x _ _).mpr (.inl a))
/-- a name that is met for the first time -/
theorem LL.add {bs : List (Str × Fo)} {s0 x : Str} {ks : List Str} {f : Fo} {gs : List Fo} (hB : BookOk bs s0) (l : LL bs s0 ks (.named x :: gs)) (hx : x ∉ ks) (hf : (x, f) ∈ bs) : LL bs s0 (ks ++ [x]) (.named x :: (gs ++ [f])) where
  og := ⟨l.og.1, Fo.oks_app _ _ l.og.2 ⟨(hB.ok x f hf).1, True.intro⟩⟩
  sz := fun a m => by
    rcases List.mem_cons.mp m with m | m
    · rw [m]
      show 1 ≤ 100000
      decide
    · rcases List.mem_append.mp m with m | m
      · exact l.sz a (List.mem_cons_of_mem _ m)
      · rw [List.mem_singleton.mp m]
        exact (hB.ok x f hf).2
  nd := by
    rw [List.nodup_append]
    exact ⟨l.nd, by simp, fun a ha c hc e => hx ((List.mem_singleton.mp hc) ▸ e ▸ ha)⟩
  inn := fun z m => by
    rcases List.mem_append.mp m with m | m
    · exact l.inn z m
    · rw [List.mem_singleton.mp m]
      exact l.og.1
  rk := fun z m => by
    rcases List.mem_append.mp m with m | m
    · exact l.rk z m
    · rw [List.mem_singleton.mp m]
      exact l.rg x (.inl rfl)
  rg := fun z m => by
    rcases m with m | m
    · exact l.rg z (.inl m)
    · rcases (hass_app z _ _).mp m with m | m
      · exact l.rg z (.inr m)
      · exact .step (l.rg x (.inl rfl)) hf ((hass_one z f).mp m)
  st := by
    rcases l.st with a | a | a
    · exact .inl (List.mem_append_left _ a)
    · exact .inr (.inl a)
    · exact .inr (.inr ((hass_app s0 _ _).mpr (.inl a)))
  cl := fun m hm g hg z hz => by
    rcases List.mem_append.mp hm with hm | hm
    · rcases l.cl m hm g hg z hz with a | a | a
      · exact .inl (List.mem_append_left _ a)
      · exact .inr (.inl a)
      · exact .inr (.inr ((hass_app z _ _).mpr (.inl a)))
    · rw [List.mem_singleton.mp hm] at hg
      rw [row_one hB.nd hg hf] at hz
      exact .inr (.inr ((hass_app z _ _).mpr (.inr ((hass_one z f).mpr hz))))
theorem fit {A B a c : Nat} (h1 : A + 100001 ≤ B) (h2 : B + (1 + a) ≤ 6100000) (h3 : c ≤ 100000) : A + (a + c) ≤ 6100000 := by omega
theorem flat_strs (ks : List Str) : (ks.map V.str).all flatV = true := by
  rw [List.all_eq_true]
  intro v hv
  obtain ⟨k, _, rfl⟩ := List.mem_map.mp hv
  rfl
section
variable {P : Program} {w : World} {K : PySem.W.Frag} {mg : Str → Option Value} {base : Heap}
def spLmet (N : List Str) : Sp := fun vs H Q _ => ∃ (v : V) (s : Str) (bs : List (Str × Fo)), vs = [v] ∧ BookZ H v s bs ∧ BookOk bs s ∧ N = bs.map (·.1) ∧
  ∀ (ys : List Str) (l : Addr) (H' : Hp), sortedS ys = true → ys.Nodup → (∀ x, x ∈ ys ↔ Reach bs s x) → H' l = some (.tup (ys.map V.str)) → Kp M0 H H' → Q (.ref l) H'
theorem ok_lmet {N : List Str} {f fi : Addr} {fd fdi : FuncData} {k : Nat} (F : Fun K "_law_met" "_law_met" sLmet f fd)
    (GI : FnOk P w K mg base CX0 k fi fdi ["_law_form_here"] (spInner N)) (ki : PySem.W.keepIn K (.ref fi) = true) (bi : Binds K fdi ["_law_form_here"] []) (gi : mg "_law_inner" = some (.ref fi)) (mso : mg "sorted" = none) (mtu : mg "tuple" = none) (mdi : mg "dict" = none) :
    FnOk P w K mg base CX0 (k + 1) f fd ["_law_book_here"] (spLmet N) := by
  refine F.ok scLmet (fun vs H Q E h => ?_) (fun cdv A outer s H vs Q E hr h => ?_)
  · obtain ⟨v, s, bs, rfl, _⟩ := h
    rfl
  · obtain ⟨v, s0, bs, rfl, ⟨b, rows, o, ps, rfl, eb, er, oc, od, hR⟩, hB, rfl, q⟩ := h
    have noT : ∀ (H : Hp) (a : Addr) xs, M0 a → H a ≠ some (.tup xs) := fun _ _ _ z => z.elim
    refine ⟨_, (pss_cons (ps_set (i := 1) scLmet.nd rfl (.inl rfl) (pe_callTy (cr_dictT (by rfl)) (by rfl) mdi (by decide +kernel) (pa_cons (pe_ix ix_tup (pv 0) pe_int (fun _ _ => rfl)) pa_nil)))
      (pss_cons (ps_set (i := 2) scLmet.nd rfl (.inl rfl) (pe_lst pa_nil))
      (pss_cons (ps_set (i := 3) scLmet.nd rfl (.inl rfl) (pe_lst (pa_cons (pe_tup (pa_cons pe_str (pa_cons (pe_ix ix_tup (pv 0) pe_int (fun _ _ => rfl)) pa_nil))) pa_nil)))
      (pss_cons (ps_while PassesOwn.never (pt_cmpR (op_neNil hr.units) (pv 3) (pe_lst pa_nil) (nomark _)) (pss_cons (ps_set (i := 4) scLmet.nd rfl (.inl rfl) (pe_bm PySem.F.plainAttrs_list PySem.F.slot_list_pop PySem.F.type_list_pop mt_popAt (pv 3) (pa_cons pe_int pa_nil)))
      (pss_cons (ps_if (PW.pt (pw_and (pt_cmpR op_eq (pe_ix ix_tup (pv 4) pe_int (fun _ _ => rfl)) pe_str (nomark _)) (pw_and1 (pt_cmpR op_notIn_seq (pe_ix ix_tup (pv 4) pe_int (fun _ _ => rfl)) (pv 2) (by rfl))))) (pss_cons (ps_expr (pe_bm PySem.F.plainAttrs_list PySem.F.slot_list_append PySem.F.type_list_append mt_append (pv 2) (pa_cons (pe_ix ix_tup (pv 4) pe_int (fun _ _ => rfl)) pa_nil)))
      (pss_one (ps_expr (pe_bm PySem.F.plainAttrs_list PySem.F.slot_list_append PySem.F.type_list_append mt_append (pv 3) (pa_cons (pe_dget (hu_of hr) (pv 1) (pe_ix ix_tup (pv 4) pe_int (fun _ _ => rfl)) (fun _ _ => rfl)) pa_nil))))) pss_nil)
      (pss_one (ps_expr (pe_bm PySem.F.plainAttrs_list PySem.F.slot_list_extend PySem.F.type_list_extend mt_extend (pv 3) (pa_cons (pe_call GI hr (by rfl) gi ki bi .nil pass0 (pa_cons (pv 4) pa_nil)) pa_nil)))))))
      (pss_one (ps_ret (pe_callTy call_tuple_of (by rfl) mtu (by decide +kernel) (pa_cons (pe_callB cr_sortedS (by rfl) mso (by decide +kernel) (pa_cons (pv 2) pa_nil)) pa_nil)))))))), ?_⟩
    obtain ⟨us, pp, lu, hu⟩ := rows_pairs (K := K) hR
    refine ⟨_, rfl, b, _, 1, .ref rows, rfl, rfl, SqT.of eb, atI_nat (j := 1) rfl, rows, o, ps, _, rfl, er, oc, od, pp, fun d nd => ?_⟩
    have tab : TabAt (upd H d (.dK (mergeK [] (List.zipWith (fun (x : Str × Fo) u => ((.inr x.1 : Key), u)) bs us)))) d bs := by
      refine ⟨us, ?_, lu, fun i u x e1 e2 => (hu i u x e1 e2).keep (Kp.new nd) (noT _)⟩
      rw [upd_same, merge_new]
      · rfl
      · rw [List.nil_append, zip_keys lu, List.nodup_iff_pairwise_ne, List.pairwise_map]
        have z := List.nodup_iff_pairwise_ne.mp hB.nd
        rw [List.pairwise_map] at z
        exact z.imp fun h e => h (Sum.inr.inj e)
    have k1 : Kp M0 H (upd H d (.dK (mergeK [] (List.zipWith (fun (x : Str × Fo) u => ((.inr x.1 : Key), u)) bs us)))) := Kp.new nd
    generalize upd H d (.dK (mergeK [] (List.zipWith (fun (x : Str × Fo) u => ((.inr x.1 : Key), u)) bs us))) = H1 at tab k1 ⊢
    refine ⟨Nat.zero_le _, fun kn nk => ?_⟩
    have k2 : Kp M0 H1 (upd H1 kn (.lst [])) := Kp.new nk
    have eb1 := k1 _ _ (fun z => z) eb
    have ek : (upd H1 kn (.lst [])) kn = some (.lst []) := upd_same
    have nkH := nk
    generalize upd H1 kn (.lst []) = H2 at k2 ek ⊢
    refine ⟨_, rfl, b, _, 0, .str s0, rfl, rfl, SqT.of (k2 _ _ (fun z => z) eb1), atI_nat (j := 0) rfl, by show 2 ≤ sizeLine; decide, fun p0 np0 => ?_⟩
    refine ⟨by show 1 ≤ sizeLine; decide, fun wt nw => ?_⟩
    have wnt := nw
    have wH2 : H2 wt = none := none_upd nw
    have wH1 : H1 wt = none := by
      cases z : H1 wt with
      | none => rfl
      | some u =>
        have z2 := k2 wt u (fun z => z) z
        rw [wH2] at z2
        cases z2
    have nkw : kn ≠ wt := ne_of_none ek wH2
    have bf := hB.few
    have wput : ∀ {H3 : Hp} {o : HO} {ys : List V}, H3 wt = some (.lst ys) → ∀ {as : List V} {ds : List D}, Rps H3 as ds → Rps (upd H3 wt o) as ds := fun e _ _ r => r.keep (M := fun b => b = wt) (Kp.put rfl) fun a xs m e2 => by
      rw [m, e] at e2
      cases e2
    have fput : ∀ {H3 : Hp} {o : HO} {ys : List V}, H3 kn = some (.lst ys) → ∀ {as : List V} {ds : List D}, Rps H3 as ds → Rps (upd H3 kn o) as ds := fun e _ _ r => r.keep (M := fun b => b = kn) (Kp.put rfl) fun a xs m e2 => by
      rw [m, e] at e2
      cases e2
    have kput : ∀ {H3 : Hp} {p : Addr} {o : HO}, H1 p = none → Kp M0 H1 H3 → Kp M0 H1 (upd H3 p o) := fun n k b o nb e => by
      rw [upd_ne (ne_of_none e n)]
      exact k b o nb e
    have tabK : ∀ {H5 : Hp}, Kp M0 H1 H5 → TabAt H5 d bs := fun k => by
      obtain ⟨us, a1, a2, a3⟩ := tab
      exact ⟨us, k _ _ (fun z => z) a1, a2, fun i u x c1 c2 => (a3 i u x c1 c2).keep k (noT _)⟩
    refine ⟨fun n σ H4 => ∃ (ks : List Str) (gs : List Fo) (vs : List V) (y4 : Option V), σ = [some (.ref b), some (.ref d), some (.ref kn), some (.ref wt), y4] ∧ n = (bs.length - ks.length) * 100001 + Fo.sizes gs ∧ H4 kn = some (.lst (ks.map V.str)) ∧ H4 wt = some (.lst vs) ∧ Rps H4 vs (Fo.encs gs) ∧ LL bs s0 ks gs ∧ Kp M0 H1 H4 ∧
      (bs.length - ks.length) * 100001 + Fo.sizes gs ≤ 6100000, ⟨_, [], [.named s0], [.ref p0], none, rfl, rfl, ?_, upd_same, ?_, ?_, kput wH1 (k2.trans (Kp.new np0)), ?_⟩, ?_⟩
    · rw [upd_ne nkw, upd_ne (ne_of_none ek np0)]
      exact ek
    · refine .cons (.tup (a := p0) (vs := [.str "named", .str s0]) ?_ (.cons (.str (by decide)) (.cons (.str ?_) .nil))) .nil
      · rw [upd_ne (ne_of_none (upd_same (H := H2) (a := p0)) nw)]
        exact upd_same
      · exact Nat.le_of_lt (small1000 (hB.len s0 hB.st))
    · exact ⟨⟨hB.st, True.intro⟩, fun g m => by rw [List.mem_singleton.mp m]; show 1 ≤ 100000; decide, List.nodup_nil, (fun x m => nomatch m), (fun x m => nomatch m), fun x m => (by
        rcases m with m | m
        · rw [← (show s0 = x from m)]
          exact .start
        · exact m.elim), .inr (.inl rfl), (fun m h => nomatch h)⟩
    · simp only [Fo.sizes, Fo.size, List.length_nil]
      omega
    rintro n σ H4 ⟨ks, gs, vs, y4, rfl, rfl, ek4, ew4, rp4, ll, k4, few⟩
    have mf := met_few ll.nd ll.inn
    rw [List.length_map] at mf
    refine ⟨_, rfl, Nat.zero_le _, fun p5 n5 => ?_⟩
    have nH : ∀ {a : Addr} {u : HO}, H4 a = some u → upd H4 p5 (.lst []) a = some u := fun e => by rw [upd_ne (ne_of_none e n5)]; exact e
    refine ⟨wt, p5, vs, rfl, rfl, nH ew4, upd_same, _, rfl, ?_⟩
    have ek5 := nH ek4
    have ew5 := nH ew4
    have rp5 := rp4.keep (Kp.new (M := M0) (o := .lst []) n5) (noT _)
    have k5 : Kp M0 H1 (upd H4 p5 (.lst [])) := k4.trans (Kp.new n5)
    generalize upd H4 p5 (.lst []) = H5 at ek5 ew5 rp5 k5 ⊢
    cases gs with
    | nil =>
      cases rp5
      refine iteF ?_
      refine ⟨_, rfl, kn, ks, rfl, SqL.of ek5, by omega, fun ys l pl st nl => ⟨l, ys.map V.str, rfl, .inl ⟨SqL.of upd_same, fun l2 nl2 => ?_⟩⟩⟩
      refine q ys l2 _ st (pl.nodup_iff.mpr ll.nd) (fun x => ?_) upd_same (k1.trans (k5.trans ((Kp.new nl).trans (Kp.new nl2))))
      rw [pl.mem_iff]
      exact ⟨ll.rk x, fun r => reach_in (ll.st.elim id fun z => z.elim) (fun m hm f hf x hx => (ll.cl m hm f hf x hx).elim id fun z => z.elim) r⟩
    | cons g gs =>
      cases rp5 with
      | @cons u _ vs _ ru rvs =>
        refine iteT ?_
        have gok : g.ok (bs.map (·.1)) := ll.og.1
        have gsz : g.size ≤ 100000 := ll.sz g (List.mem_cons_self ..)
        have gs1 := g.size_pos
        refine ⟨fun σ' H' => ∃ (ks2 : List Str) (gs2 : List Fo) (vs2 : List V) (y4 : Option V), σ' = [some (.ref b), some (.ref d), some (.ref kn), some (.ref wt), y4] ∧ (bs.length - ks2.length) * 100001 + Fo.sizes gs2 < (bs.length - ks.length) * 100001 + Fo.sizes (g :: gs) ∧ H' kn = some (.lst (ks2.map V.str)) ∧ H' wt = some (.lst vs2) ∧ Rps H' vs2 (Fo.encs gs2) ∧ LL bs s0 ks2 gs2 ∧ Kp M0 H1 H' ∧
          (bs.length - ks2.length) * 100001 + Fo.sizes gs2 ≤ 6100000, fun σ' H' ⟨a, b, c, e, e1, e2, e3⟩ => ⟨_, e2, a, b, c, e, e1, rfl, e3⟩, ?_⟩
        simp only [Fo.sizes] at few ⊢
        refine ⟨_, rfl, .inl ⟨rfl, _, SqL.of ew5⟩, wt, _, 0, 0, u, rfl, rfl, ew5, by decide, by decide, ?_, rfl, ?_⟩
        · unfold seqIndex?
          simp
        have ek6 : upd H5 wt (.lst vs) kn = some (.lst (ks.map V.str)) := by rw [upd_ne nkw]; exact ek5
        have ew6 : upd H5 wt (.lst vs) wt = some (.lst vs) := upd_same
        have ru6 := wput (o := .lst vs) ew5 (.cons ru .nil)
        have rv6 := wput (o := .lst vs) ew5 rvs
        have k6 := kput (o := .lst vs) wH1 k5
        show (fun _ _ => _) _ (upd H5 wt (.lst vs))
        generalize upd H5 wt (.lst vs) = H6 at ek6 ew6 ru6 rv6 k6 ⊢
        cases ru6 with
        | cons ru6 _ =>
          obtain ⟨ds, ewd⟩ := enc_word g
          have rw6 := ru6
          rw [ewd] at rw6
          cases rw6 with
          | @tup a vs3 _ ea rc =>
            cases rc with
            | cons c1 c2 =>
              cases c1
              refine ⟨_, rfl, a, _, 0, .str _, rfl, rfl, SqT.of ea, atI_nat (j := 0) rfl, rfl, _, rfl, ?_⟩
              by_cases hw : g.word = "named"
              · obtain ⟨x, rfl⟩ := word_named gok hw
                cases ewd
                cases c2 with
                | cons c3 c4 =>
                  cases c3
                  cases c4
                  refine iteT' (decide_eq_true rfl) ?_
                  refine ⟨_, rfl, a, _, 1, .str x, rfl, rfl, SqT.of ea, atI_nat (j := 1) rfl, _, rfl, kn, _, rfl, .inl (SqL.of ek6), rfl, flat_strs ks, _, rfl, ?_⟩
                  by_cases hx : x ∈ ks
                  · refine iteF' (b := !inV (.str x) (ks.map V.str)) (by rw [inV_strs, decide_eq_true hx]; rfl) ?_
                    have ll2 := ll.go (fun y e => by cases e; exact hx)
                    refine ⟨_, rfl, .inl ⟨rfl, _, SqL.of ew6⟩, _, rfl, _, (.named x : Fo), rfl, ru6, gok, gsz, fun ws l H9 nl el rl k9 => ?_⟩
                    have wl := rl.len
                    rw [encs_map, List.length_map] at wl
                    have vl := Rps.len rv6
                    rw [encs_map, List.length_map] at vl
                    have s1 := sizes_len (Fo.inner (.named x : Fo))
                    have s2 := sizes_len (gs)
                    have s3 := Fo.inner_size (.named x : Fo)
                    try simp only [Fo.sizes_app, Fo.sizes, List.length_append, List.length_singleton] at vl s2
                    refine ⟨wt, l, _, _, rfl, rfl, k9 _ _ (fun z => z) ew6, el, by (try simp only [List.length_append, List.length_singleton]); rw [sizeLine_eq]; omega, ?_⟩
                    refine ⟨ks, gs ++ Fo.inner (.named x : Fo), _, _, rfl, ?_, ?_, upd_same, ?_, ll2, ?_, ?_⟩
                    · simp only [Fo.sizes_app, Fo.sizes, Fo.inner, Fo.size, List.length_append, List.length_singleton] at few s3 ⊢
                      omega
                    · rw [upd_ne nkw]
                      exact k9 _ _ (fun z => z) ek6
                    · rw [encs_app]
                      exact wput (k9 _ _ (fun z => z) ew6) ((Rps.keep k9 (noT _) rv6).app rl)
                    · exact kput wH1 (Kp.trans k6 k9)
                    · simp only [Fo.sizes_app, Fo.sizes, Fo.inner, Fo.size, List.length_append, List.length_singleton] at few s3 ⊢
                      omega
                  · refine iteT' (b := !inV (.str x) (ks.map V.str)) (by rw [inV_strs, decide_eq_false hx]; rfl) ?_
                    have nk1 : H1 kn = none := nk
                    have nd2 : (ks ++ [x]).Nodup := by
                      rw [List.nodup_append]
                      exact ⟨ll.nd, by simp, fun a ha c hc e => hx ((List.mem_singleton.mp hc) ▸ e ▸ ha)⟩
                    have mf2 := met_few nd2 (ns := bs.map (·.1)) fun z m => by
                      rcases List.mem_append.mp m with m | m
                      · exact ll.inn z m
                      · rw [List.mem_singleton.mp m]
                        exact gok
                    rw [List.length_map, List.length_append, List.length_singleton] at mf2
                    refine ⟨_, rfl, .inl ⟨rfl, _, SqL.of ek6⟩, _, rfl, a, _, 1, .str x, rfl, rfl, SqT.of ea, atI_nat (j := 1) rfl, kn, _, _, rfl, rfl, ek6, by rw [List.length_map, sizeLine_eq]; omega, ?_⟩
                    have ea7 : upd H6 kn (.lst (ks.map V.str ++ [.str x])) a = some (.tup [.str "named", .str x]) := by
                      rw [upd_ne (fun z => by rw [z, ek6] at ea; cases ea)]
                      exact ea
                    have ek7 : upd H6 kn (.lst (ks.map V.str ++ [.str x])) kn = some (.lst ((ks ++ [x]).map V.str)) := by
                      rw [upd_same, List.map_append]
                      rfl
                    have ew7 : upd H6 kn (.lst (ks.map V.str ++ [.str x])) wt = some (.lst vs) := by rw [upd_ne nkw.symm]; exact ew6
                    have rv7 := fput (o := .lst (ks.map V.str ++ [.str x])) ek6 rv6
                    have ru7 := fput (o := .lst (ks.map V.str ++ [.str x])) ek6 (.cons ru6 .nil)
                    have k7 := kput (o := .lst (ks.map V.str ++ [.str x])) nk1 k6
                    generalize upd H6 kn (.lst (ks.map V.str ++ [.str x])) = H7 at ea7 ek7 ew7 rv7 ru7 k7 ⊢
                    obtain ⟨u2, f2, hg, hbf, ru2⟩ := tab_get (tabK k7) gok
                    have lv := rv7.len
                    rw [encs_map, List.length_map] at lv
                    have sl := sizes_len gs
                    refine ⟨_, rfl, .inl ⟨rfl, _, SqL.of ew7⟩, _, rfl, _, rfl, a, _, 1, .str x, rfl, rfl, SqT.of ea7, atI_nat (j := 1) rfl, d, u2, rfl, hg, wt, _, _, rfl, rfl, ew7, by rw [sizeLine_eq]; omega, ?_⟩
                    have ek8 : upd H7 wt (.lst (vs ++ [u2])) kn = some (.lst ((ks ++ [x]).map V.str)) := by rw [upd_ne nkw]; exact ek7
                    have ew8 : upd H7 wt (.lst (vs ++ [u2])) wt = some (.lst (vs ++ [u2])) := upd_same
                    have rv8 : Rps (upd H7 wt (.lst (vs ++ [u2]))) (vs ++ [u2]) (Fo.encs (gs ++ [f2])) := by
                      rw [encs_app]
                      exact wput ew7 (rv7.app (.cons ru2 .nil))
                    have ru8 := wput (o := .lst (vs ++ [u2])) ew7 ru7
                    have k8 := kput (o := .lst (vs ++ [u2])) wH1 k7
                    generalize upd H7 wt (.lst (vs ++ [u2])) = H8 at ek8 ew8 rv8 ru8 k8 ⊢
                    have fsz := (hB.ok x f2 hbf).2
                    have ll2 := (LL.add hB ll hx hbf).go (fun y e => by cases e; exact List.mem_append_right _ (List.mem_singleton.mpr rfl))
                    cases ru8 with
                    | cons ru8 _ =>
                      refine ⟨_, rfl, .inl ⟨rfl, _, SqL.of ew8⟩, _, rfl, _, (.named x : Fo), rfl, ru8, gok, gsz, fun ws l H9 nl el rl k9 => ?_⟩
                      have wl := rl.len
                      rw [encs_map, List.length_map] at wl
                      have vl := Rps.len rv8
                      rw [encs_map, List.length_map] at vl
                      have s1 := sizes_len (Fo.inner (.named x : Fo))
                      have s2 := sizes_len ((gs ++ [f2]))
                      have s3 := Fo.inner_size (.named x : Fo)
                      try simp only [Fo.sizes_app, Fo.sizes, List.length_append, List.length_singleton] at vl s2
                      refine ⟨wt, l, _, _, rfl, rfl, k9 _ _ (fun z => z) ew8, el, by (try simp only [List.length_append, List.length_singleton]); rw [sizeLine_eq]; omega, ?_⟩
                      refine ⟨(ks ++ [x]), (gs ++ [f2]) ++ Fo.inner (.named x : Fo), _, _, rfl, ?_, ?_, upd_same, ?_, ll2, ?_, ?_⟩
                      · simp only [Fo.sizes_app, Fo.sizes, Fo.inner, Fo.size, List.length_append, List.length_singleton] at few s3 ⊢
                        omega
                      · rw [upd_ne nkw]
                        exact k9 _ _ (fun z => z) ek8
                      · rw [encs_app]
                        exact wput (k9 _ _ (fun z => z) ew8) ((Rps.keep k9 (noT _) rv8).app rl)
                      · exact kput wH1 (Kp.trans k8 k9)
                      · simp only [Fo.sizes_app, Fo.sizes, Fo.inner, Fo.size, List.length_append, List.length_singleton] at few s3 ⊢
                        have h1 : (bs.length - (ks.length + 1)) * 100001 + 100001 ≤ (bs.length - ks.length) * 100001 := by
                          have e1 : bs.length - ks.length = (bs.length - (ks.length + 1)) + 1 := by omega
                          rw [e1, Nat.add_mul, Nat.one_mul]
                          exact Nat.le_refl _
                        exact fit (a := Fo.sizes gs) (c := f2.size) h1 few fsz
              · refine iteF' (decide_eq_false fun z => hw (V.str.inj z)) ?_
                refine iteF ?_
                have ll2 := ll.go (fun y e => absurd (by rw [e]; rfl) hw)
                refine ⟨_, rfl, .inl ⟨rfl, _, SqL.of ew6⟩, _, rfl, _, g, rfl, ru6, gok, gsz, fun ws l H9 nl el rl k9 => ?_⟩
                have wl := rl.len
                rw [encs_map, List.length_map] at wl
                have vl := Rps.len rv6
                rw [encs_map, List.length_map] at vl
                have s1 := sizes_len (Fo.inner g)
                have s2 := sizes_len (gs)
                have s3 := Fo.inner_size g
                try simp only [Fo.sizes_app, Fo.sizes, List.length_append, List.length_singleton] at vl s2
                refine ⟨wt, l, _, _, rfl, rfl, k9 _ _ (fun z => z) ew6, el, by (try simp only [List.length_append, List.length_singleton]); rw [sizeLine_eq]; omega, ?_⟩
                refine ⟨ks, gs ++ Fo.inner g, _, _, rfl, ?_, ?_, upd_same, ?_, ll2, ?_, ?_⟩
                · simp only [Fo.sizes_app, Fo.sizes, Fo.inner, Fo.size, List.length_append, List.length_singleton] at few s3 ⊢
                  omega
                · rw [upd_ne nkw]
                  exact k9 _ _ (fun z => z) ek6
                · rw [encs_app]
                  exact wput (k9 _ _ (fun z => z) ew6) ((Rps.keep k9 (noT _) rv6).app rl)
                · exact kput wH1 (Kp.trans k6 k9)
                · simp only [Fo.sizes_app, Fo.sizes, Fo.inner, Fo.size, List.length_append, List.length_singleton] at few s3 ⊢
                  omega
end
end RT

/-! frames, once more; forms that are drawn -/
namespace RT
open PySem PySem.Spec PyProof.Rows L2
theorem none_back {M : Addr → Prop} {H H1 : Hp} {p : Addr} (k : Kp M H H1) (hp : ¬ M p) (n : H1 p = none) : H p = none := by
  cases z : H p with
  | none => rfl
  | some u =>
    have q := k p u hp z
    rw [n] at q
    cases q
theorem Kp.own {M : Addr → Prop} {H H1 : Hp} {p : Addr} {o : HO} (k : Kp M H H1) (n : H p = none) : Kp M H (upd H1 p o) := fun b u hb e => by
  rw [upd_ne (ne_of_none e n)]
  exact k b u hb e
theorem Pot.off {H : Hp} {pd po p : Addr} {t : Nat} {ex : Ex} {o : HO} (P : Pot H pd po t ex) (h : ¬ PM pd po p) : Pot (upd H p o) pd po t ex :=
  P.keep (M := fun b => b = p) (Kp.put rfl) (fun e => h (.inl e.symm)) (fun e => h (.inr e.symm))
theorem Pot.noT {H : Hp} {pd po : Addr} {t : Nat} {ex : Ex} (P : Pot H pd po t ex) : ∀ a xs, PM pd po a → H a ≠ some (.tup xs) := no_tup_pot P
theorem noT0 {H : Hp} : ∀ (a : Addr) xs, M0 a → H a ≠ some (.tup xs) := fun _ _ z => z.elim
/-- over a list, numbered -/
theorem lc_enum {K : PySem.W.Frag} {a : Addr} {xs : List V} {g : TG} {tt : TT} {te : TE} {vs : List Nat} {σ : L2.St} {H1 : Hp} {D : Addr} {Qd : Hp → Prop} (Pv : Nat → Hp → Prop) (h0 : Pv 0 (upd H1 D (.lst []))) (hl : ∀ i H, i ≤ xs.length → Pv i H → SqL K H a xs)
    (hs : ∀ i x H T, xs[i]? = some x → Pv i H → H T = none → g (.ref T) (wipe σ vs) (upd H T (.tup [.int (i : Nat), x])) fun σ2 H2 => wipe σ2 vs = wipe σ vs ∧ tt σ2 H2 fun b H3 =>
      if b = true then te σ2 H3 fun y H4 => ∃ acc, H4 D = some (.lst acc) ∧ acc.length < sizeLine ∧ Pv (i + 1) (upd H4 D (.lst (acc ++ [y]))) else Pv (i + 1) H3) (hd : ∀ H, Pv xs.length H → Qd H) :
    ∃ W : Nat → Nat → Hp → Prop, (∃ m, W 0 m (upd H1 D (.lst []))) ∧ ∀ i m H, W i m H →
      ((Ite K a).stop i H ∧ Qd H) ∨ ((Ite K a).go i H ∧ ∃ Nx : Hp → Prop, (∀ H', Nx H' → ∃ m', m' < m ∧ W (i + 1) m' H') ∧ ∀ x H', (Ite K a).yld i H x H' → g x (wipe σ vs) H' fun σ2 H2 => wipe σ2 vs = wipe σ vs ∧ tt σ2 H2 fun b H3 =>
        if b = true then te σ2 H3 fun y H4 => ∃ acc, H4 D = some (.lst acc) ∧ acc.length < sizeLine ∧ Nx (upd H4 D (.lst (acc ++ [y]))) else Nx H3) := by
  refine ⟨fun i m H => m = xs.length - i ∧ i ≤ xs.length ∧ Pv i H, ⟨xs.length, by simp, Nat.zero_le _, h0⟩, ?_⟩
  rintro i m H ⟨rfl, hi, p⟩
  have q := hl i H hi p
  by_cases hlt : i < xs.length
  · refine .inr ⟨⟨xs, xs[i], q, by simp [hlt]⟩, Pv (i + 1), fun H' p' => ⟨xs.length - (i + 1), by omega, rfl, hlt, p'⟩, fun x H' y => ?_⟩
    obtain ⟨T, x', rfl, nT, rfl, y⟩ := y
    exact hs i x' H T (y xs q) p nT
  · have e : i = xs.length := by omega
    subst e
    exact .inl ⟨⟨xs, q, Nat.le_refl _⟩, hd H p⟩
theorem metK_putIn {ms : List Str} {x : Str} (h : x ∈ ms) : putK (metK ms) (.inr x) (.bl true) = metK ms := by
  unfold putK
  rw [if_pos]
  · unfold metK
    rw [List.map_map]
    refine List.map_congr_left fun a _ => ?_
    show (if (Sum.inr a : Key) = .inr x then ((Sum.inr a : Key), V.bl true) else (Sum.inr a, V.bl true)) = _
    split <;> rfl
  · rw [List.any_eq_true]
    exact ⟨(.inr x, .bl true), List.mem_map.mpr ⟨x, h, rfl⟩, decide_eq_true rfl⟩
theorem metK_some (ms : List Str) (x : Str) : ∃ ns : List Str, putK (metK ms) (.inr x) (.bl true) = metK ns ∧ ns.length ≤ ms.length + 1 ∧ ∀ z ∈ ns, z ∈ ms ∨ z = x := by
  by_cases h : x ∈ ms
  · exact ⟨ms, metK_putIn h, Nat.le_succ _, fun z hz => .inl hz⟩
  · exact ⟨ms ++ [x], metK_put h, by rw [List.length_append]; exact Nat.le_refl _, fun z hz => (List.mem_append.mp hz).imp id List.mem_singleton.mp⟩
/-- a text or a number, whatever the heap -/
def Sm (v : V) : Prop := (∃ z : Str, v = .str z ∧ z.length ≤ 1000) ∨ ∃ i : Int, v = .int i
theorem Sm.rp {H : Hp} {v : V} (h : Sm v) : ∃ d, Rp H v d := by
  rcases h with ⟨z, rfl, l⟩ | ⟨i, rfl⟩
  · exact ⟨_, .str (Nat.le_of_lt (small1000 l))⟩
  · exact ⟨_, .int⟩
theorem Rps.pairs {H : Hp} {xs ys : List V} (hx : ∀ x ∈ xs, Sm x) (hy : ∀ y ∈ ys, ∃ d, Rp H y d) : ∀ {ps : List Addr} (n : Nat), (∀ (j : Nat) (p : Addr), ps[j]? = some p → ∃ x y, xs[n + j]? = some x ∧ ys[n + j]? = some y ∧ H p = some (.tup [x, y])) → ∃ ds, Rps H (ps.map V.ref) ds
  | [], _, _ => ⟨[], .nil⟩
  | p :: ps, n, h => by
    obtain ⟨x, y, e1, e2, e3⟩ := h 0 p rfl
    obtain ⟨d1, r1⟩ := (hx x (List.mem_of_getElem? e1)).rp (H := H)
    obtain ⟨d2, r2⟩ := hy y (List.mem_of_getElem? e2)
    obtain ⟨ds, r⟩ := Rps.pairs hx hy (ps := ps) (n + 1) fun j p hj => by
      have z := h (j + 1) p (by simpa using hj)
      rw [show n + (j + 1) = n + 1 + j by omega] at z
      exact z
    exact ⟨.tup [d1, d2] :: ds, .cons (.tup e3 (.cons r1 (.cons r2 .nil))) r⟩
/-- room, told, signs of the pot: got and put -/
theorem Pot.x {H : Hp} {pd po : Addr} {t : Nat} {r o g : Int} (P : Pot H pd po t (some (r, o, g))) :
    (DGet H pd (.str "room") (some (.int r)) ∧ DGet H pd (.str "told") (some (.int o)) ∧ DGet H pd (.str "signs") (some (.int g))) ∧
    (∀ r' : Int, ∃ H', DPut H pd (.str "room") (.int r') H' ∧ Pot H' pd po t (some (r', o, g)) ∧ Kp (PM pd po) H H') ∧
    (∀ o' : Int, ∃ H', DPut H pd (.str "told") (.int o') H' ∧ Pot H' pd po t (some (r, o', g)) ∧ Kp (PM pd po) H H') ∧
    (∀ g' : Int, ∃ H', DPut H pd (.str "signs") (.int g') H' ∧ Pot H' pd po t (some (r, o, g')) ∧ Kp (PM pd po) H H') := by
  obtain ⟨s, ns, E⟩ := P.e
  have room : (6 : Nat) < sizeLine := by decide
  have put : ∀ ex, Pot (upd H pd (potD po s t ex)) pd po t ex := fun ex => ⟨⟨s, E.s0, E.s1, upd_same⟩, ns, E.len, E.nn, by rw [upd_ne E.ne.symm]; exact E.o⟩
  refine ⟨⟨DGet.k (k := .inr "room") E.d, DGet.k (k := .inr "told") E.d, DGet.k (k := .inr "signs") E.d⟩, fun r' => ?_, fun o' => ?_, fun g' => ?_⟩
  · exact ⟨_, DPut.k (k := .inr "room") E.d room, put (some (r', o, g)), Kp.put (.inl rfl)⟩
  · exact ⟨_, DPut.k (k := .inr "told") E.d room, put (some (r, o', g)), Kp.put (.inl rfl)⟩
  · exact ⟨_, DPut.k (k := .inr "signs") E.d room, put (some (r, o, g')), Kp.put (.inl rfl)⟩
/-- .. put for the first time -/
theorem Pot.xs {H : Hp} {pd po : Addr} {t : Nat} (P : Pot H pd po t none) (r o g : Int) :
    ∃ H1 H2 H3, DPut H pd (.str "room") (.int r) H1 ∧ DPut H1 pd (.str "told") (.int o) H2 ∧ DPut H2 pd (.str "signs") (.int g) H3 ∧ Pot H3 pd po t (some (r, o, g)) ∧ Kp (PM pd po) H H1 ∧ Kp (PM pd po) H1 H2 ∧ Kp (PM pd po) H2 H3 := by
  obtain ⟨s, ns, E⟩ := P.e
  have room : ∀ n, n ≤ 6 → n < sizeLine := fun n h => by rw [sizeLine_eq]; omega
  refine ⟨_, _, _, DPut.k (k := .inr "room") E.d (room 3 (by decide)), DPut.k (k := .inr "told") upd_same (room 4 (by decide)), DPut.k (k := .inr "signs") upd_same (room 5 (by decide)), ⟨⟨s, E.s0, E.s1, upd_same⟩, ns, E.len, E.nn, ?_⟩, Kp.put (.inl rfl), Kp.put (.inl rfl), Kp.put (.inl rfl)⟩
  rw [upd_ne E.ne.symm, upd_ne E.ne.symm, upd_ne E.ne.symm]
  exact E.o
/-- what the words for forms tell: a form, ready made -/
def FormQ (N : List Str) (pd po : Addr) (t T B : Nat) (H : Hp) (Q : VK) : Prop := ∀ (v : V) (f : Fo) (H' : Hp) (t' : Nat) (r' o' g' : Int), t' ≤ t + T → Rp H' v f.enc → f.ok N → f.size ≤ B → Pot H' pd po t' (some (r', o', g')) → Kp (PM pd po) H H' → Q v H'
theorem FormQ.leaf {N : List Str} {pd po : Addr} {t T B : Nat} {H H1 : Hp} {Q : VK} (q : FormQ N pd po t T B H Q) (hB : 1 ≤ B) {t1 : Nat} {r o g : Int} (ht : t1 ≤ t + T) {w : Str} (hw : w ∈ ([("text" : Str), "sign", "word", "number", "pick"] : List Str)) {vs : List V} {ds : List D} {p : Addr} (np : H1 p = none) (hr : Rps H1 vs ds) (hP : Pot H1 pd po t1 (some (r, o, g))) (k : Kp (PM pd po) H H1) :
    Q (.ref p) (upd H1 p (.tup (.str w :: vs))) := by
  have k1 : Kp M0 H1 (upd H1 p (.tup (.str w :: vs))) := Kp.new np
  refine q _ (.leaf w ds) _ t1 r o g ht (.tup (vs := .str w :: vs) upd_same (.cons (.str ?_) (hr.keep k1 noT0))) hw hB (hP.new np) (k.trans (Kp.new np))
  simp only [List.mem_cons, List.not_mem_nil, or_false] at hw
  rcases hw with rfl | rfl | rfl | rfl | rfl <;> decide
theorem FormQ.one {N : List Str} {pd po : Addr} {t T B : Nat} {H H1 : Hp} {Q : VK} (q : FormQ N pd po t T B H Q) {t1 : Nat} {r o g : Int} (ht : t1 ≤ t + T) {w : Str} (hw : w ∈ ([("skip" : Str), "spelt", "turned"] : List Str)) {v : V} {f : Fo} {vs : List V} {ds : List D} {p : Addr} (np : H1 p = none) (hv : Rp H1 v f.enc) (hf : f.ok N) (hB : 1 + f.size ≤ B) (hr : Rps H1 vs ds) (hP : Pot H1 pd po t1 (some (r, o, g))) (k : Kp (PM pd po) H H1) :
    Q (.ref p) (upd H1 p (.tup (.str w :: v :: vs))) := by
  have k1 : Kp M0 H1 (upd H1 p (.tup (.str w :: v :: vs))) := Kp.new np
  refine q _ (.one w f ds) _ t1 r o g ht (.tup (vs := .str w :: v :: vs) upd_same (.cons (.str ?_) (.cons (hv.keep k1 noT0) (hr.keep k1 noT0)))) ⟨hw, hf⟩ hB (hP.new np) (k.trans (Kp.new np))
  simp only [List.mem_cons, List.not_mem_nil, or_false] at hw
  rcases hw with rfl | rfl | rfl <;> decide
theorem FormQ.then {N : List Str} {pd po : Addr} {t t1 T T1 B B1 : Nat} {H H1 : Hp} {Q : VK} (q : FormQ N pd po t T B H Q) (ht : t1 + T1 ≤ t + T) (hB : B1 ≤ B) (k : Kp (PM pd po) H H1) : FormQ N pd po t1 T1 B1 H1 Q :=
  fun v f H' t' r' o' g' h1 h2 h3 h4 h5 h6 => q v f H' t' r' o' g' (Nat.le_trans h1 ht) h2 h3 (Nat.le_trans h4 hB) h5 (k.trans h6)
end RT

namespace RT
open PySem PySem.Spec PyProof.Rows L2
abbrev sPf : Stmt := topS 16
theorem scPf : FnScope ["_law_pot_here", "_law_short", "_law_texts", "_law_many", "_law_end", "_law_k", "_law_things", "_law_ways", "_law_j", "_law_one"] ["_law_pot_here", "_law_short"] (defScope sPf) := ⟨rfl, rfl, rfl, by decide +kernel, rfl, by decide +kernel, by decide +kernel⟩
/-- a text of one sign -/
def Chr1 (v : V) : Prop := ∃ c : Nat, v = .str ⟨#[c]⟩
section
variable {P : Program} {w : World} {K : PySem.W.Frag} {mg : Str → Option Value} {base : Heap}
def spPf : Sp := fun vs H Q _ => ∃ (pd po : Addr) (t : Nat) (ex : Ex) (b : Bool), vs = [.ref pd, .bl b] ∧ Pot H pd po t ex ∧ t < 2 ^ 46 ∧
  ∀ (l : Addr) (ds : List D) (H' : Hp) (t' : Nat), t' ≤ t + 60 → Rp H' (.ref l) (.tup (.str "pick" :: ds)) → Pot H' pd po t' ex → Kp (PM pd po) H H' → Q (.ref l) H'
theorem ok_pf {f fn fk fz fs : Addr} {fd fdn fdk fdz fds : FuncData} {k : Nat} (F : Fun K "_law_pick_form" "_law_pick_form" sPf f fd)
    (GN : FnOk P w K mg base CX0 k fn fdn ["_law_pot_here", "_law_many"] spNext) (kn : PySem.W.keepIn K (.ref fn) = true) (bn : Binds K fdn ["_law_pot_here", "_law_many"] []) (gn : mg "_law_next" = some (.ref fn))
    (GK : FnOk P w K mg base CX0 k fk fdk ["_law_pot_here", "_law_some"] (spPick K)) (kk : PySem.W.keepIn K (.ref fk) = true) (bk : Binds K fdk ["_law_pot_here", "_law_some"] []) (gk : mg "_law_pick" = some (.ref fk))
    (GZ : FnOk P w K mg base CX0 k fz fdz ["_law_pot_here", "_law_few", "_law_most"] spSize) (kz : PySem.W.keepIn K (.ref fz) = true) (bz : Binds K fdz ["_law_pot_here", "_law_few", "_law_most"] []) (gz : mg "_law_size" = some (.ref fz))
    (GS : FnOk P w K mg base CX0 k fs fds [] spSigns) (ks : PySem.W.keepIn K (.ref fs) = true) (bs : Binds K fds [] []) (gs : mg "_law_signs" = some (.ref fs))
    (mr : mg "range" = none) (ml : mg "len" = none) (mint : mg "int" = none) (mli : mg "list" = none) (mzi : mg "zip" = none) (mtu : mg "tuple" = none) (men : mg "enumerate" = none) :
    FnOk P w K mg base CX0 (k + 1) f fd ["_law_pot_here", "_law_short"] spPf := by
  refine F.ok scPf (fun vs H Q E h => ?_) (fun cdv A outer s H vs Q E hr h => ?_)
  · obtain ⟨pd, po, t, ex, b, rfl, _⟩ := h
    rfl
  · obtain ⟨pd, po, t, ex, b, rfl, hP, ht, q⟩ := h
    have h46 : (2 : Nat) ^ 46 = 70368744177664 := by decide
    have h49 : (2 : Nat) ^ 49 = 562949953421312 := by decide
    have h50 : (2 : Nat) ^ 50 = 1125899906842624 := by decide
    refine ⟨_, (pss_cons (ps_set (i := 2) scPf.nd rfl (.inl rfl) pe_dnewK)
      (pss_cons (ps_set (i := 3) scPf.nd rfl (.inl rfl) (pe_op op_add pe_int (pe_call GZ hr (by rfl) gz kz bz .nil pass0 (pa_cons (pv 0) (pa_cons pe_int (pa_cons pe_int pa_nil))))))
      (pss_cons (ps_set (i := 4) scPf.nd rfl (.inl rfl) (pe_call GK hr (by rfl) gk kk bk .nil pass0 (pa_cons (pv 0) (pa_cons pe_str pa_nil))))
      (pss_cons (ps_for PassesOwn.never rfl (pi_range1 (by rfl) mr (pa_cons (pv 3) pa_nil)) (pg_name (i := 5) scPf.nd rfl (.inl rfl)) (pss_one (ps_dput (hu_of hr) (pv 2) (pe_op op_add_str (pe_join pe_str (pe_lc (own := [("_law_j", 8)]) (g := gName 8) (tt := tYes) rfl scPf.nd (pi_range1 (by rfl) mr (pa_cons (pe_call GN hr (by rfl) gn kn bn .nil pass0 (pa_cons (pv 0) (pa_cons pe_int pa_nil))) pa_nil)) (blkOk_by (N := ["_law_pot_here", "_law_short", "_law_texts", "_law_many", "_law_end", "_law_k", "_law_things", "_law_ways", "_law_j", "_law_one"]) (sc := defScope sPf) (by decide +kernel)) (fun _ _ _ _ _ => (pg_name (i := 8) scPf.nd rfl (.inl rfl))) (fun _ _ _ _ _ => pts_nil) (fun _ _ _ _ _ => (pe_call GK hr (by rfl) gk kk bk .nil pass0 (pa_cons (pv 0) (pa_cons pe_str pa_nil)))))) (pv 4)) pe_bl rfl)))
      (pss_cons (ps_setLc (i := 6) (own := [("_law_k", 5)]) (g := gName 5) (tt := tYes) rfl scPf.nd rfl rfl rfl (pi_range1 (by rfl) mr (pa_cons (pe_callB call_lenD (by rfl) ml PySem.boot_len (pa_cons (pv 2) pa_nil)) pa_nil)) (blkOk_by (N := ["_law_pot_here", "_law_short", "_law_texts", "_law_many", "_law_end", "_law_k", "_law_things", "_law_ways", "_law_j", "_law_one"]) (sc := defScope sPf) (by decide +kernel)) (fun _ _ _ _ _ => (pg_name (i := 5) scPf.nd rfl (.inl rfl))) (fun _ _ _ _ _ => pts_nil) (fun _ _ _ _ _ => (pe_ix ix_str (pe_call0 GS hr (by rfl) gs ks bs .nil pass0) (pe_op op_mod (pe_op op_add (pe_op op_mulW pe_int (pv 5)) pe_int) pe_int) (fun _ _ => rfl))))
      (pss_cons (ps_if (pt_not (pt_val (pv 1))) (pss_cons (ps_set (i := 7) scPf.nd rfl (.inr rfl) (pe_lc (own := [("_law_k", 5)]) (g := gName 5) (tt := tYes) rfl scPf.nd (pi_range1 (by rfl) mr (pa_cons (pe_callB call_len_seq (by rfl) ml PySem.boot_len (pa_cons (pv 6) pa_nil)) pa_nil)) (blkOk_by (N := ["_law_pot_here", "_law_short", "_law_texts", "_law_many", "_law_end", "_law_k", "_law_things", "_law_ways", "_law_j", "_law_one"]) (sc := defScope sPf) (by decide +kernel)) (fun _ _ _ _ _ => (pg_name (i := 5) scPf.nd rfl (.inl rfl))) (fun _ _ _ _ _ => pts_nil) (fun _ _ _ _ _ => (pe_ix (show IxR _ (rIxL K) from ix_list) (pe_lst (pa_cons pe_int (pa_cons pe_int (pa_cons pe_int (pa_cons (pe_op op_mulW pe_int (pe_callTy call_int1 (by rfl) mint (by decide +kernel) (pa_cons (pe_cmpR op_eq (pv 5) pe_int (nomark _)) pa_nil))) pa_nil))))) (pe_call GN hr (by rfl) gn kn bn .nil pass0 (pa_cons (pv 0) (pa_cons pe_int pa_nil))) (fun _ _ => rfl)))))
      (pss_one (ps_setLc (i := 6) (own := [("_law_k", 5), ("_law_one", 9)]) (g := gTup K 2 (gCons (gName 5) (gCons (gName 9) gNil))) (tt := tYes) rfl scPf.nd rfl rfl rfl (pi_enum (by rfl) men (pa_cons (pv 6) pa_nil)) (blkOk_by (N := ["_law_pot_here", "_law_short", "_law_texts", "_law_many", "_law_end", "_law_k", "_law_things", "_law_ways", "_law_j", "_law_one"]) (sc := defScope sPf) (by decide +kernel)) (fun _ _ _ _ _ => (pg_tup rfl (pgs_cons (pg_name (i := 5) scPf.nd rfl (.inl rfl)) (pgs_cons (pg_name (i := 9) scPf.nd rfl (.inl rfl)) pgs_nil)))) (fun _ _ _ _ _ => pts_nil) (fun _ _ _ _ _ => (pe_ix (show IxR _ (rIxL K) from ix_list) (pe_lst (pa_cons (pv 9) (pa_cons (pe_op op_add_str (pv 9) pe_str) (pa_cons (pv 5) (pa_cons pe_str pa_nil))))) (pe_ix (show IxR _ (rIxL K) from ix_list) (pv 7) (pv 5) (fun _ _ => rfl)) (fun _ _ => rfl)))))) pss_nil)
      (pss_one (ps_ret (pe_tup (pa_cons pe_str (pa_cons (pe_callTy call_tuple_of (by rfl) mtu (by decide +kernel) (pa_cons (pe_listZip (by rfl) (by rfl) mli (by rfl) mzi (pa_cons (pe_callTy (call_listD (by rfl)) (by rfl) mli (by decide +kernel) (pa_cons (pv 2) pa_nil)) (pa_cons (pv 6) pa_nil))) pa_nil)) pa_nil))))))))))), ?_⟩
    intro dt ndt
    have hP1 := hP.new (o := .dK []) ndt
    have hdt := off_pot hP ndt
    have k1 : Kp (PM pd po) H (upd H dt (.dK [])) := Kp.new ndt
    have e1 : upd H dt (.dK []) dt = some (.dK (metK [])) := upd_same
    generalize upd H dt (.dK []) = H1 at hP1 k1 e1 ⊢
    refine ⟨_, rfl, pd, po, t, 7, ex, 3, 7, rfl, hP1, by omega, by decide, by decide, by decide, by decide, by decide, fun d2 H2 t2 ht2 d2m hP2 k2 => ?_⟩
    refine ⟨_, _, rfl, rfl, ?_⟩
    have e2 := k2 dt _ hdt e1
    refine ⟨_, rfl, pd, po, t2, ex, _, Chr1, rfl, hP2, by omega, .inl ⟨_, rfl, by decide, by decide, fun c _ => ⟨c, rfl⟩⟩, fun v3 H3 t3 ht3 ⟨c3, ev3⟩ hP3 k3 => ?_⟩
    subst ev3
    have e3 := k3 dt _ hdt e2
    have k13 := (k1.trans k2).trans k3
    have fin : ∀ (σ : L2.St) (H9 : Hp) (t9 : Nat) (D9 : Addr) (zs : List Str) (vs : List V), σ[0]? = some (some (.ref pd)) → σ[2]? = some (some (.ref dt)) → σ[6]? = some (some (.ref D9)) → t9 ≤ t + 60 → Pot H9 pd po t9 ex → Kp (PM pd po) H H9 → H9 dt = some (.dK (metK zs)) → (∀ z ∈ zs, z.length ≤ 1000) → H9 D9 = some (.lst vs) → (∀ v ∈ vs, Sm v) →
        (tRet (tTup (tCons (tC (.str "pick")) (tCons (tCB (fun xs H Q => ∃ p ys, xs = [.ref p] ∧ ((SqL K H p ys ∧ ∀ l, H l = none → Q (.ref l) (upd H l (.tup ys))) ∨ (SqT K H p ys ∧ Q (.ref p) H))) (tCons (tLZ K (tCons (tCB (fun xs H Q => ∃ (a : Addr) (kvs : List (Key × V)), xs = [.ref a] ∧ Rd H a (.dK kvs) ∧ ∀ p, H p = none → Q (.ref p) (upd H p (.lst (kvs.map fun kv => kV kv.1)))) (tCons (tVar 2) tNil)) (tCons (tVar 6) tNil))) tNil)) tNil)))) { nx := fun _ H' => Q .non H', rt := Q } σ H9 := by
      intro σ H9 t9 D9 zs vs s0 s2 s6 ht9 hP9 k9 e9 hz eD hv
      refine ⟨_, s2, dt, metK zs, rfl, .inl e9, fun p np => ?_⟩
      have nD9 : D9 ≠ p := ne_of_none eD np
      refine ⟨_, s6, p, D9, _, vs, rfl, SqL.of upd_same, SqL.of (by rw [upd_ne nD9]; exact eD), fun H10 l ps k10 nl el lp hp => ?_⟩
      refine ⟨l, ps.map V.ref, rfl, .inl ⟨SqL.of el, fun a na => ?_⟩⟩
      refine ⟨by show 2 ≤ sizeLine; decide, fun r nr => ?_⟩
      have k11 : Kp M0 H9 H10 := (Kp.new np).trans k10
      obtain ⟨ds, hds⟩ := Rps.pairs (H := H10) (xs := (metK zs).map fun kv => kV kv.1) (ys := vs) (fun x hx => by
        unfold metK at hx
        rw [List.map_map] at hx
        obtain ⟨z, hz1, rfl⟩ := List.mem_map.mp hx
        exact .inl ⟨z, rfl, hz z hz1⟩) (fun y hy => (hv y hy).rp) (ps := ps) 0 (fun j p hj => by
          rw [Nat.zero_add]
          exact hp j p hj)
      have kA : Kp M0 H10 (upd (upd H10 a (.tup (ps.map V.ref))) r (.tup [.str "pick", .ref a])) := (Kp.new na).trans (Kp.new nr)
      refine q r [.tup ds] _ t9 ht9 (.tup (vs := [.str "pick", .ref a]) upd_same (.cons (.str (by decide)) (.cons (.tup (vs := ps.map V.ref) ?_ (hds.keep kA noT0)) .nil))) ?_ ?_
      · rw [upd_ne (ne_of_none upd_same nr)]
        exact upd_same
      · exact (hP9.keep k11 (fun z => z) (fun z => z)).keep kA (fun z => z) (fun z => z)
      · exact k9.trans ((k11.trans kA).mono fun b z => z.elim)
    -- the texts
    refine ⟨_, rfl, 1 + (d2 : Int), rfl, by omega, by omega, for_range (lo := 0) (n := (1 + (d2 : Int)).toNat) (fun i σ H4 => ∃ (y5 : Option V) (t4 : Nat) (zs : List Str), σ = [some (.ref pd), some (.bl b), some (.ref dt), some (.int (1 + (d2 : Int))), some (.str ⟨#[c3]⟩), y5, none, none, none, none] ∧ t4 ≤ t + 3 + 3 * i ∧ zs.length ≤ i ∧ (∀ z ∈ zs, z.length ≤ 1000) ∧ Pot H4 pd po t4 ex ∧ Kp (PM pd po) H H4 ∧ H4 dt = some (.dK (metK zs))) ?_ ?_ ?_⟩
    · exact ⟨none, t3, [], rfl, by omega, Nat.le_refl _, (fun z h => nomatch h), hP3, k13, e3⟩
    · rintro i σ H4 hi ⟨y5, t4, zs, rfl, ht4, lz, hz, hP4, k4, e4⟩
      have hi8 : i < 8 := by omega
      refine ⟨_, rfl, ⟨_, rfl⟩, _, rfl, pd, po, t4, ex, 3, rfl, hP4, by omega, by decide, by decide, fun d5 H5 t5 ht5 d50 d51 hP5 k5 => ?_⟩
      have k5' := k4.trans k5
      have e5 := k5 dt _ hdt e4
      refine ⟨_, rfl, by omega, by omega, fun D nD => ?_⟩
      have hD := off_pot hP5 nD
      have nDH := none_back k5' hD nD
      have nDd : dt ≠ D := ne_of_none e5 nD
      refine lc_range (lo := 0) (n := d5.toNat) (fun j H6 => ∃ (t6 : Nat) (cs : List Nat), t6 ≤ t4 + 1 + j ∧ cs.length = j ∧ Pot H6 pd po t6 ex ∧ Kp (PM pd po) H H6 ∧ H6 dt = some (.dK (metK zs)) ∧ H6 D = some (.lst (cs.map fun c => V.str ⟨#[c]⟩))) ?_ ?_ ?_
      · exact ⟨t5, [], by omega, rfl, hP5.new nD, k5'.trans (Kp.new nD), by rw [upd_ne nDd]; exact e5, upd_same⟩
      · rintro j H6 hj ⟨t6, cs, ht6, hl, hP6, k6, e6, eD⟩
        refine ⟨rfl, tYes_ok (iteT ?_)⟩
        refine ⟨_, rfl, pd, po, t6, ex, _, Chr1, rfl, hP6, by omega, .inl ⟨_, rfl, by decide, by decide, fun c _ => ⟨c, rfl⟩⟩, fun v7 H7 t7 ht7 ⟨c, ev⟩ hP7 k7 => ?_⟩
        subst ev
        refine ⟨_, k7 D _ hD eD, by rw [List.length_map]; exact small1000 (by omega), t7, cs ++ [c], by omega, by rw [List.length_append, hl]; rfl, hP7.off hD, (k6.trans k7).own nDH, by rw [upd_ne nDd]; exact k7 dt _ hdt e6, by rw [upd_same, List.map_append]; rfl⟩
      · rintro H6 ⟨t6, cs, ht6, hl, hP6, k6, e6, eD⟩
        refine ⟨_, D, cs.map fun c => (⟨#[c]⟩ : Str), rfl, rfl, .inl (SqL.of (by rw [eD, List.map_map]; rfl)), ?_, ?_⟩
        · rw [sum_ones]
          show cs.length + _ * 0 ≤ _
          exact Nat.le_trans (by omega : cs.length + _ * 0 ≤ 1000) (by decide)
        rw [join_signs]
        have el : (⟨cs.toArray⟩ : Str).length = cs.length := by simp [Str.length]
        refine ⟨_, rfl, _, _, rfl, rfl, by rw [el, sizeLine_eq]; show cs.length + 1 ≤ _; omega, ?_⟩
        refine ⟨dt, _, rfl, DPut.k (k := .inr _) e6 (by unfold metK; rw [List.length_map, sizeLine_eq]; omega), ?_⟩
        generalize hx : (⟨cs.toArray⟩ : Str) ++ (⟨#[c3]⟩ : Str) = x
        have lx : x.length ≤ 1000 := by
          rw [← hx, show (⟨#[c3]⟩ : Str) = ⟨[c3].toArray⟩ from rfl, app_s, show (⟨(cs ++ [c3]).toArray⟩ : Str).length = (cs ++ [c3]).length by simp [Str.length], List.length_append, List.length_singleton]
          omega
        obtain ⟨ns, ens, ln, hns⟩ := metK_some zs x
        rw [ens]
        refine ⟨_, t6, ns, rfl, by omega, by omega, fun z h => ?_, hP6.off hdt, k6.own ndt, upd_same⟩
        rcases hns z h with h | h
        · exact hz z h
        · rw [h]
          exact lx
    · rintro σ H4 ⟨y5, t4, zs, rfl, ht4, lz, hz, hP4, k4, e4⟩
      -- the things
      refine ⟨_, rfl, dt, _, rfl, e4, _, rfl, by unfold metK; rw [List.length_map]; omega, by unfold metK; rw [List.length_map]; omega, fun D nD => ?_⟩
      have hD := off_pot hP4 nD
      have nDH := none_back k4 hD nD
      have nDd : dt ≠ D := ne_of_none e4 nD
      have lm : (metK zs).length = zs.length := by unfold metK; rw [List.length_map]
      rw [lm]
      refine lc_range (lo := 0) (n := (zs.length : Int).toNat) (fun j H6 => ∃ cs : List Nat, cs.length = j ∧ Pot H6 pd po t4 ex ∧ Kp (PM pd po) H H6 ∧ H6 dt = some (.dK (metK zs)) ∧ H6 D = some (.lst (cs.map fun c => V.str ⟨#[c]⟩))) ?_ ?_ ?_
      · exact ⟨[], rfl, hP4.new nD, k4.trans (Kp.new nD), by rw [upd_ne nDd]; exact e4, upd_same⟩
      · rintro j H6 hj ⟨cs, hl, hP6, k6, e6, eD⟩
        refine ⟨rfl, tYes_ok (iteT ?_)⟩
        rw [show (0 : Int) + (j : Int) = (j : Int) from Int.zero_add _]
        refine ⟨rfl, fun zg z1 z2 z3 z95 => ?_⟩
        have w7 : (7 : Int).natAbs < 2 ^ 64 := by decide
        have wj : ((j : Int)).natAbs < 2 ^ 64 := by
          show _ < 18446744073709551616
          omega
        obtain ⟨c, hc, _⟩ := at_some (xs := zg.cps.toList) (d := (7 * (j : Int) + 33) % 95) (by omega) (by
          rw [← len_tl, z95]
          omega)
        refine ⟨_, rfl, _, _, rfl, rfl, wide_mul w7 wj (by decide) (by decide) (by decide), _, _, rfl, rfl, _, _, rfl, rfl, (by show (0 : Int) < 95; decide), zg, _, c, rfl, rfl, Nat.le_of_lt (small1000 z2), hc, ?_⟩
        refine ⟨_, eD, by rw [List.length_map]; exact small1000 (by omega), cs ++ [c], by rw [List.length_append, hl]; rfl, hP6.off hD, k6.own nDH, by rw [upd_ne nDd]; exact e6, by rw [upd_same, List.map_append]; rfl⟩
      · rintro H6 ⟨cs, hl, hP6, k6, e6, eD⟩
        have hcs : cs.length ≤ 8 := by omega
        refine ⟨_, rfl, b, rfl, ?_⟩
        cases b with
        | true =>
          refine iteF ?_
          exact fin _ H6 t4 D zs _ rfl rfl rfl (by omega) hP6 k6 e6 hz eD fun v hv => by
            obtain ⟨c, _, rfl⟩ := List.mem_map.mp hv
            exact .inl ⟨_, rfl, by show 1 ≤ 1000; decide⟩
        | false =>
          refine iteT ?_
          refine ⟨_, rfl, D, _, rfl, .inl (SqL.of eD), _, rfl, by rw [List.length_map]; omega, by rw [List.length_map]; omega, fun W nW => ?_⟩
          have hW := off_pot hP6 nW
          have nWH := none_back k6 hW nW
          have nWd : dt ≠ W := ne_of_none e6 nW
          have nWD : D ≠ W := ne_of_none eD nW
          rw [List.length_map]
          refine lc_range (lo := 0) (n := (cs.length : Int).toNat) (fun j H7 => ∃ (t7 : Nat) (ws : List Int), t7 ≤ t4 + j ∧ ws.length = j ∧ (∀ w ∈ ws, 0 ≤ w ∧ w < 4) ∧ Pot H7 pd po t7 ex ∧ Kp (PM pd po) H H7 ∧ H7 dt = some (.dK (metK zs)) ∧ H7 D = some (.lst (cs.map fun c => V.str ⟨#[c]⟩)) ∧ H7 W = some (.lst (ws.map V.int))) ?_ ?_ ?_
          · exact ⟨t4, [], by omega, rfl, (fun w h => nomatch h), hP6.new nW, k6.trans (Kp.new nW), by rw [upd_ne nWd]; exact e6, by rw [upd_ne nWD]; exact eD, upd_same⟩
          · rintro j H7 hj ⟨t7, ws, ht7, lw, hw, hP7, k7, e7, eD7, eW⟩
            refine ⟨rfl, tYes_ok (iteT ?_)⟩
            rw [show (0 : Int) + (j : Int) = (j : Int) from Int.zero_add _]
            have w3 : (3 : Int).natAbs < 2 ^ 64 := by decide
            have wb : ∀ b : Bool, ((if b = true then 1 else 0 : Int)).natAbs < 2 ^ 64 := fun b => by cases b <;> decide
            refine ⟨_, rfl, rfl, .inr ⟨_, rfl, ?_⟩⟩
            refine ⟨_, _, rfl, rfl, wide_mul w3 (wb _) (by decide) (by decide) (by decide), by show 4 ≤ sizeLine; decide, fun p np => ?_⟩
            have hp := off_pot hP7 np
            refine ⟨_, rfl, pd, po, t7, ex, 4, rfl, hP7.new np, by omega, by decide, by decide, fun d8 H8 t8 ht8 d80 d81 hP8 k8 => ?_⟩
            have e8 := k8 p _ hp upd_same
            have k78 : Kp (PM pd po) H7 H8 := (Kp.new np).trans k8
            obtain ⟨v, hv, hm⟩ := at_some d80 (show d8 < ([V.int 0, .int 1, .int 2, .int (3 * (if decide ((V.int (j : Int)) = .int 0) = true then 1 else 0))].length : Int) from d81)
            obtain ⟨w1, rfl, w10, w14⟩ : ∃ w1 : Int, v = .int w1 ∧ 0 ≤ w1 ∧ w1 < 4 := by
              simp only [List.mem_cons, List.not_mem_nil, or_false] at hm
              rcases hm with e | e | e | e
              · exact ⟨_, e, by decide, by decide⟩
              · exact ⟨_, e, by decide, by decide⟩
              · exact ⟨_, e, by decide, by decide⟩
              · refine ⟨_, e, ?_, ?_⟩ <;> split <;> decide
            refine ⟨p, _, d8, _, rfl, rfl, SqL.of e8, hv, ?_⟩
            refine ⟨_, k78 W _ hW eW, by rw [List.length_map]; exact small1000 (by omega), t8, ws ++ [w1], by omega, by rw [List.length_append, lw]; rfl, ?_, hP8.off hW, (k7.trans k78).own nWH, by rw [upd_ne nWd]; exact k78 dt _ hdt e7, by rw [upd_ne nWD]; exact k78 D _ hD eD7, by rw [upd_same, List.map_append]; rfl⟩
            intro w h
            rcases List.mem_append.mp h with h | h
            · exact hw w h
            · rw [List.mem_singleton.mp h]
              exact ⟨w10, w14⟩
          · rintro H7 ⟨t7, ws, ht7, lw, hw, hP7, k7, e7, eD7, eW⟩
            refine ⟨_, rfl, D, _, rfl, SqL.of eD7, fun D2 n2 => ?_⟩
            have h2 := off_pot hP7 n2
            have n2H := none_back k7 h2 n2
            have n2d : dt ≠ D2 := ne_of_none e7 n2
            have n2D : D ≠ D2 := ne_of_none eD7 n2
            have n2W : W ≠ D2 := ne_of_none eW n2
            refine lc_enum (xs := cs.map fun c => V.str ⟨#[c]⟩) (fun j H8 => ∃ vs : List V, vs.length = j ∧ (∀ v ∈ vs, Sm v) ∧ Pot H8 pd po t7 ex ∧ Kp (PM pd po) H H8 ∧ H8 dt = some (.dK (metK zs)) ∧ H8 D = some (.lst (cs.map fun c => V.str ⟨#[c]⟩)) ∧ H8 W = some (.lst (ws.map V.int)) ∧ H8 D2 = some (.lst vs)) ?_ ?_ ?_ ?_
            · exact ⟨[], rfl, (fun w h => nomatch h), hP7.new n2, k7.trans (Kp.new n2), by rw [upd_ne n2d]; exact e7, by rw [upd_ne n2D]; exact eD7, by rw [upd_ne n2W]; exact eW, upd_same⟩
            · rintro j H8 _ ⟨vs, _, _, _, _, _, a, _, _⟩
              exact SqL.of a
            · rintro j x H8 T hx ⟨vs, lv, hv, hP8, k8, e8, eD8, eW8, e28⟩ nT
              rw [List.getElem?_map] at hx
              obtain ⟨c, hc, rfl⟩ := Option.map_eq_some_iff.mp hx
              have hjc : j < cs.length := (List.getElem?_eq_some_iff.mp hc).1
              have hj : j < ws.length := by omega
              have nTH : ∀ {a : Addr} {u : HO}, H8 a = some u → upd H8 T (.tup [.int (j : Nat), .str ⟨#[c]⟩]) a = some u := fun e => by rw [upd_ne (ne_of_none e nT)]; exact e
              refine ⟨T, _, rfl, SqT.of upd_same, rfl, _, _, rfl, _, _, rfl, rfl, rfl, tYes_ok (iteT ?_)⟩
              refine ⟨_, rfl, _, rfl, _, _, rfl, rfl, by rw [sizeLine_eq]; show 1 + 2 ≤ _; decide, _, rfl, by show 4 ≤ sizeLine; decide, fun p np => ?_⟩
              have npH : ∀ {a : Addr} {u : HO} {o : HO}, upd H8 T (.tup [.int (j : Nat), .str ⟨#[c]⟩]) a = some u → upd (upd H8 T (.tup [.int (j : Nat), .str ⟨#[c]⟩])) p o a = some u := fun e => by rw [upd_ne (ne_of_none e np)]; exact e
              refine ⟨_, rfl, _, rfl, W, _, j, .int ws[j], rfl, rfl, SqL.of (npH (nTH eW8)), atI_nat (by rw [List.getElem?_map, List.getElem?_eq_getElem hj]; rfl), ?_⟩
              obtain ⟨w0, w4⟩ := hw ws[j] (List.getElem_mem hj)
              obtain ⟨v, hv1, hm⟩ := at_some w0 (show ws[j] < ([V.str ⟨#[c]⟩, .str (⟨#[c]⟩ ++ ("on" : Str)), .int (j : Nat), .str ""].length : Int) from w4)
              refine ⟨p, _, ws[j], v, rfl, rfl, SqL.of upd_same, hv1, ?_⟩
              refine ⟨_, npH (nTH e28), by rw [lv]; exact small1000 (by omega), vs ++ [v], by rw [List.length_append, lv]; rfl, fun y hy => ?_, ((hP8.new nT).new np).off h2, ((k8.trans (Kp.new nT)).trans (Kp.new np)).own n2H, by rw [upd_ne n2d]; exact npH (nTH e8), by rw [upd_ne n2D]; exact npH (nTH eD8), by rw [upd_ne n2W]; exact npH (nTH eW8), upd_same⟩
              rcases List.mem_append.mp hy with h | h
              · exact hv y h
              · rw [List.mem_singleton.mp h]
                simp only [List.mem_cons, List.not_mem_nil, or_false] at hm
                rcases hm with e | e | e | e
                · exact .inl ⟨_, e, by show 1 ≤ 1000; decide⟩
                · refine .inl ⟨_, e, ?_⟩
                  show 1 + 2 ≤ 1000
                  decide
                · exact .inr ⟨_, e⟩
                · exact .inl ⟨_, e, by decide⟩
            · rintro H8 ⟨vs, lv, hv, hP8, k8, e8, eD8, eW8, e28⟩
              exact fin _ H8 t7 D2 zs _ rfl rfl rfl (by omega) hP8 k8 e8 hz e28 hv
end
end RT

namespace RT
open PySem PySem.Spec PyProof.Rows L2
abbrev sPl : Stmt := topS 19
abbrev sBf : Stmt := topS 20
theorem scPl : FnScope ["_law_pot_here", "_law_way"] ["_law_pot_here"] (defScope sPl) := ⟨rfl, rfl, rfl, by decide +kernel, rfl, by decide +kernel, by decide +kernel⟩
theorem scBf : FnScope ["_law_pot_here"] ["_law_pot_here"] (defScope sBf) := ⟨rfl, rfl, rfl, by decide +kernel, rfl, by decide +kernel, by decide +kernel⟩
section
variable {P : Program} {w : World} {K : PySem.W.Frag} {mg : Str → Option Value} {base : Heap}
def spPl (N : List Str) : Sp := fun vs H Q _ => ∃ (pd po : Addr) (t : Nat) (r o g : Int), vs = [.ref pd] ∧ Pot H pd po t (some (r, o, g)) ∧ t < 2 ^ 45 ∧ FormQ N pd po t 120 2 H Q
theorem str_rp {H : Hp} {cs : List Nat} {n : Nat} (h : cs.length ≤ n) (h2 : n ≤ 1000) : Rp H (.str ⟨cs.toArray⟩) (.str ⟨cs.toArray⟩) := .str (by
  rw [show (⟨cs.toArray⟩ : Str).length = cs.length by simp [Str.length]]
  exact Nat.le_of_lt (small1000 (by omega)))
theorem ok_pl {N : List Str} {f fn fb fe ff : Addr} {fd fdn fdb fde fdf : FuncData} {k : Nat} (F : Fun K "_law_plain" "_law_plain" sPl f fd)
    (GN : FnOk P w K mg base CX0 k fn fdn ["_law_pot_here", "_law_many"] spNext) (kn : PySem.W.keepIn K (.ref fn) = true) (bn : Binds K fdn ["_law_pot_here", "_law_many"] []) (gn : mg "_law_next" = some (.ref fn))
    (GB : FnOk P w K mg base CX0 k fb fdb ["_law_pot_here", "_law_few", "_law_most"] spBit) (kb : PySem.W.keepIn K (.ref fb) = true) (bb : Binds K fdb ["_law_pot_here", "_law_few", "_law_most"] []) (gb : mg "_law_bit" = some (.ref fb))
    (GE : FnOk P w K mg base CX0 k fe fde ["_law_pot_here"] spSet) (ke : PySem.W.keepIn K (.ref fe) = true) (be : Binds K fde ["_law_pot_here"] []) (ge : mg "_law_set" = some (.ref fe))
    (GF : FnOk P w K mg base CX0 k ff fdf ["_law_pot_here", "_law_short"] spPf) (kf : PySem.W.keepIn K (.ref ff) = true) (bf : Binds K fdf ["_law_pot_here", "_law_short"] []) (gf : mg "_law_pick_form" = some (.ref ff)) (mint : mg "int" = none) :
    FnOk P w K mg base CX0 (k + 1) f fd ["_law_pot_here"] (spPl N) := by
  refine F.ok scPl (fun vs H Q E h => ?_) (fun cdv A outer s H vs Q E hr h => ?_)
  · obtain ⟨pd, po, t, r, o, g, rfl, _⟩ := h
    rfl
  · obtain ⟨pd, po, t, r, o, g, rfl, hP, ht, q⟩ := h
    have h45 : (2 : Nat) ^ 45 = 35184372088832 := by decide
    have h46 : (2 : Nat) ^ 46 = 70368744177664 := by decide
    have h47 : (2 : Nat) ^ 47 = 140737488355328 := by decide
    have h50 : (2 : Nat) ^ 50 = 1125899906842624 := by decide
    refine ⟨_, (pss_cons (ps_set (i := 1) scPl.nd rfl (.inl rfl) (pe_call GN hr (by rfl) gn kn bn .nil pass0 (pa_cons (pv 0) (pa_cons pe_int pa_nil))))
      (pss_cons (ps_dput (hu_of hr) (pv 0) pe_str (pe_op op_sub (pe_dget (hu_of hr) (pv 0) pe_str (fun _ _ => rfl)) (pe_callTy call_int1 (by rfl) mint (by decide +kernel) (pa_cons (pe_cmpR op_gt (pv 1) pe_int (nomark _)) pa_nil))) rfl)
      (pss_cons (ps_if (PW.pt (pw_or (pt_cmpR op_eq (pv 1) pe_int (nomark _)) (pw_or1 (PW.pt (pw_and (pt_cmpR op_lt (pe_dget (hu_of hr) (pv 0) pe_str (fun _ _ => rfl)) pe_int (nomark _)) (pw_and1 (pt_cmpR op_gt (pv 1) pe_int (nomark _)))))))) (pss_one (ps_ret (pe_tup (pa_cons pe_str pa_nil)))) pss_nil)
      (pss_cons (ps_if (pt_cmpR op_lt (pv 1) pe_int (nomark _)) (pss_one (ps_ret (pe_tup (pa_cons pe_str (pa_cons (pe_call GB hr (by rfl) gb kb bb .nil pass0 (pa_cons (pv 0) (pa_cons pe_int (pa_cons pe_int pa_nil)))) pa_nil))))) pss_nil)
      (pss_cons (ps_if (pt_cmpR op_lt (pv 1) pe_int (nomark _)) (pss_one (ps_ret (pe_tup (pa_cons (pe_ix ix_list (pe_lst (pa_cons pe_str (pa_cons pe_str pa_nil))) (pe_op op_sub (pv 1) pe_int) (fun _ _ => rfl)) (pa_cons (pe_call GE hr (by rfl) ge ke be .nil pass0 (pa_cons (pv 0) pa_nil)) pa_nil))))) pss_nil)
      (pss_cons (ps_if (PW.pt (pw_or (pt_cmpR op_eq (pv 1) pe_int (nomark _)) (pw_or1 (pt_cmpR op_lt (pe_dget (hu_of hr) (pv 0) pe_str (fun _ _ => rfl)) pe_int (nomark _))))) (pss_one (ps_ret (pe_call GF hr (by rfl) gf kf bf .nil pass0 (pa_cons (pv 0) (pa_cons pe_bl pa_nil))))) pss_nil)
      (pss_cons (ps_dput (hu_of hr) (pv 0) pe_str (pe_op op_sub (pe_dget (hu_of hr) (pv 0) pe_str (fun _ _ => rfl)) pe_int) rfl)
      (pss_one (ps_ret (pe_tup (pa_cons pe_str (pa_cons (pe_ix ix_list (pe_lst (pa_cons (pe_tup (pa_cons pe_str (pa_cons (pe_call GE hr (by rfl) ge ke be .nil pass0 (pa_cons (pv 0) pa_nil)) pa_nil))) (pa_cons (pe_call GF hr (by rfl) gf kf bf .nil pass0 (pa_cons (pv 0) (pa_cons pe_bl pa_nil))) pa_nil))) (pe_call GN hr (by rfl) gn kn bn .nil pass0 (pa_cons (pv 0) (pa_cons pe_int pa_nil))) (fun _ _ => rfl)) pa_nil)))))))))))), ?_⟩
    refine ⟨_, rfl, pd, po, t, _, 8, rfl, hP, by omega, by decide, by decide, fun d1 H1 t1 ht1 d10 d11 hP1 k1 => ?_⟩
    obtain ⟨⟨_, g1, _⟩, _, p1, _⟩ := hP1.x
    refine ⟨_, rfl, pd, _, rfl, g1, _, rfl, _, _, rfl, rfl, .inr ⟨_, rfl, ?_⟩⟩
    refine ⟨_, _, rfl, rfl, _, rfl, ?_⟩
    obtain ⟨H2, u2, hP2, k2⟩ := p1 (o - (if decide ((4 : Int) < d1) = true then 1 else 0))
    refine ⟨pd, H2, rfl, u2, ?_⟩
    have k12 := k1.trans k2
    obtain ⟨⟨a2, b2, _⟩, c2, _, _⟩ := hP2.x
    by_cases w0 : d1 = 0
    · subst w0
      refine ⟨_, rfl, rfl, _, rfl, iteT' (by decide) (iteT ⟨by show 1 ≤ sizeLine; decide, fun p np => ?_⟩)⟩
      exact q.leaf (by decide) (by omega) (w := "number") (by decide) np .nil hP2 k12
    have n0 : V.int d1 ≠ V.int 0 := fun e => w0 (V.int.inj e)
    by_cases w4 : 4 < d1
    · by_cases hd : (o - (if decide ((4 : Int) < d1) = true then 1 else 0)) < 0
      · refine ⟨_, rfl, rfl, _, rfl, iteF' (decide_eq_false n0) ⟨_, rfl, pd, _, rfl, b2, _, _, rfl, rfl, _, rfl, iteT' (decide_eq_true hd) ⟨_, rfl, _, _, rfl, rfl, _, rfl, iteT' (decide_eq_true w4) ⟨by show 1 ≤ sizeLine; decide, fun p np => ?_⟩⟩⟩⟩
        exact q.leaf (by decide) (by omega) (w := "number") (by decide) np .nil hP2 k12
      · refine ⟨_, rfl, rfl, _, rfl, iteF' (decide_eq_false n0) ⟨_, rfl, pd, _, rfl, b2, _, _, rfl, rfl, _, rfl, iteF' (decide_eq_false hd) (iteF ?_)⟩⟩
        refine ⟨_, rfl, _, _, rfl, rfl, _, rfl, iteF' (decide_eq_false (by omega)) ?_⟩
        refine ⟨_, rfl, _, _, rfl, rfl, _, rfl, iteF' (decide_eq_false (by omega)) ?_⟩
        have pk : ∀ (H3 : Hp), H3 = H2 → (tCall spPf [] E0 (tCons (tVar 0) (tCons (tC (.bl false)) tNil))) [some (.ref pd), some (.int d1)] H3 Q := by
          rintro H3 rfl
          exact ⟨_, rfl, pd, po, t1, _, false, rfl, hP2, by omega, fun l ds H3 t3 ht3 hr3 hP3 k3 => q _ (.leaf "pick" ds) H3 t3 _ _ _ (by omega) hr3 (show ("pick" : Str) ∈ ([("text" : Str), "sign", "word", "number", "pick"] : List Str) by decide) (by show 1 ≤ 2; decide) hP3 (k12.trans k3)⟩
        by_cases w5 : d1 = 5
        · refine ⟨_, rfl, rfl, _, rfl, iteT' (decide_eq_true (by rw [w5])) (iteT ?_)⟩
          exact pk H2 rfl
        have n5 : V.int d1 ≠ V.int 5 := fun e => w5 (V.int.inj e)
        by_cases hr1 : r < 1
        · refine ⟨_, rfl, rfl, _, rfl, iteF' (decide_eq_false n5) ⟨_, rfl, pd, _, rfl, a2, _, _, rfl, rfl, _, rfl, iteT' (decide_eq_true hr1) ?_⟩⟩
          exact pk H2 rfl
        refine ⟨_, rfl, rfl, _, rfl, iteF' (decide_eq_false n5) ⟨_, rfl, pd, _, rfl, a2, _, _, rfl, rfl, _, rfl, iteF' (decide_eq_false hr1) ?_⟩⟩
        obtain ⟨H3, u3, hP3, k3⟩ := c2 (r - 1)
        refine ⟨_, rfl, pd, _, rfl, a2, _, _, rfl, rfl, _, rfl, pd, H3, rfl, u3, ?_⟩
        refine ⟨_, rfl, pd, po, t1, _, rfl, hP3, by omega, fun cs H4 t4 ht4 l1 l2 hc hnd hso hP4 k4 => ⟨by show 2 ≤ sizeLine; decide, fun p1 n1 => ?_⟩⟩
        have r4 : Rp (upd H4 p1 (.tup [.str "sign", .str ⟨cs.toArray⟩])) (.ref p1) (Fo.leaf "sign" [.str ⟨cs.toArray⟩]).enc := .tup (vs := [.str "sign", .str ⟨cs.toArray⟩]) upd_same (.cons (.str (by decide)) (.cons (str_rp l2 (by decide)) .nil))
        refine ⟨_, rfl, pd, po, t4, _, true, rfl, hP4.new n1, by omega, fun l ds H5 t5 ht5 hr5 hP5 k5 => ⟨by show 2 ≤ sizeLine; decide, fun L nL => ?_⟩⟩
        have hL := off_pot hP5 nL
        refine ⟨_, rfl, pd, po, t5, _, 2, rfl, hP5.new nL, by omega, by decide, by decide, fun d6 H6 t6 ht6 d60 d61 hP6 k6 => ?_⟩
        obtain ⟨v, hv, hm⟩ := at_some d60 (show d6 < ([V.ref p1, .ref l].length : Int) from d61)
        refine ⟨L, _, d6, v, rfl, rfl, SqL.of (k6 L _ hL upd_same), hv, ⟨by show 2 ≤ sizeLine; decide, fun p np => ?_⟩⟩
        have kk6 : Kp (PM pd po) H5 H6 := (Kp.new nL).trans k6
        have kA := ((((k12.trans k3).trans k4).trans (Kp.new n1)).trans k5).trans kk6
        have rr4 := (r4.keep k5 (hP4.new n1).noT).keep kk6 hP5.noT
        have rr5 := hr5.keep kk6 hP5.noT
        simp only [List.mem_cons, List.not_mem_nil, or_false] at hm
        rcases hm with e | e
        · subst e
          exact q.one (by omega) (w := "spelt") (by decide) np rr4 (show ("sign" : Str) ∈ ([("text" : Str), "sign", "word", "number", "pick"] : List Str) by decide) (by show 2 ≤ 2; decide) .nil hP6 kA
        · subst e
          exact q.one (by omega) (w := "spelt") (by decide) np (f := .leaf "pick" ds) rr5 (show ("pick" : Str) ∈ ([("text" : Str), "sign", "word", "number", "pick"] : List Str) by decide) (by show 2 ≤ 2; decide) .nil hP6 kA
    · refine ⟨_, rfl, rfl, _, rfl, iteF' (decide_eq_false n0) ⟨_, rfl, pd, _, rfl, b2, _, _, rfl, rfl, _, rfl, ite2 (fun c => ⟨_, rfl, _, _, rfl, rfl, _, rfl, iteF' (decide_eq_false w4) ?_⟩) (fun c => iteF ?_)⟩⟩ <;>
      · by_cases w3 : d1 < 3
        · refine ⟨_, rfl, _, _, rfl, rfl, _, rfl, iteT' (decide_eq_true w3) ?_⟩
          refine ⟨_, rfl, pd, po, t1, 7, _, _, _, 2, 7, rfl, hP2, by omega, by decide, by decide, by decide, by decide, by decide, fun cs H3 t3 g3 ht3 hg1 hg2 l1 l2 hc hP3 k3 => ⟨by show 2 ≤ sizeLine; decide, fun p np => ?_⟩⟩
          exact q.leaf (by decide) (by omega) (w := "text") (by decide) np (.cons (str_rp l2 (by decide)) .nil) hP3 (k12.trans k3)
        · refine ⟨_, rfl, _, _, rfl, rfl, _, rfl, iteF' (decide_eq_false w3) ?_⟩
          refine ⟨_, rfl, _, _, rfl, rfl, _, rfl, iteT' (decide_eq_true (by omega)) ?_⟩
          refine ⟨by show 2 ≤ sizeLine; decide, fun L nL => ⟨_, rfl, _, _, rfl, rfl, ?_⟩⟩
          obtain ⟨v, hv, hm⟩ := at_some (xs := [V.str "sign", .str "word"]) (d := d1 - 3) (by omega) (by show d1 - 3 < 2; omega)
          refine ⟨L, _, d1 - 3, v, rfl, rfl, SqL.of upd_same, hv, ?_⟩
          refine ⟨_, rfl, pd, po, t1, _, rfl, hP2.new nL, by omega, fun cs H4 t4 ht4 l1 l2 hc hnd hso hP4 k4 => ⟨by show 2 ≤ sizeLine; decide, fun p np => ?_⟩⟩
          have kA := (k12.trans (Kp.new nL)).trans k4
          simp only [List.mem_cons, List.not_mem_nil, or_false] at hm
          rcases hm with e | e
          · subst e
            exact q.leaf (by decide) (by omega) (w := "sign") (by decide) np (.cons (str_rp l2 (by decide)) .nil) hP4 kA
          · subst e
            exact q.leaf (by decide) (by omega) (w := "word") (by decide) np (.cons (str_rp l2 (by decide)) .nil) hP4 kA
def spBf (N : List Str) : Sp := fun vs H Q _ => ∃ (pd po : Addr) (t : Nat) (r o g : Int), vs = [.ref pd] ∧ Pot H pd po t (some (r, o, g)) ∧ t < 2 ^ 44 ∧ FormQ N pd po t 130 3 H Q
theorem ok_bf {N : List Str} {f fn fb fp : Addr} {fd fdn fdb fdp : FuncData} {k : Nat} (F : Fun K "_law_bare_form" "_law_bare_form" sBf f fd)
    (GN : FnOk P w K mg base CX0 k fn fdn ["_law_pot_here", "_law_many"] spNext) (kn : PySem.W.keepIn K (.ref fn) = true) (bn : Binds K fdn ["_law_pot_here", "_law_many"] []) (gn : mg "_law_next" = some (.ref fn))
    (GB : FnOk P w K mg base CX0 k fb fdb ["_law_pot_here", "_law_few", "_law_most"] spBit) (kb : PySem.W.keepIn K (.ref fb) = true) (bb : Binds K fdb ["_law_pot_here", "_law_few", "_law_most"] []) (gb : mg "_law_bit" = some (.ref fb))
    (GP : FnOk P w K mg base CX0 k fp fdp ["_law_pot_here"] (spPl N)) (kp : PySem.W.keepIn K (.ref fp) = true) (bp : Binds K fdp ["_law_pot_here"] []) (gp : mg "_law_plain" = some (.ref fp)) :
    FnOk P w K mg base CX0 (k + 1) f fd ["_law_pot_here"] (spBf N) := by
  refine F.ok scBf (fun vs H Q E h => ?_) (fun cdv A outer s H vs Q E hr h => ?_)
  · obtain ⟨pd, po, t, r, o, g, rfl, _⟩ := h
    rfl
  · obtain ⟨pd, po, t, r, o, g, rfl, hP, ht, q⟩ := h
    have h44 : (2 : Nat) ^ 44 = 17592186044416 := by decide
    have h45 : (2 : Nat) ^ 45 = 35184372088832 := by decide
    have h47 : (2 : Nat) ^ 47 = 140737488355328 := by decide
    have h50 : (2 : Nat) ^ 50 = 1125899906842624 := by decide
    refine ⟨_, (pss_cons (ps_if (PW.pt (pw_or (pt_cmpR op_lt (pe_dget (hu_of hr) (pv 0) pe_str (fun _ _ => rfl)) pe_int (nomark _)) (pw_or1 (pt_cmpR op_eq (pe_call GN hr (by rfl) gn kn bn .nil pass0 (pa_cons (pv 0) (pa_cons pe_int pa_nil))) pe_int (nomark _))))) (pss_one (ps_ret (pe_tup (pa_cons pe_str (pa_cons (pe_call GB hr (by rfl) gb kb bb .nil pass0 (pa_cons (pv 0) (pa_cons pe_int (pa_cons pe_int pa_nil)))) pa_nil))))) pss_nil)
      (pss_cons (ps_dput (hu_of hr) (pv 0) pe_str (pe_op op_sub (pe_dget (hu_of hr) (pv 0) pe_str (fun _ _ => rfl)) pe_int) rfl)
      (pss_cons (ps_if (pt_cmpR op_eq (pe_call GN hr (by rfl) gn kn bn .nil pass0 (pa_cons (pv 0) (pa_cons pe_int pa_nil))) pe_int (nomark _)) (pss_one (ps_ret (pe_tup (pa_cons pe_str (pa_cons (pe_tup (pa_cons pe_str (pa_cons (pe_call GB hr (by rfl) gb kb bb .nil pass0 (pa_cons (pv 0) (pa_cons pe_int (pa_cons pe_int pa_nil)))) pa_nil))) pa_nil))))) pss_nil)
      (pss_one (ps_ret (pe_tup (pa_cons pe_str (pa_cons (pe_call GP hr (by rfl) gp kp bp .nil pass0 (pa_cons (pv 0) pa_nil)) pa_nil)))))))), ?_⟩
    obtain ⟨⟨a1, b1, _⟩, c1, _, _⟩ := hP.x
    have tx : ∀ (H1 : Hp) (t1 : Nat), t1 ≤ t + 1 → Pot H1 pd po t1 (some (r, o, g)) → Kp (PM pd po) H H1 → (tTup (tCons (tC (.str "text")) (tCons (tCall spBit [] E0 (tCons (tVar 0) (tCons (tC (.int 1)) (tCons (tC (.int 2)) tNil)))) tNil))) [some (.ref pd)] H1 Q := fun H1 t1 ht1 hP1 k1 => by
      refine ⟨_, rfl, pd, po, t1, 2, _, _, _, 1, 2, rfl, hP1, by omega, by decide, by decide, by decide, by decide, by decide, fun cs H3 t3 g3 ht3 hg1 hg2 l1 l2 hc hP3 k3 => ⟨by show 2 ≤ sizeLine; decide, fun p np => ?_⟩⟩
      exact q.leaf (by decide) (by omega) (w := "text") (by decide) np (.cons (str_rp l2 (by decide)) .nil) hP3 (k1.trans k3)
    refine ⟨_, rfl, pd, _, rfl, a1, _, _, rfl, rfl, _, rfl, ite2 (fun c => iteT (tx H t (by omega) hP Kp.refl)) (fun c => ?_)⟩
    refine ⟨_, rfl, pd, po, t, _, 2, rfl, hP, by omega, by decide, by decide, fun d1 H1 t1 ht1 d10 d11 hP1 k1 => ⟨rfl, _, rfl, ite2 (fun c => tx H1 t1 (by omega) hP1 k1) (fun c => ?_)⟩⟩
    obtain ⟨⟨a1, _, _⟩, c1, _, _⟩ := hP1.x
    obtain ⟨H2, u2, hP2, k2⟩ := c1 (r - 1)
    refine ⟨_, rfl, pd, _, rfl, a1, _, _, rfl, rfl, _, rfl, pd, H2, rfl, u2, ?_⟩
    have k12 := k1.trans k2
    refine ⟨_, rfl, pd, po, t1, _, 2, rfl, hP2, by omega, by decide, by decide, fun d3 H3 t3 ht3 d30 d31 hP3 k3 => ⟨rfl, _, rfl, ite2 (fun c => ?_) (fun c => ?_)⟩⟩
    · refine ⟨_, rfl, pd, po, t3, 2, _, _, _, 1, 2, rfl, hP3, by omega, by decide, by decide, by decide, by decide, by decide, fun cs H4 t4 g4 ht4 hg1 hg2 l1 l2 hc hP4 k4 => ⟨by show 2 ≤ sizeLine; decide, fun p1 n1 => ⟨by show 2 ≤ sizeLine; decide, fun p np => ?_⟩⟩⟩
      refine q.one (by omega) (w := "skip") (by decide) np (f := .leaf "text" [.str ⟨cs.toArray⟩]) (.tup (vs := [.str "text", .str ⟨cs.toArray⟩]) upd_same (.cons (.str (by decide)) (.cons (str_rp l2 (by decide)) .nil))) (show ("text" : Str) ∈ ([("text" : Str), "sign", "word", "number", "pick"] : List Str) by decide) (by show 2 ≤ 3; decide) .nil (hP4.new n1) (((k12.trans k3).trans k4).trans (Kp.new n1))
    · refine ⟨_, rfl, pd, po, t3, _, _, _, rfl, hP3, by omega, fun v f H4 t4 r4 o4 g4 ht4 hr4 hf4 hs4 hP4 k4 => ⟨by show 2 ≤ sizeLine; decide, fun p np => ?_⟩⟩
      exact q.one (by omega) (w := "skip") (by decide) np hr4 hf4 (by omega) .nil hP4 ((k12.trans k3).trans k4)
end
end RT

/-! comprehensions that lay tuples of drawn things -/
namespace RT
open PySem PySem.Spec PyProof.Rows L2
theorem Rps.ints {H : Hp} : ∀ {vs : List V}, (∀ v ∈ vs, ∃ i : Int, v = .int i) → ∃ ds, Rps H vs ds
  | [], _ => ⟨[], .nil⟩
  | v :: r, h => by
    obtain ⟨i, rfl⟩ := h v (List.mem_cons_self ..)
    obtain ⟨ds, t⟩ := Rps.ints fun x hx => h x (List.mem_cons_of_mem _ hx)
    exact ⟨_, .cons .int t⟩
theorem lc_rps {K : PySem.W.Frag} {i : Nat} {te : TE} {vs : List Nat} {σ : L2.St} {H1 : Hp} {Da Db : Addr} {Qd : Hp → Prop} {xs : List V} (R : Nat → D → Prop) (hM : xs.length ≤ 100) (eD : H1 Da = some (.lst xs)) (nD : H1 Db = none) (hw : ∀ x, wipe ((wipe σ vs).set i (some x)) vs = wipe σ vs)
    (he : ∀ (j : Nat) (x : V) (H6 : Hp) (Q : VK), xs[j]? = some x → Kp M0 H1 H6 → (∀ y H7 d, R j d → Rp H7 y d → Kp M0 H6 H7 → Q y H7) → te ((wipe σ vs).set i (some x)) H6 Q)
    (hd : ∀ (H : Hp) (ws : List V) (ds : List D), Kp M0 H1 H → H Db = some (.lst ws) → Rps H ws ds → ds.length = xs.length → (∀ j d, ds[j]? = some d → R j d) → Qd H) :
    ∃ W : Nat → Nat → Hp → Prop, (∃ m, W 0 m (upd H1 Db (.lst []))) ∧ ∀ a m H, W a m H →
      ((Itl K Da).stop a H ∧ Qd H) ∨ ((Itl K Da).go a H ∧ ∃ Nx : Hp → Prop, (∀ H', Nx H' → ∃ m', m' < m ∧ W (a + 1) m' H') ∧ ∀ x H', (Itl K Da).yld a H x H' → (gName i) x (wipe σ vs) H' fun σ2 H2 => wipe σ2 vs = wipe σ vs ∧ tYes σ2 H2 fun b H3 =>
        if b = true then te σ2 H3 fun y H4 => ∃ acc, H4 Db = some (.lst acc) ∧ acc.length < sizeLine ∧ Nx (upd H4 Db (.lst (acc ++ [y]))) else Nx H3) := by
  have nab : Da ≠ Db := ne_of_none eD nD
  refine lc_list (xs := xs) (fun j H => Kp M0 H1 H ∧ ∃ (ws : List V) (ds : List D), H Db = some (.lst ws) ∧ Rps H ws ds ∧ ds.length = j ∧ ∀ j d, ds[j]? = some d → R j d) ?_ ?_ ?_ ?_
  · exact ⟨Kp.new nD, [], [], upd_same, .nil, rfl, fun j d e => by simp at e⟩
  · exact fun j H _ h => SqL.of (h.1 _ _ (fun z => z) eD)
  · rintro j x H hx ⟨k, ws, ds, eW, hr, hl, hR⟩
    have hj : j < xs.length := (List.getElem?_eq_some_iff.mp hx).1
    refine ⟨hw _, tYes_ok (iteT ?_)⟩
    refine he j x H _ hx k fun y H7 d hRd hy k7 => ?_
    have e7 := k7 Db _ (fun z => z) eW
    have lw := hr.len
    refine ⟨ws, e7, by rw [lw, hl]; exact small1000 (by omega), (k.trans k7).own nD, ws ++ [y], ds ++ [d], upd_same, ?_, by rw [List.length_append, hl]; rfl, fun a b h => ?_⟩
    · refine Rps.keep (M := fun b => b = Db) (Kp.put rfl) (fun a xs m e2 => ?_) ((hr.keep k7 noT0).app (.cons hy .nil))
      rw [m, e7] at e2
      cases e2
    · by_cases c : a < ds.length
      · rw [List.getElem?_append_left c] at h
        exact hR a b h
      · rw [List.getElem?_append_right (by omega)] at h
        have z : a - ds.length = 0 := by
          have q := (List.getElem?_eq_some_iff.mp h).1
          rw [List.length_singleton] at q
          omega
        rw [z] at h
        cases h
        rw [show a = j by omega]
        exact hRd
  · rintro H ⟨k, ws, ds, eW, hr, hl, hR⟩
    exact hd H ws ds k eW hr hl hR
/-- 0, 2, 4 .. -/
def twos (M : Nat) : List V := (List.range M).map fun k : Nat => V.int (2 * (k : Int))
theorem twos_len (M : Nat) : (twos M).length = M := by unfold twos; rw [List.length_map, List.length_range]
theorem twos_at {M j : Nat} {x : V} (h : (twos M)[j]? = some x) : x = .int (2 * (j : Int)) ∧ j < M := by
  have l : j < M := by
    have z := (List.getElem?_eq_some_iff.mp h).1
    rw [twos_len] at z
    exact z
  unfold twos at h
  rw [List.getElem?_map, List.getElem?_range l] at h
  exact ⟨(Option.some.inj h).symm, l⟩
theorem zip_repl (f : Fo) : ∀ (zs : List Str) (ds : List D), ds.length = zs.length → (∀ (j : Nat) (d : D), ds[j]? = some d → ∃ z, zs[j]? = some z ∧ d = .tup [.str z, f.enc]) → ds = List.zipWith (fun (n : Str) (d : D) => D.tup [.str n, d]) zs (Fo.encs (List.replicate zs.length f))
  | [], [], _, _ => rfl
  | z :: zs, d :: ds, l, h => by
    obtain ⟨z', e1, e2⟩ := h 0 d rfl
    cases e1
    have ih := zip_repl f zs ds (by simpa using l) fun j d hj => by
      obtain ⟨z, a, b⟩ := h (j + 1) d (by simpa using hj)
      exact ⟨z, by simpa using a, b⟩
    show d :: ds = D.tup [.str z, f.enc] :: List.zipWith _ zs (Fo.encs (List.replicate zs.length f))
    rw [← ih, e2]
  | [], _ :: _, l, _ => by cases l
  | _ :: _, [], l, _ => by cases l
theorem sizes_repl (f : Fo) : ∀ n : Nat, Fo.sizes (List.replicate n f) = n * f.size
  | 0 => by simp [Fo.sizes]
  | n + 1 => by
    rw [List.replicate_succ]
    simp only [Fo.sizes]
    rw [sizes_repl f n, Nat.succ_mul]
    omega
theorem oks_repl {N : List Str} {f : Fo} (h : f.ok N) : ∀ n : Nat, Fo.oks N (List.replicate n f)
  | 0 => True.intro
  | n + 1 => ⟨h, oks_repl h n⟩
end RT

namespace RT
open PySem PySem.Spec PyProof.Rows L2
abbrev sTf : Stmt := topS 21
theorem scTf : FnScope ["_law_pot_here", "_law_way", "_law_many", "_law_first", "_law_cost", "_law_twos", "_law_names_here", "_law_inner_here", "_law_pairs", "_law_signs_here", "_law_k", "_law_name"] ["_law_pot_here"] (defScope sTf) := ⟨rfl, rfl, rfl, by decide +kernel, rfl, by decide +kernel, by decide +kernel⟩
section
variable {P : Program} {w : World} {K : PySem.W.Frag} {mg : Str → Option Value} {base : Heap}
def spTf (N : List Str) : Sp := fun vs H Q _ => ∃ (pd po : Addr) (t : Nat) (r o g : Int), vs = [.ref pd] ∧ Pot H pd po t (some (r, o, g)) ∧ t < 2 ^ 45 ∧ FormQ N pd po t 60 20 H Q
set_option maxHeartbeats 0 in
theorem ok_tf {N : List Str} {f fn fz fm : Addr} {fd fdn fdz fdm : FuncData} {k : Nat} (F : Fun K "_law_turned_form" "_law_turned_form" sTf f fd)
    (GN : FnOk P w K mg base CX0 k fn fdn ["_law_pot_here", "_law_many"] spNext) (kn : PySem.W.keepIn K (.ref fn) = true) (bn : Binds K fdn ["_law_pot_here", "_law_many"] []) (gn : mg "_law_next" = some (.ref fn))
    (GZ : FnOk P w K mg base CX0 k fz fdz ["_law_pot_here", "_law_few", "_law_most"] spSize) (kz : PySem.W.keepIn K (.ref fz) = true) (bz : Binds K fdz ["_law_pot_here", "_law_few", "_law_most"] []) (gz : mg "_law_size" = some (.ref fz))
    (GM : FnOk P w K mg base CX0 k fm fdm ["_law_pot_here", "_law_many"] spNames) (km : PySem.W.keepIn K (.ref fm) = true) (bm : Binds K fdm ["_law_pot_here", "_law_many"] []) (gm : mg "_law_names" = some (.ref fm))
    (mr : mg "range" = none) (mtu : mg "tuple" = none) : FnOk P w K mg base CX0 (k + 1) f fd ["_law_pot_here"] (spTf N) := by
  refine F.ok scTf (fun vs H Q E h => ?_) (fun cdv A outer s H vs Q E hr h => ?_)
  · obtain ⟨pd, po, t, r, o, g, rfl, _⟩ := h
    rfl
  · obtain ⟨pd, po, t, r, o, g, rfl, hP, ht, q⟩ := h
    have h45 : (2 : Nat) ^ 45 = 35184372088832 := by decide
    have h47 : (2 : Nat) ^ 47 = 140737488355328 := by decide
    have h49 : (2 : Nat) ^ 49 = 562949953421312 := by decide
    have h50 : (2 : Nat) ^ 50 = 1125899906842624 := by decide
    refine ⟨_, (pss_cons (ps_set (i := 1) scTf.nd rfl (.inl rfl) (pe_call GN hr (by rfl) gn kn bn .nil pass0 (pa_cons (pv 0) (pa_cons pe_int pa_nil))))
      (pss_cons (ps_set (i := 2) scTf.nd rfl (.inl rfl) (pe_op op_add pe_int (pe_call GZ hr (by rfl) gz kz bz .nil pass0 (pa_cons (pv 0) (pa_cons pe_int (pa_cons pe_int pa_nil))))))
      (pss_cons (ps_set (i := 3) scTf.nd rfl (.inr rfl) (pe_call GN hr (by rfl) gn kn bn .nil pass0 (pa_cons (pv 0) (pa_cons pe_int pa_nil))))
      (pss_cons (ps_set (i := 4) scTf.nd rfl (.inl rfl) (pe_ix (show IxR _ (rIxL K) from ix_list) (pe_lst (pa_cons pe_int (pa_cons (pe_op op_add (pe_op op_mulW pe_int (pv 2)) pe_int) (pa_cons pe_int (pa_cons pe_int pa_nil))))) (pv 1) (fun _ _ => rfl)))
      (pss_cons (ps_if (pt_cmpR op_lt (pe_dget (hu_of hr) (pv 0) pe_str (fun _ _ => rfl)) (pv 4) (nomark _)) (pss_one (ps_ret (pe_tup (pa_cons pe_str pa_nil)))) pss_nil)
      (pss_cons (ps_dput (hu_of hr) (pv 0) pe_str (pe_op op_sub (pe_dget (hu_of hr) (pv 0) pe_str (fun _ _ => rfl)) (pv 4)) rfl)
      (pss_cons (ps_setLc (i := 5) (own := [("_law_k", 10)]) (g := gName 10) (tt := tYes) rfl scTf.nd rfl rfl rfl (pi_range1 (by rfl) mr (pa_cons (pv 2) pa_nil)) (blkOk_by (N := ["_law_pot_here", "_law_way", "_law_many", "_law_first", "_law_cost", "_law_twos", "_law_names_here", "_law_inner_here", "_law_pairs", "_law_signs_here", "_law_k", "_law_name"]) (sc := defScope sTf) (by decide +kernel)) (fun _ _ _ _ _ => (pg_name (i := 10) scTf.nd rfl (.inl rfl))) (fun _ _ _ _ _ => pts_nil) (fun _ _ _ _ _ => (pe_op op_mulW pe_int (pv 10))))
      (pss_cons (ps_if (pt_cmpR op_eq (pv 1) pe_int (nomark _)) (pss_one (ps_ret (pe_tup (pa_cons pe_str (pa_cons (pe_tup (pa_cons pe_str pa_nil)) (pa_cons (pe_callTy call_tuple_of (by rfl) mtu (by decide +kernel) (pa_cons (pe_lc (own := [("_law_k", 10)]) (g := gName 10) (tt := tYes) rfl scTf.nd (pi_list (pv 5)) (blkOk_by (N := ["_law_pot_here", "_law_way", "_law_many", "_law_first", "_law_cost", "_law_twos", "_law_names_here", "_law_inner_here", "_law_pairs", "_law_signs_here", "_law_k", "_law_name"]) (sc := defScope sTf) (by decide +kernel)) (fun _ _ _ _ _ => (pg_name (i := 10) scTf.nd rfl (.inl rfl))) (fun _ _ _ _ _ => pts_nil) (fun _ _ _ _ _ => (pe_tup (pa_cons (pe_op op_add (pv 3) (pv 10)) (pa_cons (pe_op op_add (pe_op op_add (pv 3) (pv 10)) pe_int) pa_nil))))) pa_nil)) pa_nil)))))) pss_nil)
      (pss_cons (ps_if (pt_cmpR op_eq (pv 1) pe_int (nomark _)) (pss_cons (ps_set (i := 6) scTf.nd rfl (.inr rfl) (pe_call GM hr (by rfl) gm km bm .nil pass0 (pa_cons (pv 0) (pa_cons (pe_op op_mulW pe_int (pv 2)) pa_nil))))
      (pss_cons (ps_set (i := 7) scTf.nd rfl (.inl rfl) (pe_tup (pa_cons pe_str (pa_cons (pe_callTy call_tuple_of (by rfl) mtu (by decide +kernel) (pa_cons (pe_lc (own := [("_law_name", 11)]) (g := gName 11) (tt := tYes) rfl scTf.nd (pi_list (pv 6)) (blkOk_by (N := ["_law_pot_here", "_law_way", "_law_many", "_law_first", "_law_cost", "_law_twos", "_law_names_here", "_law_inner_here", "_law_pairs", "_law_signs_here", "_law_k", "_law_name"]) (sc := defScope sTf) (by decide +kernel)) (fun _ _ _ _ _ => (pg_name (i := 11) scTf.nd rfl (.inl rfl))) (fun _ _ _ _ _ => pts_nil) (fun _ _ _ _ _ => (pe_tup (pa_cons (pv 11) (pa_cons (pe_tup (pa_cons pe_str (pa_cons pe_str pa_nil))) pa_nil))))) pa_nil)) pa_nil))))
      (pss_one (ps_ret (pe_tup (pa_cons pe_str (pa_cons (pv 7) (pa_cons (pe_callTy call_tuple_of (by rfl) mtu (by decide +kernel) (pa_cons (pe_lc (own := [("_law_k", 10)]) (g := gName 10) (tt := tYes) rfl scTf.nd (pi_list (pv 5)) (blkOk_by (N := ["_law_pot_here", "_law_way", "_law_many", "_law_first", "_law_cost", "_law_twos", "_law_names_here", "_law_inner_here", "_law_pairs", "_law_signs_here", "_law_k", "_law_name"]) (sc := defScope sTf) (by decide +kernel)) (fun _ _ _ _ _ => (pg_name (i := 10) scTf.nd rfl (.inl rfl))) (fun _ _ _ _ _ => pts_nil) (fun _ _ _ _ _ => (pe_tup (pa_cons (pe_tup (pa_cons (pe_ix (show IxR _ (rIxL K) from ix_list) (pv 6) (pv 10) (fun _ _ => rfl)) pa_nil)) (pa_cons (pe_tup (pa_cons (pe_ix (show IxR _ (rIxL K) from ix_list) (pv 6) (pe_op op_add (pv 10) pe_int) (fun _ _ => rfl)) pa_nil)) pa_nil))))) pa_nil)) pa_nil)))))))) pss_nil)
      (pss_cons (ps_if (pt_cmpR op_eq (pv 1) pe_int (nomark _)) (pss_cons (ps_set (i := 8) scTf.nd rfl (.inl rfl) (pe_callTy call_tuple_of (by rfl) mtu (by decide +kernel) (pa_cons (pe_lc (own := [("_law_k", 10)]) (g := gName 10) (tt := tYes) rfl scTf.nd (pi_list (pv 5)) (blkOk_by (N := ["_law_pot_here", "_law_way", "_law_many", "_law_first", "_law_cost", "_law_twos", "_law_names_here", "_law_inner_here", "_law_pairs", "_law_signs_here", "_law_k", "_law_name"]) (sc := defScope sTf) (by decide +kernel)) (fun _ _ _ _ _ => (pg_name (i := 10) scTf.nd rfl (.inl rfl))) (fun _ _ _ _ _ => pts_nil) (fun _ _ _ _ _ => (pe_tup (pa_cons (pe_op op_times (pe_tup (pa_cons (pv 3) pa_nil)) (pv 10)) (pa_cons (pe_op op_times (pe_tup (pa_cons (pv 3) pa_nil)) (pe_op op_add (pv 10) pe_int)) pa_nil))))) pa_nil)))
      (pss_one (ps_ret (pe_tup (pa_cons pe_str (pa_cons (pe_tup (pa_cons pe_str (pa_cons (pe_tup (pa_cons pe_str pa_nil)) (pa_cons pe_non pa_nil)))) (pa_cons (pv 8) pa_nil))))))) pss_nil)
      (pss_cons (ps_set (i := 9) scTf.nd rfl (.inr rfl) pe_str)
      (pss_one (ps_ret (pe_tup (pa_cons pe_str (pa_cons (pe_tup (pa_cons pe_str (pa_cons (pv 9) pa_nil))) (pa_cons (pe_callTy call_tuple_of (by rfl) mtu (by decide +kernel) (pa_cons (pe_lc (own := [("_law_k", 10)]) (g := gName 10) (tt := tYes) rfl scTf.nd (pi_list (pv 5)) (blkOk_by (N := ["_law_pot_here", "_law_way", "_law_many", "_law_first", "_law_cost", "_law_twos", "_law_names_here", "_law_inner_here", "_law_pairs", "_law_signs_here", "_law_k", "_law_name"]) (sc := defScope sTf) (by decide +kernel)) (fun _ _ _ _ _ => (pg_name (i := 10) scTf.nd rfl (.inl rfl))) (fun _ _ _ _ _ => pts_nil) (fun _ _ _ _ _ => (pe_tup (pa_cons (pe_ix ix_str (pv 9) (pv 10) (fun _ _ => rfl)) (pa_cons (pe_ix ix_str (pv 9) (pe_op op_add (pv 10) pe_int) (fun _ _ => rfl)) pa_nil))))) pa_nil)) pa_nil))))))))))))))))), ?_⟩
    refine ⟨_, rfl, pd, po, t, _, 4, rfl, hP, by omega, by decide, by decide, fun wy H1 t1 ht1 wy0 wy1 hP1 k1 => ?_⟩
    refine ⟨_, rfl, pd, po, t1, 5, _, 1, 5, rfl, hP1, by omega, by decide, by decide, by decide, by decide, by decide, fun m H2 t2 ht2 hm hP2 k2 => ?_⟩
    refine ⟨_, _, rfl, rfl, ?_⟩
    refine ⟨_, rfl, pd, po, t2, _, 50, rfl, hP2, by omega, by decide, by decide, fun fi H3 t3 ht3 fi0 fi1 hP3 k3 => ?_⟩
    have k13 := (k1.trans k2).trans k3
    have w2 : (2 : Int).natAbs < 2 ^ 64 := by decide
    have wm : (1 + (m : Int)).natAbs < 2 ^ 64 := by
      show _ < 18446744073709551616
      omega
    refine ⟨_, rfl, _, _, rfl, rfl, wide_mul w2 wm (by decide) (by decide) (by decide), _, _, rfl, rfl, by show 4 ≤ sizeLine; decide, fun p4 n4 => ?_⟩
    obtain ⟨v, hv, hm4⟩ := at_some wy0 (show wy < ([V.int 1, .int (2 * (1 + (m : Int)) + 1), .int 2, .int 1].length : Int) from wy1)
    obtain ⟨co, rfl⟩ : ∃ co : Int, v = .int co := by
      simp only [List.mem_cons, List.not_mem_nil, or_false] at hm4
      rcases hm4 with e | e | e | e <;> exact ⟨_, e⟩
    refine ⟨_, rfl, p4, _, wy, _, rfl, rfl, SqL.of upd_same, hv, ?_⟩
    have hP4 := hP3.new (o := .lst [V.int 1, .int (2 * (1 + (m : Int)) + 1), .int 2, .int 1]) n4
    have k14 := k13.trans (Kp.new (o := .lst [V.int 1, .int (2 * (1 + (m : Int)) + 1), .int 2, .int 1]) n4)
    generalize upd H3 p4 (.lst [V.int 1, .int (2 * (1 + (m : Int)) + 1), .int 2, .int 1]) = H4 at hP4 k14 ⊢
    obtain ⟨⟨a4, _, _⟩, c4, _, _⟩ := hP4.x
    refine ⟨_, rfl, pd, _, rfl, a4, _, rfl, _, _, rfl, rfl, _, rfl, ite2 (fun c => ⟨by show 1 ≤ sizeLine; decide, fun p np => ?_⟩) (fun c => ?_)⟩
    · exact q.leaf (by decide) (by omega) (w := "number") (by decide) np .nil hP4 k14
    obtain ⟨H5, u5, hP5, k5⟩ := c4 (r - co)
    refine ⟨_, rfl, pd, _, rfl, a4, _, rfl, _, _, rfl, rfl, _, rfl, pd, H5, rfl, u5, ?_⟩
    have k15 := k14.trans k5
    refine ⟨_, rfl, 1 + (m : Int), rfl, by omega, by omega, fun Da nD => ?_⟩
    refine lc_range (lo := 0) (n := (1 + (m : Int)).toNat) (fun j H6 => Kp M0 H5 H6 ∧ H6 Da = some (.lst (twos j))) ?_ ?_ ?_
    · exact ⟨Kp.new nD, upd_same⟩
    · rintro j H6 hj ⟨k6, e6⟩
      refine ⟨rfl, tYes_ok (iteT ?_)⟩
      rw [show (0 : Int) + (j : Int) = (j : Int) from Int.zero_add _]
      have wj : ((j : Int)).natAbs < 2 ^ 64 := by
        show _ < 18446744073709551616
        omega
      refine ⟨_, rfl, _, _, rfl, rfl, wide_mul w2 wj (by decide) (by decide) (by decide), _, e6, by rw [twos_len]; exact small1000 (by omega), k6.own nD, ?_⟩
      unfold twos
      rw [upd_same, List.range_succ, List.map_append]
      rfl
    rintro H6 ⟨k6, e6⟩
    generalize hM : (1 + (m : Int)).toNat = M at e6
    have mM : 1 + (m : Int) = (M : Int) := by omega
    have M6 : M ≤ 6 := by omega
    have k16 : Kp (PM pd po) H H6 := k15.trans (k6.mono fun b z => z.elim)
    have hP6 : Pot H6 pd po t3 (some (r - co, o, g)) := hP5.keep k6 (fun z => z) (fun z => z)
    have tl : (twos M).length ≤ 100 := by rw [twos_len]; omega
    -- the end: the pairs are there
    have fin : ∀ {H7 : Hp} {v : V} {f : Fo} {t7 : Nat} {ws : List V} {ds : List D} {a p : Addr}, H7 a = none → upd H7 a (.tup ws) p = none → Kp (PM pd po) H H7 → Pot H7 pd po t7 (some (r - co, o, g)) → t7 ≤ t + 60 → Rp H7 v f.enc → f.ok N → f.size ≤ 19 → Rps H7 ws ds → Q (.ref p) (upd (upd H7 a (.tup ws)) p (.tup [.str "turned", v, .ref a])) := fun {H7 v f t7 ws ds a p} na np k7 hP7 h7 hv hf hs hw => by
      have ka : Kp M0 H7 (upd H7 a (.tup ws)) := Kp.new na
      exact q.one h7 (w := "turned") (by decide) np (hv.keep ka noT0) hf (by omega) (vs := [.ref a]) (ds := [.tup ds]) (.cons (.tup upd_same (hw.keep ka noT0)) .nil) (hP7.new na) (k7.trans (ka.mono fun b z => z.elim))
    have kk : ∀ {H7 H8 : Hp}, Kp M0 H7 H8 → Kp (PM pd po) H7 H8 := fun k => k.mono fun b z => z.elim
    have leafs : ∀ {w : Str}, w ∈ ([("text" : Str), "sign", "word", "number", "pick"] : List Str) → ∀ {r : List D}, (Fo.leaf w r).ok N := fun h => h
    by_cases v0 : wy = 0
    · subst v0
      refine ⟨_, rfl, rfl, _, rfl, iteT' (by decide) ?_⟩
      refine ⟨by show 1 ≤ sizeLine; decide, fun p1 n1 => ?_⟩
      have rv : Rp (upd H6 p1 (.tup [.str "number"])) (.ref p1) (Fo.leaf "number" []).enc := .tup (vs := [.str "number"]) upd_same (.cons (.str (by decide)) .nil)
      have k7 : Kp M0 H6 (upd H6 p1 (.tup [.str "number"])) := Kp.new n1
      have hP7 := hP6.new (o := .tup [V.str "number"]) n1
      have e7 := k7 _ _ (fun z => z) e6
      generalize upd H6 p1 (.tup [.str "number"]) = H7 at rv k7 hP7 e7 ⊢
      refine ⟨_, rfl, Da, rfl, ⟨_, SqL.of e7⟩, fun Db nb => lc_rps (xs := twos M) (fun _ _ => True) tl e7 nb (fun _ => rfl) (fun j x H8 Q' hx k8 q8 => ?_) (fun H8 ws ds k8 e8 hr8 _ _ => ?_)⟩
      · obtain ⟨rfl, hj⟩ := twos_at hx
        refine ⟨_, rfl, _, rfl, _, _, rfl, rfl, _, rfl, _, rfl, _, _, rfl, rfl, _, _, rfl, rfl, by show 2 ≤ sizeLine; decide, fun p np => ?_⟩
        exact q8 _ _ (.tup [.int _, .int _]) True.intro (.tup upd_same (.cons .int (.cons .int .nil))) (Kp.new np)
      · refine ⟨Db, ws, rfl, .inl ⟨SqL.of e8, fun a na => ⟨by show 3 ≤ sizeLine; decide, fun p np => ?_⟩⟩⟩
        exact fin na np (k16.trans (kk (k7.trans k8))) ((hP7.keep k8 (fun z => z) (fun z => z))) (by omega) (rv.keep k8 noT0) (leafs (by decide)) (by show 1 ≤ 19; decide) hr8
    have n0 : V.int wy ≠ V.int 0 := fun e => v0 (V.int.inj e)
    refine ⟨_, rfl, rfl, _, rfl, iteF' (decide_eq_false n0) ?_⟩
    by_cases v1 : wy = 1
    · subst v1
      refine ⟨_, rfl, rfl, _, rfl, iteT' (by decide) ?_⟩
      refine ⟨_, rfl, _, rfl, _, _, rfl, rfl, wide_mul w2 wm (by decide) (by decide) (by decide), pd, po, t3, 2 * M, _, by rw [mM]; rfl, hP6, by omega, by omega, by omega, fun zs l H7 t7 ht7 lz hz nl el nPM hP7 k7 => ?_⟩
      refine ⟨_, rfl, l, rfl, ⟨_, SqL.of el⟩, fun Db nb => lc_rps (xs := zs.map V.str) (fun j d => ∃ z, zs[j]? = some z ∧ d = .tup [.str z, (Fo.leaf "text" [.str ";"]).enc]) (by rw [List.length_map]; omega) el nb (fun _ => rfl) (fun j x H8 Q' hx k8 q8 => ?_) (fun H8 ws ds k8 e8 hr8 l8 hd8 => ?_)⟩
      · rw [List.getElem?_map] at hx
        obtain ⟨z, hz1, rfl⟩ := Option.map_eq_some_iff.mp hx
        have lz8 : z.length ≤ 1000 := Nat.le_trans (hz.2.2 z (List.mem_of_getElem? hz1)).2.1 (by decide)
        refine ⟨_, rfl, by show 2 ≤ sizeLine; decide, fun p1 n1 => ⟨by show 2 ≤ sizeLine; decide, fun p np => ?_⟩⟩
        refine q8 _ _ (.tup [.str z, (Fo.leaf "text" [.str ";"]).enc]) ⟨z, hz1, rfl⟩ (.tup (vs := [.str z, .ref p1]) upd_same (.cons (.str (Nat.le_of_lt (small1000 lz8))) (.cons (.tup (vs := [.str "text", .str ";"]) ?_ (.cons (.str (by decide)) (.cons (.str (by decide)) .nil))) .nil))) ((Kp.new n1).trans (Kp.new np))
        rw [upd_ne (ne_of_none upd_same np)]
        exact upd_same
      · rw [List.length_map] at l8
        refine ⟨Db, ws, rfl, .inl ⟨SqL.of e8, fun a na => ⟨by show 2 ≤ sizeLine; decide, fun p1 n1 => ?_⟩⟩⟩
        have ka : Kp M0 H8 (upd H8 a (.tup ws)) := Kp.new na
        have k9 : Kp M0 (upd H8 a (.tup ws)) (upd (upd H8 a (.tup ws)) p1 (.tup [.str "either", .ref a])) := Kp.new n1
        have ed := zip_repl (.leaf "text" [.str ";"]) zs ds l8 hd8
        have rv : Rp (upd (upd H8 a (.tup ws)) p1 (.tup [.str "either", .ref a])) (.ref p1) (Fo.either zs (List.replicate zs.length (.leaf "text" [.str ";"]))).enc := by
          refine .tup (vs := [.str "either", .ref a]) upd_same (.cons (.str (by decide)) (.cons (.tup (vs := ws) (k9 _ _ (fun z => z) upd_same) ?_) .nil))
          rw [← ed]
          exact hr8.keep (ka.trans k9) noT0
        have okv : (Fo.either zs (List.replicate zs.length (.leaf "text" [.str ";"]))).ok N := ⟨by rw [List.length_replicate], oks_repl (leafs (by decide)) _⟩
        have szv : (Fo.either zs (List.replicate zs.length (.leaf "text" [.str ";"]))).size ≤ 19 := by
          show 1 + Fo.sizes (List.replicate zs.length (.leaf "text" [.str ";"])) ≤ 19
          rw [sizes_repl]
          show 1 + zs.length * 1 ≤ 19
          omega
        have k79 : Kp M0 H7 (upd (upd H8 a (.tup ws)) p1 (.tup [.str "either", .ref a])) := k8.trans (ka.trans k9)
        have hP9 := hP7.keep k79 (fun z => z) (fun z => z)
        have el9 := k79 _ _ (fun z => z) el
        have hD : ¬ PM pd po Da := off_pot hP5 nD
        have eD9 := k79 _ _ (fun z => z) (k7 Da _ hD e6)
        have kH9 : Kp (PM pd po) H (upd (upd H8 a (.tup ws)) p1 (.tup [.str "either", .ref a])) := (k16.trans k7).trans (kk k79)
        generalize upd (upd H8 a (.tup ws)) p1 (.tup [.str "either", .ref a]) = H9 at rv hP9 el9 eD9 kH9 ⊢
        refine ⟨_, rfl, _, rfl, Da, rfl, ⟨_, SqL.of eD9⟩, fun Dc nc => lc_rps (xs := twos M) (fun _ _ => True) tl eD9 nc (fun _ => rfl) (fun j x H10 Q' hx k10 q10 => ?_) (fun H10 ws ds k10 e10 hr10 _ _ => ?_)⟩
        · obtain ⟨rfl, hj⟩ := twos_at hx
          have h1 : 2 * j < zs.length := by omega
          have h2 : 2 * j + 1 < zs.length := by omega
          have lz8 : ∀ z ∈ zs, z.length ≤ sizeLine := fun z hz1 => Nat.le_of_lt (small1000 (Nat.le_trans (hz.2.2 z hz1).2.1 (by decide)))
          have el10 := k10 _ _ (fun z => z) el9
          refine ⟨_, rfl, _, rfl, l, _, _, .str zs[2 * j], rfl, rfl, SqL.of el10, ?_, by show 1 ≤ sizeLine; decide, fun p1 n1 => ?_⟩
          · exact atI_nat (j := 2 * j) (by rw [List.getElem?_map, List.getElem?_eq_getElem h1]; rfl)
          have el11 : upd H10 p1 (.tup [.str zs[2 * j]]) l = some (.lst (zs.map V.str)) := by rw [upd_ne (ne_of_none el10 n1)]; exact el10
          refine ⟨_, rfl, _, rfl, _, _, rfl, rfl, l, _, _, .str zs[2 * j + 1], rfl, rfl, SqL.of el11, ?_, by show 1 ≤ sizeLine; decide, fun p2 n2 => ⟨by show 2 ≤ sizeLine; decide, fun p np => ?_⟩⟩
          · exact atI_nat (j := 2 * j + 1) (by rw [List.getElem?_map, List.getElem?_eq_getElem h2]; rfl)
          refine q10 _ _ (.tup [.tup [.str zs[2 * j]], .tup [.str zs[2 * j + 1]]]) True.intro (.tup (vs := [.ref p1, .ref p2]) upd_same (.cons (.tup (vs := [.str zs[2 * j]]) ?_ (.cons (.str (lz8 _ (List.getElem_mem h1))) .nil)) (.cons (.tup (vs := [.str zs[2 * j + 1]]) ?_ (.cons (.str (lz8 _ (List.getElem_mem h2))) .nil)) .nil))) (((Kp.new n1).trans (Kp.new n2)).trans (Kp.new np))
          · rw [upd_ne (ne_of_none (show upd (upd H10 p1 (.tup [.str zs[2 * j]])) p2 (.tup [.str zs[2 * j + 1]]) p1 = some (.tup [.str zs[2 * j]]) by rw [upd_ne (ne_of_none upd_same n2)]; exact upd_same) np), upd_ne (ne_of_none upd_same n2)]
            exact upd_same
          · rw [upd_ne (ne_of_none upd_same np)]
            exact upd_same
        · refine ⟨Dc, ws, rfl, .inl ⟨SqL.of e10, fun a na => ⟨by show 3 ≤ sizeLine; decide, fun p np => ?_⟩⟩⟩
          exact fin na np (kH9.trans (kk k10)) (hP9.keep k10 (fun z => z) (fun z => z)) (by omega) (rv.keep k10 noT0) okv szv hr10
    have n1 : V.int wy ≠ V.int 1 := fun e => v1 (V.int.inj e)
    refine ⟨_, rfl, rfl, _, rfl, iteF' (decide_eq_false n1) ?_⟩
    by_cases v2 : wy = 2
    · subst v2
      refine ⟨_, rfl, rfl, _, rfl, iteT' (by decide) ?_⟩
      refine ⟨_, rfl, Da, rfl, ⟨_, SqL.of e6⟩, fun Db nb => lc_rps (xs := twos M) (fun _ _ => True) tl e6 nb (fun _ => rfl) (fun j x H8 Q' hx k8 q8 => ?_) (fun H8 ws ds k8 e8 hr8 _ _ => ?_)⟩
      · obtain ⟨rfl, hj⟩ := twos_at hx
        refine ⟨_, rfl, by show 1 ≤ sizeLine; decide, fun p1 n1 => ⟨_, rfl, p1, _, [.int fi], rfl, rfl, upd_same, by simp, by omega, by omega, by show 1 ≤ 1000; decide, fun a1 H9 e9 k9 => ?_⟩⟩
        refine ⟨_, rfl, by show 1 ≤ sizeLine; decide, fun p2 n2 => ⟨_, rfl, _, _, rfl, rfl, p2, _, [.int fi], rfl, rfl, upd_same, by simp, by omega, by omega, by show 1 ≤ 1000; decide, fun a2 H10 e10 k10 => ⟨by show 2 ≤ sizeLine; decide, fun p np => ?_⟩⟩⟩
        have allI : ∀ (n : Nat) (v : V), v ∈ (List.replicate n [V.int fi]).flatten → ∃ i : Int, v = .int i := fun n v hv => by
          obtain ⟨l, h1, h2⟩ := List.mem_flatten.mp hv
          rw [(List.mem_replicate.mp h1).2] at h2
          exact ⟨_, List.mem_singleton.mp h2⟩
        have kB : Kp M0 H9 (upd H10 p (.tup [.ref a1, .ref a2])) := ((Kp.new n2).trans k10).trans (Kp.new np)
        obtain ⟨d1, r1⟩ := Rps.ints (H := upd H10 p (.tup [.ref a1, .ref a2])) (allI (2 * (j : Int)).toNat)
        obtain ⟨d2, r2⟩ := Rps.ints (H := upd H10 p (.tup [.ref a1, .ref a2])) (allI (2 * (j : Int) + 1).toNat)
        refine q8 _ _ (.tup [.tup d1, .tup d2]) True.intro (.tup (vs := [.ref a1, .ref a2]) upd_same (.cons (.tup (kB _ _ (fun z => z) e9) r1) (.cons (.tup ?_ r2) .nil))) (((Kp.new n1).trans k9).trans kB)
        rw [upd_ne (ne_of_none e10 np)]
        exact e10
      · refine ⟨Db, ws, rfl, .inl ⟨SqL.of e8, fun a na => ?_⟩⟩
        have ka : Kp M0 H8 (upd H8 a (.tup ws)) := Kp.new na
        refine ⟨by show 1 ≤ sizeLine; decide, fun p1 n1 => ⟨by show 3 ≤ sizeLine; decide, fun p2 n2 => ⟨_, rfl, by show 3 ≤ sizeLine; decide, fun p np => ?_⟩⟩⟩
        have kb : Kp M0 (upd H8 a (.tup ws)) (upd (upd (upd H8 a (.tup ws)) p1 (.tup [.str "number"])) p2 (.tup [.str "again", .ref p1, .non])) := (Kp.new n1).trans (Kp.new n2)
        have rv : Rp (upd (upd (upd H8 a (.tup ws)) p1 (.tup [.str "number"])) p2 (.tup [.str "again", .ref p1, .non])) (.ref p2) (Fo.again (.leaf "number" [])).enc := by
          refine .tup (vs := [.str "again", .ref p1, .non]) upd_same (.cons (.str (by decide)) (.cons (.tup (vs := [.str "number"]) ?_ (.cons (.str (by decide)) .nil)) (.cons .non .nil)))
          rw [upd_ne (ne_of_none upd_same n2)]
          exact upd_same
        have ea := kb _ _ (fun z => z) (upd_same (H := H8) (a := a))
        have kH : Kp (PM pd po) H (upd (upd (upd H8 a (.tup ws)) p1 (.tup [.str "number"])) p2 (.tup [.str "again", .ref p1, .non])) := k16.trans (kk ((k8.trans ka).trans kb))
        have hP9 : Pot (upd (upd (upd H8 a (.tup ws)) p1 (.tup [.str "number"])) p2 (.tup [.str "again", .ref p1, .non])) pd po t3 (some (r - co, o, g)) := hP6.keep ((k8.trans ka).trans kb) (fun z => z) (fun z => z)
        have hr9 := hr8.keep (ka.trans kb) noT0
        generalize upd (upd (upd H8 a (.tup ws)) p1 (.tup [.str "number"])) p2 (.tup [.str "again", .ref p1, .non]) = H9 at rv ea kH hP9 hr9 np ⊢
        exact q.one (by omega) (w := "turned") (by decide) np rv (show ("number" : Str) ∈ _ by decide) (by show 1 + 2 ≤ 20; decide) (vs := [.ref a]) (ds := [.tup ds]) (.cons (.tup ea hr9) .nil) hP9 kH
    have n2 : V.int wy ≠ V.int 2 := fun e => v2 (V.int.inj e)
    refine ⟨_, rfl, rfl, _, rfl, iteF' (decide_eq_false n2) ?_⟩
    refine ⟨_, rfl, by show 2 ≤ sizeLine; decide, fun p1 n1 => ?_⟩
    have rv : Rp (upd H6 p1 (.tup [.str "sign", .str "abcdefghijkl"])) (.ref p1) (Fo.leaf "sign" [.str "abcdefghijkl"]).enc := .tup (vs := [.str "sign", .str "abcdefghijkl"]) upd_same (.cons (.str (by decide)) (.cons (.str (by decide)) .nil))
    have k7 : Kp M0 H6 (upd H6 p1 (.tup [.str "sign", .str "abcdefghijkl"])) := Kp.new n1
    have hP7 := hP6.new (o := .tup [V.str "sign", .str "abcdefghijkl"]) n1
    have e7 := k7 _ _ (fun z => z) e6
    generalize upd H6 p1 (.tup [.str "sign", .str "abcdefghijkl"]) = H7 at rv k7 hP7 e7 ⊢
    refine ⟨_, rfl, Da, rfl, ⟨_, SqL.of e7⟩, fun Db nb => lc_rps (xs := twos M) (fun _ _ => True) tl e7 nb (fun _ => rfl) (fun j x H8 Q' hx k8 q8 => ?_) (fun H8 ws ds k8 e8 hr8 _ _ => ?_)⟩
    · obtain ⟨rfl, hj⟩ := twos_at hx
      obtain ⟨c1, hc1, _⟩ := at_some (xs := ("abcdefghijkl" : Str).cps.toList) (d := 2 * (j : Int)) (by omega) (by show 2 * (j : Int) < 12; omega)
      obtain ⟨c2, hc2, _⟩ := at_some (xs := ("abcdefghijkl" : Str).cps.toList) (d := 2 * (j : Int) + 1) (by omega) (by show 2 * (j : Int) + 1 < 12; omega)
      refine ⟨_, rfl, _, rfl, _, _, c1, rfl, rfl, by decide, hc1, _, rfl, _, rfl, _, _, rfl, rfl, _, _, c2, rfl, rfl, by decide, hc2, by show 2 ≤ sizeLine; decide, fun p np => ?_⟩
      exact q8 _ _ (.tup [.str ⟨#[c1]⟩, .str ⟨#[c2]⟩]) True.intro (.tup upd_same (.cons (.str (by show 1 ≤ sizeLine; decide)) (.cons (.str (by show 1 ≤ sizeLine; decide)) .nil))) (Kp.new np)
    · refine ⟨Db, ws, rfl, .inl ⟨SqL.of e8, fun a na => ⟨by show 3 ≤ sizeLine; decide, fun p np => ?_⟩⟩⟩
      exact fin na np (k16.trans (kk (k7.trans k8))) ((hP7.keep k8 (fun z => z) (fun z => z))) (by omega) (rv.keep k8 noT0) (leafs (by decide)) (by show 1 ≤ 19; decide) hr8
end
end RT

namespace RT
open PySem PySem.Spec PyProof.Rows L2
/-! forms so far -/
def FsAt (H : Hp) (Da : Addr) (N : List Str) (B : Nat) (ws : List V) (fs : List Fo) : Prop := H Da = some (.lst ws) ∧ Rps H ws (Fo.encs fs) ∧ Fo.oks N fs ∧ Fo.sizes fs ≤ fs.length * B
theorem encs_len : ∀ fs : List Fo, (Fo.encs fs).length = fs.length
  | [] => rfl
  | f :: r => by
    show (f.enc :: Fo.encs r).length = _
    rw [List.length_cons, List.length_cons, encs_len r]
theorem FsAt.len {H : Hp} {Da : Addr} {N : List Str} {B : Nat} {ws : List V} {fs : List Fo} (h : FsAt H Da N B ws fs) : ws.length = fs.length := by rw [h.2.1.len, encs_len]
theorem FsAt.keep {H H7 : Hp} {Da : Addr} {N : List Str} {B : Nat} {ws : List V} {fs : List Fo} {M : Addr → Prop} (h : FsAt H Da N B ws fs) (k : Kp M H H7) (hT : ∀ a xs, M a → H a ≠ some (.tup xs)) (hD : ¬ M Da) : FsAt H7 Da N B ws fs :=
  ⟨k Da _ hD h.1, h.2.1.keep k hT, h.2.2⟩
theorem FsAt.push {H : Hp} {Da : Addr} {N : List Str} {B : Nat} {ws : List V} {fs : List Fo} {v : V} {f : Fo} (h : FsAt H Da N B ws fs) (hv : Rp H v f.enc) (hf : f.ok N) (hs : f.size ≤ B) : FsAt (upd H Da (.lst (ws ++ [v]))) Da N B (ws ++ [v]) (fs ++ [f]) := by
  refine ⟨upd_same, ?_, Fo.oks_app _ _ h.2.2.1 ⟨hf, True.intro⟩, ?_⟩
  · rw [Fo.encs_app]
    refine Rps.keep (M := fun b => b = Da) (Kp.put rfl) (fun a xs m e => ?_) (h.2.1.app (.cons hv .nil))
    rw [m, h.1] at e
    cases e
  · rw [Fo.sizes_app, List.length_append]
    show Fo.sizes fs + (f.size + 0) ≤ (fs.length + 1) * B
    rw [Nat.succ_mul]
    have := h.2.2.2
    omega
theorem Rps.zipE {H : Hp} : ∀ {ps : List Addr} {zs : List Str} {ws : List V} {ds : List D}, Rps H ws ds → zs.length = ws.length → ps.length = zs.length → (∀ z ∈ zs, z.length ≤ sizeLine) → (∀ (j : Nat) (p : Addr), ps[j]? = some p → ∃ x y, (zs.map V.str)[j]? = some x ∧ ws[j]? = some y ∧ H p = some (.tup [x, y])) → Rps H (ps.map V.ref) (List.zipWith (fun (n : Str) (d : D) => D.tup [.str n, d]) zs ds)
  | [], [], _, _, _, _, _, _, _ => .nil
  | p :: ps, z :: zs, w :: ws, d :: ds, .cons r t, l1, l2, hz, h => by
    obtain ⟨x, y, e1, e2, e3⟩ := h 0 p rfl
    cases e1
    cases e2
    exact .cons (.tup e3 (.cons (.str (hz z (List.mem_cons_self ..))) (.cons r .nil))) (Rps.zipE t (by simpa using l1) (by simpa using l2) (fun z hz1 => hz z (List.mem_cons_of_mem _ hz1)) fun j p hj => by
      have q := h (j + 1) p (by simpa using hj)
      simpa using q)
  | [], _ :: _, _, _, _, _, l, _, _ => by cases l
  | _ :: _, [], _, _, _, _, l, _, _ => by cases l
  | _ :: _, _ :: _, [], _, _, l, _, _, _ => by cases l
theorem FormQ.row {N : List Str} {pd po : Addr} {t T B : Nat} {H H1 : Hp} {Q : VK} (q : FormQ N pd po t T B H Q) {t1 : Nat} {r o g : Int} (ht : t1 ≤ t + T) {fs : List Fo} {ws : List V} {a p : Addr} (na : H1 a = none) (np : upd H1 a (.tup ws) p = none) (hr : Rps H1 ws (Fo.encs fs)) (ok : Fo.oks N fs) (hB : 1 + Fo.sizes fs ≤ B) (hP : Pot H1 pd po t1 (some (r, o, g))) (k : Kp (PM pd po) H H1) :
    Q (.ref p) (upd (upd H1 a (.tup ws)) p (.tup [.str "row", .ref a])) := by
  have ka : Kp M0 (upd H1 a (.tup ws)) (upd (upd H1 a (.tup ws)) p (.tup [.str "row", .ref a])) := Kp.new np
  have kb : Kp M0 H1 (upd (upd H1 a (.tup ws)) p (.tup [.str "row", .ref a])) := (Kp.new na).trans ka
  exact q _ (.row fs) _ t1 r o g ht (.tup (vs := [.str "row", .ref a]) upd_same (.cons (.str (by decide)) (.cons (.tup (ka _ _ (fun z => z) upd_same) (hr.keep kb noT0)) .nil))) ok hB (hP.keep kb (fun z => z) (fun z => z)) (k.trans (kb.mono fun b z => z.elim))
theorem FormQ.either {N : List Str} {pd po : Addr} {t T B : Nat} {H H1 : Hp} {Q : VK} (q : FormQ N pd po t T B H Q) {t1 : Nat} {r o g : Int} (ht : t1 ≤ t + T) {zs : List Str} {fs : List Fo} {ws : List V} {a p : Addr} (na : H1 a = none) (np : upd H1 a (.tup ws) p = none) (hr : Rps H1 ws (List.zipWith (fun (n : Str) (d : D) => D.tup [.str n, d]) zs (Fo.encs fs))) (hl : zs.length = fs.length) (ok : Fo.oks N fs) (hB : 1 + Fo.sizes fs ≤ B) (hP : Pot H1 pd po t1 (some (r, o, g))) (k : Kp (PM pd po) H H1) :
    Q (.ref p) (upd (upd H1 a (.tup ws)) p (.tup [.str "either", .ref a])) := by
  have ka : Kp M0 (upd H1 a (.tup ws)) (upd (upd H1 a (.tup ws)) p (.tup [.str "either", .ref a])) := Kp.new np
  have kb : Kp M0 H1 (upd (upd H1 a (.tup ws)) p (.tup [.str "either", .ref a])) := (Kp.new na).trans ka
  exact q _ (.either zs fs) _ t1 r o g ht (.tup (vs := [.str "either", .ref a]) upd_same (.cons (.str (by decide)) (.cons (.tup (ka _ _ (fun z => z) upd_same) (hr.keep kb noT0)) .nil))) ⟨hl, ok⟩ hB (hP.keep kb (fun z => z) (fun z => z)) (k.trans (kb.mono fun b z => z.elim))
/-- turns and size of a form by its depth -/
def fT : Nat → Nat
  | 0 => 200
  | d + 1 => 8 * fT d + 200
def fB : Nat → Nat
  | 0 => 3
  | d + 1 => 8 * fB d + 21
theorem fT_ge (d : Nat) : 200 ≤ fT d := by
  cases d with
  | zero => exact Nat.le_refl _
  | succ d => exact Nat.le_add_left ..
theorem fB_ge (d : Nat) : 3 ≤ fB d := by
  cases d with
  | zero => exact Nat.le_refl _
  | succ d => exact Nat.le_trans (by decide) (Nat.le_add_left 21 _)
end RT

namespace RT
open PySem PySem.Spec PyProof.Rows L2
abbrev sFm : Stmt := topS 22
theorem scFm : FnScope ["_law_pot_here", "_law_names_here", "_law_leaves", "_law_deep", "_law_way", "_law_many", "_law_inner_here", "_law_some", "_law_k"] ["_law_pot_here", "_law_names_here", "_law_leaves", "_law_deep"] (defScope sFm) := ⟨rfl, rfl, rfl, by decide +kernel, rfl, by decide +kernel, by decide +kernel⟩
section
variable {P : Program} {w : World} {K : PySem.W.Frag} {mg : Str → Option Value} {base : Heap}
def spFm (N : List Str) (n : Nat) : Sp := fun vs H Q _ => ∃ (pd po : Addr) (t : Nat) (r o g : Int) (ln ll : Addr) (ls : List Str) (d : Nat), vs = [.ref pd, .ref ln, .ref ll, .int d] ∧ Pot H pd po t (some (r, o, g)) ∧ t + fT d < 2 ^ 44 ∧ d < n ∧
  H ln = some (.lst (N.map V.str)) ∧ H ll = some (.lst (ls.map V.str)) ∧ (∀ x ∈ ls, x ∈ N) ∧ ¬ PM pd po ln ∧ ¬ PM pd po ll ∧ (∀ x ∈ N, x.length ≤ 1000) ∧ N.length ≤ 100 ∧ ls.length ≤ 100 ∧ FormQ N pd po t (fT d) (fB d) H Q
theorem none_fm {N : List Str} {f : Addr} {fd : FuncData} {k : Nat} : FnOk P w K mg base CX0 k f fd ["_law_pot_here", "_law_names_here", "_law_leaves", "_law_deep"] (spFm N 0) :=
  ⟨fun vs H Q E h => by obtain ⟨_, _, _, _, _, _, _, _, _, _, _, _, _, h, _⟩ := h; exact absurd h (Nat.not_lt_zero _), fun A outer s H args us vs Q E _ _ _ _ h => by obtain ⟨_, _, _, _, _, _, _, _, _, _, _, _, _, h, _⟩ := h; exact absurd h (Nat.not_lt_zero _)⟩
set_option maxHeartbeats 0 in
theorem ok_fm {N : List Str} {n : Nat} {f fn fz fm fp fbf ftf fb fk : Addr} {fd fdn fdz fdm fdp fdbf fdtf fdb fdk : FuncData} {k : Nat} (F : Fun K "_law_form" "_law_form" sFm f fd)
    (GN : FnOk P w K mg base CX0 k fn fdn ["_law_pot_here", "_law_many"] spNext) (kn : PySem.W.keepIn K (.ref fn) = true) (bn : Binds K fdn ["_law_pot_here", "_law_many"] []) (gn : mg "_law_next" = some (.ref fn))
    (GZ : FnOk P w K mg base CX0 k fz fdz ["_law_pot_here", "_law_few", "_law_most"] spSize) (kz : PySem.W.keepIn K (.ref fz) = true) (bz : Binds K fdz ["_law_pot_here", "_law_few", "_law_most"] []) (gz : mg "_law_size" = some (.ref fz))
    (GM : FnOk P w K mg base CX0 k fm fdm ["_law_pot_here", "_law_many"] spNames) (km : PySem.W.keepIn K (.ref fm) = true) (bm : Binds K fdm ["_law_pot_here", "_law_many"] []) (gm : mg "_law_names" = some (.ref fm))
    (GP : FnOk P w K mg base CX0 k fp fdp ["_law_pot_here"] (spPl N)) (kp : PySem.W.keepIn K (.ref fp) = true) (bp : Binds K fdp ["_law_pot_here"] []) (gp : mg "_law_plain" = some (.ref fp))
    (GBF : FnOk P w K mg base CX0 k fbf fdbf ["_law_pot_here"] (spBf N)) (kbf : PySem.W.keepIn K (.ref fbf) = true) (bbf : Binds K fdbf ["_law_pot_here"] []) (gbf : mg "_law_bare_form" = some (.ref fbf))
    (GTF : FnOk P w K mg base CX0 k ftf fdtf ["_law_pot_here"] (spTf N)) (ktf : PySem.W.keepIn K (.ref ftf) = true) (btf : Binds K fdtf ["_law_pot_here"] []) (gtf : mg "_law_turned_form" = some (.ref ftf))
    (GB : FnOk P w K mg base CX0 k fb fdb ["_law_pot_here", "_law_few", "_law_most"] spBit) (kb : PySem.W.keepIn K (.ref fb) = true) (bb : Binds K fdb ["_law_pot_here", "_law_few", "_law_most"] []) (gb : mg "_law_bit" = some (.ref fb))
    (GK : FnOk P w K mg base CX0 k fk fdk ["_law_pot_here", "_law_some"] (spPick K)) (kk : PySem.W.keepIn K (.ref fk) = true) (bk : Binds K fdk ["_law_pot_here", "_law_some"] []) (gk : mg "_law_pick" = some (.ref fk))
    (GR : FnOk P w K mg base CX0 k f fd ["_law_pot_here", "_law_names_here", "_law_leaves", "_law_deep"] (spFm N n)) (kr : PySem.W.keepIn K (.ref f) = true) (br : Binds K fd ["_law_pot_here", "_law_names_here", "_law_leaves", "_law_deep"] []) (gr : mg "_law_form" = some (.ref f))
    (mr : mg "range" = none) (mtu : mg "tuple" = none) (mmin : mg "min" = none) (ml : mg "len" = none) (mli : mg "list" = none) (mzi : mg "zip" = none) :
    FnOk P w K mg base CX0 (k + 1) f fd ["_law_pot_here", "_law_names_here", "_law_leaves", "_law_deep"] (spFm N (n + 1)) := by
  refine F.ok scFm (fun vs H Q E h => ?_) (fun cdv A outer s H vs Q E hr h => ?_)
  · obtain ⟨pd, po, t, r, o, g, ln, ll, ls, d, rfl, _⟩ := h
    rfl
  · obtain ⟨pd, po, t, r, o, g, ln, ll, ls, d, rfl, hP, ht, hd, eln, ell, hls, nln, nll, hNl, hNc, hlc, q⟩ := h
    have h44 : (2 : Nat) ^ 44 = 17592186044416 := by decide
    have h45 : (2 : Nat) ^ 45 = 35184372088832 := by decide
    have h47 : (2 : Nat) ^ 47 = 140737488355328 := by decide
    have h49 : (2 : Nat) ^ 49 = 562949953421312 := by decide
    have h50 : (2 : Nat) ^ 50 = 1125899906842624 := by decide
    have fTd := fT_ge d
    have fBd := fB_ge d
    refine ⟨_, (pss_cons (ps_set (i := 4) scFm.nd rfl (.inl rfl) (pe_call GN hr (by rfl) gn kn bn .nil pass0 (pa_cons (pv 0) (pa_cons pe_int pa_nil))))
      (pss_cons (ps_if (PW.pt (pw_or (pt_cmpR op_eq (pv 3) pe_int (nomark _)) (pw_or (pt_cmpR op_lt (pv 4) pe_int (nomark _)) (pw_or1 (pt_cmpR op_lt (pe_dget (hu_of hr) (pv 0) pe_str (fun _ _ => rfl)) pe_int (nomark _)))))) (pss_one (ps_ret (pe_call GP hr (by rfl) gp kp bp .nil pass0 (pa_cons (pv 0) pa_nil)))) pss_nil)
      (pss_cons (ps_if (pt_cmpR op_lt (pv 4) pe_int (nomark _)) (pss_cons (ps_set (i := 5) scFm.nd rfl (.inl rfl) (pe_callB (call_min2 rfl) (by rfl) mmin (by decide +kernel) (pa_cons (pe_call GZ hr (by rfl) gz kz bz .nil pass0 (pa_cons (pv 0) (pa_cons pe_int (pa_cons pe_int pa_nil)))) (pa_cons (pe_dget (hu_of hr) (pv 0) pe_str (fun _ _ => rfl)) pa_nil))))
      (pss_cons (ps_dput (hu_of hr) (pv 0) pe_str (pe_op op_sub (pe_dget (hu_of hr) (pv 0) pe_str (fun _ _ => rfl)) (pv 5)) rfl)
      (pss_cons (ps_setLc (i := 6) (own := [("_law_k", 8)]) (g := gName 8) (tt := tYes) rfl scFm.nd rfl rfl rfl (pi_range1 (by rfl) mr (pa_cons (pv 5) pa_nil)) (blkOk_by (N := ["_law_pot_here", "_law_names_here", "_law_leaves", "_law_deep", "_law_way", "_law_many", "_law_inner_here", "_law_some", "_law_k"]) (sc := defScope sFm) (by decide +kernel)) (fun _ _ _ _ _ => (pg_name (i := 8) scFm.nd rfl (.inl rfl))) (fun _ _ _ _ _ => pts_nil) (fun _ _ _ _ _ => (pe_call GR hr (by rfl) gr kr br .nil pass0 (pa_cons (pv 0) (pa_cons (pv 1) (pa_cons (pv 2) (pa_cons (pe_op op_sub (pv 3) pe_int) pa_nil)))))))
      (pss_one (ps_ret (pe_tup (pa_cons pe_str (pa_cons (pe_callTy call_tuple_of (by rfl) mtu (by decide +kernel) (pa_cons (pv 6) pa_nil)) pa_nil)))))))) pss_nil)
      (pss_cons (ps_if (pt_cmpR op_lt (pv 4) pe_int (nomark _)) (pss_cons (ps_set (i := 7) scFm.nd rfl (.inl rfl) (pe_call GM hr (by rfl) gm km bm .nil pass0 (pa_cons (pv 0) (pa_cons (pe_op op_add pe_int (pe_callB (call_min2 rfl) (by rfl) mmin (by decide +kernel) (pa_cons (pe_call GZ hr (by rfl) gz kz bz .nil pass0 (pa_cons (pv 0) (pa_cons pe_int (pa_cons pe_int pa_nil)))) (pa_cons (pe_op op_sub (pe_dget (hu_of hr) (pv 0) pe_str (fun _ _ => rfl)) pe_int) pa_nil)))) pa_nil))))
      (pss_cons (ps_dput (hu_of hr) (pv 0) pe_str (pe_op op_sub (pe_dget (hu_of hr) (pv 0) pe_str (fun _ _ => rfl)) (pe_callB call_len_seq (by rfl) ml PySem.boot_len (pa_cons (pv 7) pa_nil))) rfl)
      (pss_cons (ps_set (i := 6) scFm.nd rfl (.inl rfl) (pe_lst (pa_cons (pe_call GR hr (by rfl) gr kr br .nil pass0 (pa_cons (pv 0) (pa_cons (pv 1) (pa_cons (pv 2) (pa_cons (pe_op op_sub (pv 3) pe_int) pa_nil))))) pa_nil)))
      (pss_cons (ps_for PassesOwn.never rfl (pi_range2 (by rfl) mr (pa_cons pe_int (pa_cons (pe_callB call_len_seq (by rfl) ml PySem.boot_len (pa_cons (pv 7) pa_nil)) pa_nil))) (pg_name (i := 8) scFm.nd rfl (.inl rfl)) (pss_one (ps_expr (pe_bm PySem.F.plainAttrs_list PySem.F.slot_list_append PySem.F.type_list_append mt_append (pv 6) (pa_cons (pe_call GR hr (by rfl) gr kr br .nil pass0 (pa_cons (pv 0) (pa_cons (pv 1) (pa_cons (pv 1) (pa_cons (pe_op op_sub (pv 3) pe_int) pa_nil))))) pa_nil)))))
      (pss_one (ps_ret (pe_tup (pa_cons pe_str (pa_cons (pe_callTy call_tuple_of (by rfl) mtu (by decide +kernel) (pa_cons (pe_listZip (by rfl) (by rfl) mli (by rfl) mzi (pa_cons (pv 7) (pa_cons (pv 6) pa_nil))) pa_nil)) pa_nil))))))))) pss_nil)
      (pss_cons (ps_if (pt_cmpR op_lt (pv 4) pe_int (nomark _)) (pss_cons (ps_dput (hu_of hr) (pv 0) pe_str (pe_op op_sub (pe_dget (hu_of hr) (pv 0) pe_str (fun _ _ => rfl)) pe_int) rfl)
      (pss_cons (ps_set (i := 6) scFm.nd rfl (.inl rfl) (pe_call GR hr (by rfl) gr kr br .nil pass0 (pa_cons (pv 0) (pa_cons (pv 1) (pa_cons (pv 1) (pa_cons (pe_op op_sub (pv 3) pe_int) pa_nil))))))
      (pss_cons (ps_if (pt_cmpR op_eq (pv 4) pe_int (nomark _)) (pss_one (ps_ret (pe_tup (pa_cons pe_str (pa_cons (pv 6) (pa_cons (pe_ix ix_list (pe_lst (pa_cons pe_non (pa_cons (pe_call GBF hr (by rfl) gbf kbf bbf .nil pass0 (pa_cons (pv 0) pa_nil)) pa_nil))) (pe_call GN hr (by rfl) gn kn bn .nil pass0 (pa_cons (pv 0) (pa_cons pe_int pa_nil))) (fun _ _ => rfl)) pa_nil)))))) pss_nil)
      (pss_one (ps_ret (pe_tup (pa_cons pe_str (pa_cons (pe_call GB hr (by rfl) gb kb bb .nil pass0 (pa_cons (pv 0) (pa_cons pe_int (pa_cons pe_int pa_nil)))) (pa_cons (pv 6) pa_nil))))))))) pss_nil)
      (pss_cons (ps_if (pt_cmpR op_eq (pv 4) pe_int (nomark _)) (pss_one (ps_ret (pe_call GTF hr (by rfl) gtf ktf btf .nil pass0 (pa_cons (pv 0) pa_nil)))) pss_nil)
      (pss_cons (ps_if (PW.pt (pw_and (pt_cmpR (op_neNil hr.units) (pv 2) (pe_lst pa_nil) (nomark _)) (pw_and1 (pt_cmpR op_gt (pe_dget (hu_of hr) (pv 0) pe_str (fun _ _ => rfl)) pe_int (nomark _))))) (pss_cons (ps_dput (hu_of hr) (pv 0) pe_str (pe_op op_sub (pe_dget (hu_of hr) (pv 0) pe_str (fun _ _ => rfl)) pe_int) rfl)
      (pss_one (ps_ret (pe_tup (pa_cons pe_str (pa_cons (pe_call GK hr (by rfl) gk kk bk .nil pass0 (pa_cons (pv 0) (pa_cons (pv 2) pa_nil))) pa_nil)))))) pss_nil)
      (pss_one (ps_ret (pe_call GBF hr (by rfl) gbf kbf bbf .nil pass0 (pa_cons (pv 0) pa_nil))))))))))), ?_⟩
    refine ⟨_, rfl, pd, po, t, _, 14, rfl, hP, by omega, by decide, by decide, fun wy H1 t1 ht1 wy0 wy1 hP1 k1 => ?_⟩
    obtain ⟨⟨a1, _, g1⟩, c1, _, s1⟩ := hP1.x
    have pl : ∀ (σ : L2.St), σ[0]? = some (some (.ref pd)) → (tCall (spPl N) [] E0 (tCons (tVar 0) tNil)) σ H1 Q := fun σ s0 =>
      ⟨_, s0, pd, po, t1, r, o, g, rfl, hP1, by omega, q.then (by omega) (by omega) k1⟩
    by_cases d0 : d = 0
    · subst d0
      exact ⟨_, rfl, rfl, _, rfl, iteT' (by decide) (iteT (pl _ rfl))⟩
    have nd0 : V.int (d : Int) ≠ V.int 0 := fun e => d0 (by
      have := V.int.inj e
      omega)
    by_cases w4 : wy < 4
    · exact ⟨_, rfl, rfl, _, rfl, iteF' (decide_eq_false nd0) ⟨_, rfl, _, _, rfl, rfl, _, rfl, iteT' (decide_eq_true w4) (iteT (pl _ rfl))⟩⟩
    by_cases r2 : r < 2
    · exact ⟨_, rfl, rfl, _, rfl, iteF' (decide_eq_false nd0) ⟨_, rfl, _, _, rfl, rfl, _, rfl, iteF' (decide_eq_false w4) ⟨_, rfl, pd, _, rfl, a1, _, _, rfl, rfl, _, rfl, iteT' (decide_eq_true r2) (pl _ rfl)⟩⟩⟩
    refine ⟨_, rfl, rfl, _, rfl, iteF' (decide_eq_false nd0) ⟨_, rfl, _, _, rfl, rfl, _, rfl, iteF' (decide_eq_false w4) ⟨_, rfl, pd, _, rfl, a1, _, _, rfl, rfl, _, rfl, iteF' (decide_eq_false r2) ?_⟩⟩⟩
    obtain ⟨e, rfl⟩ : ∃ e, d = e + 1 := ⟨d - 1, by omega⟩
    have de : (((e + 1 : Nat) : Int) - 1) = (e : Int) := by omega
    have hT1 : fT (e + 1) = 8 * fT e + 200 := rfl
    have hB1 : fB (e + 1) = 8 * fB e + 21 := rfl
    have fTe := fT_ge e
    have fBe := fB_ge e
    -- one form more
    have recu : ∀ (H6 : Hp) (t6 : Nat) (r6 o6 g6 : Int) (lv : Addr) (lvs : List Str) (Q6 : VK), Pot H6 pd po t6 (some (r6, o6, g6)) → Kp (PM pd po) H H6 → t6 + fT e < 2 ^ 44 → H lv = some (.lst (lvs.map V.str)) → ¬ PM pd po lv → (∀ x ∈ lvs, x ∈ N) → lvs.length ≤ 100 → FormQ N pd po t6 (fT e) (fB e) H6 Q6 →
        spFm N n ([.ref pd, .ref ln, .ref lv, .int (((e + 1 : Nat) : Int) - 1)] ++ []) H6 Q6 E0 := fun H6 t6 r6 o6 g6 lv lvs Q6 hP6 k6 ht6 elv nlv hlv llv q6 =>
      ⟨pd, po, t6, r6, o6, g6, ln, lv, lvs, e, by rw [de]; rfl, hP6, ht6, by omega, k6 ln _ nln eln, k6 lv _ nlv elv, hlv, nln, nlv, hNl, hNc, llv, q6⟩
    generalize fT (e + 1) = T1 at *
    generalize fB (e + 1) = B1 at *
    by_cases w7 : wy < 7
    · refine ⟨_, rfl, _, _, rfl, rfl, _, rfl, iteT' (decide_eq_true w7) ?_⟩
      refine ⟨_, rfl, pd, po, t1, 8, _, 3, 8, rfl, hP1, by omega, by decide, by decide, by decide, by decide, by decide, fun sz H2 t2 ht2 hsz hP2 k2 => ?_⟩
      obtain ⟨⟨a2, _, _⟩, c2, _, _⟩ := hP2.x
      refine ⟨_, rfl, pd, _, rfl, a2, _, _, rfl, ?_⟩
      generalize hmn : (if r < (sz : Int) then r else (sz : Int)) = mn
      have mn0 : 0 ≤ mn ∧ mn ≤ 8 := by
        rw [← hmn]
        split <;> omega
      obtain ⟨H3, u3, hP3, k3⟩ := c2 (r - mn)
      refine ⟨_, rfl, pd, _, rfl, a2, _, rfl, _, _, rfl, rfl, _, rfl, pd, H3, rfl, u3, ?_⟩
      have k13 := (k1.trans k2).trans k3
      refine ⟨_, rfl, mn, rfl, by omega, by omega, fun Da nD => ?_⟩
      have hD := off_pot hP3 nD
      have nDH := none_back k13 hD nD
      refine lc_range (lo := 0) (n := mn.toNat) (fun j H6 => ∃ (t6 : Nat) (r6 o6 g6 : Int) (ws : List V) (fs : List Fo), fs.length = j ∧ t6 ≤ t2 + j * fT e ∧ Pot H6 pd po t6 (some (r6, o6, g6)) ∧ Kp (PM pd po) H H6 ∧ FsAt H6 Da N (fB e) ws fs) ?_ ?_ ?_
      · exact ⟨t2, _, _, _, [], [], rfl, by omega, hP3.new nD, k13.trans (Kp.new nD), upd_same, .nil, True.intro, Nat.zero_le _⟩
      · rintro j H6 hj ⟨t6, r6, o6, g6, ws, fs, lf, ht6, hP6, k6, hF⟩
        have j7 : j * fT e ≤ 7 * fT e := Nat.mul_le_mul_right _ (by omega)
        refine ⟨rfl, tYes_ok (iteT ?_)⟩
        refine ⟨_, rfl, _, rfl, _, rfl, _, rfl, _, _, rfl, rfl, recu H6 t6 r6 o6 g6 ll ls _ hP6 k6 (by omega) ell nll hls hlc fun v f H7 t7 r7 o7 g7 ht7 hv hf hs hP7 k7 => ?_⟩
        have hF7 := hF.keep k7 hP6.noT hD
        refine ⟨ws, hF7.1, by rw [hF7.len, lf]; exact small1000 (by omega), t7, r7, o7, g7, ws ++ [v], fs ++ [f], by rw [List.length_append, lf]; rfl, by rw [Nat.succ_mul]; omega, hP7.off hD, (k6.trans k7).own nDH, hF7.push hv hf hs⟩
      · rintro H6 ⟨t6, r6, o6, g6, ws, fs, lf, ht6, hP6, k6, hF⟩
        have j8 : mn.toNat * fT e ≤ 8 * fT e := Nat.mul_le_mul_right _ (by omega)
        have b8 : mn.toNat * fB e ≤ 8 * fB e := Nat.mul_le_mul_right _ (by omega)
        refine ⟨_, rfl, Da, ws, rfl, .inl ⟨SqL.of hF.1, fun a na => ⟨by show 2 ≤ sizeLine; decide, fun p np => ?_⟩⟩⟩
        have hs := hF.2.2.2
        rw [lf] at hs
        exact q.row (by omega) na np hF.2.1 hF.2.2.1 (by omega) hP6 k6
    refine ⟨_, rfl, _, _, rfl, rfl, _, rfl, iteF' (decide_eq_false w7) ?_⟩
    by_cases w9 : wy < 9
    · refine ⟨_, rfl, _, _, rfl, rfl, _, rfl, iteT' (decide_eq_true w9) ?_⟩
      refine ⟨_, rfl, _, rfl, pd, po, t1, 7, _, 2, 7, rfl, hP1, by omega, by decide, by decide, by decide, by decide, by decide, fun sz H2 t2 ht2 hsz hP2 k2 => ?_⟩
      obtain ⟨⟨a2, _, _⟩, c2, _, _⟩ := hP2.x
      refine ⟨_, rfl, pd, _, rfl, a2, _, _, rfl, rfl, _, _, rfl, ?_⟩
      generalize hmn : (if r - 1 < (sz : Int) then r - 1 else (sz : Int)) = mn
      have mn0 : 0 ≤ 1 + mn ∧ 1 ≤ 1 + mn ∧ 1 + mn ≤ 8 := by
        rw [← hmn]
        split <;> omega
      obtain ⟨m, hm⟩ := Int.eq_ofNat_of_zero_le mn0.1
      refine ⟨_, _, rfl, rfl, pd, po, t2, m, _, (by show [V.ref pd, V.int (1 + mn)] = [V.ref pd, V.int (m : Int)]; rw [hm]), hP2, by omega, by omega, by omega, fun zs l H3 t3 ht3 lz hz nl el nPM hP3 k3 => ?_⟩
      obtain ⟨⟨a3, _, _⟩, c3, _, _⟩ := hP3.x
      obtain ⟨H4, u4, hP4, k4⟩ := c3 (r - ((zs.map V.str).length : Nat))
      refine ⟨_, rfl, pd, _, rfl, a3, _, rfl, l, _, rfl, .inl (SqL.of el), _, _, rfl, rfl, _, rfl, pd, H4, rfl, u4, ?_⟩
      have k14 := ((k1.trans k2).trans k3).trans k4
      have el4 := k4 l _ nPM el
      refine ⟨_, rfl, _, rfl, _, rfl, _, rfl, _, _, rfl, rfl, recu H4 t3 _ _ _ ll ls _ hP4 k14 (by omega) ell nll hls hlc fun v5 f5 H5 t5 r5 o5 g5 ht5 hv5 hf5 hs5 hP5 k5 => ⟨by show 1 ≤ sizeLine; decide, fun Da nD => ?_⟩⟩
      have hD := off_pot hP5 nD
      have k15 := k14.trans k5
      have nDH := none_back k15 hD nD
      have el5 := k5 l _ nPM el4
      have nDl : l ≠ Da := ne_of_none el5 nD
      have lzm : (zs.map V.str).length = m := by rw [List.length_map, lz]
      refine ⟨_, rfl, l, _, rfl, .inl (SqL.of (by rw [upd_ne nDl]; exact el5)), _, _, rfl, ⟨by decide, by decide, by omega, by omega⟩, ?_⟩
      rw [lzm]
      refine for_range (lo := 1) (n := ((m : Int) - 1).toNat) (fun i σ H6 => ∃ (y8 : Option V) (t6 : Nat) (r6 o6 g6 : Int) (ws : List V) (fs : List Fo), σ = [some (.ref pd), some (.ref ln), some (.ref ll), some (.int ((e + 1 : Nat) : Int)), some (.int wy), none, some (.ref Da), some (.ref l), y8] ∧ fs.length = 1 + i ∧ t6 ≤ t3 + (1 + i) * fT e ∧ Pot H6 pd po t6 (some (r6, o6, g6)) ∧ Kp (PM pd po) H H6 ∧ H6 l = some (.lst (zs.map V.str)) ∧ FsAt H6 Da N (fB e) ws fs) ?_ ?_ ?_
      · refine ⟨none, t5, _, _, _, [v5], [f5], rfl, rfl, by omega, hP5.new nD, k15.trans (Kp.new nD), by rw [upd_ne nDl]; exact el5, upd_same, .cons (hv5.keep (Kp.new (M := M0) nD) noT0) .nil, ⟨hf5, True.intro⟩, ?_⟩
        show f5.size + 0 ≤ 1 * fB e
        omega
      · rintro i σ H6 hi ⟨y8, t6, r6, o6, g6, ws, fs, rfl, lf, ht6, hP6, k6, el6, hF⟩
        have j7 : (1 + i) * fT e ≤ 7 * fT e := Nat.mul_le_mul_right _ (by omega)
        refine ⟨_, rfl, .inl ⟨rfl, _, SqL.of hF.1⟩, _, rfl, _, rfl, _, rfl, _, rfl, _, _, rfl, rfl, recu H6 t6 r6 o6 g6 ln N _ hP6 k6 (by omega) eln nln (fun x h => h) hNc fun v f H7 t7 r7 o7 g7 ht7 hv hf hs hP7 k7 => ?_⟩
        have hF7 := hF.keep k7 hP6.noT hD
        refine ⟨Da, _, _, rfl, rfl, hF7.1, by rw [hF7.len, lf]; exact small1000 (by omega), ?_⟩
        refine ⟨_, t7, r7, o7, g7, ws ++ [v], fs ++ [f], rfl, by rw [List.length_append, lf]; rfl, by rw [show 1 + (i + 1) = (1 + i) + 1 from rfl, Nat.succ_mul]; omega, hP7.off hD, (k6.trans k7).own nDH, by rw [upd_ne nDl]; exact k7 l _ nPM el6, hF7.push hv hf hs⟩
      · rintro σ H6 ⟨y8, t6, r6, o6, g6, ws, fs, rfl, lf, ht6, hP6, k6, el6, hF⟩
        have j8 : (1 + ((m : Int) - 1).toNat) * fT e ≤ 8 * fT e := Nat.mul_le_mul_right _ (by omega)
        have b8 : (1 + ((m : Int) - 1).toNat) * fB e ≤ 8 * fB e := Nat.mul_le_mul_right _ (by omega)
        have hs := hF.2.2.2
        rw [lf] at hs
        have lzf : zs.length = fs.length := by omega
        refine ⟨_, rfl, _, rfl, l, Da, _, _, rfl, SqL.of el6, SqL.of hF.1, fun H7 L ps k7 nL eL lp hp => ⟨L, _, rfl, .inl ⟨SqL.of eL, fun a na => ⟨by show 2 ≤ sizeLine; decide, fun p np => ?_⟩⟩⟩⟩
        rw [List.length_map, hF.len, ← lzf, Nat.min_self] at lp
        refine q.either (by omega) na np (Rps.zipE (hF.2.1.keep k7 noT0) (by rw [hF.len, lzf]) lp (fun z h => Nat.le_of_lt (small1000 (Nat.le_trans (hz.2.2 z h).2.1 (by decide)))) hp) lzf hF.2.2.1 (by omega) (hP6.keep k7 (fun z => z) (fun z => z)) (k6.trans (k7.mono fun b z => z.elim))
    refine ⟨_, rfl, _, _, rfl, rfl, _, rfl, iteF' (decide_eq_false w9) ?_⟩
    have bfl : ∀ (H6 : Hp) (t6 : Nat) (r6 o6 g6 : Int) (Q6 : VK) (σ : L2.St), σ[0]? = some (some (.ref pd)) → Pot H6 pd po t6 (some (r6, o6, g6)) → t6 < 2 ^ 44 → FormQ N pd po t6 130 3 H6 Q6 → (tCall (spBf N) [] E0 (tCons (tVar 0) tNil)) σ H6 Q6 := fun H6 t6 r6 o6 g6 Q6 σ s0 hP6 ht6 q6 =>
      ⟨_, s0, pd, po, t6, r6, o6, g6, rfl, hP6, ht6, q6⟩
    by_cases w11 : wy < 11
    · refine ⟨_, rfl, _, _, rfl, rfl, _, rfl, iteT' (decide_eq_true w11) ?_⟩
      obtain ⟨H2, u2, hP2, k2⟩ := c1 (r - 2)
      refine ⟨_, rfl, pd, _, rfl, a1, _, _, rfl, rfl, _, rfl, pd, H2, rfl, u2, ?_⟩
      have k12 := k1.trans k2
      refine ⟨_, rfl, _, rfl, _, rfl, _, rfl, _, _, rfl, rfl, recu H2 t1 _ _ _ ln N _ hP2 k12 (by omega) eln nln (fun x h => h) hNc fun v f H3 t3 r3 o3 g3 ht3 hv hf hs hP3 k3 => ?_⟩
      have k13 := k12.trans k3
      by_cases w99 : wy = 9
      · subst w99
        refine ⟨_, rfl, rfl, _, rfl, iteT' (by decide) ?_⟩
        refine ⟨_, rfl, ?_⟩
        refine bfl H3 t3 r3 o3 g3 _ _ rfl hP3 (by omega) fun u h H4 t4 r4 o4 g4 ht4 hu hh hsh hP4 k4 => ⟨by show 2 ≤ sizeLine; decide, fun L nL => ?_⟩
        have hL := off_pot hP4 nL
        refine ⟨_, rfl, pd, po, t4, _, 2, rfl, hP4.new nL, by omega, by decide, by decide, fun d5 H5 t5 ht5 d50 d51 hP5 k5 => ?_⟩
        obtain ⟨v5, hv5, hm⟩ := at_some d50 (show d5 < ([V.non, u].length : Int) from d51)
        refine ⟨L, _, d5, v5, rfl, rfl, SqL.of (k5 L _ hL upd_same), hv5, ⟨by show 3 ≤ sizeLine; decide, fun p np => ?_⟩⟩
        have k45 : Kp (PM pd po) H4 H5 := (Kp.new nL).trans k5
        have kp : Kp M0 H5 (upd H5 p (.tup [.str "again", v, v5])) := Kp.new np
        have rv := (((hv.keep k4 hP3.noT).keep k45 hP4.noT).keep kp noT0)
        have ru := (hu.keep k45 hP4.noT).keep kp noT0
        have kA : Kp (PM pd po) H (upd H5 p (.tup [.str "again", v, v5])) := ((k13.trans k4).trans k45).trans (kp.mono fun b z => z.elim)
        have hPA : Pot (upd H5 p (.tup [.str "again", v, v5])) pd po t5 (some (r4, o4, g4)) := hP5.new np
        simp only [List.mem_cons, List.not_mem_nil, or_false] at hm
        rcases hm with z | z
        · subst z
          exact q _ (.again f) _ t5 _ _ _ (by omega) (.tup (vs := [.str "again", v, .non]) upd_same (.cons (.str (by decide)) (.cons rv (.cons .non .nil)))) hf (by show 1 + f.size ≤ B1; omega) hPA kA
        · subst z
          exact q _ (.between f h) _ t5 _ _ _ (by omega) (.tup (vs := [.str "again", v, v5]) upd_same (.cons (.str (by decide)) (.cons rv (.cons ru .nil)))) ⟨hf, hh⟩ (by show 1 + f.size + h.size ≤ B1; omega) hPA kA
      · have n9 : V.int wy ≠ V.int 9 := fun e => w99 (V.int.inj e)
        refine ⟨_, rfl, rfl, _, rfl, iteF' (decide_eq_false n9) ?_⟩
        refine ⟨_, rfl, pd, po, t3, 2, _, _, _, 1, 2, rfl, hP3, by omega, by decide, by decide, by decide, by decide, by decide, fun cs H4 t4 g4 ht4 hg1 hg2 l1 l2 hc hP4 k4 => ⟨_, rfl, by show 3 ≤ sizeLine; decide, fun p np => ?_⟩⟩
        have kp : Kp M0 H4 (upd H4 p (.tup [.str "counted", .str ⟨cs.toArray⟩, v])) := Kp.new np
        exact q _ (.counted ⟨cs.toArray⟩ f) _ t4 _ _ _ (by omega) (.tup (vs := [.str "counted", .str ⟨cs.toArray⟩, v]) upd_same (.cons (.str (by decide)) (.cons (str_rp l2 (by decide)) (.cons ((hv.keep k4 hP3.noT).keep kp noT0) .nil)))) hf (by show 1 + f.size ≤ B1; omega) (hP4.new np) ((k13.trans k4).trans (kp.mono fun b z => z.elim))
    refine ⟨_, rfl, _, _, rfl, rfl, _, rfl, iteF' (decide_eq_false w11) ?_⟩
    by_cases w12 : wy = 11
    · subst w12
      refine ⟨_, rfl, rfl, _, rfl, iteT' (by decide) ?_⟩
      exact ⟨_, rfl, pd, po, t1, r, o, g, rfl, hP1, by omega, q.then (by omega) (by omega) k1⟩
    have nw : V.int wy ≠ V.int 11 := fun e => w12 (V.int.inj e)
    refine ⟨_, rfl, rfl, _, rfl, iteF' (decide_eq_false nw) ?_⟩
    have ell1 := k1 ll _ nll ell
    refine ⟨_, rfl, Nat.zero_le _, fun b nb => ?_⟩
    have hb : ∀ {a : Addr} {u : HO}, H1 a = some u → upd H1 b (.lst []) a = some u := fun e => by rw [upd_ne (ne_of_none e nb)]; exact e
    have hP2 : Pot (upd H1 b (.lst [])) pd po t1 (some (r, o, g)) := hP1.new nb
    have ell2 := hb ell1
    have k2 : Kp (PM pd po) H (upd H1 b (.lst [])) := k1.trans (Kp.new nb)
    have eb2 : (upd H1 b (.lst [])) b = some (.lst []) := upd_same
    generalize upd H1 b (.lst []) = H2 at hP2 ell2 k2 eb2 ⊢
    obtain ⟨⟨_, _, g2⟩, _, _, s2⟩ := hP2.x
    refine ⟨ll, b, _, rfl, rfl, ell2, eb2, _, rfl, ?_⟩
    cases ls with
    | nil =>
      refine iteF (iteF ?_)
      exact bfl H2 t1 r o g Q _ rfl hP2 (by omega) (q.then (by omega) (by omega) k2)
    | cons x xs =>
      refine iteT ⟨_, rfl, pd, _, rfl, g2, _, _, rfl, rfl, _, rfl, ite2 (fun c => ?_) (fun c => ?_)⟩
      · obtain ⟨H3, u3, hP3, k3⟩ := s2 (g - 8)
        refine ⟨_, rfl, pd, _, rfl, g2, _, _, rfl, rfl, _, rfl, pd, H3, rfl, u3, ?_⟩
        refine ⟨_, rfl, _, rfl, pd, po, t1, _, .ref ll, (fun v => ∃ y ∈ N, v = .str y), rfl, hP3, by omega, .inr ⟨ll, _, rfl, k3 ll _ nll ell2, fun z => nll (.inr z), ?_, ?_, fun v hv => ?_⟩, fun v H4 t4 ht4 ⟨y, hy, ev⟩ hP4 k4 => ⟨by show 2 ≤ sizeLine; decide, fun p np => ?_⟩⟩
        · rw [List.length_map]
          exact Nat.le_add_left ..
        · rw [List.length_map]
          omega
        · obtain ⟨y, hy, rfl⟩ := List.mem_map.mp hv
          exact ⟨y, hls y hy, rfl⟩
        · subst ev
          exact q _ (.named y) _ t4 _ _ _ (by omega) (.tup (vs := [.str "named", .str y]) upd_same (.cons (.str (by decide)) (.cons (.str (Nat.le_of_lt (small1000 (hNl y hy)))) .nil))) hy (by show 1 ≤ B1; omega) (hP4.new np) (((k2.trans k3).trans k4).trans (Kp.new np))
      · exact bfl H2 t1 r o g Q _ rfl hP2 (by omega) (q.then (by omega) (by omega) k2)
end
end RT

namespace RT
open PySem PySem.Spec PyProof.Rows L2
abbrev sBo : Stmt := topS 23
abbrev sBk : Stmt := topS 24
theorem scBo : FnScope ["_law_pot_here", "_law_few", "_law_most", "_law_room", "_law_names_here", "_law_leaves", "_law_rows", "_law_name"] ["_law_pot_here", "_law_few", "_law_most", "_law_room"] (defScope sBo) := ⟨rfl, rfl, rfl, by decide +kernel, rfl, by decide +kernel, by decide +kernel⟩
theorem scBk : FnScope ["_law_pot_here"] ["_law_pot_here"] (defScope sBk) := ⟨rfl, rfl, rfl, by decide +kernel, rfl, by decide +kernel, by decide +kernel⟩
theorem cutV_strs (zs : List Str) (lo hi : Option Int) : ∃ ls : List Str, cutV (zs.map V.str) lo hi = ls.map V.str ∧ (∀ x ∈ ls, x ∈ zs) ∧ ls.length ≤ zs.length := by
  unfold cutV
  refine ⟨(zs.drop (HT.sIx (zs.map V.str).length 0 lo)).take (HT.sIx (zs.map V.str).length (zs.map V.str).length hi - HT.sIx (zs.map V.str).length 0 lo), ?_, fun x h => List.mem_of_mem_drop (List.mem_of_mem_take h), ?_⟩
  · rw [List.map_take, List.map_drop]
  · rw [List.length_take, List.length_drop]
    omega
section
variable {P : Program} {w : World} {K : PySem.W.Frag} {mg : Str → Option Value} {base : Heap}
/-- one promise for all of a family -/
theorem FnOk.ex {α : Type} {k : Nat} {f : Addr} {fd : FuncData} {ps : List Str} {sp : α → Sp} (h0 : ∀ a, FnOk P w K mg base CX0 k f fd ps (sp a)) : FnOk P w K mg base CX0 k f fd ps (fun vs H Q E => ∃ a, sp a vs H Q E) :=
  ⟨fun vs H Q E ⟨a, h⟩ => (h0 a).len vs H Q E h, fun A outer s H args us vs Q E hr h1 h2 h3 ⟨a, h⟩ => (h0 a).run A outer s H args us vs Q E hr h1 h2 h3 h⟩
def spPlA : Sp := fun vs H Q E => ∃ N, spPl N vs H Q E
def spFmA : Sp := fun vs H Q E => ∃ N, spFm N 4 vs H Q E
theorem RowsAt.push {H : Hp} {ps : List Addr} {bs : List (Str × Fo)} {p : Addr} {x : Str × Fo} (h : RowsAt H ps bs) (r : RowAt H p x) : RowsAt H (ps ++ [p]) (bs ++ [x]) := by
  refine ⟨by rw [List.length_append, List.length_append, h.1]; rfl, fun i q y e1 e2 => ?_⟩
  by_cases c : i < ps.length
  · rw [List.getElem?_append_left c] at e1
    rw [List.getElem?_append_left (by rw [← h.1]; exact c)] at e2
    exact h.2 i q y e1 e2
  · have c2 : ¬ i < bs.length := by rw [← h.1]; exact c
    rw [List.getElem?_append_right (by omega)] at e1
    rw [List.getElem?_append_right (by omega)] at e2
    have z : i - ps.length = 0 := by
      have q := (List.getElem?_eq_some_iff.mp e1).1
      rw [List.length_singleton] at q
      omega
    have z2 : i - bs.length = 0 := by rw [← h.1]; exact z
    rw [z] at e1
    rw [z2] at e2
    cases e1
    cases e2
    exact r
def spBo : Sp := fun vs H Q _ => ∃ (pd po : Addr) (t : Nat), vs = [.ref pd, .int 4, .int 11, .int 70] ∧ Pot H pd po t none ∧ t < 2 ^ 40 ∧
  ∀ (b : Addr) (s : Str) (bs : List (Str × Fo)) (H' : Hp), BookZ H' (.ref b) s bs → BookOk bs s → (∀ x ∈ bs.map (·.1), ∀ c ∈ x.cps.toList, c < 1114112) → Kp (PM pd po) H H' → Q (.ref b) H'
set_option maxHeartbeats 0 in
theorem ok_bo {f fz fm fp fr fk : Addr} {fd fdz fdm fdp fdr fdk : FuncData} {k : Nat} (F : Fun K "_law_book_of" "_law_book_of" sBo f fd)
    (GZ : FnOk P w K mg base CX0 k fz fdz ["_law_pot_here", "_law_few", "_law_most"] spSize) (kz : PySem.W.keepIn K (.ref fz) = true) (bz : Binds K fdz ["_law_pot_here", "_law_few", "_law_most"] []) (gz : mg "_law_size" = some (.ref fz))
    (GM : FnOk P w K mg base CX0 k fm fdm ["_law_pot_here", "_law_many"] spNames) (km : PySem.W.keepIn K (.ref fm) = true) (bm : Binds K fdm ["_law_pot_here", "_law_many"] []) (gm : mg "_law_names" = some (.ref fm))
    (GP : FnOk P w K mg base CX0 k fp fdp ["_law_pot_here"] spPlA) (kp : PySem.W.keepIn K (.ref fp) = true) (bp : Binds K fdp ["_law_pot_here"] []) (gp : mg "_law_plain" = some (.ref fp))
    (GR : FnOk P w K mg base CX0 k fr fdr ["_law_pot_here", "_law_names_here", "_law_leaves", "_law_deep"] spFmA) (kr : PySem.W.keepIn K (.ref fr) = true) (br : Binds K fdr ["_law_pot_here", "_law_names_here", "_law_leaves", "_law_deep"] []) (gr : mg "_law_form" = some (.ref fr))
    (GK : FnOk P w K mg base CX0 k fk fdk ["_law_pot_here", "_law_some"] (spPick K)) (kk : PySem.W.keepIn K (.ref fk) = true) (bk : Binds K fdk ["_law_pot_here", "_law_some"] []) (gk : mg "_law_pick" = some (.ref fk))
    (mtu : mg "tuple" = none) (ml : mg "len" = none) : FnOk P w K mg base CX0 (k + 1) f fd ["_law_pot_here", "_law_few", "_law_most", "_law_room"] spBo := by
  refine F.ok scBo (fun vs H Q E h => ?_) (fun cdv A outer s H vs Q E hr h => ?_)
  · obtain ⟨pd, po, t, rfl, _⟩ := h
    rfl
  · obtain ⟨pd, po, t, rfl, hP, ht, q⟩ := h
    have h40 : (2 : Nat) ^ 40 = 1099511627776 := by decide
    have h44 : (2 : Nat) ^ 44 = 17592186044416 := by decide
    have h45 : (2 : Nat) ^ 45 = 35184372088832 := by decide
    have h47 : (2 : Nat) ^ 47 = 140737488355328 := by decide
    have h49 : (2 : Nat) ^ 49 = 562949953421312 := by decide
    have h50 : (2 : Nat) ^ 50 = 1125899906842624 := by decide
    have hT3 : fT 3 = 117000 := by decide
    have hB3 : fB 3 = 3069 := by decide
    refine ⟨_, (pss_cons (ps_set (i := 4) scBo.nd rfl (.inl rfl) (pe_call GM hr (by rfl) gm km bm .nil pass0 (pa_cons (pv 0) (pa_cons (pe_op op_add pe_int (pe_call GZ hr (by rfl) gz kz bz .nil pass0 (pa_cons (pv 0) (pa_cons (pv 1) (pa_cons (pv 2) pa_nil))))) pa_nil))))
      (pss_cons (ps_dput (hu_of hr) (pv 0) pe_str (pe_op op_sub (pv 3) (pe_callB call_len_seq (by rfl) ml PySem.boot_len (pa_cons (pv 4) pa_nil))) rfl)
      (pss_cons (ps_asg (pe_tup (pa_cons (pe_op op_fdiv (pv 3) pe_int) (pa_cons pe_int pa_nil))) (pg_tup rfl (pgs_cons (pg_sub (pv 0) pe_str (set_dict (hu_of hr))) (pgs_cons (pg_sub (pv 0) pe_str (set_dict (hu_of hr))) pgs_nil))))
      (pss_cons (ps_set (i := 5) scBo.nd rfl (.inl rfl) (pe_slice sl_list (pv 4) (po_some (pe_op op_add pe_int (pe_op op_fdiv (pe_op op_mulW (pe_callB call_len_seq (by rfl) ml PySem.boot_len (pa_cons (pv 4) pa_nil)) pe_int) pe_int))) po_none))
      (pss_cons (ps_set (i := 6) scBo.nd rfl (.inl rfl) (pe_lst pa_nil))
      (pss_cons (ps_for PassesOwn.never rfl (pi_list (pv 4)) (pg_name (i := 7) scBo.nd rfl (.inl rfl)) (pss_one (ps_if (pt_cmpR op_in_seq (pv 7) (pv 5) (by rfl)) (pss_one (ps_expr (pe_bm PySem.F.plainAttrs_list PySem.F.slot_list_append PySem.F.type_list_append mt_append (pv 6) (pa_cons (pe_tup (pa_cons (pv 7) (pa_cons (pe_call GP hr (by rfl) gp kp bp .nil pass0 (pa_cons (pv 0) pa_nil)) pa_nil))) pa_nil)))) (pss_one (ps_expr (pe_bm PySem.F.plainAttrs_list PySem.F.slot_list_append PySem.F.type_list_append mt_append (pv 6) (pa_cons (pe_tup (pa_cons (pv 7) (pa_cons (pe_call GR hr (by rfl) gr kr br .nil pass0 (pa_cons (pv 0) (pa_cons (pv 4) (pa_cons (pv 5) (pa_cons pe_int pa_nil))))) pa_nil))) pa_nil)))))))
      (pss_one (ps_ret (pe_tup (pa_cons (pe_call GK hr (by rfl) gk kk bk .nil pass0 (pa_cons (pv 0) (pa_cons (pv 4) pa_nil))) (pa_cons (pe_callTy cr_tupFz (by rfl) mtu (by decide +kernel) (pa_cons (pv 6) pa_nil)) pa_nil))))))))))), ?_⟩
    refine ⟨_, rfl, _, rfl, _, rfl, _, rfl, pd, po, t, 11, _, 4, 11, rfl, hP, by omega, by decide, by decide, by decide, by decide, by decide, fun sz H1 t1 ht1 hsz hP1 k1 => ?_⟩
    refine ⟨_, _, rfl, rfl, pd, po, t1, 1 + sz, _, (by show [V.ref pd, V.int (1 + (sz : Int))] = [V.ref pd, V.int ((1 + sz : Nat) : Int)]; rw [show ((1 + sz : Nat) : Int) = 1 + (sz : Int) by omega]), hP1, by omega, by omega, by omega, fun zs l H2 t2 ht2 lz hz nl el nPM hP2 k2 => ?_⟩
    have k12 := k1.trans k2
    obtain ⟨s0, ns, E2⟩ := hP2.e
    have few : ∀ n, n ≤ 6 → n < sizeLine := fun n h => by rw [sizeLine_eq]; omega
    refine ⟨_, rfl, _, rfl, l, _, rfl, .inl (SqL.of el), _, _, rfl, rfl, _, rfl, pd, _, rfl, DPut.k (k := .inr "room") E2.d (few 3 (by decide)), ?_⟩
    refine ⟨_, rfl, _, _, rfl, rfl, ⟨by decide, by decide⟩, by show 2 ≤ sizeLine; decide, fun p np => ?_⟩
    have pdp : pd ≠ p := fun z => by
      rw [← z, upd_same] at np
      cases np
    have edp : ∀ o : HO, upd (upd H2 pd o) p (.tup [V.int (70 / 7), .int 100]) pd = some o := fun o => by rw [upd_ne pdp, upd_same]
    refine ⟨p, _, rfl, SqT.of upd_same, rfl, _, _, rfl, _, rfl, pd, _, rfl, DPut.k (k := .inr "told") (edp _) (few 4 (by decide)), _, _, rfl, _, rfl, pd, _, rfl, DPut.k (k := .inr "signs") upd_same (few 5 (by decide)), rfl, ?_⟩
    have npo : po ≠ p := fun z => by
      have e := E2.o
      have e2 := none_upd np
      rw [z, e2] at e
      cases e
    have lz' : ((zs.map V.str).length : Int) = ((1 + sz : Nat) : Int) := by rw [List.length_map, lz]
    have kq : ∀ o1 o2 o3 : HO, Kp (PM pd po) H2 (upd (upd (upd (upd H2 pd o1) p (.tup [V.int (70 / 7), .int 100])) pd o2) pd o3) := fun o1 o2 o3 =>
      (((Kp.put (.inl rfl)).trans (Kp.new (by have := none_upd np; rw [upd_ne pdp.symm]; exact this))).trans (Kp.put (.inl rfl))).trans (Kp.put (.inl rfl))
    have hPq : ∀ o1 o2 : HO, ∀ r o g : Int, Pot (upd (upd (upd (upd H2 pd o1) p (.tup [V.int (70 / 7), .int 100])) pd o2) pd (potD po s0 t2 (some (r, o, g)))) pd po t2 (some (r, o, g)) := fun o1 o2 r o g => by
      refine ⟨⟨s0, E2.s0, E2.s1, upd_same⟩, ns, E2.len, E2.nn, ?_⟩
      rw [upd_ne E2.ne.symm, upd_ne E2.ne.symm, upd_ne npo, upd_ne E2.ne.symm]
      exact E2.o
    generalize hH3 : upd (upd (upd (upd H2 pd _) p _) pd _) pd _ = H3
    have k3 : Kp (PM pd po) H2 H3 := by
      rw [← hH3]
      exact kq _ _ _
    have hP3 : Pot H3 pd po t2 (some (70 - ((zs.map V.str).length : Nat), 70 / 7, 100)) := by
      rw [← hH3]
      exact hPq _ _ _ _ _
    clear hH3 hPq kq
    have k13 := k12.trans k3
    have el3 := k3 l _ nPM el
    have w2 : (2 : Int).natAbs < 2 ^ 64 := by decide
    have wl : (((zs.map V.str).length : Nat) : Int).natAbs < 2 ^ 64 := by
      show _ < 18446744073709551616
      omega
    refine ⟨_, rfl, _, rfl, l, _, rfl, .inl (SqL.of el3), _, _, rfl, rfl, wide_mul wl w2 (by decide) (by decide) (by decide), _, _, rfl, rfl, ⟨by omega, by decide⟩, _, _, rfl, rfl, _, rfl, l, _, rfl, SqL.of el3, fun ll nll0 => ?_⟩
    obtain ⟨ls, els, hls, hlc⟩ := cutV_strs zs (some (1 + ((zs.map V.str).length : Nat) * 2 / 3)) none
    have nll := off_pot hP3 nll0
    have nlll : l ≠ ll := ne_of_none el3 nll0
    have ell4 : upd H3 ll (.lst (cutV (zs.map V.str) (some (1 + ((zs.map V.str).length : Nat) * 2 / 3)) none)) ll = some (.lst (ls.map V.str)) := by rw [upd_same, els]
    have el4 : upd H3 ll (.lst (cutV (zs.map V.str) (some (1 + ((zs.map V.str).length : Nat) * 2 / 3)) none)) l = some (.lst (zs.map V.str)) := by rw [upd_ne nlll]; exact el3
    have hP4 := hP3.new (o := .lst (cutV (zs.map V.str) (some (1 + ((zs.map V.str).length : Nat) * 2 / 3)) none)) nll0
    have k14 : Kp (PM pd po) H (upd H3 ll (.lst (cutV (zs.map V.str) (some (1 + ((zs.map V.str).length : Nat) * 2 / 3)) none))) := k13.trans (Kp.new nll0)
    generalize upd H3 ll (.lst (cutV (zs.map V.str) (some (1 + ((zs.map V.str).length : Nat) * 2 / 3)) none)) = H4 at ell4 el4 hP4 k14 ⊢
    refine ⟨Nat.zero_le _, fun R nR => ?_⟩
    have hR := off_pot hP4 nR
    have nRH := none_back k14 hR nR
    have nlR : l ≠ R := ne_of_none el4 nR
    have nllR : ll ≠ R := ne_of_none ell4 nR
    have hNl : ∀ x ∈ zs, x.length ≤ 1000 := fun z h => Nat.le_trans (hz.2.2 z h).2.1 (by decide)
    refine ⟨_, rfl, l, rfl, ⟨_, SqL.of (by rw [upd_ne nlR]; exact el4)⟩, for_list (xs := zs.map V.str) (fun i σ H6 => ∃ (y7 : Option V) (t6 : Nat) (r6 o6 g6 : Int) (ps : List Addr) (bs : List (Str × Fo)), σ = [some (.ref pd), some (.int 4), some (.int 11), some (.int 70), some (.ref l), some (.ref ll), some (.ref R), y7] ∧ t6 ≤ t2 + i * 118000 ∧ Pot H6 pd po t6 (some (r6, o6, g6)) ∧ Kp (PM pd po) H H6 ∧ H6 l = some (.lst (zs.map V.str)) ∧ H6 ll = some (.lst (ls.map V.str)) ∧ H6 R = some (.lst (ps.map V.ref)) ∧
      RowsAt H6 ps bs ∧ bs.map (·.1) = zs.take i ∧ i ≤ zs.length ∧ ∀ x f, (x, f) ∈ bs → f.ok zs ∧ f.size ≤ 100000) ?_ ?_ ?_ ?_⟩
    · exact ⟨none, t2, _, _, _, [], [], rfl, by omega, hP4.new nR, k14.trans (Kp.new nR), by rw [upd_ne nlR]; exact el4, by rw [upd_ne nllR]; exact ell4, upd_same, ⟨rfl, fun i p x e => by simp at e⟩, by rw [List.take_zero]; rfl, Nat.zero_le _, (fun x f h => nomatch h)⟩
    · rintro i σ H6 _ ⟨y7, t6, r6, o6, g6, ps, bs, rfl, ht6, hP6, k6, a, _⟩
      exact SqL.of a
    · rintro i v σ H6 hv ⟨y7, t6, r6, o6, g6, ps, bs, rfl, ht6, hP6, k6, el6, ell6, eR6, hrows, hnm, hi, hok⟩
      rw [List.getElem?_map] at hv
      obtain ⟨z, hzi, rfl⟩ := Option.map_eq_some_iff.mp hv
      have hil : i < zs.length := (List.getElem?_eq_some_iff.mp hzi).1
      have i12 : i * 118000 ≤ 11 * 118000 := Nat.mul_le_mul_right _ (by omega)
      have hzm : z ∈ zs := List.mem_of_getElem? hzi
      -- the row is put behind
      have fin : ∀ (u : V) (f : Fo) (H7 : Hp) (t7 : Nat) (r7 o7 g7 : Int), t7 ≤ t6 + 118000 → Rp H7 u f.enc → f.ok zs → f.size ≤ 100000 → Pot H7 pd po t7 (some (r7, o7, g7)) → Kp (PM pd po) H6 H7 → ∀ p, H7 p = none →
          ∃ (a : Addr) (xs : List V) (y : V), V.ref R = .ref a ∧ [V.ref p] = [y] ∧ upd H7 p (.tup [.str z, u]) a = some (.lst xs) ∧ xs.length < sizeLine ∧ (fun σ H6 => ∃ (y7 : Option V) (t6 : Nat) (r6 o6 g6 : Int) (ps : List Addr) (bs : List (Str × Fo)), σ = [some (.ref pd), some (.int 4), some (.int 11), some (.int 70), some (.ref l), some (.ref ll), some (.ref R), y7] ∧ t6 ≤ t2 + (i + 1) * 118000 ∧ Pot H6 pd po t6 (some (r6, o6, g6)) ∧ Kp (PM pd po) H H6 ∧ H6 l = some (.lst (zs.map V.str)) ∧ H6 ll = some (.lst (ls.map V.str)) ∧ H6 R = some (.lst (ps.map V.ref)) ∧
            RowsAt H6 ps bs ∧ bs.map (·.1) = zs.take (i + 1) ∧ i + 1 ≤ zs.length ∧ ∀ x f, (x, f) ∈ bs → f.ok zs ∧ f.size ≤ 100000) [some (.ref pd), some (.int 4), some (.int 11), some (.int 70), some (.ref l), some (.ref ll), some (.ref R), some (.str z)] (upd (upd H7 p (.tup [.str z, u])) a (.lst (xs ++ [y]))) := by
        intro u f H7 t7 r7 o7 g7 ht7 hu hf hs hP7 k7 p np
        have eR7 := k7 R _ hR eR6
        have kp : Kp M0 H7 (upd H7 p (.tup [.str z, u])) := Kp.new np
        have npR : R ≠ p := ne_of_none eR7 np
        have lpb : ps.length = bs.length := hrows.1
        have lbi : bs.length = i := by
          have e := congrArg List.length hnm
          rw [List.length_map, List.length_take] at e
          omega
        refine ⟨R, _, _, rfl, rfl, kp _ _ (fun z => z) eR7, by rw [List.length_map, lpb, lbi]; exact small1000 (by omega), ?_⟩
        have kR : Kp (fun b => b = R) (upd H7 p (.tup [.str z, u])) (upd (upd H7 p (.tup [.str z, u])) R (.lst (ps.map V.ref ++ [.ref p]))) := Kp.put rfl
        have noR : ∀ a xs, a = R → upd H7 p (.tup [.str z, u]) a ≠ some (.tup xs) := fun a xs m e => by
          rw [m, kp _ _ (fun z => z) eR7] at e
          cases e
        have tt : t7 ≤ t2 + (i + 1) * 118000 := by
          rw [Nat.succ_mul]
          exact Nat.le_trans ht7 (by omega)
        refine ⟨_, t7, r7, o7, g7, ps ++ [p], bs ++ [(z, f)], rfl, tt, (hP7.new np).off hR, ((k6.trans k7).trans (Kp.new np)).own nRH, ?_, ?_, ?_, ?_, ?_, hil, ?_⟩
        · rw [upd_ne nlR]
          exact kp _ _ (fun z => z) (k7 l _ nPM el6)
        · rw [upd_ne nllR]
          exact kp _ _ (fun z => z) (k7 ll _ nll ell6)
        · rw [upd_same, List.map_append]
          rfl
        · refine (((hrows.keep k7 hP6.noT).keep kp noT0).keep kR noR).push ⟨u, ?_, (hu.keep kp noT0).keep kR noR⟩
          rw [upd_ne npR.symm]
          exact upd_same
        · rw [List.map_append, hnm, List.take_add_one, hzi]
          rfl
        · intro x f' h
          rcases List.mem_append.mp h with h | h
          · exact hok x f' h
          · cases List.mem_singleton.mp h
            exact ⟨hf, hs⟩
      refine ⟨_, rfl, _, rfl, ll, _, rfl, .inl (SqL.of ell6), rfl, flat_strs ls, _, rfl, ite2 (fun c => ?_) (fun c => ?_)⟩
      · refine ⟨_, rfl, .inl ⟨rfl, _, SqL.of eR6⟩, _, rfl, _, rfl, zs, pd, po, t6, r6, o6, g6, rfl, hP6, by omega, fun u f H7 t7 r7 o7 g7 ht7 hu hf hs hP7 k7 => ⟨by show 2 ≤ sizeLine; decide, fun p np => ?_⟩⟩
        exact fin u f H7 t7 r7 o7 g7 (by omega) hu hf (by omega) hP7 k7 p np
      · refine ⟨_, rfl, .inl ⟨rfl, _, SqL.of eR6⟩, _, rfl, _, rfl, _, rfl, _, rfl, zs, pd, po, t6, r6, o6, g6, l, ll, ls, 3, rfl, hP6, by omega, by decide, el6, ell6, hls, nPM, nll, hNl, by omega, by omega, fun u f H7 t7 r7 o7 g7 ht7 hu hf hs hP7 k7 => ⟨by show 2 ≤ sizeLine; decide, fun p np => ?_⟩⟩
        exact fin u f H7 t7 r7 o7 g7 (by omega) hu hf (by omega) hP7 k7 p np
    · rintro σ H6 ⟨y7, t6, r6, o6, g6, ps, bs, rfl, ht6, hP6, k6, el6, ell6, eR6, hrows, hnm, hi, hok⟩
      rw [List.length_map, List.take_length] at *
      have i12 : zs.length * 118000 ≤ 12 * 118000 := Nat.mul_le_mul_right _ (by omega)
      refine ⟨_, rfl, _, rfl, pd, po, t6, _, .ref l, (fun v => ∃ y ∈ zs, v = .str y), rfl, hP6, by omega, .inr ⟨l, _, rfl, el6, fun z => nPM (.inr z), by rw [List.length_map]; omega, by rw [List.length_map]; omega, fun v hv => ?_⟩, fun v H7 t7 ht7 ⟨y, hy, ev⟩ hP7 k7 => ⟨_, rfl, R, _, rfl, SqL.of (k7 R _ hR eR6), fun a o na oc od => ⟨by show 2 ≤ sizeLine; decide, fun p np => ?_⟩⟩⟩
      · obtain ⟨y, hy, rfl⟩ := List.mem_map.mp hv
        exact ⟨y, hy, rfl⟩
      subst ev
      have ka : Kp M0 H7 (upd H7 a (.frz o (.tup (ps.map V.ref)))) := Kp.new na
      have kb : Kp M0 (upd H7 a (.frz o (.tup (ps.map V.ref)))) (upd (upd H7 a (.frz o (.tup (ps.map V.ref)))) p (.tup [.str y, .ref a])) := Kp.new np
      refine q p y bs _ ⟨p, a, o, ps, rfl, upd_same, kb _ _ (fun z => z) upd_same, oc, od, ((hrows.keep k7 hP6.noT).keep ka noT0).keep kb noT0⟩ ⟨?_, ?_, ?_, ?_, fun x f h => ?_⟩ (fun x hx c hc => ?_) ((k6.trans k7).trans ((ka.trans kb).mono fun b z => z.elim))
      · rw [hnm]
        exact hz.1
      · have e := congrArg List.length hnm
        rw [List.length_map] at e
        omega
      · rw [hnm]
        exact hy
      · rw [hnm]
        exact hNl
      · rw [hnm]
        exact hok x f h
      · rw [hnm] at hx
        exact Nat.lt_of_le_of_lt ((hz.2.2 x hx).2.2 c hc).2 (by decide)
def spBk : Sp := fun vs H Q _ => ∃ (pd po : Addr) (t : Nat), vs = [.ref pd] ∧ Pot H pd po t none ∧ t < 2 ^ 40 ∧
  ∀ (b : Addr) (s : Str) (bs : List (Str × Fo)) (H' : Hp), BookZ H' (.ref b) s bs → BookOk bs s → (∀ x ∈ bs.map (·.1), ∀ c ∈ x.cps.toList, c < 1114112) → Kp (PM pd po) H H' → Q (.ref b) H'
theorem ok_bk {f fo : Addr} {fd fdo : FuncData} {k : Nat} (F : Fun K "_law_book" "_law_book" sBk f fd)
    (GO : FnOk P w K mg base CX0 k fo fdo ["_law_pot_here", "_law_few", "_law_most", "_law_room"] spBo) (ko : PySem.W.keepIn K (.ref fo) = true) (bo : Binds K fdo ["_law_pot_here", "_law_few", "_law_most", "_law_room"] []) (go : mg "_law_book_of" = some (.ref fo)) :
    FnOk P w K mg base CX0 (k + 1) f fd ["_law_pot_here"] spBk := by
  refine F.ok scBk (fun vs H Q E h => ?_) (fun cdv A outer s H vs Q E hr h => ?_)
  · obtain ⟨pd, po, t, rfl, _⟩ := h
    rfl
  · obtain ⟨pd, po, t, rfl, hP, ht, q⟩ := h
    refine ⟨_, (pss_one (ps_ret (pe_call GO hr (by rfl) go ko bo .nil pass0 (pa_cons (pv 0) (pa_cons pe_int (pa_cons pe_int (pa_cons pe_int pa_nil))))))), ?_⟩
    exact ⟨_, rfl, pd, po, t, rfl, hP, ht, q⟩
end
end RT

namespace RT
open PySem PySem.Spec PyProof.Rows L2
theorem le_of_ltCps {a b : Str} (h : (!ltCps b.cps.toList a.cps.toList) = true) : a.cps.toList ≤ b.cps.toList := by
  rw [ltCps_eq] at h
  refine List.not_lt.mp fun z => ?_
  rw [decide_eq_true z] at h
  cases h
theorem rising_pw : ∀ (p : Str) (l : List Str), risingS p l = true → (p :: l).Pairwise (fun a b => a.cps.toList ≤ b.cps.toList)
  | p, [], _ => List.pairwise_singleton ..
  | p, x :: r, h => by
    obtain ⟨h1, h2⟩ := Bool.and_eq_true_iff.mp (show (!ltCps x.cps.toList p.cps.toList && risingS x r) = true from h)
    have ih := rising_pw x r h2
    have px := le_of_ltCps h1
    refine List.pairwise_cons.mpr ⟨fun b hb => ?_, ih⟩
    rcases List.mem_cons.mp hb with e | e
    · rw [e]
      exact px
    · exact List.le_trans px (List.rel_of_pairwise_cons ih e)
theorem sorted_pw {l : List Str} (h : sortedS l = true) : l.Pairwise (fun a b => a.cps.toList ≤ b.cps.toList) := by
  cases l with
  | nil => exact .nil
  | cons p r => exact rising_pw p r h
theorem same_sorted {xs ys : List Str} {R : Str → Prop} (sx : sortedS xs = true) (nx : xs.Nodup) (hx : ∀ x, x ∈ xs ↔ R x) (sy : sortedS ys = true) (ny : ys.Nodup) (hy : ∀ x, x ∈ ys ↔ R x) : xs = ys := by
  have p : xs.Perm ys := (List.perm_ext_iff_of_nodup nx ny).mpr fun a => (hx a).trans (hy a).symm
  refine List.Perm.eq_of_pairwise (fun a b _ _ h1 h2 => ?_) (sorted_pw sx) (sorted_pw sy) p
  exact TL.ext_tl (List.le_antisymm h1 h2)
end RT

namespace RT
open PySem PySem.Spec PyProof.Rows L2
abbrev sLaw : Stmt := topS 27
theorem scLaw : FnScope ["_law_script", "_law_pot_here", "_law_book_here", "_law_name", "_law_form_here", "_law_told"] ["_law_script"] (defScope sLaw) := ⟨rfl, rfl, rfl, by decide +kernel, rfl, by decide +kernel, by decide +kernel⟩
theorem BookZ.keep {H H' : Hp} {v : V} {s : Str} {bs : List (Str × Fo)} (h : BookZ H v s bs) (k : Kp M0 H H') : BookZ H' v s bs := by
  obtain ⟨b, rows, o, ps, e, e1, e2, e3, e4, r⟩ := h
  exact ⟨b, rows, o, ps, e, k _ _ (fun z => z) e1, k _ _ (fun z => z) e2, e3, e4, r.keep k noT0⟩
theorem BookOk.from {bs : List (Str × Fo)} {s x : Str} (h : BookOk bs s) (hx : x ∈ bs.map (·.1)) : BookOk bs x := ⟨h.nd, h.few, hx, h.len, h.ok⟩
theorem dp_strs {K : PySem.W.Frag} {H : Hp} : ∀ ys : List Str, DpAll K H (ys.map V.str) (ys.map PyData.str)
  | [] => .nil
  | y :: r => .cons (.str y) (dp_strs r)
theorem shaped_strs {ns : List Str} (h : ∀ n ∈ ns, ∀ c ∈ n.cps.toList, c < 1114112) : SeqAt.shaped (.tuple (ns.map PyData.str)) = true := by
  have a : PyData.canLayAll0 (ns.map PyData.str) = true := by
    induction ns with
    | nil => rfl
    | cons n r ih =>
      have e : PyData.strOk n = true := by
        unfold PyData.strOk
        rw [Array.all_eq_true_iff_forall_mem]
        intro c hc
        exact decide_eq_true (h n (List.mem_cons_self ..) c (Array.mem_toList_iff.mpr hc))
      simp only [List.map_cons, PyData.canLayAll0, PyData.canLay0, ih fun m hm => h m (List.mem_cons_of_mem _ hm), e, Bool.and_self]
  have b : PyData.depthAll (ns.map PyData.str) = 0 := by
    clear h a
    induction ns with
    | nil => rfl
    | cons n r ih => simp only [List.map_cons, PyData.depthAll, PyData.depth, ih, Nat.max_self]
  unfold SeqAt.shaped
  simp only [PyData.canLay0, a, PyData.depth, b, Bool.true_and]
  rfl
theorem eqv_strs : ∀ ns : List Str, PyData.eqvAll (ns.map PyData.str) (ns.map PyData.str) = true
  | [] => by simp [PyData.eqvAll]
  | n :: r => by
    have := eqv_strs r
    simp [PyData.eqvAll, PyData.eqv, this]
theorem eqv_tup (ns : List Str) : PyData.eqv (.tuple (ns.map PyData.str)) (.tuple (ns.map PyData.str)) = true := by
  have := eqv_strs ns
  simp [PyData.eqv, this]
theorem sqT_keep {K : PySem.W.Frag} {H H' : Hp} {a : Addr} {xs : List V} (k : Kp M0 H H') (h : SqT K H a xs) : SqT K H' a xs := by
  rcases h with (h | ⟨o, h⟩) | h
  · exact .inl (.inl (k _ _ (fun z => z) h))
  · exact .inl (.inr ⟨o, k _ _ (fun z => z) h⟩)
  · exact .inr h
mutual
theorem has_ok {N : List Str} {x : Str} : ∀ f : Fo, f.ok N → f.has x → x ∈ N
  | .leaf _ _, _, h => h.elim
  | .one _ f _, o, h => has_ok f o.2 h
  | .row fs, o, h => hass_ok fs o h
  | .either _ fs, o, h => hass_ok fs o.2 h
  | .again f, o, h => has_ok f o h
  | .between f g, o, h => h.elim (has_ok f o.1) (has_ok g o.2)
  | .counted _ f, o, h => has_ok f o h
  | .named y, o, h => by
    have e : y = x := h
    exact e ▸ o
theorem hass_ok {N : List Str} {x : Str} : ∀ fs : List Fo, Fo.oks N fs → Fo.hass x fs → x ∈ N
  | [], _, h => h.elim
  | f :: r, o, h => h.elim (has_ok f o.1) (hass_ok r o.2)
end
theorem reach_name {bs : List (Str × Fo)} {s : Str} (hB : BookOk bs s) {x y : Str} (hy : y ∈ bs.map (·.1)) (r : Reach bs y x) : x ∈ bs.map (·.1) := by
  refine reach_in hy (fun m hm f hf x hx => ?_) r
  exact has_ok f (hB.ok m f hf).1 hx
theorem cut1 (ps : List Addr) : ∃ qs : List Addr, cutV (ps.map V.ref) none (some 1) = qs.map V.ref ∧ ∀ q ∈ qs, q ∈ ps := by
  unfold cutV
  exact ⟨(ps.drop _).take _, by rw [List.map_take, List.map_drop], fun x h => List.mem_of_mem_drop (List.mem_of_mem_take h)⟩
section
variable {P : Program} {w : World} {K : PySem.W.Frag} {mg : Str → Option Value} {base : Heap}
def spMetA (K : PySem.W.Frag) : Sp := fun vs H Q E => ∃ N, spMet K N vs H Q E
def spLmetA : Sp := fun vs H Q E => ∃ N, spLmet N vs H Q E
def spLaw (K : PySem.W.Frag) : Sp := fun vs H Q _ => ∃ (a : Addr) (ns : List Int), vs = [.ref a] ∧ SqL K H a (ns.map V.int) ∧ ∀ H', Q (.bl true) H'
set_option maxHeartbeats 0 in
theorem ok_law {f fpo fbk fme flm : Addr} {fd fdpo fdbk fdme fdlm : FuncData} {k : Nat} (F : Fun K "law" "law" sLaw f fd)
    (GPo : FnOk P w K mg base CX0 k fpo fdpo ["_law_script"] (spPot K)) (kpo : PySem.W.keepIn K (.ref fpo) = true) (bpo : Binds K fdpo ["_law_script"] []) (gpo : mg "_law_pot" = some (.ref fpo))
    (GBk : FnOk P w K mg base CX0 k fbk fdbk ["_law_pot_here"] spBk) (kbk : PySem.W.keepIn K (.ref fbk) = true) (bbk : Binds K fdbk ["_law_pot_here"] []) (gbk : mg "_law_book" = some (.ref fbk))
    (GMe : FnOk P w K mg base CX0 k fme fdme ["book"] (spMetA K)) (kme : PySem.W.keepIn K (.ref fme) = true) (bme : Binds K fdme ["book"] []) (gme : mg "names_met" = some (.ref fme))
    (GLm : FnOk P w K mg base CX0 k flm fdlm ["_law_book_here"] spLmetA) (klm : PySem.W.keepIn K (.ref flm) = true) (blm : Binds K fdlm ["_law_book_here"] []) (glm : mg "_law_met" = some (.ref flm))
    (mi : mg "isinstance" = none) (mtu : mg "tuple" = none) : FnOk P w K mg base CX0 (k + 1) f fd ["_law_script"] (spLaw K) := by
  refine F.ok scLaw (fun vs H Q E h => ?_) (fun cdv A outer s H vs Q E hr h => ?_)
  · obtain ⟨a, ns, rfl, _⟩ := h
    rfl
  · obtain ⟨a, ns, rfl, hS, q⟩ := h
    refine ⟨_, (pss_cons (ps_set (i := 1) scLaw.nd rfl (.inl rfl) (pe_call GPo hr (by rfl) gpo kpo bpo .nil pass0 (pa_cons (pv 0) pa_nil)))
      (pss_cons (ps_set (i := 2) scLaw.nd rfl (.inl rfl) (pe_call GBk hr (by rfl) gbk kbk bbk .nil pass0 (pa_cons (pv 1) pa_nil)))
      (pss_cons (ps_for PassesOwn.never rfl (pi_tup (pe_op op_catA (pe_ix ix_tup (pv 2) pe_int (fun _ _ => rfl)) (pe_slice sl_tupA (pe_ix ix_tup (pv 2) pe_int (fun _ _ => rfl)) po_none (po_some pe_int)))) (pg_tup rfl (pgs_cons (pg_name (i := 3) scLaw.nd rfl (.inl rfl)) (pgs_cons (pg_name (i := 4) scLaw.nd rfl (.inl rfl)) pgs_nil))) (pss_cons (ps_set (i := 5) scLaw.nd rfl (.inl rfl) (pe_call GMe hr (by rfl) gme kme bme .nil pass0 (pa_cons (pe_tup (pa_cons (pv 3) (pa_cons (pe_ix ix_tup (pv 2) pe_int (fun _ _ => rfl)) pa_nil))) pa_nil)))
      (pss_one (ps_if (PW.pt (pw_or (pt_not (pt_val (pe_callB call_isi (by rfl) mi (by decide +kernel) (pa_cons (pv 5) (pa_cons (pe_bltn (v := .ty "tuple") (by rfl) mtu (by decide +kernel) rfl) pa_nil))))) (pw_or1 (pt_cmpR (op_neD hr.units) (pv 5) (pe_call GLm hr (by rfl) glm klm blm .nil pass0 (pa_cons (pe_tup (pa_cons (pv 3) (pa_cons (pe_ix ix_tup (pv 2) pe_int (fun _ _ => rfl)) pa_nil))) pa_nil)) (nomark _))))) (pss_one (ps_ret pe_bl)) pss_nil))))
      (pss_one (ps_ret (pe_cmpR (op_eqD hr.units) (pe_call GMe hr (by rfl) gme kme bme .nil pass0 (pa_cons (pv 2) pa_nil)) (pe_call GLm hr (by rfl) glm klm blm .nil pass0 (pa_cons (pv 2) pa_nil)) (nomark _))))))), ?_⟩
    refine ⟨_, rfl, a, ns, rfl, hS, fun pd po H1 k1 nd no hne hP1 => ?_⟩
    refine ⟨_, rfl, pd, po, 0, rfl, hP1, by decide, fun b s bs H2 hZ hB hch k2 => ?_⟩
    obtain ⟨b', rows, o, ps, eb', eb, er, oc, od, hR⟩ := hZ
    cases eb'
    have ok0 : ∀ {x : Str} {zs : List Str}, (∀ z, z ∈ zs ↔ Reach bs x z) → x ∈ bs.map (·.1) → ∀ n ∈ zs, ∀ c ∈ n.cps.toList, c < 1114112 := fun h hx n hn => hch n (reach_name hB hx ((h n).mp hn))
    have hps : ps ≠ [] := fun e => by
      have l := hR.1
      have st := hB.st
      rw [e] at l
      cases bs with
      | nil => cases st
      | cons x r => cases l
    have hrow : SqT K H2 rows (ps.map V.ref) := .inl (.inr ⟨o, er⟩)
    have hne0 : ps.map V.ref ≠ [] := fun e => hps (List.map_eq_nil_iff.mp e)
    refine ⟨_, rfl, b, _, 1, .ref rows, rfl, rfl, SqT.of eb, atI_nat (j := 1) rfl, _, rfl, b, _, 1, .ref rows, rfl, rfl, SqT.of eb, atI_nat (j := 1) rfl, 1, rfl, rows, _, rfl, hrow, fun c => ?_, fun c p1 n1 => ?_⟩
    · refine ⟨rows, rows, _, _, rfl, rfl, hrow, hrow, ?_, fun e => absurd e hne0, fun _ e => absurd e hne0, fun _ _ p np => ?_⟩
      · rw [List.length_map, hR.1, sizeLine_eq]
        have := hB.few
        omega
      · have k23 : Kp M0 H2 (upd H2 p (.tup (ps.map V.ref ++ ps.map V.ref))) := Kp.new np
        have hq : SqT K (upd H2 p (.tup (ps.map V.ref ++ ps.map V.ref))) p ((ps ++ ps).map V.ref) := SqT.of (by rw [upd_same, List.map_append])
        have hqs : ∀ q ∈ ps ++ ps, q ∈ ps := fun q h => (List.mem_append.mp h).elim id id
        generalize ps ++ ps = qs at hq hqs
        generalize upd H2 p (.tup (ps.map V.ref ++ ps.map V.ref)) = H3 at k23 hq ⊢
        refine ⟨p, rfl, ⟨_, hq⟩, for_tup (xs := qs.map V.ref) (fun i σ H4 => Kp M0 H3 H4 ∧ ∃ y3 y4 y5 : Option V, σ = [some (.ref a), some (.ref pd), some (.ref b), y3, y4, y5]) ?_ ?_ ?_ ?_⟩
        · exact ⟨Kp.refl, none, none, none, rfl⟩
        · rintro i σ H4 _ ⟨k4, _⟩
          exact sqT_keep k4 hq
        · rintro i x σ H4 hx ⟨k4, y3, y4, y5, rfl⟩
          rw [List.getElem?_map] at hx
          obtain ⟨q1, hq1, rfl⟩ := Option.map_eq_some_iff.mp hx
          obtain ⟨j, hj⟩ := List.mem_iff_getElem?.mp (hqs q1 (List.mem_of_getElem? hq1))
          have hjb : j < bs.length := by
            rw [← hR.1]
            exact (List.getElem?_eq_some_iff.mp hj).1
          obtain ⟨u, eu, ru⟩ := hR.2 j q1 bs[j] hj (List.getElem?_eq_getElem hjb)
          have k24 := k23.trans k4
          have hx0 : bs[j].1 ∈ bs.map (·.1) := List.mem_map.mpr ⟨_, List.getElem_mem hjb, rfl⟩
          generalize bs[j].1 = x0 at eu hx0
          have eb4 := k24 _ _ (fun z => z) eb
          refine ⟨q1, _, rfl, SqT.of (k24 _ _ (fun z => z) eu), rfl, _, _, rfl, _, _, rfl, rfl, ?_⟩
          refine ⟨_, rfl, _, rfl, b, _, 1, .ref rows, rfl, rfl, SqT.of eb4, atI_nat (j := 1) rfl, by show 2 ≤ sizeLine; decide, fun q2 n2 => ?_⟩
          have k25 : Kp M0 H2 (upd H4 q2 (.tup [.str x0, .ref rows])) := k24.trans (Kp.new n2)
          have hZ5 : BookZ (upd H4 q2 (.tup [.str x0, .ref rows])) (.ref q2) x0 bs := ⟨q2, rows, o, ps, rfl, upd_same, k25 _ _ (fun z => z) er, oc, od, hR.keep k25 noT0⟩
          refine ⟨bs.map (·.1), .ref q2, x0, bs, rfl, hZ5.at, hB.from hx0, rfl, fun ys l H6 sy ny hy el k6 => ?_⟩
          have k26 := k25.trans k6
          refine ⟨_, rfl, _, .ty "tuple", .type "tuple", .type "tuple", true, rfl, .ty _, .base (.tup el), kit_ty (by decide +kernel), true, rfl, iteF ?_⟩
          refine ⟨_, rfl, _, rfl, _, rfl, b, _, 1, .ref rows, rfl, rfl, SqT.of (k26 _ _ (fun z => z) eb), atI_nat (j := 1) rfl, by show 2 ≤ sizeLine; decide, fun q3 n3 => ?_⟩
          have k27 : Kp M0 H2 (upd H6 q3 (.tup [.str x0, .ref rows])) := k26.trans (Kp.new n3)
          have hZ7 : BookZ (upd H6 q3 (.tup [.str x0, .ref rows])) (.ref q3) x0 bs := ⟨q3, rows, o, ps, rfl, upd_same, k27 _ _ (fun z => z) er, oc, od, hR.keep k27 noT0⟩
          refine ⟨bs.map (·.1), .ref q3, x0, bs, rfl, hZ7, hB.from hx0, rfl, fun zs l2 H8 sz nz hz el2 k8 => ?_⟩
          have ez := same_sorted sz nz hz sy ny hy
          subst ez
          have kl : Kp M0 H6 H8 := (Kp.new n3).trans k8
          refine ⟨_, _, .tup (SqT.of (kl _ _ (fun z => z) el)) (dp_strs zs), .tup (SqT.of el2) (dp_strs zs), shaped_strs (ok0 hz hx0), shaped_strs (ok0 hz hx0), _, rfl, iteF' (by rw [eqv_tup]; rfl) ?_⟩
          exact ⟨k4.trans ((Kp.new n2).trans (k6.trans kl)), _, _, _, rfl⟩
        · rintro σ H4 ⟨k4, y3, y4, y5, rfl⟩
          have k24 := k23.trans k4
          have hZ4 : BookZ H4 (.ref b) s bs := ⟨b, rows, o, ps, rfl, k24 _ _ (fun z => z) eb, k24 _ _ (fun z => z) er, oc, od, hR.keep k24 noT0⟩
          refine ⟨_, rfl, bs.map (·.1), .ref b, s, bs, rfl, hZ4.at, hB, rfl, fun ys l H6 sy ny hy el k6 => ?_⟩
          refine ⟨_, rfl, bs.map (·.1), .ref b, s, bs, rfl, hZ4.keep k6, hB, rfl, fun zs l2 H8 sz nz hz el2 k8 => ?_⟩
          have ez := same_sorted sz nz hz sy ny hy
          subst ez
          refine ⟨_, _, .tup (SqT.of (k8 _ _ (fun z => z) el)) (dp_strs zs), .tup (SqT.of el2) (dp_strs zs), shaped_strs (ok0 hz hB.st), shaped_strs (ok0 hz hB.st), ?_⟩
          rw [eqv_tup]
          exact q H8
    · obtain ⟨rs, ers, hrs⟩ := cut1 ps
      rw [ers]
      have ka : Kp M0 H2 (upd H2 p1 (.tup (rs.map V.ref))) := Kp.new n1
      have e1 : upd H2 p1 (.tup (rs.map V.ref)) p1 = some (.tup (rs.map V.ref)) := upd_same
      generalize upd H2 p1 (.tup (rs.map V.ref)) = H2b at ka e1 ⊢
      refine ⟨rows, p1, _, _, rfl, rfl, sqT_keep ka hrow, SqT.of e1, ?_, fun e => absurd e hne0, fun _ e => ?_, fun _ _ p np => ?_⟩
      · rw [← ers]
        have z := cutV_length (ps.map V.ref) none (some 1)
        rw [List.length_map, hR.1] at z ⊢
        have := hB.few
        rw [sizeLine_eq]
        omega
      · have k23 := ka
        have hq := sqT_keep ka hrow
        have hqs : ∀ q ∈ ps, q ∈ ps := fun q h => h
        have ⟨p, hp⟩ : ∃ p, p = rows := ⟨_, rfl⟩
        rw [← hp] at hq
        rw [← hp]
        have ⟨qs, hqe⟩ : ∃ qs, qs = ps := ⟨_, rfl⟩
        rw [← hqe] at hq
        have hqs : ∀ q ∈ qs, q ∈ ps := fun q h => hqe ▸ h
        have ⟨H3, hH3⟩ : ∃ H3, H3 = H2b := ⟨_, rfl⟩
        rw [← hH3] at hq k23
        rw [← hH3]
        refine ⟨p, rfl, ⟨_, hq⟩, for_tup (xs := qs.map V.ref) (fun i σ H4 => Kp M0 H3 H4 ∧ ∃ y3 y4 y5 : Option V, σ = [some (.ref a), some (.ref pd), some (.ref b), y3, y4, y5]) ?_ ?_ ?_ ?_⟩
        · exact ⟨Kp.refl, none, none, none, rfl⟩
        · rintro i σ H4 _ ⟨k4, _⟩
          exact sqT_keep k4 hq
        · rintro i x σ H4 hx ⟨k4, y3, y4, y5, rfl⟩
          rw [List.getElem?_map] at hx
          obtain ⟨q1, hq1, rfl⟩ := Option.map_eq_some_iff.mp hx
          obtain ⟨j, hj⟩ := List.mem_iff_getElem?.mp (hqs q1 (List.mem_of_getElem? hq1))
          have hjb : j < bs.length := by
            rw [← hR.1]
            exact (List.getElem?_eq_some_iff.mp hj).1
          obtain ⟨u, eu, ru⟩ := hR.2 j q1 bs[j] hj (List.getElem?_eq_getElem hjb)
          have k24 := k23.trans k4
          have hx0 : bs[j].1 ∈ bs.map (·.1) := List.mem_map.mpr ⟨_, List.getElem_mem hjb, rfl⟩
          generalize bs[j].1 = x0 at eu hx0
          have eb4 := k24 _ _ (fun z => z) eb
          refine ⟨q1, _, rfl, SqT.of (k24 _ _ (fun z => z) eu), rfl, _, _, rfl, _, _, rfl, rfl, ?_⟩
          refine ⟨_, rfl, _, rfl, b, _, 1, .ref rows, rfl, rfl, SqT.of eb4, atI_nat (j := 1) rfl, by show 2 ≤ sizeLine; decide, fun q2 n2 => ?_⟩
          have k25 : Kp M0 H2 (upd H4 q2 (.tup [.str x0, .ref rows])) := k24.trans (Kp.new n2)
          have hZ5 : BookZ (upd H4 q2 (.tup [.str x0, .ref rows])) (.ref q2) x0 bs := ⟨q2, rows, o, ps, rfl, upd_same, k25 _ _ (fun z => z) er, oc, od, hR.keep k25 noT0⟩
          refine ⟨bs.map (·.1), .ref q2, x0, bs, rfl, hZ5.at, hB.from hx0, rfl, fun ys l H6 sy ny hy el k6 => ?_⟩
          have k26 := k25.trans k6
          refine ⟨_, rfl, _, .ty "tuple", .type "tuple", .type "tuple", true, rfl, .ty _, .base (.tup el), kit_ty (by decide +kernel), true, rfl, iteF ?_⟩
          refine ⟨_, rfl, _, rfl, _, rfl, b, _, 1, .ref rows, rfl, rfl, SqT.of (k26 _ _ (fun z => z) eb), atI_nat (j := 1) rfl, by show 2 ≤ sizeLine; decide, fun q3 n3 => ?_⟩
          have k27 : Kp M0 H2 (upd H6 q3 (.tup [.str x0, .ref rows])) := k26.trans (Kp.new n3)
          have hZ7 : BookZ (upd H6 q3 (.tup [.str x0, .ref rows])) (.ref q3) x0 bs := ⟨q3, rows, o, ps, rfl, upd_same, k27 _ _ (fun z => z) er, oc, od, hR.keep k27 noT0⟩
          refine ⟨bs.map (·.1), .ref q3, x0, bs, rfl, hZ7, hB.from hx0, rfl, fun zs l2 H8 sz nz hz el2 k8 => ?_⟩
          have ez := same_sorted sz nz hz sy ny hy
          subst ez
          have kl : Kp M0 H6 H8 := (Kp.new n3).trans k8
          refine ⟨_, _, .tup (SqT.of (kl _ _ (fun z => z) el)) (dp_strs zs), .tup (SqT.of el2) (dp_strs zs), shaped_strs (ok0 hz hx0), shaped_strs (ok0 hz hx0), _, rfl, iteF' (by rw [eqv_tup]; rfl) ?_⟩
          exact ⟨k4.trans ((Kp.new n2).trans (k6.trans kl)), _, _, _, rfl⟩
        · rintro σ H4 ⟨k4, y3, y4, y5, rfl⟩
          have k24 := k23.trans k4
          have hZ4 : BookZ H4 (.ref b) s bs := ⟨b, rows, o, ps, rfl, k24 _ _ (fun z => z) eb, k24 _ _ (fun z => z) er, oc, od, hR.keep k24 noT0⟩
          refine ⟨_, rfl, bs.map (·.1), .ref b, s, bs, rfl, hZ4.at, hB, rfl, fun ys l H6 sy ny hy el k6 => ?_⟩
          refine ⟨_, rfl, bs.map (·.1), .ref b, s, bs, rfl, hZ4.keep k6, hB, rfl, fun zs l2 H8 sz nz hz el2 k8 => ?_⟩
          have ez := same_sorted sz nz hz sy ny hy
          subst ez
          refine ⟨_, _, .tup (SqT.of (k8 _ _ (fun z => z) el)) (dp_strs zs), .tup (SqT.of el2) (dp_strs zs), shaped_strs (ok0 hz hB.st), shaped_strs (ok0 hz hB.st), ?_⟩
          rw [eqv_tup]
          exact q H8
      · have k23 : Kp M0 H2 (upd H2b p (.tup (ps.map V.ref ++ rs.map V.ref))) := ka.trans (Kp.new np)
        have hq : SqT K (upd H2b p (.tup (ps.map V.ref ++ rs.map V.ref))) p ((ps ++ rs).map V.ref) := SqT.of (by rw [upd_same, List.map_append])
        have hqs : ∀ q ∈ ps ++ rs, q ∈ ps := fun q h => (List.mem_append.mp h).elim id (hrs q)
        generalize ps ++ rs = qs at hq hqs
        generalize upd H2b p (.tup (ps.map V.ref ++ rs.map V.ref)) = H3 at k23 hq ⊢
        refine ⟨p, rfl, ⟨_, hq⟩, for_tup (xs := qs.map V.ref) (fun i σ H4 => Kp M0 H3 H4 ∧ ∃ y3 y4 y5 : Option V, σ = [some (.ref a), some (.ref pd), some (.ref b), y3, y4, y5]) ?_ ?_ ?_ ?_⟩
        · exact ⟨Kp.refl, none, none, none, rfl⟩
        · rintro i σ H4 _ ⟨k4, _⟩
          exact sqT_keep k4 hq
        · rintro i x σ H4 hx ⟨k4, y3, y4, y5, rfl⟩
          rw [List.getElem?_map] at hx
          obtain ⟨q1, hq1, rfl⟩ := Option.map_eq_some_iff.mp hx
          obtain ⟨j, hj⟩ := List.mem_iff_getElem?.mp (hqs q1 (List.mem_of_getElem? hq1))
          have hjb : j < bs.length := by
            rw [← hR.1]
            exact (List.getElem?_eq_some_iff.mp hj).1
          obtain ⟨u, eu, ru⟩ := hR.2 j q1 bs[j] hj (List.getElem?_eq_getElem hjb)
          have k24 := k23.trans k4
          have hx0 : bs[j].1 ∈ bs.map (·.1) := List.mem_map.mpr ⟨_, List.getElem_mem hjb, rfl⟩
          generalize bs[j].1 = x0 at eu hx0
          have eb4 := k24 _ _ (fun z => z) eb
          refine ⟨q1, _, rfl, SqT.of (k24 _ _ (fun z => z) eu), rfl, _, _, rfl, _, _, rfl, rfl, ?_⟩
          refine ⟨_, rfl, _, rfl, b, _, 1, .ref rows, rfl, rfl, SqT.of eb4, atI_nat (j := 1) rfl, by show 2 ≤ sizeLine; decide, fun q2 n2 => ?_⟩
          have k25 : Kp M0 H2 (upd H4 q2 (.tup [.str x0, .ref rows])) := k24.trans (Kp.new n2)
          have hZ5 : BookZ (upd H4 q2 (.tup [.str x0, .ref rows])) (.ref q2) x0 bs := ⟨q2, rows, o, ps, rfl, upd_same, k25 _ _ (fun z => z) er, oc, od, hR.keep k25 noT0⟩
          refine ⟨bs.map (·.1), .ref q2, x0, bs, rfl, hZ5.at, hB.from hx0, rfl, fun ys l H6 sy ny hy el k6 => ?_⟩
          have k26 := k25.trans k6
          refine ⟨_, rfl, _, .ty "tuple", .type "tuple", .type "tuple", true, rfl, .ty _, .base (.tup el), kit_ty (by decide +kernel), true, rfl, iteF ?_⟩
          refine ⟨_, rfl, _, rfl, _, rfl, b, _, 1, .ref rows, rfl, rfl, SqT.of (k26 _ _ (fun z => z) eb), atI_nat (j := 1) rfl, by show 2 ≤ sizeLine; decide, fun q3 n3 => ?_⟩
          have k27 : Kp M0 H2 (upd H6 q3 (.tup [.str x0, .ref rows])) := k26.trans (Kp.new n3)
          have hZ7 : BookZ (upd H6 q3 (.tup [.str x0, .ref rows])) (.ref q3) x0 bs := ⟨q3, rows, o, ps, rfl, upd_same, k27 _ _ (fun z => z) er, oc, od, hR.keep k27 noT0⟩
          refine ⟨bs.map (·.1), .ref q3, x0, bs, rfl, hZ7, hB.from hx0, rfl, fun zs l2 H8 sz nz hz el2 k8 => ?_⟩
          have ez := same_sorted sz nz hz sy ny hy
          subst ez
          have kl : Kp M0 H6 H8 := (Kp.new n3).trans k8
          refine ⟨_, _, .tup (SqT.of (kl _ _ (fun z => z) el)) (dp_strs zs), .tup (SqT.of el2) (dp_strs zs), shaped_strs (ok0 hz hx0), shaped_strs (ok0 hz hx0), _, rfl, iteF' (by rw [eqv_tup]; rfl) ?_⟩
          exact ⟨k4.trans ((Kp.new n2).trans (k6.trans kl)), _, _, _, rfl⟩
        · rintro σ H4 ⟨k4, y3, y4, y5, rfl⟩
          have k24 := k23.trans k4
          have hZ4 : BookZ H4 (.ref b) s bs := ⟨b, rows, o, ps, rfl, k24 _ _ (fun z => z) eb, k24 _ _ (fun z => z) er, oc, od, hR.keep k24 noT0⟩
          refine ⟨_, rfl, bs.map (·.1), .ref b, s, bs, rfl, hZ4.at, hB, rfl, fun ys l H6 sy ny hy el k6 => ?_⟩
          refine ⟨_, rfl, bs.map (·.1), .ref b, s, bs, rfl, hZ4.keep k6, hB, rfl, fun zs l2 H8 sz nz hz el2 k8 => ?_⟩
          have ez := same_sorted sz nz hz sy ny hy
          subst ez
          refine ⟨_, _, .tup (SqT.of (k8 _ _ (fun z => z) el)) (dp_strs zs), .tup (SqT.of el2) (dp_strs zs), shaped_strs (ok0 hz hB.st), shaped_strs (ok0 hz hB.st), ?_⟩
          rw [eqv_tup]
          exact q H8
end
end RT

/-! ### the end -/
namespace RT
open PySem PySem.Spec PyProof.Rows L2
theorem all_mk {l : PySem.W.OpenLaw} {w : World} {K : PySem.W.Frag} {h : Heap} {mg : Str → Option Value} {fa : Addr} (X : K.In h) (G : h.Ns mainGlobals mg) (hfa : mg "law" = some (.ref fa))
    {f1 : Addr} {od1 an1 : Option Addr} {sl1 : Array (Option Value)} {oc1 kV1 dc1 pm1 ct1 : Value} {cd1 : Value} {f2 : Addr} {od2 an2 : Option Addr} {sl2 : Array (Option Value)} {oc2 kV2 dc2 pm2 ct2 : Value} {cd2 : Value} {f3 : Addr} {od3 an3 : Option Addr} {sl3 : Array (Option Value)} {oc3 kV3 dc3 pm3 ct3 : Value} {cd3 : Value} {f4 : Addr} {od4 an4 : Option Addr} {sl4 : Array (Option Value)} {oc4 kV4 dc4 pm4 ct4 : Value} {cd4 : Value} {f5 : Addr} {od5 an5 : Option Addr} {sl5 : Array (Option Value)} {oc5 kV5 dc5 pm5 ct5 : Value} {cd5 : Value} {f6 : Addr} {od6 an6 : Option Addr} {sl6 : Array (Option Value)} {oc6 kV6 dc6 pm6 ct6 : Value} {cd6 : Value} {f7 : Addr} {od7 an7 : Option Addr} {sl7 : Array (Option Value)} {oc7 kV7 dc7 pm7 ct7 : Value} {cd7 : Value} {f8 : Addr} {od8 an8 : Option Addr} {sl8 : Array (Option Value)} {oc8 kV8 dc8 pm8 ct8 : Value} {cd8 : Value} {f9 : Addr} {od9 an9 : Option Addr} {sl9 : Array (Option Value)} {oc9 kV9 dc9 pm9 ct9 : Value} {cd9 : Value} {f10 : Addr} {od10 an10 : Option Addr} {sl10 : Array (Option Value)} {oc10 kV10 dc10 pm10 ct10 : Value} {cd10 : Value} {f11 : Addr} {od11 an11 : Option Addr} {sl11 : Array (Option Value)} {oc11 kV11 dc11 pm11 ct11 : Value} {cd11 : Value} {f12 : Addr} {od12 an12 : Option Addr} {sl12 : Array (Option Value)} {oc12 kV12 dc12 pm12 ct12 : Value} {cd12 : Value} {f13 : Addr} {od13 an13 : Option Addr} {sl13 : Array (Option Value)} {oc13 kV13 dc13 pm13 ct13 : Value} {cd13 : Value} {f14 : Addr} {od14 an14 : Option Addr} {sl14 : Array (Option Value)} {oc14 kV14 dc14 pm14 ct14 : Value} {cd14 : Value} {f15 : Addr} {od15 an15 : Option Addr} {sl15 : Array (Option Value)} {oc15 kV15 dc15 pm15 ct15 : Value} {cd15 : Value} {f16 : Addr} {od16 an16 : Option Addr} {sl16 : Array (Option Value)} {oc16 kV16 dc16 pm16 ct16 : Value} {cd16 : Value} {f17 : Addr} {od17 an17 : Option Addr} {sl17 : Array (Option Value)} {oc17 kV17 dc17 pm17 ct17 : Value} {cd17 : Value} {f18 : Addr} {od18 an18 : Option Addr} {sl18 : Array (Option Value)} {oc18 kV18 dc18 pm18 ct18 : Value} {cd18 : Value} {f19 : Addr} {od19 an19 : Option Addr} {sl19 : Array (Option Value)} {oc19 kV19 dc19 pm19 ct19 : Value} {cd19 : Value} {f20 : Addr} {od20 an20 : Option Addr} {sl20 : Array (Option Value)} {oc20 kV20 dc20 pm20 ct20 : Value} {cd20 : Value} {f21 : Addr} {od21 an21 : Option Addr} {sl21 : Array (Option Value)} {oc21 kV21 dc21 pm21 ct21 : Value} {cd21 : Value} {f22 : Addr} {od22 an22 : Option Addr} {sl22 : Array (Option Value)} {oc22 kV22 dc22 pm22 ct22 : Value} {cd22 : Value} {f23 : Addr} {od23 an23 : Option Addr} {sl23 : Array (Option Value)} {oc23 kV23 dc23 pm23 ct23 : Value} {cd23 : Value} {f24 : Addr} {od24 an24 : Option Addr} {sl24 : Array (Option Value)} {oc24 kV24 dc24 pm24 ct24 : Value} {cd24 : Value}
    (a1 : PySem.W.nsIn K mainGlobals "inner_forms" = some (some (.ref f1)))
    (l1 : K.lookup f1 = some ⟨oc1, od1, .func (PySem.W.fnOf "inner_forms" "inner_forms" (defArgs sInner) (defBody sInner) (defScope sInner) .none kV1 dc1 pm1 an1 cd1 ct1), sl1⟩)
    (c1 : PySem.W.codeIn K cd1 "inner_forms" = true)
    (k1 : PySem.W.keepIn K (.ref f1) = true)
    (a2 : PySem.W.nsIn K mainGlobals "form_table" = some (some (.ref f2)))
    (l2 : K.lookup f2 = some ⟨oc2, od2, .func (PySem.W.fnOf "form_table" "form_table" (defArgs sTab) (defBody sTab) (defScope sTab) .none kV2 dc2 pm2 an2 cd2 ct2), sl2⟩)
    (c2 : PySem.W.codeIn K cd2 "form_table" = true)
    (k2 : PySem.W.keepIn K (.ref f2) = true)
    (a3 : PySem.W.nsIn K mainGlobals "all_forms" = some (some (.ref f3)))
    (l3 : K.lookup f3 = some ⟨oc3, od3, .func (PySem.W.fnOf "all_forms" "all_forms" (defArgs sAll) (defBody sAll) (defScope sAll) .none kV3 dc3 pm3 an3 cd3 ct3), sl3⟩)
    (c3 : PySem.W.codeIn K cd3 "all_forms" = true)
    (k3 : PySem.W.keepIn K (.ref f3) = true)
    (a4 : PySem.W.nsIn K mainGlobals "names_in" = some (some (.ref f4)))
    (l4 : K.lookup f4 = some ⟨oc4, od4, .func (PySem.W.fnOf "names_in" "names_in" (defArgs sNin) (defBody sNin) (defScope sNin) .none kV4 dc4 pm4 an4 cd4 ct4), sl4⟩)
    (c4 : PySem.W.codeIn K cd4 "names_in" = true)
    (k4 : PySem.W.keepIn K (.ref f4) = true)
    (a5 : PySem.W.nsIn K mainGlobals "names_met" = some (some (.ref f5)))
    (l5 : K.lookup f5 = some ⟨oc5, od5, .func (PySem.W.fnOf "names_met" "names_met" (defArgs sMet) (defBody sMet) (defScope sMet) .none kV5 dc5 pm5 an5 cd5 ct5), sl5⟩)
    (c5 : PySem.W.codeIn K cd5 "names_met" = true)
    (k5 : PySem.W.keepIn K (.ref f5) = true)
    (a6 : PySem.W.nsIn K mainGlobals "_law_pot" = some (some (.ref f6)))
    (l6 : K.lookup f6 = some ⟨oc6, od6, .func (PySem.W.fnOf "_law_pot" "_law_pot" (defArgs sPot) (defBody sPot) (defScope sPot) .none kV6 dc6 pm6 an6 cd6 ct6), sl6⟩)
    (c6 : PySem.W.codeIn K cd6 "_law_pot" = true)
    (k6 : PySem.W.keepIn K (.ref f6) = true)
    (a7 : PySem.W.nsIn K mainGlobals "_law_next" = some (some (.ref f7)))
    (l7 : K.lookup f7 = some ⟨oc7, od7, .func (PySem.W.fnOf "_law_next" "_law_next" (defArgs sNext) (defBody sNext) (defScope sNext) .none kV7 dc7 pm7 an7 cd7 ct7), sl7⟩)
    (c7 : PySem.W.codeIn K cd7 "_law_next" = true)
    (k7 : PySem.W.keepIn K (.ref f7) = true)
    (a8 : PySem.W.nsIn K mainGlobals "_law_pick" = some (some (.ref f8)))
    (l8 : K.lookup f8 = some ⟨oc8, od8, .func (PySem.W.fnOf "_law_pick" "_law_pick" (defArgs sPick) (defBody sPick) (defScope sPick) .none kV8 dc8 pm8 an8 cd8 ct8), sl8⟩)
    (c8 : PySem.W.codeIn K cd8 "_law_pick" = true)
    (k8 : PySem.W.keepIn K (.ref f8) = true)
    (a9 : PySem.W.nsIn K mainGlobals "_law_size" = some (some (.ref f9)))
    (l9 : K.lookup f9 = some ⟨oc9, od9, .func (PySem.W.fnOf "_law_size" "_law_size" (defArgs sSize) (defBody sSize) (defScope sSize) .none kV9 dc9 pm9 an9 cd9 ct9), sl9⟩)
    (c9 : PySem.W.codeIn K cd9 "_law_size" = true)
    (k9 : PySem.W.keepIn K (.ref f9) = true)
    (a10 : PySem.W.nsIn K mainGlobals "_law_signs" = some (some (.ref f10)))
    (l10 : K.lookup f10 = some ⟨oc10, od10, .func (PySem.W.fnOf "_law_signs" "_law_signs" (defArgs sSigns) (defBody sSigns) (defScope sSigns) .none kV10 dc10 pm10 an10 cd10 ct10), sl10⟩)
    (c10 : PySem.W.codeIn K cd10 "_law_signs" = true)
    (k10 : PySem.W.keepIn K (.ref f10) = true)
    (a11 : PySem.W.nsIn K mainGlobals "_law_text" = some (some (.ref f11)))
    (l11 : K.lookup f11 = some ⟨oc11, od11, .func (PySem.W.fnOf "_law_text" "_law_text" (defArgs sText) (defBody sText) (defScope sText) .none kV11 dc11 pm11 an11 cd11 ct11), sl11⟩)
    (c11 : PySem.W.codeIn K cd11 "_law_text" = true)
    (k11 : PySem.W.keepIn K (.ref f11) = true)
    (a12 : PySem.W.nsIn K mainGlobals "_law_set" = some (some (.ref f12)))
    (l12 : K.lookup f12 = some ⟨oc12, od12, .func (PySem.W.fnOf "_law_set" "_law_set" (defArgs sSet) (defBody sSet) (defScope sSet) .none kV12 dc12 pm12 an12 cd12 ct12), sl12⟩)
    (c12 : PySem.W.codeIn K cd12 "_law_set" = true)
    (k12 : PySem.W.keepIn K (.ref f12) = true)
    (a13 : PySem.W.nsIn K mainGlobals "_law_pick_form" = some (some (.ref f13)))
    (l13 : K.lookup f13 = some ⟨oc13, od13, .func (PySem.W.fnOf "_law_pick_form" "_law_pick_form" (defArgs sPf) (defBody sPf) (defScope sPf) .none kV13 dc13 pm13 an13 cd13 ct13), sl13⟩)
    (c13 : PySem.W.codeIn K cd13 "_law_pick_form" = true)
    (k13 : PySem.W.keepIn K (.ref f13) = true)
    (a14 : PySem.W.nsIn K mainGlobals "_law_names" = some (some (.ref f14)))
    (l14 : K.lookup f14 = some ⟨oc14, od14, .func (PySem.W.fnOf "_law_names" "_law_names" (defArgs sNames) (defBody sNames) (defScope sNames) .none kV14 dc14 pm14 an14 cd14 ct14), sl14⟩)
    (c14 : PySem.W.codeIn K cd14 "_law_names" = true)
    (k14 : PySem.W.keepIn K (.ref f14) = true)
    (a15 : PySem.W.nsIn K mainGlobals "_law_bit" = some (some (.ref f15)))
    (l15 : K.lookup f15 = some ⟨oc15, od15, .func (PySem.W.fnOf "_law_bit" "_law_bit" (defArgs sBit) (defBody sBit) (defScope sBit) .none kV15 dc15 pm15 an15 cd15 ct15), sl15⟩)
    (c15 : PySem.W.codeIn K cd15 "_law_bit" = true)
    (k15 : PySem.W.keepIn K (.ref f15) = true)
    (a16 : PySem.W.nsIn K mainGlobals "_law_plain" = some (some (.ref f16)))
    (l16 : K.lookup f16 = some ⟨oc16, od16, .func (PySem.W.fnOf "_law_plain" "_law_plain" (defArgs sPl) (defBody sPl) (defScope sPl) .none kV16 dc16 pm16 an16 cd16 ct16), sl16⟩)
    (c16 : PySem.W.codeIn K cd16 "_law_plain" = true)
    (k16 : PySem.W.keepIn K (.ref f16) = true)
    (a17 : PySem.W.nsIn K mainGlobals "_law_bare_form" = some (some (.ref f17)))
    (l17 : K.lookup f17 = some ⟨oc17, od17, .func (PySem.W.fnOf "_law_bare_form" "_law_bare_form" (defArgs sBf) (defBody sBf) (defScope sBf) .none kV17 dc17 pm17 an17 cd17 ct17), sl17⟩)
    (c17 : PySem.W.codeIn K cd17 "_law_bare_form" = true)
    (k17 : PySem.W.keepIn K (.ref f17) = true)
    (a18 : PySem.W.nsIn K mainGlobals "_law_turned_form" = some (some (.ref f18)))
    (l18 : K.lookup f18 = some ⟨oc18, od18, .func (PySem.W.fnOf "_law_turned_form" "_law_turned_form" (defArgs sTf) (defBody sTf) (defScope sTf) .none kV18 dc18 pm18 an18 cd18 ct18), sl18⟩)
    (c18 : PySem.W.codeIn K cd18 "_law_turned_form" = true)
    (k18 : PySem.W.keepIn K (.ref f18) = true)
    (a19 : PySem.W.nsIn K mainGlobals "_law_form" = some (some (.ref f19)))
    (l19 : K.lookup f19 = some ⟨oc19, od19, .func (PySem.W.fnOf "_law_form" "_law_form" (defArgs sFm) (defBody sFm) (defScope sFm) .none kV19 dc19 pm19 an19 cd19 ct19), sl19⟩)
    (c19 : PySem.W.codeIn K cd19 "_law_form" = true)
    (k19 : PySem.W.keepIn K (.ref f19) = true)
    (a20 : PySem.W.nsIn K mainGlobals "_law_book_of" = some (some (.ref f20)))
    (l20 : K.lookup f20 = some ⟨oc20, od20, .func (PySem.W.fnOf "_law_book_of" "_law_book_of" (defArgs sBo) (defBody sBo) (defScope sBo) .none kV20 dc20 pm20 an20 cd20 ct20), sl20⟩)
    (c20 : PySem.W.codeIn K cd20 "_law_book_of" = true)
    (k20 : PySem.W.keepIn K (.ref f20) = true)
    (a21 : PySem.W.nsIn K mainGlobals "_law_book" = some (some (.ref f21)))
    (l21 : K.lookup f21 = some ⟨oc21, od21, .func (PySem.W.fnOf "_law_book" "_law_book" (defArgs sBk) (defBody sBk) (defScope sBk) .none kV21 dc21 pm21 an21 cd21 ct21), sl21⟩)
    (c21 : PySem.W.codeIn K cd21 "_law_book" = true)
    (k21 : PySem.W.keepIn K (.ref f21) = true)
    (a22 : PySem.W.nsIn K mainGlobals "_law_inner" = some (some (.ref f22)))
    (l22 : K.lookup f22 = some ⟨oc22, od22, .func (PySem.W.fnOf "_law_inner" "_law_inner" (defArgs sLin) (defBody sLin) (defScope sLin) .none kV22 dc22 pm22 an22 cd22 ct22), sl22⟩)
    (c22 : PySem.W.codeIn K cd22 "_law_inner" = true)
    (k22 : PySem.W.keepIn K (.ref f22) = true)
    (a23 : PySem.W.nsIn K mainGlobals "_law_met" = some (some (.ref f23)))
    (l23 : K.lookup f23 = some ⟨oc23, od23, .func (PySem.W.fnOf "_law_met" "_law_met" (defArgs sLmet) (defBody sLmet) (defScope sLmet) .none kV23 dc23 pm23 an23 cd23 ct23), sl23⟩)
    (c23 : PySem.W.codeIn K cd23 "_law_met" = true)
    (k23 : PySem.W.keepIn K (.ref f23) = true)
    (a24 : PySem.W.nsIn K mainGlobals "law" = some (some (.ref f24)))
    (l24 : K.lookup f24 = some ⟨oc24, od24, .func (PySem.W.fnOf "law" "law" (defArgs sLaw) (defBody sLaw) (defScope sLaw) .none kV24 dc24 pm24 an24 cd24 ct24), sl24⟩)
    (c24 : PySem.W.codeIn K cd24 "law" = true)
    (k24 : PySem.W.keepIn K (.ref f24) = true)
    (z1 : PySem.W.nsIn K mainGlobals "range" = some none)
    (z2 : PySem.W.nsIn K mainGlobals "len" = some none)
    (z3 : PySem.W.nsIn K mainGlobals "sorted" = some none)
    (z4 : PySem.W.nsIn K mainGlobals "set" = some none)
    (z5 : PySem.W.nsIn K mainGlobals "int" = some none)
    (z6 : PySem.W.nsIn K mainGlobals "list" = some none)
    (z7 : PySem.W.nsIn K mainGlobals "zip" = some none)
    (z8 : PySem.W.nsIn K mainGlobals "tuple" = some none)
    (z9 : PySem.W.nsIn K mainGlobals "enumerate" = some none)
    (z10 : PySem.W.nsIn K mainGlobals "max" = some none)
    (z11 : PySem.W.nsIn K mainGlobals "min" = some none)
    (z12 : PySem.W.nsIn K mainGlobals "abs" = some none)
    (z13 : PySem.W.nsIn K mainGlobals "isinstance" = some none)
    (z14 : PySem.W.nsIn K mainGlobals "dict" = some none) :
    ∃ fd : FuncData, (∀ (s : Shared) (u : Value), BindsTo s fd ⟨[u], []⟩ [("_law_script", u)]) ∧ ∀ base : Heap, K.In base → base.Ns mainGlobals mg → FnOk l.prog w K mg base CX0 13 fa fd ["_law_script"] (spLaw K) := by
  have e := hfa.symm.trans (PySem.W.mg_of X G a24)
  cases e
  have F1 := fun_mk (st := sInner) l1 c1 k1
  have F2 := fun_mk (st := sTab) l2 c2 k2
  have F3 := fun_mk (st := sAll) l3 c3 k3
  have F4 := fun_mk (st := sNin) l4 c4 k4
  have F5 := fun_mk (st := sMet) l5 c5 k5
  have F6 := fun_mk (st := sPot) l6 c6 k6
  have F7 := fun_mk (st := sNext) l7 c7 k7
  have F8 := fun_mk (st := sPick) l8 c8 k8
  have F9 := fun_mk (st := sSize) l9 c9 k9
  have F10 := fun_mk (st := sSigns) l10 c10 k10
  have F11 := fun_mk (st := sText) l11 c11 k11
  have F12 := fun_mk (st := sSet) l12 c12 k12
  have F13 := fun_mk (st := sPf) l13 c13 k13
  have F14 := fun_mk (st := sNames) l14 c14 k14
  have F15 := fun_mk (st := sBit) l15 c15 k15
  have F16 := fun_mk (st := sPl) l16 c16 k16
  have F17 := fun_mk (st := sBf) l17 c17 k17
  have F18 := fun_mk (st := sTf) l18 c18 k18
  have F19 := fun_mk (st := sFm) l19 c19 k19
  have F20 := fun_mk (st := sBo) l20 c20 k20
  have F21 := fun_mk (st := sBk) l21 c21 k21
  have F22 := fun_mk (st := sLin) l22 c22 k22
  have F23 := fun_mk (st := sLmet) l23 c23 k23
  have F24 := fun_mk (st := sLaw) l24 c24 k24
  have b1 := F1.binds (ps := ["form"]) fun _ _ _ _ _ _ us hl => match us, hl with | [_], _ => rfl
  have g1 := PySem.W.mg_of X G a1
  have b2 := F2.binds (ps := ["book"]) fun _ _ _ _ _ _ us hl => match us, hl with | [_], _ => rfl
  have g2 := PySem.W.mg_of X G a2
  have b3 := F3.binds (ps := ["form"]) fun _ _ _ _ _ _ us hl => match us, hl with | [_], _ => rfl
  have g3 := PySem.W.mg_of X G a3
  have b4 := F4.binds (ps := ["form"]) fun _ _ _ _ _ _ us hl => match us, hl with | [_], _ => rfl
  have g4 := PySem.W.mg_of X G a4
  have b5 := F5.binds (ps := ["book"]) fun _ _ _ _ _ _ us hl => match us, hl with | [_], _ => rfl
  have g5 := PySem.W.mg_of X G a5
  have b6 := F6.binds (ps := ["_law_script"]) fun _ _ _ _ _ _ us hl => match us, hl with | [_], _ => rfl
  have g6 := PySem.W.mg_of X G a6
  have b7 := F7.binds (ps := ["_law_pot_here", "_law_many"]) fun _ _ _ _ _ _ us hl => match us, hl with | [_, _], _ => rfl
  have g7 := PySem.W.mg_of X G a7
  have b8 := F8.binds (ps := ["_law_pot_here", "_law_some"]) fun _ _ _ _ _ _ us hl => match us, hl with | [_, _], _ => rfl
  have g8 := PySem.W.mg_of X G a8
  have b9 := F9.binds (ps := ["_law_pot_here", "_law_few", "_law_most"]) fun _ _ _ _ _ _ us hl => match us, hl with | [_, _, _], _ => rfl
  have g9 := PySem.W.mg_of X G a9
  have b10 := F10.binds (ps := []) fun _ _ _ _ _ _ us hl => match us, hl with | [], _ => rfl
  have g10 := PySem.W.mg_of X G a10
  have b11 := F11.binds (ps := ["_law_pot_here", "_law_few", "_law_most"]) fun _ _ _ _ _ _ us hl => match us, hl with | [_, _, _], _ => rfl
  have g11 := PySem.W.mg_of X G a11
  have b12 := F12.binds (ps := ["_law_pot_here"]) fun _ _ _ _ _ _ us hl => match us, hl with | [_], _ => rfl
  have g12 := PySem.W.mg_of X G a12
  have b13 := F13.binds (ps := ["_law_pot_here", "_law_short"]) fun _ _ _ _ _ _ us hl => match us, hl with | [_, _], _ => rfl
  have g13 := PySem.W.mg_of X G a13
  have b14 := F14.binds (ps := ["_law_pot_here", "_law_many"]) fun _ _ _ _ _ _ us hl => match us, hl with | [_, _], _ => rfl
  have g14 := PySem.W.mg_of X G a14
  have b15 := F15.binds (ps := ["_law_pot_here", "_law_few", "_law_most"]) fun _ _ _ _ _ _ us hl => match us, hl with | [_, _, _], _ => rfl
  have g15 := PySem.W.mg_of X G a15
  have b16 := F16.binds (ps := ["_law_pot_here"]) fun _ _ _ _ _ _ us hl => match us, hl with | [_], _ => rfl
  have g16 := PySem.W.mg_of X G a16
  have b17 := F17.binds (ps := ["_law_pot_here"]) fun _ _ _ _ _ _ us hl => match us, hl with | [_], _ => rfl
  have g17 := PySem.W.mg_of X G a17
  have b18 := F18.binds (ps := ["_law_pot_here"]) fun _ _ _ _ _ _ us hl => match us, hl with | [_], _ => rfl
  have g18 := PySem.W.mg_of X G a18
  have b19 := F19.binds (ps := ["_law_pot_here", "_law_names_here", "_law_leaves", "_law_deep"]) fun _ _ _ _ _ _ us hl => match us, hl with | [_, _, _, _], _ => rfl
  have g19 := PySem.W.mg_of X G a19
  have b20 := F20.binds (ps := ["_law_pot_here", "_law_few", "_law_most", "_law_room"]) fun _ _ _ _ _ _ us hl => match us, hl with | [_, _, _, _], _ => rfl
  have g20 := PySem.W.mg_of X G a20
  have b21 := F21.binds (ps := ["_law_pot_here"]) fun _ _ _ _ _ _ us hl => match us, hl with | [_], _ => rfl
  have g21 := PySem.W.mg_of X G a21
  have b22 := F22.binds (ps := ["_law_form_here"]) fun _ _ _ _ _ _ us hl => match us, hl with | [_], _ => rfl
  have g22 := PySem.W.mg_of X G a22
  have b23 := F23.binds (ps := ["_law_book_here"]) fun _ _ _ _ _ _ us hl => match us, hl with | [_], _ => rfl
  have g23 := PySem.W.mg_of X G a23
  have m_range := PySem.W.mg_none_of X G z1
  have m_len := PySem.W.mg_none_of X G z2
  have m_sorted := PySem.W.mg_none_of X G z3
  have m_set := PySem.W.mg_none_of X G z4
  have m_int := PySem.W.mg_none_of X G z5
  have m_list := PySem.W.mg_none_of X G z6
  have m_zip := PySem.W.mg_none_of X G z7
  have m_tuple := PySem.W.mg_none_of X G z8
  have m_enumerate := PySem.W.mg_none_of X G z9
  have m_max := PySem.W.mg_none_of X G z10
  have m_min := PySem.W.mg_none_of X G z11
  have m_abs := PySem.W.mg_none_of X G z12
  have m_isinstance := PySem.W.mg_none_of X G z13
  have m_dict := PySem.W.mg_none_of X G z14
  refine ⟨PySem.W.fnOf "law" "law" (defArgs sLaw) (defBody sLaw) (defScope sLaw) .none kV24 dc24 pm24 an24 cd24 ct24, fun s v => .of_eq rfl, fun base hK hN => ?_⟩
  · have GPo := ok_pot (P := l.prog) (w := w) (mg := mg) (base := base) (k := 0) F6 m_abs
    have GN := ok_next (P := l.prog) (w := w) (mg := mg) (base := base) (k := 0) F7
    have GK := ok_pick F8 GN k7 b7 g7 m_len
    have GZ := ok_size F9 GN k7 b7 g7 m_int
    have GG := ok_signs (P := l.prog) (w := w) (mg := mg) (base := base) (k := 0) F10
    have GX := ok_text F11 GN k7 b7 g7 GK k8 b8 g8 GZ k9 b9 g9 GG k10 b10 g10 m_range
    have GE := ok_set F12 GX k11 b11 g11 m_sorted m_set
    have GB := ok_bit F15 GX k11 b11 g11 m_max m_len
    have GM := ok_names (k := 0) F14 GN k7 b7 g7 GK k8 b8 g8 m_range m_len m_sorted m_int
    have GF := ok_pf (k := 2) F13 (GN.mono (by decide)) k7 b7 g7 GK k8 b8 g8 GZ k9 b9 g9 (GG.mono (by decide)) k10 b10 g10 m_range m_len m_int m_list m_zip m_tuple m_enumerate
    have GP : ∀ N, FnOk l.prog w K mg base CX0 5 _ _ _ (spPl N) := fun N => ok_pl (N := N) (k := 4) F16 (GN.mono (by decide)) k7 b7 g7 GB k15 b15 g15 GE k12 b12 g12 (GF.mono (by decide)) k13 b13 g13 m_int
    have GBF : ∀ N, FnOk l.prog w K mg base CX0 6 _ _ _ (spBf N) := fun N => ok_bf (N := N) (k := 5) F17 (GN.mono (by decide)) k7 b7 g7 (GB.mono (by decide)) k15 b15 g15 (GP N) k16 b16 g16
    have GTF : ∀ N, FnOk l.prog w K mg base CX0 4 _ _ _ (spTf N) := fun N => ok_tf (N := N) (k := 3) F18 (GN.mono (by decide)) k7 b7 g7 (GZ.mono (by decide)) k9 b9 g9 GM k14 b14 g14 m_range m_tuple
    have GR0 : ∀ N, FnOk l.prog w K mg base CX0 6 _ _ _ (spFm N 0) := fun N => none_fm (f := f19) (fd := PySem.W.fnOf "_law_form" "_law_form" (defArgs sFm) (defBody sFm) (defScope sFm) .none kV19 dc19 pm19 an19 cd19 ct19)
    have GR1 : ∀ N, FnOk l.prog w K mg base CX0 7 _ _ _ (spFm N 1) := fun N => ok_fm (N := N) (n := 0) (k := 6) F19 (GN.mono (by decide)) k7 b7 g7 (GZ.mono (by decide)) k9 b9 g9 (GM.mono (by decide)) k14 b14 g14 ((GP N).mono (by decide)) k16 b16 g16 ((GBF N).mono (by decide)) k17 b17 g17 ((GTF N).mono (by decide)) k18 b18 g18 (GB.mono (by decide)) k15 b15 g15 (GK.mono (by decide)) k8 b8 g8 (GR0 N) k19 b19 g19 m_range m_tuple m_min m_len m_list m_zip
    have GR2 : ∀ N, FnOk l.prog w K mg base CX0 8 _ _ _ (spFm N 2) := fun N => ok_fm (N := N) (n := 1) (k := 7) F19 (GN.mono (by decide)) k7 b7 g7 (GZ.mono (by decide)) k9 b9 g9 (GM.mono (by decide)) k14 b14 g14 ((GP N).mono (by decide)) k16 b16 g16 ((GBF N).mono (by decide)) k17 b17 g17 ((GTF N).mono (by decide)) k18 b18 g18 (GB.mono (by decide)) k15 b15 g15 (GK.mono (by decide)) k8 b8 g8 (GR1 N) k19 b19 g19 m_range m_tuple m_min m_len m_list m_zip
    have GR3 : ∀ N, FnOk l.prog w K mg base CX0 9 _ _ _ (spFm N 3) := fun N => ok_fm (N := N) (n := 2) (k := 8) F19 (GN.mono (by decide)) k7 b7 g7 (GZ.mono (by decide)) k9 b9 g9 (GM.mono (by decide)) k14 b14 g14 ((GP N).mono (by decide)) k16 b16 g16 ((GBF N).mono (by decide)) k17 b17 g17 ((GTF N).mono (by decide)) k18 b18 g18 (GB.mono (by decide)) k15 b15 g15 (GK.mono (by decide)) k8 b8 g8 (GR2 N) k19 b19 g19 m_range m_tuple m_min m_len m_list m_zip
    have GR4 : ∀ N, FnOk l.prog w K mg base CX0 10 _ _ _ (spFm N 4) := fun N => ok_fm (N := N) (n := 3) (k := 9) F19 (GN.mono (by decide)) k7 b7 g7 (GZ.mono (by decide)) k9 b9 g9 (GM.mono (by decide)) k14 b14 g14 ((GP N).mono (by decide)) k16 b16 g16 ((GBF N).mono (by decide)) k17 b17 g17 ((GTF N).mono (by decide)) k18 b18 g18 (GB.mono (by decide)) k15 b15 g15 (GK.mono (by decide)) k8 b8 g8 (GR3 N) k19 b19 g19 m_range m_tuple m_min m_len m_list m_zip
    have GPA : FnOk l.prog w K mg base CX0 10 _ _ _ spPlA := (FnOk.ex GP).mono (by decide)
    have GRA : FnOk l.prog w K mg base CX0 10 _ _ _ spFmA := FnOk.ex GR4
    have GO := ok_bo (k := 10) F20 (GZ.mono (by decide)) k9 b9 g9 (GM.mono (by decide)) k14 b14 g14 GPA k16 b16 g16 GRA k19 b19 g19 (GK.mono (by decide)) k8 b8 g8 m_tuple m_len
    have GBk := ok_bk (k := 11) F21 GO k20 b20 g20
    have GI : ∀ N, FnOk l.prog w K mg base CX0 1 _ _ _ (spInner N) := fun N => ok_inner (k := 0) F1 m_list
    have GA : ∀ N, FnOk l.prog w K mg base CX0 2 _ _ _ (spAll N) := fun N => ok_all (k := 1) F3 (GI N) k1 b1 g1
    have GNi : ∀ N, FnOk l.prog w K mg base CX0 3 _ _ _ (spNin N) := fun N => ok_nin (k := 2) F4 (GA N) k3 b3 g3
    have GT := ok_tab (P := l.prog) (w := w) (mg := mg) (base := base) (k := 2) F2
    have GMe : ∀ N, FnOk l.prog w K mg base CX0 4 _ _ _ (spMet K N) := fun N => ok_met (N := N) (k := 3) F5 GT k2 b2 g2 (GNi N) k4 b4 g4 m_sorted m_tuple
    have GMA : FnOk l.prog w K mg base CX0 12 _ _ _ (spMetA K) := (FnOk.ex GMe).mono (by decide)
    have GLi : ∀ N, FnOk l.prog w K mg base CX0 1 _ _ _ (spInner N) := fun N => ok_lin (k := 0) F22 m_list m_int
    have GLm : ∀ N, FnOk l.prog w K mg base CX0 2 _ _ _ (spLmet N) := fun N => ok_lmet (N := N) (k := 1) F23 (GLi N) k22 b22 g22 m_sorted m_tuple m_dict
    have GLA : FnOk l.prog w K mg base CX0 12 _ _ _ spLmetA := (FnOk.ex GLm).mono (by decide)
    exact ok_law (k := 12) F24 (GPo.mono (by decide)) k6 b6 g6 GBk k21 b21 g21 GMA k5 b5 g5 GLA k23 b23 g23 m_isinstance m_tuple
end RT
open PySem PySem.W PyProof.Rows
set_option maxRecDepth 100000 in
set_option maxHeartbeats 0 in
theorem PySem.Challenge.cw_readtell_k08_names_met_holds : PySem.Challenge.rw_readtell_k08_names_met.Holds := by
  w_on; o_law; k_head; (case hw => w_witness2)
  k_fill
  refine L2.walk_ofK (l := PySem.Challenge.rw_readtell_k08_names_met) (n := 63) (k := 13) (x := "_law_script") (CX := L2.CX0) (sp := RT.spLaw) rfl (by decide) rfl ⟨rfl, by decide, by decide⟩ (fun w h Y => PySem.W.kIn_of Y) ?F (fun _ _ a ns _ _ hS => ⟨a, ns, rfl, hS, fun _ => rfl⟩) (fun _ _ _ _ z => z)
  case F =>
    intro w mg fa h KX G hmg
    refine' RT.all_mk KX G hmg ?a1 ?l1 ?c1 ?k1 ?a2 ?l2 ?c2 ?k2 ?a3 ?l3 ?c3 ?k3 ?a4 ?l4 ?c4 ?k4 ?a5 ?l5 ?c5 ?k5 ?a6 ?l6 ?c6 ?k6 ?a7 ?l7 ?c7 ?k7 ?a8 ?l8 ?c8 ?k8 ?a9 ?l9 ?c9 ?k9 ?a10 ?l10 ?c10 ?k10 ?a11 ?l11 ?c11 ?k11 ?a12 ?l12 ?c12 ?k12 ?a13 ?l13 ?c13 ?k13 ?a14 ?l14 ?c14 ?k14 ?a15 ?l15 ?c15 ?k15 ?a16 ?l16 ?c16 ?k16 ?a17 ?l17 ?c17 ?k17 ?a18 ?l18 ?c18 ?k18 ?a19 ?l19 ?c19 ?k19 ?a20 ?l20 ?c20 ?k20 ?a21 ?l21 ?c21 ?k21 ?a22 ?l22 ?c22 ?k22 ?a23 ?l23 ?c23 ?k23 ?a24 ?l24 ?c24 ?k24 ?z1 ?z2 ?z3 ?z4 ?z5 ?z6 ?z7 ?z8 ?z9 ?z10 ?z11 ?z12 ?z13 ?z14
    (case a1 => k_is)
    (case l1 => k_is)
    (case c1 => k_is)
    (case k1 => k_is)
    (case a2 => k_is)
    (case l2 => k_is)
    (case c2 => k_is)
    (case k2 => k_is)
    (case a3 => k_is)
    (case l3 => k_is)
    (case c3 => k_is)
    (case k3 => k_is)
    (case a4 => k_is)
    (case l4 => k_is)
    (case c4 => k_is)
    (case k4 => k_is)
    (case a5 => k_is)
    (case l5 => k_is)
    (case c5 => k_is)
    (case k5 => k_is)
    (case a6 => k_is)
    (case l6 => k_is)
    (case c6 => k_is)
    (case k6 => k_is)
    (case a7 => k_is)
    (case l7 => k_is)
    (case c7 => k_is)
    (case k7 => k_is)
    (case a8 => k_is)
    (case l8 => k_is)
    (case c8 => k_is)
    (case k8 => k_is)
    (case a9 => k_is)
    (case l9 => k_is)
    (case c9 => k_is)
    (case k9 => k_is)
    (case a10 => k_is)
    (case l10 => k_is)
    (case c10 => k_is)
    (case k10 => k_is)
    (case a11 => k_is)
    (case l11 => k_is)
    (case c11 => k_is)
    (case k11 => k_is)
    (case a12 => k_is)
    (case l12 => k_is)
    (case c12 => k_is)
    (case k12 => k_is)
    (case a13 => k_is)
    (case l13 => k_is)
    (case c13 => k_is)
    (case k13 => k_is)
    (case a14 => k_is)
    (case l14 => k_is)
    (case c14 => k_is)
    (case k14 => k_is)
    (case a15 => k_is)
    (case l15 => k_is)
    (case c15 => k_is)
    (case k15 => k_is)
    (case a16 => k_is)
    (case l16 => k_is)
    (case c16 => k_is)
    (case k16 => k_is)
    (case a17 => k_is)
    (case l17 => k_is)
    (case c17 => k_is)
    (case k17 => k_is)
    (case a18 => k_is)
    (case l18 => k_is)
    (case c18 => k_is)
    (case k18 => k_is)
    (case a19 => k_is)
    (case l19 => k_is)
    (case c19 => k_is)
    (case k19 => k_is)
    (case a20 => k_is)
    (case l20 => k_is)
    (case c20 => k_is)
    (case k20 => k_is)
    (case a21 => k_is)
    (case l21 => k_is)
    (case c21 => k_is)
    (case k21 => k_is)
    (case a22 => k_is)
    (case l22 => k_is)
    (case c22 => k_is)
    (case k22 => k_is)
    (case a23 => k_is)
    (case l23 => k_is)
    (case c23 => k_is)
    (case k23 => k_is)
    (case a24 => k_is)
    (case l24 => k_is)
    (case c24 => k_is)
    (case k24 => k_is)
    (case z1 => k_is)
    (case z2 => k_is)
    (case z3 => k_is)
    (case z4 => k_is)
    (case z5 => k_is)
    (case z6 => k_is)
    (case z7 => k_is)
    (case z8 => k_is)
    (case z9 => k_is)
    (case z10 => k_is)
    (case z11 => k_is)
    (case z12 => k_is)
    (case z13 => k_is)
    (case z14 => k_is)
