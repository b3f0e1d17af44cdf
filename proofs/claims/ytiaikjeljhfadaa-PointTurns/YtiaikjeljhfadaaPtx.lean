/- PointTurns answers true of every three points. No conditions. -/
import Derived.Test.YtiaikjeljhfadaaPtd
import Derived.Test.YtiaikjeljhfadaaPox
import Derived.Test.YtiaikjeljhfadaaRows
import Derived.WalkKit
import Derived.ProofKit
import Derived.OpenShut
namespace Go.Proofs.Ytiaikjeljhfadaa
set_option linter.unusedSimpArgs false
set_option linter.unusedVariables false
open Go.RowKit
theorem crs_cyc (ax ay bx by' cx cy : Rat) : crs bx by' cx cy ax ay = crs ax ay bx by' cx cy := by unfold crs; grind
theorem crs_swap (ax ay bx by' cx cy : Rat) : crs bx by' ax ay cx cy = - crs ax ay bx by' cx cy := by unfold crs; grind
theorem dt_sym (ax ay bx by' : Rat) : dt bx by' ax ay ax ay = dt ax ay bx by' bx by' := by unfold dt; grind
theorem crs_mid (ax ay bx by' : Rat) : crs ax ay bx by' ((ax + bx) / 2) ((ay + by') / 2) = 0 := by unfold crs; grind
theorem dt_mid (ax ay bx by' : Rat) : dt ((ax + bx) / 2) ((ay + by') / 2) bx by' bx by' = dt ax ay ((ax + bx) / 2) ((ay + by') / 2) ((ax + bx) / 2) ((ay + by') / 2) := by unfold dt; grind
theorem sq_nonneg (x : Rat) : 0 ≤ x * x := by
  rcases Rat.le_total (a := 0) (b := x) with h | h
  · exact Rat.mul_nonneg h h
  · have : 0 ≤ (-x) * (-x) := Rat.mul_nonneg (by grind) (by grind)
    grind
theorem sq_zero {x : Rat} (h : x * x = 0) : x = 0 := by
  rcases Rat.mul_eq_zero.1 h with h | h <;> exact h
theorem dt_nonneg (ax ay bx by' : Rat) : 0 ≤ dt ax ay bx by' bx by' := by
  have h1 := sq_nonneg (bx - ax)
  have h2 := sq_nonneg (by' - ay)
  unfold dt; grind
theorem dt_zero (ax ay bx by' : Rat) : dt ax ay bx by' bx by' = 0 ↔ (ax = bx ∧ ay = by') := by
  constructor
  · intro h
    have h1 := sq_nonneg (bx - ax)
    have h2 := sq_nonneg (by' - ay)
    unfold dt at h
    have e1 := sq_zero (x := bx - ax) (by grind)
    have e2 := sq_zero (x := by' - ay) (by grind)
    exact ⟨by grind, by grind⟩
  · rintro ⟨rfl, rfl⟩
    unfold dt; grind
theorem cq_neg (q : Rat) : IntKind.i64.wrap (-(cq (-q) 0)) = cq q 0 := by
  rcases cq_spec q 0 with ⟨h, e⟩ | ⟨h, e⟩ | ⟨h, e⟩ <;> rcases cq_spec (-q) 0 with ⟨h', e'⟩ | ⟨h', e'⟩ | ⟨h', e'⟩ <;> first | (rw [e, e']; decide) | (exfalso; grind)
theorem fq_pos {q : Rat} (h : 0 ≤ q) : (fq q)[0]? = some (.bool false) := by
  have : ¬ q.num < 0 := by
    have := Rat.num_nonneg.2 h
    omega
  show some (Value.bool (decide (q.num < 0))) = _
  rw [decide_eq_false this]
theorem fq_inj {m1 m2 x y : Rat} (h1 : Fq2 m1) (h2 : Fq2 m2) (h3 : Fq2 x) (h4 : Fq2 y) (e : fq m1 ++ fq m2 = fq x ++ fq y) (w : World) : m1 = x ∧ m2 = y := by
  have a := eqP h1 h2 h3 h4 w
  rw [e, eqP h3 h4 h3 h4 w] at a
  injection a with a
  have := a.symm.trans (decide_eq_true ⟨rfl, rfl⟩)
  exact of_decide_eq_true this
theorem bq_mid {x u : Rat} (h : Bq 60 x) (h' : Bq 60 u) : Bq 123 ((x + u) / 2) := by
  have h2 : Bq 2 (2 : Rat) := ⟨by show (2 : Int).natAbs < 2 ^ 2; decide, by show (1 : Int).natAbs < 2 ^ 2; decide⟩
  exact bq_quo (bq_add h h') h2 (by decide)
theorem fq_rr (q : Rat) : fq q = rr (decide (q.num < 0)) q.num.natAbs (decide ((q.den : Int) < 0)) (q.den : Int).natAbs := rfl
theorem isp_q {m1 m2 : Rat} (h1 : Fq2 m1) (h2 : Fq2 m2) (w : World) : Tl 56 #[vp m1 m2] (.bool false) ∨ Gd m1 m2 := by
  rcases isp_cases (decide (m1.num < 0)) (N := m1.num.natAbs) (decide ((m1.den : Int) < 0)) (M := (m1.den : Int).natAbs) h1.1 h1.2 (decide (m2.num < 0)) (N' := m2.num.natAbs) (decide ((m2.den : Int) < 0)) (M' := (m2.den : Int).natAbs) h2.1 h2.2 with h | ⟨x, y, e, g, _⟩
  · exact .inl h
  · rw [← fq_rr, ← fq_rr] at e
    obtain ⟨rfl, rfl⟩ := fq_inj h1 h2 (g.1.f2 (by omega)) (g.2.f2 (by omega)) e w
    exact .inr g
theorem pturn_all (s0 : Bool) (N0 : Nat) (t0 : Bool) (M0 : Nat) (u0 : Bool) (K0 : Nat) (x0 : Bool) (L0 : Nat) (hN0 : N0 < bb ^ 32) (hM0 : M0 < bb ^ 32) (hK0 : K0 < bb ^ 32) (hL0 : L0 < bb ^ 32)
    (s1 : Bool) (N1 : Nat) (t1 : Bool) (M1 : Nat) (u1 : Bool) (K1 : Nat) (x1 : Bool) (L1 : Nat) (hN1 : N1 < bb ^ 32) (hM1 : M1 < bb ^ 32) (hK1 : K1 < bb ^ 32) (hL1 : L1 < bb ^ 32)
    (s2 : Bool) (N2 : Nat) (t2 : Bool) (M2 : Nat) (u2 : Bool) (K2 : Nat) (x2 : Bool) (L2 : Nat) (hN2 : N2 < bb ^ 32) (hM2 : M2 < bb ^ 32) (hK2 : K2 < bb ^ 32) (hL2 : L2 < bb ^ 32) (w : World) :
    Calls Try.prog 9 #[.agg (rr s0 N0 t0 M0 ++ rr u0 K0 x0 L0).toArray, .agg (rr s1 N1 t1 M1 ++ rr u1 K1 x1 L1).toArray, .agg (rr s2 N2 t2 M2 ++ rr u2 K2 x2 L2).toArray] w fun e w' => e = .returned (.bool true) ∧ Below w.heap.size w w' := by
  have ra := rc_rr s0 N0 t0 M0
  have ra' := rc_rr u0 K0 x0 L0
  have rb := rc_rr s1 N1 t1 M1
  have rb' := rc_rr u1 K1 x1 L1
  have rc := rc_rr s2 N2 t2 M2
  have rc' := rc_rr u2 K2 x2 L2
  have pa := isp_cases s0 t0 hN0 hM0 u0 x0 hK0 hL0
  have pb := isp_cases s1 t1 hN1 hM1 u1 x1 hK1 hL1
  have pc := isp_cases s2 t2 hN2 hM2 u2 x2 hK2 hL2
  generalize rr s0 N0 t0 M0 = A at *
  generalize rr u0 K0 x0 L0 = B at *
  generalize rr s1 N1 t1 M1 = C at *
  generalize rr u1 K1 x1 L1 = D at *
  generalize rr s2 N2 t2 M2 = E at *
  generalize rr u2 K2 x2 L2 = F at *
  show Calls Try.prog 9 #[vl (A ++ B), vl (C ++ D), vl (E ++ F)] w _
  rcases pa with ha | ⟨a1, a2, ea, ha, Ia⟩
  · exact pturn_a ra ra' rb rb' rc rc' ha w
  rw [ea]
  rcases pb with hb | ⟨b1, b2, eb, hb, Ib⟩
  · exact pturn_b (rc_q _) (rc_q _) rb rb' rc rc' Ia hb w
  rw [eb]
  rcases pc with hc | ⟨c1, c2, ec, hc, Ic⟩
  · exact pturn_c (rc_q _) (rc_q _) (rc_q _) (rc_q _) rc rc' Ia Ib hc w
  rw [ec]
  show Calls Try.prog 9 #[vp a1 a2, vp b1 b2, vp c1 c2] w _
  have T1 := Turn_q ha hb hc
  have T2 := Turn_q hb hc ha
  have T3 := Turn_q hb ha hc
  have F1 := Far_q ha hb
  have F2 := Far_q hb ha
  rw [crs_cyc] at T2
  rw [crs_swap] at T3
  rw [dt_sym] at F2
  have hx := (bq_dt ha hb hb).f2 (by omega)
  have hz : Fq2 ((0 : Int) : Rat) := f2_int (by decide)
  have hq : Fq2 a1 ∧ Fq2 a2 ∧ Fq2 b1 ∧ Fq2 b2 ∧ Fq2 (dt a1 a2 b1 b2 b1 b2) ∧ Fq2 ((0 : Int) : Rat) := ⟨ha.1.f2 (by omega), ha.2.f2 (by omega), hb.1.f2 (by omega), hb.2.f2 (by omega), hx, hz⟩
  have he : decide (dt a1 a2 b1 b2 b1 b2 = ((0 : Int) : Rat)) = decide (a1 = b1 ∧ a2 = b2) := decide_eq_decide.2 (dt_zero a1 a2 b1 b2)
  have f1 := (bq_mid ha.1 hb.1).f2 (by omega)
  have f2 := (bq_mid ha.2 hb.2).f2 (by omega)
  rcases isp_q f1 f2 w with h | hm
  · exact pturn_d hq Ia Ib Ic T1 T2 T3 (cq_neg _) F1 F2 (Whole_q (by decide)) ⟨he, rfl⟩ (fq_pos (dt_nonneg _ _ _ _)) (fun _ _ _ h => Mid_two ha hb h) h w
  · have T4 := Turn_q ha hb hm
    have F3 := Far_q ha hm
    have F4 := Far_q hm hb
    rw [crs_mid] at T4
    rw [dt_mid] at F4
    exact pturn_e hq ((bq_dt ha hm hm).f2 (by omega)) Ia Ib Ic T1 T2 T3 (cq_neg _) F1 F2 (Whole_q (by decide)) ⟨he, rfl⟩ (fq_pos (dt_nonneg _ _ _ _)) (fun _ _ _ h => Mid_two ha hb h) (Isp_q hm) T4 F3 F4 w
end Go.Proofs.Ytiaikjeljhfadaa
namespace Go.Proofs.Ytiaikjeljhfadaa.pointTurns
open Go.ChangeShapes Go.WideShapes Go.ChangeAt Go.RowKit
set_option linter.unusedVariables false
theorem own : ownKnob Try.prog.godebug = none := by kernel_rfl
set_option maxRecDepth 100000 in
theorem lifted (os : Os) (started : os.Started) (H : Type) (enc : TypeId × Value → H) :
    ReturnsInHanded {} Try.checked os 9 .any (Rows.pointTurnsSpec.pre6 enc Try.prog Try.f9 Rows.pointTurnsRow.domain false) (Rows.pointTurnsSpec.post enc Try.prog Try.f9 false true false false) := by
  refine returnsInHanded_of_change (C := Try.checked) own started (by kernel_rfl) Try.func9
    (ChangeSpec.witness6 (enc := enc) (C := Try.checked) false ⟨#[], #[.agg p0.toArray, .agg p0.toArray, .agg p0.toArray], []⟩ 9 (by kernel_rfl) (by kernel_rfl) (by kernel_rfl) (by kernel_rfl)) ?_
  intro W base args ds gs before hval0 hW hcnd _
  have hval : ∀ (j : Nat) t v, Try.f9.params[j]? = some t → args[j]? = some v → Value.okWide Try.prog W .any base t v := hval0
  have hW' := hW
  obtain ⟨p, q, hA0, hV, rfl, hfz, hnd⟩ := hW
  have hA : DataW.TrodAll enc Try.prog W 0 (fun _ => true) true Try.f9.params.toList args.toList ds p := hA0
  rw [Try.params9] at hA hval
  obtain ⟨v0, vs0, d0, ds0, p0, q0, hargs, rfl, rfl, h0, r0⟩ := trodAll_cons hA
  obtain ⟨v1, vs1, d1, ds1, p1, q1, rfl, rfl, rfl, h1, r1⟩ := trodAll_cons r0
  obtain ⟨v2, vs2, d2, ds2, p2, q2, rfl, rfl, rfl, h2, r2⟩ := trodAll_cons r1
  obtain ⟨rfl, rfl, rfl⟩ := trodAll_nil r2
  obtain rfl : args = #[v0, v1, v2] := by cases args; simp_all
  obtain ⟨rfl, rfl⟩ := trodVars_none hV
  obtain ⟨s0, N0, t0, M0, u0, K0, x0, L0, rfl, hN0, hM0, hK0, hL0, rfl, hsh0⟩ := open_point (hval 0 66 v0 rfl rfl) h0
  obtain ⟨s1, N1, t1, M1, u1, K1, x1, L1, rfl, hN1, hM1, hK1, hL1, rfl, hsh1⟩ := open_point (hval 1 66 v1 rfl rfl) h1
  obtain ⟨s2, N2, t2, M2, u2, K2, x2, L2, rfl, hN2, hM2, hK2, hL2, rfl, hsh2⟩ := open_point (hval 2 66 v2 rfl rfl) h2
  clear hA0 hval0
  simp only [List.append_nil] at hW'
  refine (pturn_all s0 N0 t0 M0 u0 K0 x0 L0 hN0 hM0 hK0 hL0 s1 N1 t1 M1 u1 K1 x1 L1 hN1 hM1 hK1 hL1 s2 N2 t2 M2 u2 K2 x2 L2 hN2 hM2 hK2 hL2 W).mono fun e W' ⟨he, hg⟩ => ?_
  subst he
  exact ⟨_, rfl, post_of_below (pa := []) (pv := []) hW' (fun _ _ _ => (trodAll_cons_mk (shut_bool Try.underlying4 _) trodAll_mk0)) (fun sp _ => (trodAll_cons_mk (hsh0 _ _ _ _) (trodAll_cons_mk (hsh1 _ _ _ _) (trodAll_cons_mk (hsh2 _ _ _ _) trodAll_mk0)))) (fun _ _ => rfl) rfl
    hg (ok_one (by kernel_rfl) rfl (okWide_bool_mk Try.underlying4 _))⟩
theorem over : Rows.pointTurnsRow.holds Try.pinned (OpenSpec.ofChange Rows.pointTurnsSpec) :=
  OpenClaim.holds_of_wide 9 Try.f9 rfl rfl rfl rfl rfl rfl rfl ⟨rfl, rfl, rfl, rfl, rfl⟩ rfl rfl rfl rfl rfl (by kernel_rfl) Try.func9 (by kernel_rfl)
    (of_decide_eq_true (by kernel_rfl)) (by unfold Func.isWrapper; first | (rw [if_pos (by decide +kernel)]; kernel_rfl) | (rw [if_neg (by decide +kernel)]; exact ⟨rfl, rfl⟩))
    (fun os started H enc _ => lifted os started H enc)
end Go.Proofs.Ytiaikjeljhfadaa.pointTurns
namespace Go.Proofs.Ytiaikjeljhfadaa
theorem pointTurns_holds : Rows.PointTurnsSaid := pointTurns.over
#print axioms pointTurns_holds
end Go.Proofs.Ytiaikjeljhfadaa
