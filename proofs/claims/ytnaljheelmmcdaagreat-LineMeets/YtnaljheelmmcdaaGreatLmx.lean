/- LineMeets answers true of every four points, raw ones too. No conditions. -/
import Derived.Test.YtnaljheelmmcdaaGreatLmw
import Derived.Test.YtnaljheelmmcdaaGreatOpp
import Derived.Test.YtnaljheelmmcdaaGreatRows
import Derived.WalkKit
import Derived.ProofKit
import Derived.OpenShut
namespace Go.Proofs.YtnaljheelmmcdaaGreat
set_option linter.unusedVariables false
open Go.RowKit
theorem lmeet_all (s0 : Bool) (N0 : Nat) (t0 : Bool) (M0 : Nat) (u0 : Bool) (K0 : Nat) (x0 : Bool) (L0 : Nat) (hN0 : N0 < bb ^ 32) (hM0 : M0 < bb ^ 32) (hK0 : K0 < bb ^ 32) (hL0 : L0 < bb ^ 32)
    (s1 : Bool) (N1 : Nat) (t1 : Bool) (M1 : Nat) (u1 : Bool) (K1 : Nat) (x1 : Bool) (L1 : Nat) (hN1 : N1 < bb ^ 32) (hM1 : M1 < bb ^ 32) (hK1 : K1 < bb ^ 32) (hL1 : L1 < bb ^ 32)
    (s2 : Bool) (N2 : Nat) (t2 : Bool) (M2 : Nat) (u2 : Bool) (K2 : Nat) (x2 : Bool) (L2 : Nat) (hN2 : N2 < bb ^ 32) (hM2 : M2 < bb ^ 32) (hK2 : K2 < bb ^ 32) (hL2 : L2 < bb ^ 32)
    (s3 : Bool) (N3 : Nat) (t3 : Bool) (M3 : Nat) (u3 : Bool) (K3 : Nat) (x3 : Bool) (L3 : Nat) (hN3 : N3 < bb ^ 32) (hM3 : M3 < bb ^ 32) (hK3 : K3 < bb ^ 32) (hL3 : L3 < bb ^ 32) (w : World) :
    Calls Tryz.prog 4 #[.agg (rr s0 N0 t0 M0 ++ rr u0 K0 x0 L0).toArray, .agg (rr s1 N1 t1 M1 ++ rr u1 K1 x1 L1).toArray, .agg (rr s2 N2 t2 M2 ++ rr u2 K2 x2 L2).toArray, .agg (rr s3 N3 t3 M3 ++ rr u3 K3 x3 L3).toArray] w fun e w' => e = .returned (.bool true) ∧ Below w.heap.size w w' := by
  have ra := rc_rr s0 N0 t0 M0
  have ra' := rc_rr u0 K0 x0 L0
  have rb := rc_rr s1 N1 t1 M1
  have rb' := rc_rr u1 K1 x1 L1
  have rc := rc_rr s2 N2 t2 M2
  have rc' := rc_rr u2 K2 x2 L2
  have rd := rc_rr s3 N3 t3 M3
  have rd' := rc_rr u3 K3 x3 L3
  have pa := isr3_cases s0 t0 hN0 hM0 u0 x0 hK0 hL0
  have pb := isr3_cases s1 t1 hN1 hM1 u1 x1 hK1 hL1
  have pc := isr3_cases s2 t2 hN2 hM2 u2 x2 hK2 hL2
  have pd := isr3_cases s3 t3 hN3 hM3 u3 x3 hK3 hL3
  generalize rr s0 N0 t0 M0 = A at *
  generalize rr u0 K0 x0 L0 = B at *
  generalize rr s1 N1 t1 M1 = C at *
  generalize rr u1 K1 x1 L1 = D at *
  generalize rr s2 N2 t2 M2 = X at *
  generalize rr u2 K2 x2 L2 = Y at *
  generalize rr s3 N3 t3 M3 = U at *
  generalize rr u3 K3 x3 L3 = V at *
  show Calls Tryz.prog 4 #[vl (A ++ B), vl (C ++ D), vl (X ++ Y), vl (U ++ V)] w _
  rcases pa with ha | ⟨a1, a2, ea, ha, Ia⟩
  · exact lmeet_a ra ra' rb rb' rc rc' rd rd' ha w
  rw [ea]
  rcases pb with hb | ⟨b1, b2, eb, hb, Ib⟩
  · exact lmeet_b (rc_q _) (rc_q _) rb rb' rc rc' rd rd' Ia hb w
  rw [eb]
  rcases pc with hc | ⟨c1, c2, ec, hc, Ic⟩
  · exact lmeet_c (rc_q _) (rc_q _) (rc_q _) (rc_q _) rc rc' rd rd' Ia Ib hc w
  rw [ec]
  rcases pd with hd | ⟨d1, d2, ed, hd, Id⟩
  · exact lmeet_d (rc_q _) (rc_q _) (rc_q _) (rc_q _) (rc_q _) (rc_q _) rd rd' Ia Ib Ic hd w
  rw [ed]
  show Calls Tryz.prog 4 #[vp a1 a2, vp b1 b2, vp c1 c2, vp d1 d2] w _
  have O1 := On_q ha hb ha
  rw [onq_a] at O1
  have M2 := Meet_q hd hc ha hb
  rw [← mq_sym] at M2
  refine lmeet_e ⟨ha.1.f2 (by omega), ha.2.f2 (by omega), hb.1.f2 (by omega), hb.2.f2 (by omega)⟩ Ia Ib Ic Id (Meet_q ha hb hc hd) M2 (Meet_q ha hb ha hb) (Meet_q ha hb hb hc) O1 (On_q ha hb hc) (On_q ha hb hd) rfl ?_ ?_ ?_ w
  · rw [mq_same]
    by_cases h : a1 = b1 ∧ a2 = b2
    · rw [if_pos h, decide_eq_true h]; rfl
    · rw [if_neg h, decide_eq_false h]; rfl
  · exact mq_some ((mem_lq (b1, b2)).2 (.inl ⟨rfl, onq_b _ _ _ _⟩))
  · intro h
    rcases Bool.or_eq_true_iff.1 h with h | h
    · exact mq_some ((mem_lq (c1, c2)).2 (.inl ⟨rfl, h⟩))
    · exact mq_some ((mem_lq (d1, d2)).2 (.inr (.inl ⟨rfl, h⟩)))
end Go.Proofs.YtnaljheelmmcdaaGreat
namespace Go.Proofs.YtnaljheelmmcdaaGreat.lineMeets
open Go.ChangeShapes Go.WideShapes Go.ChangeAt Go.RowKit
set_option linter.unusedVariables false
theorem own : ownKnob Tryz.prog.godebug = none := by kernel_rfl
set_option maxRecDepth 100000 in
theorem lifted (os : Os) (started : os.Started) (H : Type) (enc : TypeId × Value → H) :
    ReturnsInHanded {} Tryz.checked os 4 .any (Rows.lineMeetsSpec.pre6 enc Tryz.prog Tryz.f4 Rows.lineMeetsRow.domain false) (Rows.lineMeetsSpec.post enc Tryz.prog Tryz.f4 false true false false) := by
  refine returnsInHanded_of_change (C := Tryz.checked) own started (by kernel_rfl) Tryz.func4
    (ChangeSpec.witness6 (enc := enc) (C := Tryz.checked) false ⟨#[], #[.agg p0.toArray, .agg p0.toArray, .agg p0.toArray, .agg p0.toArray], []⟩ 8 (by kernel_rfl) (by kernel_rfl) (by kernel_rfl) (by kernel_rfl)) ?_
  intro W base args ds gs before hval0 hW hcnd _
  have hval : ∀ (j : Nat) t v, Tryz.f4.params[j]? = some t → args[j]? = some v → Value.okWide Tryz.prog W .any base t v := hval0
  have hW' := hW
  obtain ⟨p, q, hA0, hV, rfl, hfz, hnd⟩ := hW
  have hA : DataW.TrodAll enc Tryz.prog W 0 (fun _ => true) true Tryz.f4.params.toList args.toList ds p := hA0
  rw [Tryz.params4] at hA hval
  obtain ⟨v0, vs0, d0, ds0, p0, q0, hargs, rfl, rfl, h0, r0⟩ := trodAll_cons hA
  obtain ⟨v1, vs1, d1, ds1, p1, q1, rfl, rfl, rfl, h1, r1⟩ := trodAll_cons r0
  obtain ⟨v2, vs2, d2, ds2, p2, q2, rfl, rfl, rfl, h2, r2⟩ := trodAll_cons r1
  obtain ⟨v3, vs3, d3, ds3, p3, q3, rfl, rfl, rfl, h3, r3⟩ := trodAll_cons r2
  obtain ⟨rfl, rfl, rfl⟩ := trodAll_nil r3
  obtain rfl : args = #[v0, v1, v2, v3] := by cases args; simp_all
  obtain ⟨rfl, rfl⟩ := trodVars_none hV
  obtain ⟨s0, N0, t0, M0, u0, K0, x0, L0, rfl, hN0, hM0, hK0, hL0, rfl, hsh0⟩ := open_point (hval 0 31 v0 rfl rfl) h0
  obtain ⟨s1, N1, t1, M1, u1, K1, x1, L1, rfl, hN1, hM1, hK1, hL1, rfl, hsh1⟩ := open_point (hval 1 31 v1 rfl rfl) h1
  obtain ⟨s2, N2, t2, M2, u2, K2, x2, L2, rfl, hN2, hM2, hK2, hL2, rfl, hsh2⟩ := open_point (hval 2 31 v2 rfl rfl) h2
  obtain ⟨s3, N3, t3, M3, u3, K3, x3, L3, rfl, hN3, hM3, hK3, hL3, rfl, hsh3⟩ := open_point (hval 3 31 v3 rfl rfl) h3
  clear hA0 hval0
  simp only [List.append_nil] at hW'
  refine (lmeet_all s0 N0 t0 M0 u0 K0 x0 L0 hN0 hM0 hK0 hL0 s1 N1 t1 M1 u1 K1 x1 L1 hN1 hM1 hK1 hL1 s2 N2 t2 M2 u2 K2 x2 L2 hN2 hM2 hK2 hL2 s3 N3 t3 M3 u3 K3 x3 L3 hN3 hM3 hK3 hL3 W).mono fun e W' ⟨he, hg⟩ => ?_
  subst he
  exact ⟨_, rfl, post_of_below (pa := []) (pv := []) hW' (fun _ _ _ => (trodAll_cons_mk (shut_bool Tryz.underlying4 _) trodAll_mk0)) (fun sp _ => (trodAll_cons_mk (hsh0 _ _ _ _) (trodAll_cons_mk (hsh1 _ _ _ _) (trodAll_cons_mk (hsh2 _ _ _ _) (trodAll_cons_mk (hsh3 _ _ _ _) trodAll_mk0))))) (fun _ _ => rfl) rfl
    hg (ok_one (by kernel_rfl) rfl (okWide_bool_mk Tryz.underlying4 _))⟩
theorem over : Rows.lineMeetsRow.holds Tryz.pinned (OpenSpec.ofChange Rows.lineMeetsSpec) :=
  OpenClaim.holds_of_wide 4 Tryz.f4 rfl rfl rfl rfl rfl rfl rfl ⟨rfl, rfl, rfl, rfl, rfl⟩ rfl rfl rfl rfl rfl (by kernel_rfl) Tryz.func4 (by kernel_rfl)
    (of_decide_eq_true (by kernel_rfl)) (by unfold Func.isWrapper; first | (rw [if_pos (by decide +kernel)]; kernel_rfl) | (rw [if_neg (by decide +kernel)]; exact ⟨rfl, rfl⟩))
    (fun os started H enc _ => lifted os started H enc)
end Go.Proofs.YtnaljheelmmcdaaGreat.lineMeets
namespace Go.Proofs.YtnaljheelmmcdaaGreat
theorem lineMeets_holds : Rows.LineMeetsSaid := lineMeets.over
#print axioms lineMeets_holds
end Go.Proofs.YtnaljheelmmcdaaGreat
