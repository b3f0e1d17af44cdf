/- PointMoves answers true of every eight numbers. No conditions. -/
import Derived.Test.YtiaikjeljhfadaaPmw
import Derived.Test.YtiaikjeljhfadaaRows
import Derived.WalkKit
import Derived.ProofKit
import Derived.OpenShut
namespace Go.Proofs.Ytiaikjeljhfadaa
set_option linter.unusedVariables false
open Go.RowKit
theorem mul_in {x y : Int} (hx : -65535 ≤ x ∧ x ≤ 65535) (hy : -65535 ≤ y ∧ y ≤ 65535) : -4294967296 ≤ x * y ∧ x * y ≤ 4294967296 := by
  have h : (x * y).natAbs ≤ 65535 * 65535 := by rw [Int.natAbs_mul]; exact Nat.mul_le_mul (by omega) (by omega)
  omega
theorem i16_in {a : Int} (h : (Lit.int .i16 a).wf = true) : -32768 ≤ a ∧ a ≤ 32767 := by
  simp only [Lit.wf, Bool.and_eq_true, decide_eq_true_eq] at h
  exact h
theorem crs_int (a1 a2 b1 b2 c1 c2 : Int) : crs (a1 : Rat) (a2 : Rat) (b1 : Rat) (b2 : Rat) (c1 : Rat) (c2 : Rat) = (((b1 - a1) * (c2 - a2) - (b2 - a2) * (c1 - a1) : Int) : Rat) := by
  unfold crs
  simp only [Rat.intCast_sub, Rat.intCast_mul]
theorem dt_int (a1 a2 b1 b2 c1 c2 : Int) : dt (a1 : Rat) (a2 : Rat) (b1 : Rat) (b2 : Rat) (c1 : Rat) (c2 : Rat) = (((b1 - a1) * (c1 - a1) + (b2 - a2) * (c2 - a2) : Int) : Rat) := by
  unfold dt
  simp only [Rat.intCast_sub, Rat.intCast_mul, Rat.intCast_add]
theorem pmove_all (a1 : Int) (w1 : (Lit.int .i16 a1).wf = true) (a2 : Int) (w2 : (Lit.int .i16 a2).wf = true) (b1 : Int) (w3 : (Lit.int .i16 b1).wf = true) (b2 : Int) (w4 : (Lit.int .i16 b2).wf = true) (c1 : Int) (w5 : (Lit.int .i16 c1).wf = true) (c2 : Int) (w6 : (Lit.int .i16 c2).wf = true) (d1 : Int) (w7 : (Lit.int .i16 d1).wf = true) (d2 : Int) (w8 : (Lit.int .i16 d2).wf = true) (w : World) :
    Calls Try.prog 10 #[.int .i16 a1, .int .i16 a2, .int .i16 b1, .int .i16 b2, .int .i16 c1, .int .i16 c2, .int .i16 d1, .int .i16 d2] w fun e w' => e = .returned (.bool true) ∧ Below w.heap.size w w' := by
  have h1 := i16_in w1
  have h2 := i16_in w2
  have h3 := i16_in w3
  have h4 := i16_in w4
  have h5 := i16_in w5
  have h6 := i16_in w6
  have h7 := i16_in w7
  have h8 := i16_in w8
  have m1 := mul_in (x := b1 - a1) (y := c2 - a2) (by omega) (by omega)
  have m2 := mul_in (x := b2 - a2) (y := c1 - a1) (by omega) (by omega)
  have m3 := mul_in (x := b1 - a1) (y := c1 - a1) (by omega) (by omega)
  have m4 := mul_in (x := b2 - a2) (y := c2 - a2) (by omega) (by omega)
  have ga := gd_int (n := a1) (m := a2) (by omega) (by omega)
  have gb := gd_int (n := b1) (m := b2) (by omega) (by omega)
  have gc := gd_int (n := c1) (m := c2) (by omega) (by omega)
  have ga' := gd_int (n := a1 + d1) (m := a2 + d2) (by omega) (by omega)
  have gb' := gd_int (n := b1 + d1) (m := b2 + d2) (by omega) (by omega)
  have gc' := gd_int (n := c1 + d1) (m := c2 + d2) (by omega) (by omega)
  have X1 := Cross_q ga gb gc
  have X2 := Cross_q ga' gb' gc'
  have D1 := Dot_q ga gb gc
  have D2 := Dot_q ga' gb' gc'
  rw [crs_int] at X1 X2
  rw [dt_int] at D1 D2
  rw [show b1 + d1 - (a1 + d1) = b1 - a1 by omega, show c2 + d2 - (a2 + d2) = c2 - a2 by omega, show b2 + d2 - (a2 + d2) = b2 - a2 by omega, show c1 + d1 - (a1 + d1) = c1 - a1 by omega] at X2 D2
  exact pmove_walk (n := 0) (m := 0) h1 h2 h3 h4 h5 h6 h7 h8 (f2_int (by omega)) (f2_int (by omega)) rfl rfl rfl rfl m1 m2 m3 m4 (At_q (by omega) (by omega)) (At_q (by omega) (by omega)) (At_q (by omega) (by omega)) (At_q (by omega) (by omega)) (At_q (by omega) (by omega)) (At_q (by omega) (by omega)) X1 X2 D1 D2 (Whole_q (by omega)) (Whole_q (by omega)) w
end Go.Proofs.Ytiaikjeljhfadaa
namespace Go.Proofs.Ytiaikjeljhfadaa.pointMoves
open Go.ChangeShapes Go.WideShapes Go.ChangeAt Go.RowKit
set_option linter.unusedVariables false
theorem own : ownKnob Try.prog.godebug = none := by kernel_rfl
set_option maxRecDepth 100000 in
theorem lifted (os : Os) (started : os.Started) (H : Type) (enc : TypeId × Value → H) :
    ReturnsInHanded {} Try.checked os 10 .any (Rows.pointMovesSpec.pre6 enc Try.prog Try.f10 Rows.pointMovesRow.domain false) (Rows.pointMovesSpec.post enc Try.prog Try.f10 false true false false) := by
  refine returnsInHanded_of_change (C := Try.checked) own started (by kernel_rfl) Try.func10
    (ChangeSpec.witness6 (enc := enc) (C := Try.checked) false ⟨#[], #[.int .i16 0, .int .i16 0, .int .i16 0, .int .i16 0, .int .i16 0, .int .i16 0, .int .i16 0, .int .i16 0], []⟩ 10 (by kernel_rfl) (by kernel_rfl) (by kernel_rfl) (by kernel_rfl)) ?_
  intro W base args ds gs before hval0 hW hcnd _
  have hval : ∀ (j : Nat) t v, Try.f10.params[j]? = some t → args[j]? = some v → Value.okWide Try.prog W .any base t v := hval0
  have hW' := hW
  obtain ⟨p, q, hA0, hV, rfl, hfz, hnd⟩ := hW
  have hA : DataW.TrodAll enc Try.prog W 0 (fun _ => true) true Try.f10.params.toList args.toList ds p := hA0
  rw [Try.params10] at hA hval
  obtain ⟨v0, vs0, d0, ds0, p0, q0, hargs, rfl, rfl, h0, r0⟩ := trodAll_cons hA
  obtain ⟨v1, vs1, d1, ds1, p1, q1, rfl, rfl, rfl, h1, r1⟩ := trodAll_cons r0
  obtain ⟨v2, vs2, d2, ds2, p2, q2, rfl, rfl, rfl, h2, r2⟩ := trodAll_cons r1
  obtain ⟨v3, vs3, d3, ds3, p3, q3, rfl, rfl, rfl, h3, r3⟩ := trodAll_cons r2
  obtain ⟨v4, vs4, d4, ds4, p4, q4, rfl, rfl, rfl, h4, r4⟩ := trodAll_cons r3
  obtain ⟨v5, vs5, d5, ds5, p5, q5, rfl, rfl, rfl, h5, r5⟩ := trodAll_cons r4
  obtain ⟨v6, vs6, d6, ds6, p6, q6, rfl, rfl, rfl, h6, r6⟩ := trodAll_cons r5
  obtain ⟨v7, vs7, d7, ds7, p7, q7, rfl, rfl, rfl, h7, r7⟩ := trodAll_cons r6
  obtain ⟨rfl, rfl, rfl⟩ := trodAll_nil r7
  obtain rfl : args = #[v0, v1, v2, v3, v4, v5, v6, v7] := by cases args; simp_all
  obtain ⟨rfl, rfl⟩ := trodVars_none hV
  obtain ⟨a0, rfl, rfl, rfl, w0⟩ := open_int Try.underlying43 (hval 0 43 v0 rfl rfl) h0
  obtain ⟨a1, rfl, rfl, rfl, w1⟩ := open_int Try.underlying43 (hval 1 43 v1 rfl rfl) h1
  obtain ⟨a2, rfl, rfl, rfl, w2⟩ := open_int Try.underlying43 (hval 2 43 v2 rfl rfl) h2
  obtain ⟨a3, rfl, rfl, rfl, w3⟩ := open_int Try.underlying43 (hval 3 43 v3 rfl rfl) h3
  obtain ⟨a4, rfl, rfl, rfl, w4⟩ := open_int Try.underlying43 (hval 4 43 v4 rfl rfl) h4
  obtain ⟨a5, rfl, rfl, rfl, w5⟩ := open_int Try.underlying43 (hval 5 43 v5 rfl rfl) h5
  obtain ⟨a6, rfl, rfl, rfl, w6⟩ := open_int Try.underlying43 (hval 6 43 v6 rfl rfl) h6
  obtain ⟨a7, rfl, rfl, rfl, w7⟩ := open_int Try.underlying43 (hval 7 43 v7 rfl rfl) h7
  clear hA0 hval0
  simp only [List.append_nil] at hW'
  refine (pmove_all a0 w0 a1 w1 a2 w2 a3 w3 a4 w4 a5 w5 a6 w6 a7 w7 W).mono fun e W' ⟨he, hg⟩ => ?_
  subst he
  exact ⟨_, rfl, post_of_below (pa := []) (pv := []) hW' (fun _ _ _ => (trodAll_cons_mk (shut_bool Try.underlying4 _) trodAll_mk0)) (fun sp _ => (trodAll_cons_mk (shut_int Try.underlying43 w0) (trodAll_cons_mk (shut_int Try.underlying43 w1) (trodAll_cons_mk (shut_int Try.underlying43 w2) (trodAll_cons_mk (shut_int Try.underlying43 w3) (trodAll_cons_mk (shut_int Try.underlying43 w4) (trodAll_cons_mk (shut_int Try.underlying43 w5) (trodAll_cons_mk (shut_int Try.underlying43 w6) (trodAll_cons_mk (shut_int Try.underlying43 w7) trodAll_mk0))))))))) (fun _ _ => rfl) rfl
    hg (ok_one (by kernel_rfl) rfl (okWide_bool_mk Try.underlying4 _))⟩
theorem over : Rows.pointMovesRow.holds Try.pinned (OpenSpec.ofChange Rows.pointMovesSpec) :=
  OpenClaim.holds_of_wide 10 Try.f10 rfl rfl rfl rfl rfl rfl rfl ⟨rfl, rfl, rfl, rfl, rfl⟩ rfl rfl rfl rfl rfl (by kernel_rfl) Try.func10 (by kernel_rfl)
    (of_decide_eq_true (by kernel_rfl)) (by unfold Func.isWrapper; first | (rw [if_pos (by decide +kernel)]; kernel_rfl) | (rw [if_neg (by decide +kernel)]; exact ⟨rfl, rfl⟩))
    (fun os started H enc _ => lifted os started H enc)
end Go.Proofs.Ytiaikjeljhfadaa.pointMoves
namespace Go.Proofs.Ytiaikjeljhfadaa
theorem pointMoves_holds : Rows.PointMovesSaid := pointMoves.over
#print axioms pointMoves_holds
end Go.Proofs.Ytiaikjeljhfadaa
