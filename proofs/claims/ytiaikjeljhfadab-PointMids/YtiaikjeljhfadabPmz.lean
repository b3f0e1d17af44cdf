/- PointMids answers true of every four numbers. No conditions. -/
import Derived.Test.YtiaikjeljhfadabPmi
import Derived.Test.YtiaikjeljhfadabRows
import Derived.WalkKit
import Derived.ProofKit
import Derived.OpenShut
namespace Go.Proofs.Ytiaikjeljhfadab
set_option linter.unusedVariables false
open Go.RowKit
theorem i16_in' {a : Int} (h : (Lit.int .i16 a).wf = true) : -32768 ≤ a ∧ a ≤ 32767 := by
  simp only [Lit.wf, Bool.and_eq_true, decide_eq_true_eq] at h
  exact h
theorem u8_in' {a : Int} (h : (Lit.int .u8 a).wf = true) : 0 ≤ a ∧ a ≤ 255 := by
  simp only [Lit.wf, Bool.and_eq_true, decide_eq_true_eq] at h
  exact h
theorem mid4_e (X U : Int) : ((X : Rat) + ((X + 2 * U : Int) : Rat) + ((X + 2 * U : Int) : Rat) + (X : Rat)) / 4 = ((X + U : Int) : Rat) := by
  rw [Rat.intCast_add, Rat.intCast_mul, Rat.intCast_add, show ((2 : Int) : Rat) = 2 from rfl]; grind
theorem mid4_f (Y V : Int) : ((Y : Rat) + (Y : Rat) + ((Y + 2 * V : Int) : Rat) + ((Y + 2 * V : Int) : Rat)) / 4 = ((Y + V : Int) : Rat) := by
  rw [Rat.intCast_add, Rat.intCast_mul, Rat.intCast_add, show ((2 : Int) : Rat) = 2 from rfl]; grind
theorem mid2_e (X U : Int) : ((X : Rat) + ((X + 2 * U : Int) : Rat)) / 2 = ((X + U : Int) : Rat) := by
  rw [Rat.intCast_add, Rat.intCast_mul, Rat.intCast_add, show ((2 : Int) : Rat) = 2 from rfl]; grind
theorem pmid_all (X : Int) (w1 : (Lit.int .i16 X).wf = true) (Y : Int) (w2 : (Lit.int .i16 Y).wf = true) (U : Int) (w3 : (Lit.int .u8 U).wf = true) (V : Int) (w4 : (Lit.int .u8 V).wf = true) (w : World) :
    Calls Try.prog 3 #[.int .i16 X, .int .i16 Y, .int .u8 U, .int .u8 V] w fun e w' => e = .returned (.bool true) ∧ Below w.heap.size w w' := by
  have h1 := i16_in' w1
  have h2 := i16_in' w2
  have h3 := u8_in' w3
  have h4 := u8_in' w4
  have ga := gd_int (n := X) (m := Y) (by omega) (by omega)
  have gb := gd_int (n := X + 2 * U) (m := Y + 2 * V) (by omega) (by omega)
  have gc := gd_int (n := X) (m := Y + 2 * V) (by omega) (by omega)
  have gd := gd_int (n := X + 2 * U) (m := Y) (by omega) (by omega)
  refine pmid_walk h1 h2 h3 h4 ⟨f2_int (by omega), f2_int (by omega), f2_int (by omega), f2_int (by omega)⟩ (At_q (by omega) (by omega)) (At_q (by omega) (by omega)) (At_q (by omega) (by omega)) (At_q (by omega) (by omega)) (At_q (n := X + U) (m := Y + V) (by omega) (by omega)) (fun w b t h => ?_) (fun w b t h => ?_) (fun w b t h => Mid_one ga h) w
  · have := Mid_four ga gd gb gc h
    rwa [mid4_e, mid4_f] at this
  · have := Mid_two ga gb h
    rwa [mid2_e, mid2_e] at this
end Go.Proofs.Ytiaikjeljhfadab
namespace Go.Proofs.Ytiaikjeljhfadab.pointMids
open Go.ChangeShapes Go.WideShapes Go.ChangeAt Go.RowKit
set_option linter.unusedVariables false
theorem own : ownKnob Try.prog.godebug = none := by kernel_rfl
set_option maxRecDepth 100000 in
theorem lifted (os : Os) (started : os.Started) (H : Type) (enc : TypeId × Value → H) :
    ReturnsInHanded {} Try.checked os 3 .any (Rows.pointMidsSpec.pre6 enc Try.prog Try.f3 Rows.pointMidsRow.domain false) (Rows.pointMidsSpec.post enc Try.prog Try.f3 false true false false) := by
  refine returnsInHanded_of_change (C := Try.checked) own started (by kernel_rfl) Try.func3
    (ChangeSpec.witness6 (enc := enc) (C := Try.checked) false ⟨#[], #[.int .i16 0, .int .i16 0, .int .u8 0, .int .u8 0], []⟩ 3 (by kernel_rfl) (by kernel_rfl) (by kernel_rfl) (by kernel_rfl)) ?_
  intro W base args ds gs before hval0 hW hcnd _
  have hval : ∀ (j : Nat) t v, Try.f3.params[j]? = some t → args[j]? = some v → Value.okWide Try.prog W .any base t v := hval0
  have hW' := hW
  obtain ⟨p, q, hA0, hV, rfl, hfz, hnd⟩ := hW
  have hA : DataW.TrodAll enc Try.prog W 0 (fun _ => true) true Try.f3.params.toList args.toList ds p := hA0
  rw [Try.params3] at hA hval
  obtain ⟨v0, vs0, d0, ds0, p0, q0, hargs, rfl, rfl, h0, r0⟩ := trodAll_cons hA
  obtain ⟨v1, vs1, d1, ds1, p1, q1, rfl, rfl, rfl, h1, r1⟩ := trodAll_cons r0
  obtain ⟨v2, vs2, d2, ds2, p2, q2, rfl, rfl, rfl, h2, r2⟩ := trodAll_cons r1
  obtain ⟨v3, vs3, d3, ds3, p3, q3, rfl, rfl, rfl, h3, r3⟩ := trodAll_cons r2
  obtain ⟨rfl, rfl, rfl⟩ := trodAll_nil r3
  obtain rfl : args = #[v0, v1, v2, v3] := by cases args; simp_all
  obtain ⟨rfl, rfl⟩ := trodVars_none hV
  obtain ⟨a0, rfl, rfl, rfl, w0⟩ := open_int Try.underlying22 (hval 0 22 v0 rfl rfl) h0
  obtain ⟨a1, rfl, rfl, rfl, w1⟩ := open_int Try.underlying22 (hval 1 22 v1 rfl rfl) h1
  obtain ⟨a2, rfl, rfl, rfl, w2⟩ := open_int Try.underlying5 (hval 2 5 v2 rfl rfl) h2
  obtain ⟨a3, rfl, rfl, rfl, w3⟩ := open_int Try.underlying5 (hval 3 5 v3 rfl rfl) h3
  clear hA0 hval0
  simp only [List.append_nil] at hW'
  refine (pmid_all a0 w0 a1 w1 a2 w2 a3 w3 W).mono fun e W' ⟨he, hg⟩ => ?_
  subst he
  exact ⟨_, rfl, post_of_below (pa := []) (pv := []) hW' (fun _ _ _ => (trodAll_cons_mk (shut_bool Try.underlying4 _) trodAll_mk0)) (fun sp _ => (trodAll_cons_mk (shut_int Try.underlying22 w0) (trodAll_cons_mk (shut_int Try.underlying22 w1) (trodAll_cons_mk (shut_int Try.underlying5 w2) (trodAll_cons_mk (shut_int Try.underlying5 w3) trodAll_mk0))))) (fun _ _ => rfl) rfl
    hg (ok_one (by kernel_rfl) rfl (okWide_bool_mk Try.underlying4 _))⟩
theorem over : Rows.pointMidsRow.holds Try.pinned (OpenSpec.ofChange Rows.pointMidsSpec) :=
  OpenClaim.holds_of_wide 3 Try.f3 rfl rfl rfl rfl rfl rfl rfl ⟨rfl, rfl, rfl, rfl, rfl⟩ rfl rfl rfl rfl rfl (by kernel_rfl) Try.func3 (by kernel_rfl)
    (of_decide_eq_true (by kernel_rfl)) (by unfold Func.isWrapper; first | (rw [if_pos (by decide +kernel)]; kernel_rfl) | (rw [if_neg (by decide +kernel)]; exact ⟨rfl, rfl⟩))
    (fun os started H enc _ => lifted os started H enc)
end Go.Proofs.Ytiaikjeljhfadab.pointMids
namespace Go.Proofs.Ytiaikjeljhfadab
theorem pointMids_holds : Rows.PointMidsSaid := pointMids.over
#print axioms pointMids_holds
end Go.Proofs.Ytiaikjeljhfadab
