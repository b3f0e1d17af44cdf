/- TriSides answers true of every four numbers. No conditions. -/
import Derived.Test.YtkknaigpdnokkaaGreatTsx
import Derived.Test.YtkknaigpdnokkaaGreatPst
import Derived.Test.YtkknaigpdnokkaaGreatRows
import Derived.WalkKit
import Derived.ProofKit
import Derived.OpenShut
namespace Go.Proofs.YtkknaigpdnokkaaGreat
set_option linter.unusedVariables false
set_option linter.unusedSimpArgs false
open Go.RowKit
theorem dts_int (a1 a2 b1 b2 c1 c2 : Int) {n : Int} (h : (b1 - a1) * (c1 - a1) + (b2 - a2) * (c2 - a2) = n) : dt (a1 : Rat) (a2 : Rat) (b1 : Rat) (b2 : Rat) (c1 : Rat) (c2 : Rat) = (n : Rat) := by
  subst h
  unfold dt
  simp only [Rat.intCast_sub, Rat.intCast_mul, Rat.intCast_add]
theorem sq_in {x : Int} (hx : -255 ≤ x ∧ x ≤ 255) : 0 ≤ x * x ∧ x * x ≤ 65025 := by
  have h : (x * x).natAbs ≤ 255 * 255 := by rw [Int.natAbs_mul]; exact Nat.mul_le_mul (by omega) (by omega)
  have h0 : 0 ≤ x * x := by
    rcases Int.le_total 0 x with h | h
    · exact Int.mul_nonneg h h
    · exact Int.mul_nonneg_of_nonpos_of_nonpos h h
  omega
theorem ts_all (W : Int) (w0 : (Lit.int .u8 W).wf = true) (H : Int) (w1 : (Lit.int .u8 H).wf = true) (X : Int) (w2 : (Lit.int .i8 X).wf = true) (Y : Int) (w3 : (Lit.int .i8 Y).wf = true) (w : World) :
    Calls Tryz.prog 7 #[.int .u8 W, .int .u8 H, .int .i8 X, .int .i8 Y] w fun e w' => e = .returned (.bool true) ∧ Below w.heap.size w w' := by
  have hW : 0 ≤ W ∧ W ≤ 255 := by
    simp only [Lit.wf, Bool.and_eq_true, decide_eq_true_eq] at w0
    exact w0
  have hH : 0 ≤ H ∧ H ≤ 255 := by
    simp only [Lit.wf, Bool.and_eq_true, decide_eq_true_eq] at w1
    exact w1
  have hX : -128 ≤ X ∧ X ≤ 127 := by
    simp only [Lit.wf, Bool.and_eq_true, decide_eq_true_eq] at w2
    exact w2
  have hY : -128 ≤ Y ∧ Y ≤ 127 := by
    simp only [Lit.wf, Bool.and_eq_true, decide_eq_true_eq] at w3
    exact w3
  have sW := sq_in (x := W) (by omega)
  have sH := sq_in (x := H) (by omega)
  have sX := sq_in (x := X) (by omega)
  have sY := sq_in (x := Y) (by omega)
  have g0 : Gd ((0 : Int) : Rat) ((0 : Int) : Rat) := gd_i (by decide) (by decide)
  have gW : Gd (W : Rat) ((0 : Int) : Rat) := gd_i (by omega) (by decide)
  have gH : Gd ((0 : Int) : Rat) (H : Rat) := gd_i (by decide) (by omega)
  have gX : Gd (X : Rat) (Y : Rat) := gd_i (by omega) (by omega)
  have e0 : dt ((0 : Int) : Rat) ((0 : Int) : Rat) (W : Rat) ((0 : Int) : Rat) (W : Rat) ((0 : Int) : Rat) = ((W * W : Int) : Rat) := dts_int _ _ _ _ _ _ (by simp [Int.neg_mul_neg])
  have e1 : dt (W : Rat) ((0 : Int) : Rat) ((0 : Int) : Rat) (H : Rat) ((0 : Int) : Rat) (H : Rat) = ((W * W + H * H : Int) : Rat) := dts_int _ _ _ _ _ _ (by simp [Int.neg_mul_neg])
  have e2 : dt ((0 : Int) : Rat) (H : Rat) ((0 : Int) : Rat) ((0 : Int) : Rat) ((0 : Int) : Rat) ((0 : Int) : Rat) = ((H * H : Int) : Rat) := dts_int _ _ _ _ _ _ (by simp [Int.neg_mul_neg])
  have e3 : dt ((0 : Int) : Rat) ((0 : Int) : Rat) (X : Rat) (Y : Rat) (X : Rat) (Y : Rat) = ((X * X + Y * Y : Int) : Rat) := dts_int _ _ _ _ _ _ (by simp [Int.neg_mul_neg])
  have e4 : dt (X : Rat) (Y : Rat) ((0 : Int) : Rat) ((0 : Int) : Rat) ((0 : Int) : Rat) ((0 : Int) : Rat) = ((X * X + Y * Y : Int) : Rat) := dts_int _ _ _ _ _ _ (by simp [Int.neg_mul_neg])
  have e5 : dt ((0 : Int) : Rat) ((0 : Int) : Rat) ((0 : Int) : Rat) ((0 : Int) : Rat) ((0 : Int) : Rat) ((0 : Int) : Rat) = ((0 : Int) : Rat) := dts_int _ _ _ _ _ _ (by simp [Int.neg_mul_neg])
  have S1 := Sides_q g0 gW gH
  have S2 := Sides_q gW gH g0
  have S3 := Sides_q g0 gX g0
  rw [e0, e1, e2] at S1
  rw [e0, e1, e2] at S2
  rw [e3, e4, e5] at S3
  exact ts_walk hW hH hX hY (f2_i (by omega)) (f2_i (by omega)) (f2_i (by omega)) (f2_i (by omega)) (f2_i (n := 0) (by decide)) (Atref_q (n := 0) (m := 0) (by decide) (by decide)) (Atref_q (n := W) (m := 0) (by omega) (by decide)) (Atref_q (n := 0) (m := H) (by decide) (by omega)) (Atref_q (n := X) (m := Y) (by omega) (by omega))
    S1 S2 (AddRat_i (n := W * W) (m := H * H) (by omega) (by omega)) S3 (Whole_q (n := 0) (by decide)) w
end Go.Proofs.YtkknaigpdnokkaaGreat
namespace Go.Proofs.YtkknaigpdnokkaaGreat.triSides
open Go.ChangeShapes Go.WideShapes Go.ChangeAt Go.RowKit
set_option linter.unusedVariables false
theorem own : ownKnob Tryz.prog.godebug = none := by kernel_rfl
set_option maxRecDepth 100000 in
theorem lifted (os : Os) (started : os.Started) (H : Type) (enc : TypeId × Value → H) :
    ReturnsInHanded {} Tryz.checked os 7 .any (Rows.triSidesSpec.pre6 enc Tryz.prog Tryz.f7 Rows.triSidesRow.domain false) (Rows.triSidesSpec.post enc Tryz.prog Tryz.f7 false true false false) := by
  refine returnsInHanded_of_change (C := Tryz.checked) own started (by kernel_rfl) Tryz.func7
    (ChangeSpec.witness6 (enc := enc) (C := Tryz.checked) false ⟨#[], #[.int .u8 0, .int .u8 0, .int .i8 0, .int .i8 0], []⟩ 8 (by kernel_rfl) (by kernel_rfl) (by kernel_rfl) (by kernel_rfl)) ?_
  intro W base args ds gs before hval0 hW hcnd _
  have hval : ∀ (j : Nat) t v, Tryz.f7.params[j]? = some t → args[j]? = some v → Value.okWide Tryz.prog W .any base t v := hval0
  have hW' := hW
  obtain ⟨p, q, hA0, hV, rfl, hfz, hnd⟩ := hW
  have hA : DataW.TrodAll enc Tryz.prog W 0 (fun _ => true) true Tryz.f7.params.toList args.toList ds p := hA0
  rw [Tryz.params7] at hA hval
  obtain ⟨v0, vs0, d0, ds0, p0, q0, hargs, rfl, rfl, h0, r0⟩ := trodAll_cons hA
  obtain ⟨v1, vs1, d1, ds1, p1, q1, rfl, rfl, rfl, h1, r1⟩ := trodAll_cons r0
  obtain ⟨v2, vs2, d2, ds2, p2, q2, rfl, rfl, rfl, h2, r2⟩ := trodAll_cons r1
  obtain ⟨v3, vs3, d3, ds3, p3, q3, rfl, rfl, rfl, h3, r3⟩ := trodAll_cons r2
  obtain ⟨rfl, rfl, rfl⟩ := trodAll_nil r3
  obtain rfl : args = #[v0, v1, v2, v3] := by cases args; simp_all
  obtain ⟨rfl, rfl⟩ := trodVars_none hV
  obtain ⟨a0, rfl, rfl, rfl, w0⟩ := open_int Tryz.underlying5 (hval 0 5 v0 rfl rfl) h0
  obtain ⟨a1, rfl, rfl, rfl, w1⟩ := open_int Tryz.underlying5 (hval 1 5 v1 rfl rfl) h1
  obtain ⟨a2, rfl, rfl, rfl, w2⟩ := open_int Tryz.underlying38 (hval 2 38 v2 rfl rfl) h2
  obtain ⟨a3, rfl, rfl, rfl, w3⟩ := open_int Tryz.underlying38 (hval 3 38 v3 rfl rfl) h3
  clear hA0 hval0
  simp only [List.append_nil] at hW'
  refine (ts_all a0 w0 a1 w1 a2 w2 a3 w3 W).mono fun e W' ⟨he, hg⟩ => ?_
  subst he
  exact ⟨_, rfl, post_of_below (pa := []) (pv := []) hW' (fun _ _ _ => (trodAll_cons_mk (shut_bool Tryz.underlying4 _) trodAll_mk0)) (fun sp _ => (trodAll_cons_mk (shut_int Tryz.underlying5 w0) (trodAll_cons_mk (shut_int Tryz.underlying5 w1) (trodAll_cons_mk (shut_int Tryz.underlying38 w2) (trodAll_cons_mk (shut_int Tryz.underlying38 w3) trodAll_mk0))))) (fun _ _ => rfl) rfl
    hg (ok_one (by kernel_rfl) rfl (okWide_bool_mk Tryz.underlying4 _))⟩
theorem over : Rows.triSidesRow.holds Tryz.pinned (OpenSpec.ofChange Rows.triSidesSpec) :=
  OpenClaim.holds_of_wide 7 Tryz.f7 rfl rfl rfl rfl rfl rfl rfl ⟨rfl, rfl, rfl, rfl, rfl⟩ rfl rfl rfl rfl rfl (by kernel_rfl) Tryz.func7 (by kernel_rfl)
    (of_decide_eq_true (by kernel_rfl)) (by unfold Func.isWrapper; first | (rw [if_pos (by decide +kernel)]; kernel_rfl) | (rw [if_neg (by decide +kernel)]; exact ⟨rfl, rfl⟩))
    (fun os started H enc _ => lifted os started H enc)
end Go.Proofs.YtkknaigpdnokkaaGreat.triSides
namespace Go.Proofs.YtkknaigpdnokkaaGreat
theorem triSides_holds : Rows.TriSidesSaid := triSides.over
#print axioms triSides_holds
end Go.Proofs.YtkknaigpdnokkaaGreat
