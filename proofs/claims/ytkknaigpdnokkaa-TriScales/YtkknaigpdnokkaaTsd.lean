/- TriScales answers true of every five numbers. No conditions. -/
import Derived.Test.YtkknaigpdnokkaaTsc
import Derived.Test.YtkknaigpdnokkaaPst
import Derived.Test.YtkknaigpdnokkaaRows
import Derived.WalkKit
import Derived.ProofKit
import Derived.OpenShut
namespace Go.Proofs.Ytkknaigpdnokkaa
set_option linter.unusedVariables false
set_option linter.unusedSimpArgs false
open Go.RowKit
theorem lt_sc {c x y : Int} (hc : 0 < c) : decide (c * x < c * y) = decide (x < y) := decide_eq_decide.2 ⟨fun h => Int.lt_of_mul_lt_mul_left h (by omega), fun h => Int.mul_lt_mul_of_pos_left h hc⟩
theorem lt_sc0 {c y : Int} (hc : 0 < c) : decide (0 < c * y) = decide (0 < y) := by
  have := lt_sc (x := 0) (y := y) hc
  rwa [Int.mul_zero] at this
theorem gi_sc {c A D0 D1 D2 : Int} (hc : 0 < c) : gi (c * A) (c * D0) (c * D1) (c * D2) = gi A D0 D1 D2 := by
  unfold gi
  rw [lt_sc0 hc, lt_sc hc, lt_sc hc, lt_sc hc]
theorem gi_tn {A D0 D1 D2 : Int} : gi A D0 D2 D1 = gi A D0 D1 D2 := by
  unfold gi
  rw [Bool.or_comm (decide (A < D2))]
theorem shq_sc {c A D : Int} (hc : 0 < c) : shq (c * A) (c * D) = shq A D := by
  unfold shq
  by_cases h : 0 < D
  · have h' : 0 < c * D := Int.mul_pos hc h
    rw [if_pos h, if_pos h', Rat.intCast_mul, Rat.intCast_mul]
    have n1 : (c : Rat) ≠ 0 := fun e => by have := Rat.intCast_inj.1 (e.trans (show (0 : Rat) = ((0 : Int) : Rat) from rfl)); omega
    have n2 : (D : Rat) ≠ 0 := fun e => by have := Rat.intCast_inj.1 (e.trans (show (0 : Rat) = ((0 : Int) : Rat) from rfl)); omega
    grind
  · have h' : ¬ 0 < c * D := by
      have := lt_sc0 (y := D) hc
      intro h2
      rw [decide_eq_true h2] at this
      exact h (of_decide_eq_true this.symm)
    rw [if_neg h, if_neg h']
theorem ab_in {x y : Int} {n m k : Nat} (hx : x.natAbs ≤ n) (hy : y.natAbs ≤ m) (h : n * m ≤ k) : (x * y).natAbs ≤ k := by
  rw [Int.natAbs_mul]; exact Nat.le_trans (Nat.mul_le_mul hx hy) h
theorem tc_any {B1 B2 C1 C2 k m : Int} (hB1 : -128 ≤ B1 ∧ B1 ≤ 127) (hB2 : -128 ≤ B2 ∧ B2 ≤ 127) (hC1 : -128 ≤ C1 ∧ C1 ≤ 127) (hC2 : -128 ≤ C2 ∧ C2 ≤ 127) (hk : 0 ≤ k ∧ k ≤ 255) (em : m = k.tmod 9 + 1) (w : World) :
    Calls Try.prog 3 #[.int .i8 B1, .int .i8 B2, .int .i8 C1, .int .i8 C2, .int .u8 k] w fun e w' => e = .returned (.bool true) ∧ Below w.heap.size w w' := by
  have et : k.tmod 9 = k % 9 := Int.tmod_eq_emod_of_nonneg hk.1
  have hm : 1 ≤ m ∧ m ≤ 9 := by rw [em, et]; omega
  have q1 : (-m * B2).natAbs ≤ 1152 := ab_in (n := 9) (m := 128) (by omega) (by omega) (by decide)
  have q2 : (m * B1).natAbs ≤ 1152 := ab_in (n := 9) (m := 128) (by omega) (by omega) (by decide)
  have q3 : (-m * C2).natAbs ≤ 1152 := ab_in (n := 9) (m := 128) (by omega) (by omega) (by decide)
  have q4 : (m * C1).natAbs ≤ 1152 := ab_in (n := 9) (m := 128) (by omega) (by omega) (by decide)
  have r1 : (B1 * C1).natAbs ≤ 16384 := ab_in (n := 128) (m := 128) (by omega) (by omega) (by decide)
  have r2 : (B2 * C2).natAbs ≤ 16384 := ab_in (n := 128) (m := 128) (by omega) (by omega) (by decide)
  have r3 : (B1 * C2).natAbs ≤ 16384 := ab_in (n := 128) (m := 128) (by omega) (by omega) (by decide)
  have r4 : (B2 * C1).natAbs ≤ 16384 := ab_in (n := 128) (m := 128) (by omega) (by omega) (by decide)
  have hc : 0 < m * m := Int.mul_pos (by omega) (by omega)
  have g0 : Gd ((0 : Int) : Rat) ((0 : Int) : Rat) := gd_i (by decide) (by decide)
  have gB : Gd (B1 : Rat) (B2 : Rat) := gd_i (by omega) (by omega)
  have gC : Gd (C1 : Rat) (C2 : Rat) := gd_i (by omega) (by omega)
  have gU : Gd (B2 : Rat) (B1 : Rat) := gd_i (by omega) (by omega)
  have gV : Gd (C2 : Rat) (C1 : Rat) := gd_i (by omega) (by omega)
  have gP : Gd ((-m * B2 : Int) : Rat) ((m * B1 : Int) : Rat) := gd_i (by omega) (by omega)
  have gQ : Gd ((-m * C2 : Int) : Rat) ((m * C1 : Int) : Rat) := gd_i (by omega) (by omega)
  obtain ⟨A, hA⟩ : ∃ A, A = B1 * C2 - B2 * C1 := ⟨_, rfl⟩
  obtain ⟨D0, h0⟩ : ∃ D, D = B1 * C1 + B2 * C2 := ⟨_, rfl⟩
  obtain ⟨D1, h1⟩ : ∃ D, D = (C1 - B1) * (0 - B1) + (C2 - B2) * (0 - B2) := ⟨_, rfl⟩
  obtain ⟨D2, h2⟩ : ∃ D, D = (0 - C1) * (B1 - C1) + (0 - C2) * (B2 - C2) := ⟨_, rfl⟩
  have G1 := Good_i g0 gB gC (A := A) (D0 := D0) (D1 := D1) (D2 := D2) (crsi_int _ _ _ _ _ _ (by grind)) (dti_int _ _ _ _ _ _ (by grind)) (dti_int _ _ _ _ _ _ (by grind)) (dti_int _ _ _ _ _ _ (by grind))
  have G2 := Good_i g0 gP gQ (A := m * m * A) (D0 := m * m * D0) (D1 := m * m * D1) (D2 := m * m * D2) (crsi_int _ _ _ _ _ _ (by grind)) (dti_int _ _ _ _ _ _ (by grind)) (dti_int _ _ _ _ _ _ (by grind)) (dti_int _ _ _ _ _ _ (by grind))
  have G3 := Good_i g0 gV gU (A := A) (D0 := D0) (D1 := D2) (D2 := D1) (crsi_int _ _ _ _ _ _ (by grind)) (dti_int _ _ _ _ _ _ (by grind)) (dti_int _ _ _ _ _ _ (by grind)) (dti_int _ _ _ _ _ _ (by grind))
  have S1 := Sharp_i g0 gB gC (A := A) (D := D0) (crsi_int _ _ _ _ _ _ (by grind)) (dti_int _ _ _ _ _ _ (by grind))
  have S2 := Sharp_i g0 gP gQ (A := m * m * A) (D := m * m * D0) (crsi_int _ _ _ _ _ _ (by grind)) (dti_int _ _ _ _ _ _ (by grind))
  rw [gi_sc hc] at G2
  rw [gi_tn] at G3
  rw [shq_sc hc, lt_sc0 hc] at S2
  have fs : Fq2 (shq A D0) := by
    unfold shq
    by_cases h : 0 < D0
    · rw [if_pos h]
      rw [← Rat.divInt_eq_div]
      exact (bq_div (j := 60) (k := 60) (by omega) (by show A.natAbs < 2 ^ 60; omega) (by show D0.natAbs < 2 ^ 60; omega) 60 (by omega) (by omega)).f2 (by omega)
    · rw [if_neg h]
      exact f2_i (n := 0) (by decide)
  have w64 {x : Int} (h : x.natAbs ≤ 1152) : wrap64 x = x := by
    exact IntWalk.wrap64_in x (by omega)
  have em' : k % 9 + 1 = m := by omega
  exact tc_walk hB1 hB2 hC1 hC2 hk (by rw [em']; exact w64 q1) (by rw [em']; exact w64 q2) (by rw [em']; exact w64 q3) (by rw [em']; exact w64 q4) fs
    (Atref_q (n := 0) (m := 0) (by decide) (by decide)) (Atref_q (n := B1) (m := B2) (by omega) (by omega)) (Atref_q (n := C1) (m := C2) (by omega) (by omega)) (Atref_q (n := -m * B2) (m := m * B1) (by omega) (by omega)) (Atref_q (n := -m * C2) (m := m * C1) (by omega) (by omega)) (Atref_q (n := B2) (m := B1) (by omega) (by omega)) (Atref_q (n := C2) (m := C1) (by omega) (by omega))
    G1 G2 G3 S1 S2 w
theorem i8_c {a : Int} (h : (Lit.int .i8 a).wf = true) : -128 ≤ a ∧ a ≤ 127 := by
  simp only [Lit.wf, Bool.and_eq_true, decide_eq_true_eq] at h
  exact h
theorem u8_c {a : Int} (h : (Lit.int .u8 a).wf = true) : 0 ≤ a ∧ a ≤ 255 := by
  simp only [Lit.wf, Bool.and_eq_true, decide_eq_true_eq] at h
  exact h
theorem tscale_all (a0 : Int) (w0 : (Lit.int .i8 a0).wf = true) (a1 : Int) (w1 : (Lit.int .i8 a1).wf = true) (a2 : Int) (w2 : (Lit.int .i8 a2).wf = true) (a3 : Int) (w3 : (Lit.int .i8 a3).wf = true) (a4 : Int) (w4 : (Lit.int .u8 a4).wf = true) (w : World) :
    Calls Try.prog 3 #[.int .i8 a0, .int .i8 a1, .int .i8 a2, .int .i8 a3, .int .u8 a4] w fun e w' => e = .returned (.bool true) ∧ Below w.heap.size w w' :=
  tc_any (i8_c w0) (i8_c w1) (i8_c w2) (i8_c w3) (u8_c w4) rfl w
end Go.Proofs.Ytkknaigpdnokkaa
namespace Go.Proofs.Ytkknaigpdnokkaa.triScales
open Go.ChangeShapes Go.WideShapes Go.ChangeAt Go.RowKit
set_option linter.unusedVariables false
theorem own : ownKnob Try.prog.godebug = none := by kernel_rfl
set_option maxRecDepth 100000 in
theorem lifted (os : Os) (started : os.Started) (H : Type) (enc : TypeId × Value → H) :
    ReturnsInHanded {} Try.checked os 3 .any (Rows.triScalesSpec.pre6 enc Try.prog Try.f3 Rows.triScalesRow.domain false) (Rows.triScalesSpec.post enc Try.prog Try.f3 false true false false) := by
  refine returnsInHanded_of_change (C := Try.checked) own started (by kernel_rfl) Try.func3
    (ChangeSpec.witness6 (enc := enc) (C := Try.checked) false ⟨#[], #[.int .i8 0, .int .i8 0, .int .i8 0, .int .i8 0, .int .u8 0], []⟩ 8 (by kernel_rfl) (by kernel_rfl) (by kernel_rfl) (by kernel_rfl)) ?_
  intro W base args ds gs before hval0 hW hcnd _
  have hval : ∀ (j : Nat) t v, Try.f3.params[j]? = some t → args[j]? = some v → Value.okWide Try.prog W .any base t v := hval0
  have hW' := hW
  obtain ⟨p, q, hA0, hV, rfl, hfz, hnd⟩ := hW
  have hA : DataW.TrodAll enc Try.prog W 0 (fun _ => true) true Try.f3.params.toList args.toList ds p := hA0
  rw [Try.params3] at hA hval
  obtain ⟨v0, vs0, d0, ds0, p0, q0, hargs, rfl, rfl, h0, r0⟩ := trodAll_cons hA
  obtain ⟨v1, vs1, d1, ds1, p1, q1, rfl, rfl, rfl, h1, r1⟩ := trodAll_cons r0
  obtain ⟨v2, vs2, d2, ds2, p2, q2, rfl, rfl, rfl, h2, r2⟩ := trodAll_cons r1
  obtain ⟨v3, vs3, d3, ds3, p3, q3, rfl, rfl, rfl, h3, r3⟩ := trodAll_cons r2
  obtain ⟨v4, vs4, d4, ds4, p4, q4, rfl, rfl, rfl, h4, r4⟩ := trodAll_cons r3
  obtain ⟨rfl, rfl, rfl⟩ := trodAll_nil r4
  obtain rfl : args = #[v0, v1, v2, v3, v4] := by cases args; simp_all
  obtain ⟨rfl, rfl⟩ := trodVars_none hV
  obtain ⟨a0, rfl, rfl, rfl, w0⟩ := open_int Try.underlying22 (hval 0 22 v0 rfl rfl) h0
  obtain ⟨a1, rfl, rfl, rfl, w1⟩ := open_int Try.underlying22 (hval 1 22 v1 rfl rfl) h1
  obtain ⟨a2, rfl, rfl, rfl, w2⟩ := open_int Try.underlying22 (hval 2 22 v2 rfl rfl) h2
  obtain ⟨a3, rfl, rfl, rfl, w3⟩ := open_int Try.underlying22 (hval 3 22 v3 rfl rfl) h3
  obtain ⟨a4, rfl, rfl, rfl, w4⟩ := open_int Try.underlying5 (hval 4 5 v4 rfl rfl) h4
  clear hA0 hval0
  simp only [List.append_nil] at hW'
  refine (tscale_all a0 w0 a1 w1 a2 w2 a3 w3 a4 w4 W).mono fun e W' ⟨he, hg⟩ => ?_
  subst he
  exact ⟨_, rfl, post_of_below (pa := []) (pv := []) hW' (fun _ _ _ => (trodAll_cons_mk (shut_bool Try.underlying4 _) trodAll_mk0)) (fun sp _ => (trodAll_cons_mk (shut_int Try.underlying22 w0) (trodAll_cons_mk (shut_int Try.underlying22 w1) (trodAll_cons_mk (shut_int Try.underlying22 w2) (trodAll_cons_mk (shut_int Try.underlying22 w3) (trodAll_cons_mk (shut_int Try.underlying5 w4) trodAll_mk0)))))) (fun _ _ => rfl) rfl
    hg (ok_one (by kernel_rfl) rfl (okWide_bool_mk Try.underlying4 _))⟩
theorem over : Rows.triScalesRow.holds Try.pinned (OpenSpec.ofChange Rows.triScalesSpec) :=
  OpenClaim.holds_of_wide 3 Try.f3 rfl rfl rfl rfl rfl rfl rfl ⟨rfl, rfl, rfl, rfl, rfl⟩ rfl rfl rfl rfl rfl (by kernel_rfl) Try.func3 (by kernel_rfl)
    (of_decide_eq_true (by kernel_rfl)) (by unfold Func.isWrapper; first | (rw [if_pos (by decide +kernel)]; kernel_rfl) | (rw [if_neg (by decide +kernel)]; exact ⟨rfl, rfl⟩))
    (fun os started H enc _ => lifted os started H enc)
end Go.Proofs.Ytkknaigpdnokkaa.triScales
namespace Go.Proofs.Ytkknaigpdnokkaa
theorem triScales_holds : Rows.TriScalesSaid := triScales.over
#print axioms triScales_holds
end Go.Proofs.Ytkknaigpdnokkaa
